import Derived.Test.YtcjbhdgjcpnklaaGreatDoorV21
import Derived.Test.YtcjbhdgjcpnklaaGreatDoorR04
namespace Go.Proofs.YtcjbhdgjcpnklaaGreatDoor
section
open Go.RowKit
inductive Gl
 | tr
 | it (o : OP) (I : List Nm) (first : Bool)
inductive Dv (L : List OP) (z : List Int) (tok : List TK) : Gl → Nat → Nat → List ND → Nat → Prop
 | leaf {a : Nat} : a < tok.length → leafB (tat tok a).k (freeB L z (txN (tat tok a))) = true → Dv L z tok .tr a (a + 1) [⟨1, txN (tat tok a), a, (a + 1 : Nat), 0⟩] 1
 | paren {a b : Nat} {t : List ND} : b < tok.length → (tat tok a).k = 6 → txN (tat tok a) = [40] → (tat tok b).k = 6 → txN (tat tok b) = [41] → Dv L z tok .tr (a + 1) b t 1 → Dv L z tok .tr a (b + 1) (⟨2, [], a, (b + 1 : Nat), 1⟩ :: t) 1
 | oper {a b n : Nat} {o : OP} {s : SH} {l : List ND} : findO L o.1 = some o → ofS o.1 = some s → a < b → Dv L z tok (.it o (itemsL s) true) a b l n → Dv L z tok .tr a b (⟨3, o.1, a, b, n⟩ :: l) 1
 | nil {o : OP} {first : Bool} {a : Nat} : a ≤ tok.length → Dv L z tok (.it o [] first) a a [] 0
 | part {o : OP} {x : Nm} {r : List Nm} {first : Bool} {a b n : Nat} {l : List ND} : x ≠ [] → a < tok.length → partB (tat tok a).k (txN (tat tok a)) x = true → Dv L z tok (.it o r false) (a + 1) b l n → Dv L z tok (.it o (x :: r) first) a b l n
 | hole {o : OP} {r : List Nm} {first : Bool} {a c b n : Nat} {x : ND} {t l : List ND} : Dv L z tok .tr a c (x :: t) 1 → (first = true → mayH L z o x false = true) → (r = [] → mayH L z o x true = true) → Dv L z tok (.it o r false) c b l n → Dv L z tok (.it o ([] :: r) first) a b (x :: t ++ l) (n + 1)
theorem zOl {m n : Nat} {l : List ND} (h : skp l m = some n) (y : List ND) : kidN m (l ++ y) = kidN m l := by
 have h1 := zIQ m (l ++ y) n (zHL _ _ _ h y) l.length (zNl _ _ _ h)
 rw [List.take_left] at h1
 exact h1.symm
theorem zMf {L : List OP} {z : List Int} {tok : List TK} {x : ND} {l : List ND} {n : Nat} (h : skp (x :: l) 1 = some n) (y : List ND) : nodeS L z tok (x :: l ++ y) = nodeS L z tok (x :: l) := by
 have h' := h
 rw [show 1 = 0 + 1 from rfl, skp_cons, Nat.add_zero] at h'
 obtain ⟨p, hp, _⟩ := Option.map_eq_some_iff.1 h'
 rw [List.cons_append]
 show (spanB tok x && (if x.k = 1 then leafNB L z tok x else if x.k = 2 then parenB tok x (l ++ y) else if x.k = 3 then decide (0 ≤ x.c) && operB L z tok x (l ++ y) else false)) = (spanB tok x && (if x.k = 1 then leafNB L z tok x else if x.k = 2 then parenB tok x l else if x.k = 3 then decide (0 ≤ x.c) && operB L z tok x l else false))
 have ho : operB L z tok x (l ++ y) = operB L z tok x l := by
  unfold operB; rw [zOl hp]
 rw [ho]
 by_cases hc : x.c = 1
 ·have hp1 : parenB tok x (l ++ y) = parenB tok x l := by
   rw [hc] at hp
   cases l with
   | nil => cases hp
   | cons u l => rfl
  rw [hp1]
 ·have hp1 : ∀ l : List ND, parenB tok x l = false := fun l => by
   unfold parenB
   rw [show (x.c == 1) = false by simpa using hc, Bool.false_and]
  rw [hp1, hp1]
def DvP (L : List OP) (z : List Int) (tok : List TK) : Gl → Nat → Nat → List ND → Nat → Prop
 | .tr, a, b, l, _ => skp l 1 = some l.length ∧ (∃ x r, l = x :: r ∧ x.f = a ∧ x.t = b) ∧ a < b ∧ b ≤ tok.length ∧ ∀ i, i < l.length → nodeS L z tok (l.drop i) = true
 | .it o I first, a, b, l, n => skp l n = some l.length ∧ a ≤ b ∧ b ≤ tok.length ∧ (∀ i, i < l.length → nodeS L z tok (l.drop i) = true) ∧ itB L z tok o b I first a (kidN n l) = true
theorem zCs {L : List OP} {z : List Int} {tok : List TK} {g : Gl} {a b n : Nat} {l : List ND} (h : Dv L z tok g a b l n) : DvP L z tok g a b l n := by
 induction h with
 | @leaf a ha hl =>
  refine ⟨rfl, ⟨_, _, rfl, rfl, rfl⟩, by omega, by omega, fun i hi => ?_⟩
  obtain rfl : i = 0 := by simp at hi; exact hi
  rw [List.drop_zero]
  unfold nodeS spanB leafNB tkn
  simp [hl]
  omega
 | @paren a b t hb k1 t1 k2 t2 _ ih =>
  obtain ⟨h1, ⟨x, r, rfl, hf, ht⟩, h3, h4, h5⟩ := ih
  refine ⟨?_, ⟨_, _, rfl, rfl, rfl⟩, by omega, by omega, fun i hi => ?_⟩
  ·rw [show 1 = 0 + 1 from rfl, skp_cons]
   show (skp (x :: r) 1).map (· + 1) = _
   rw [h1]; rfl
  ·cases i with
   | succ i => rw [List.drop_succ_cons]; exact h5 i (by simpa using hi)
   | zero =>
    rw [List.drop_zero]
    have e1 : tkn tok (((b + 1 : Nat) : Int) - 1) = tat tok b := by unfold tkn; congr 1; omega
    have e2 : tkn tok (a : Int) = tat tok a := rfl
    show (spanB tok ⟨2, [], a, (b + 1 : Nat), 1⟩ && parenB tok ⟨2, [], a, (b + 1 : Nat), 1⟩ (x :: r)) = true
    unfold spanB parenB
    simp only [Bool.and_eq_true, decide_eq_true_eq, beq_iff_eq, e1, e2]
    exact ⟨⟨by omega, by omega, by omega⟩, trivial, trivial, by omega, k1, t1, k2, t2, by omega, by omega⟩
 | @oper a b n o s l ho hs hab _ ih =>
  obtain ⟨h1, h2, h3, h4, h5⟩ := ih
  refine ⟨?_, ⟨_, _, rfl, rfl, rfl⟩, hab, h3, fun i hi => ?_⟩
  ·rw [show 1 = 0 + 1 from rfl, skp_cons]
   show (skp l (n + 0)).map (· + 1) = _
   rw [Nat.add_zero, h1]; rfl
  ·cases i with
   | succ i => rw [List.drop_succ_cons]; exact h4 i (by simpa using hi)
   | zero =>
    rw [List.drop_zero]
    show (spanB tok _ && (decide ((0 : Int) ≤ (n : Int)) && operB L z tok ⟨3, o.1, a, b, n⟩ l)) = true
    unfold spanB operB
    simp only [Bool.and_eq_true, decide_eq_true_eq, ho, hs]
    exact ⟨⟨by omega, by omega, by omega⟩, by omega, h5⟩
 | @nil o first a ha =>
  exact ⟨rfl, Nat.le_refl _, ha, (fun i hi => by cases hi), (by unfold itB kidN; simp)⟩
 | @part o x r first a b n l hx ha hp _ ih =>
  obtain ⟨h1, h2, h3, h4, h5⟩ := ih
  refine ⟨h1, by omega, h3, h4, ?_⟩
  unfold itB
  rw [if_pos hx]
  have e2 : tkn tok (a : Int) = tat tok a := rfl
  simp only [Bool.and_eq_true, decide_eq_true_eq, e2]
  exact ⟨⟨by omega, by omega⟩, hp, h5⟩
 | @hole o r first a c b n x t l _ hm1 hm2 _ ih1 ih2 =>
  obtain ⟨h1, ⟨x', r', e, hf, ht⟩, h3, h4, h5⟩ := ih1
  obtain ⟨g1, g2, g3, g4, g5⟩ := ih2
  cases e
  have hs1 : skp (x :: t ++ l) 1 = some (x :: t).length := zHL _ _ _ h1 _
  have hd : (x :: t ++ l).drop (x :: t).length = l := List.drop_left ..
  refine ⟨?_, by omega, g3, fun i hi => ?_, ?_⟩
  ·rw [Nat.add_comm, skp_add, hs1]
   show (skp ((x :: t ++ l).drop (x :: t).length) n).map _ = _
   rw [hd, g1, List.length_append]; rfl
  ·by_cases hit : i < (x :: t).length
   ·rw [List.drop_append_of_le_length (Nat.le_of_lt hit)]
    obtain ⟨m, hm⟩ := zIP _ _ h1 i hit
    have hc := List.drop_eq_getElem_cons hit
    have hn := h5 i hit
    rw [hc] at hm hn ⊢
    rw [zMf hm]; exact hn
   ·have e2 : (x :: t ++ l).drop i = l.drop (i - (x :: t).length) := by
     rw [List.drop_append, List.drop_of_length_le (by omega), List.nil_append]
    rw [e2]
    exact g4 _ (by rw [List.length_append] at hi; omega)
  ·rw [List.cons_append] at hs1 hd ⊢
   rw [zFf hs1, hd]
   unfold itB
   rw [if_neg (by simp)]
   simp only [Bool.and_eq_true, beq_iff_eq, Bool.or_eq_true, Bool.not_eq_true']
   refine ⟨hf, ?_, ?_, by rw [ht]; exact g5⟩
   ·cases first with
    | true => exact .inr (hm1 rfl)
    | false => exact .inl rfl
   ·cases r with
    | nil => exact .inr (hm2 rfl)
    | cons y r => exact .inl rfl
end
section
open Go.RowKit
theorem zNm {o : OP} {s : SH} (h : ofS o.1 = some s) : prt o.1 = s.P := by unfold prt; rw [zAl h]
theorem zAq {L : List OP} {p : Nm} {o : OP} (h : findO L p = some o) : o ∈ L ∧ o.1 = p := ⟨List.mem_of_find?_eq_some h, by have := List.find?_some h; simpa using this⟩
theorem zAc {p : Nm} {s : SH} (h : ofS p = some s) : s.P ≠ [] ∧ (∀ x ∈ s.P, x ≠ [] ∧ x ≠ [40] ∧ x ≠ [41]) := by
 obtain ⟨_, _, hm, hw, _⟩ := zCh h
 refine ⟨hw.1, fun x hx => ?_⟩
 unfold shM at hm
 simp only [Bool.and_eq_true] at hm
 have hs := List.all_eq_true.1 hm.2.2 x hx
 have hb : bar x = false := by
  unfold stB at hs
  simp only [Bool.and_eq_true, Bool.not_eq_true'] at hs
  exact hs.1
 refine ⟨zJ4 hs, ?_, ?_⟩
 ·rintro rfl; revert hb; decide
 ·rintro rfl; revert hb; decide
def sepN (b : Bool) : List Nm → List Nm
 | [] => if b then [[]] else []
 | q :: P => [] :: q :: sepN b P
theorem zIR (b : Bool) : ∀ (p : Nm) (P : List Nm), sepL (p :: P) ++ (if b then [[]] else []) = p :: sepN b P
 | p, [] => rfl
 | p, q :: P => by
  show p :: [] :: sepL (q :: P) ++ _ = _
  rw [List.cons_append, List.cons_append, zIR b q P]; rfl
theorem zB2 {s : SH} {p : Nm} {P : List Nm} (h : s.P = p :: P) : itemsL s = (if s.l then [[]] else []) ++ p :: sepN s.r P := by
 unfold itemsL; rw [h, zIR]
def isP (x : TK) : Bool := x.k == 1 || (x.k == 2 || x.k == 6)
def clB (L : List OP) (x : TK) : Bool := (x.k == 6 && txN x == [41]) || (isP x && L.any fun o => match ofS o.1 with | some s => s.P.tail.contains (txN x) | none => false)
def opB (L : List OP) (x : TK) : Bool := (x.k == 6 && txN x == [40]) || (isP x && L.any fun o => match ofS o.1 with | some s => s.P.dropLast.contains (txN x) | none => false)
theorem zPs {P : List Nm} {y : Nm} (h : y ∈ P.dropLast) : y ∈ P := (List.dropLast_sublist P).subset h
theorem zEJ {x : TK} {y : Nm} (h : partB x.k (txN x) y = true) : isP x = true ∧ txN x = y := by
 unfold partB at h
 rw [Bool.and_eq_true, beq_iff_eq] at h
 exact ⟨h.1, h.2⟩
theorem zKn {L : List OP} {x : Nm} (h : ∀ o ∈ L, ∀ s, ofS o.1 = some s → x ∉ s.P) (F : List Nm → List Nm) (hF : ∀ P, ∀ y ∈ F P, y ∈ P) :
  (L.any fun o => match ofS o.1 with | some s => (F s.P).contains x | none => false) = false := by
 rw [Bool.eq_false_iff]
 intro ha
 obtain ⟨o, ho, h2⟩ := List.any_eq_true.1 ha
 cases hs : ofS o.1 with
 | none => rw [hs] at h2; cases h2
 | some s =>
  rw [hs] at h2
  exact h o ho s hs (hF _ _ (by simpa using h2))
theorem zQv {L : List OP} {z : List Int} {x : Nm} (h : freeB L z x = true) : ∀ o ∈ L, ∀ s, ofS o.1 = some s → x ∉ s.P := by
 intro o ho s hs hx
 unfold freeB entL at h
 rw [beq_iff_eq, List.length_map] at h
 have h2 := List.eq_nil_of_length_eq_zero h
 have h3 : o ∈ L.filter (hasP x) := List.mem_filter.2 ⟨ho, by unfold hasP; rw [zNm hs]; simpa using hx⟩
 rw [h2] at h3
 cases h3
theorem zIT {k : Int} {fr : Bool} (h : leafB k fr = true) : (k = 3 ∨ k = 4 ∨ k = 5) ∨ ((k = 1 ∨ k = 2) ∧ fr = true) := by
 unfold leafB at h
 simp only [Bool.or_eq_true, Bool.and_eq_true, beq_iff_eq] at h
 omega
theorem zQy {L : List OP} {z : List Int} {x : TK} (h : leafB x.k (freeB L z (txN x)) = true) : (clB L x = false ∧ opB L x = false) ∧ ∀ o ∈ L, ∀ s, ofS o.1 = some s → ∀ y ∈ s.P, partB x.k (txN x) y = false := by
 rcases zIT h with hk | ⟨hk, hf⟩
 ·have h1 : isP x = false := by unfold isP; rcases hk with h | h | h <;> rw [h] <;> rfl
  have h6 : (x.k == 6) = false := by rcases hk with h | h | h <;> rw [h] <;> rfl
  refine ⟨?_, fun o ho s hs y hy => ?_⟩
  ·unfold clB opB
   rw [h1, h6]
   exact ⟨rfl, rfl⟩
  ·unfold partB
   rw [show (x.k == 1 || (x.k == 2 || x.k == 6)) = isP x from rfl, h1]; rfl
 ·have hno := zQv hf
  have h6 : (x.k == 6) = false := by rcases hk with h | h <;> rw [h] <;> rfl
  refine ⟨?_, fun o ho s hs y hy => ?_⟩
  ·unfold clB opB
   rw [h6, zKn hno List.tail (fun P y h => List.mem_of_mem_tail h), zKn hno List.dropLast (fun P y h => zPs h), Bool.and_false]
   exact ⟨rfl, rfl⟩
  ·rw [Bool.eq_false_iff]
   intro hp
   exact hno o ho s hs (by rw [(zEJ hp).2]; exact hy)
end
section
open Go.RowKit
def prs (I : List Nm) : List Nm := I.filter fun x => !x.isEmpty
def hasp (I : List Nm) : Bool := !(prs I).isEmpty
theorem prs_app (A B : List Nm) : prs (A ++ B) = prs A ++ prs B := List.filter_append ..
theorem zDe {x : Nm} (h : x ≠ []) (r : List Nm) : prs (x :: r) = x :: prs r := List.filter_cons_of_pos (by simpa using h)
theorem zFg (r : List Nm) : prs ([] :: r) = prs r := List.filter_cons_of_neg (by simp)
theorem zKo (b : Bool) : ∀ P : List Nm, (∀ x ∈ P, x ≠ []) → prs (sepN b P) = P
 | [], _ => by cases b <;> rfl
 | q :: P, h => by
  show prs ([] :: q :: sepN b P) = _
  rw [zFg, zDe (h q (List.mem_cons_self ..)), zKo b P fun x hx => h x (List.mem_cons_of_mem _ hx)]
theorem zCu {p : Nm} {s : SH} (h : ofS p = some s) : prs (itemsL s) = s.P := by
 obtain ⟨h1, h2⟩ := zAc h
 cases hP : s.P with
 | nil => exact absurd hP h1
 | cons q P =>
  rw [zB2 hP, prs_app, zDe (h2 q (by rw [hP]; simp)).1, zKo _ _ fun x hx => (h2 x (by rw [hP]; exact List.mem_cons_of_mem _ hx)).1]
  cases s.l <;> rfl
theorem zEK (r : List Nm) : hasp ([] :: r) = hasp r := by unfold hasp; rw [zFg]
section
variable {L : List OP} {z : List Int} {tok : List TK}
theorem zB3 {a b n : Nat} {l : List ND} (h : Dv L z tok .tr a b l n) : a < b ∧ b ≤ tok.length := by
 obtain ⟨_, _, h3, h4, _⟩ := zCs h
 exact ⟨h3, h4⟩
theorem zGZ {o : OP} {I : List Nm} {first : Bool} {a b n : Nat} {l : List ND} (h : Dv L z tok (.it o I first) a b l n) : a ≤ b ∧ b ≤ tok.length := by
 obtain ⟨_, h2, h3, _⟩ := zCs h
 exact ⟨h2, h3⟩
end
end
section
open Go.RowKit
section
variable {L : List OP} {z : List Int} {tok : List TK}
end
end
end Go.Proofs.YtcjbhdgjcpnklaaGreatDoor
