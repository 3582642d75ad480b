import Derived.Test.YtcjbhdgjcpnklaaGreatDoorV21
import Derived.Test.YtcjbhdgjcpnklaaGreatDoorV26
namespace Go.Proofs.YtcjbhdgjcpnklaaGreatDoor
section
open Go.RowKit
inductive Gl
 | tr
 | it (o : OP) (I : List Nm) (first : Bool)
inductive Dv (L : List OP) (z : List Int) (tok : List TK) : Gl → Nat → Nat → List ND → Nat → Prop
 | leaf {a : Nat} : a < tok.length → leafB (tat tok a).k (freeB L z (txN (tat tok a))) = true → Dv L z tok .tr a (a + 1) [⟨1, txN (tat tok a), a, (a + 1 : Nat), 0⟩] 1
 | paren {a b : Nat} {t : List ND} : b < tok.length → (tat tok a).k = 6 → txN (tat tok a) = [40] → (tat tok b).k = 6 → txN (tat tok b) = [41] → Dv L z tok .tr (a + 1) b t 1 → Dv L z tok .tr a (b + 1) (⟨2, [], a, (b + 1 : Nat), 1⟩ :: t) 1
 | oper {a b n : Nat} {o : OP} {s : SH} {l : List ND} : findO L o.1 = some o → ofS o.1 = some s → a < b → Dv L z tok (.it o (itemsL s) true) a b l n → Dv L z tok .tr a b (⟨3, o.1, a, b, n⟩ :: l) 1
 | nil {o : OP} {first : Bool} {a : Nat} : a ≤ tok.length → Dv L z tok (.it o [] first) a a [] 0
 | part {o : OP} {x : Nm} {r : List Nm} {first : Bool} {a b n : Nat} {l : List ND} : x ≠ [] → a < tok.length → partB (tat tok a).k (txN (tat tok a)) x = true → Dv L z tok (.it o r false) (a + 1) b l n → Dv L z tok (.it o (x :: r) first) a b l n
 | hole {o : OP} {r : List Nm} {first : Bool} {a c b n : Nat} {x : ND} {t l : List ND} : Dv L z tok .tr a c (x :: t) 1 → (first = true → mayH L z o x false = true) → (r = [] → mayH L z o x true = true) → Dv L z tok (.it o r false) c b l n → Dv L z tok (.it o ([] :: r) first) a b (x :: t ++ l) (n + 1)
theorem zOl {m n : Nat} {l : List ND} (h : skp l m = some n) (y : List ND) : kidN m (l ++ y) = kidN m l := by
 have h1 := zIQ m (l ++ y) n (zHL _ _ _ h y) l.length (zNl _ _ _ h)
 rw [List.take_left] at h1
 exact h1.symm
theorem zMf {L : List OP} {z : List Int} {tok : List TK} {x : ND} {l : List ND} {n : Nat} (h : skp (x :: l) 1 = some n) (y : List ND) : nodeS L z tok (x :: l ++ y) = nodeS L z tok (x :: l) := by
 have h' := h
 rw [show 1 = 0 + 1 from rfl, skp_cons, Nat.add_zero] at h'
 obtain ⟨p, hp, _⟩ := Option.map_eq_some_iff.1 h'
 rw [List.cons_append]
 show (spanB tok x && (if x.k = 1 then leafNB L z tok x else if x.k = 2 then parenB tok x (l ++ y) else if x.k = 3 then decide (0 ≤ x.c) && operB L z tok x (l ++ y) else false)) = (spanB tok x && (if x.k = 1 then leafNB L z tok x else if x.k = 2 then parenB tok x l else if x.k = 3 then decide (0 ≤ x.c) && operB L z tok x l else false))
 have ho : operB L z tok x (l ++ y) = operB L z tok x l := by
  unfold operB; rw [zOl hp]
 rw [ho]
 by_cases hc : x.c = 1
 ·have hp1 : parenB tok x (l ++ y) = parenB tok x l := by
   rw [hc] at hp
   cases l with
   | nil => cases hp
   | cons u l => rfl
  rw [hp1]
 ·have hp1 : ∀ l : List ND, parenB tok x l = false := fun l => by
   unfold parenB
   rw [show (x.c == 1) = false by simpa using hc, Bool.false_and]
  rw [hp1, hp1]
def DvP (L : List OP) (z : List Int) (tok : List TK) : Gl → Nat → Nat → List ND → Nat → Prop
 | .tr, a, b, l, _ => skp l 1 = some l.length ∧ (∃ x r, l = x :: r ∧ x.f = a ∧ x.t = b) ∧ a < b ∧ b ≤ tok.length ∧ ∀ i, i < l.length → nodeS L z tok (l.drop i) = true
 | .it o I first, a, b, l, n => skp l n = some l.length ∧ a ≤ b ∧ b ≤ tok.length ∧ (∀ i, i < l.length → nodeS L z tok (l.drop i) = true) ∧ itB L z tok o b I first a (kidN n l) = true
theorem zCs {L : List OP} {z : List Int} {tok : List TK} {g : Gl} {a b n : Nat} {l : List ND} (h : Dv L z tok g a b l n) : DvP L z tok g a b l n := by
 induction h with
 | @leaf a ha hl =>
  refine ⟨rfl, ⟨_, _, rfl, rfl, rfl⟩, by omega, by omega, fun i hi => ?_⟩
  obtain rfl : i = 0 := by simp at hi; exact hi
  rw [List.drop_zero]
  unfold nodeS spanB leafNB tkn
  simp [hl]
  omega
 | @paren a b t hb k1 t1 k2 t2 _ ih =>
  obtain ⟨h1, ⟨x, r, rfl, hf, ht⟩, h3, h4, h5⟩ := ih
  refine ⟨?_, ⟨_, _, rfl, rfl, rfl⟩, by omega, by omega, fun i hi => ?_⟩
  ·rw [show 1 = 0 + 1 from rfl, skp_cons]
   show (skp (x :: r) 1).map (· + 1) = _
   rw [h1]; rfl
  ·cases i with
   | succ i => rw [List.drop_succ_cons]; exact h5 i (by simpa using hi)
   | zero =>
    rw [List.drop_zero]
    have e1 : tkn tok (((b + 1 : Nat) : Int) - 1) = tat tok b := by unfold tkn; congr 1; omega
    have e2 : tkn tok (a : Int) = tat tok a := rfl
    show (spanB tok ⟨2, [], a, (b + 1 : Nat), 1⟩ && parenB tok ⟨2, [], a, (b + 1 : Nat), 1⟩ (x :: r)) = true
    unfold spanB parenB
    simp only [Bool.and_eq_true, decide_eq_true_eq, beq_iff_eq, e1, e2]
    exact ⟨⟨by omega, by omega, by omega⟩, trivial, trivial, by omega, k1, t1, k2, t2, by omega, by omega⟩
 | @oper a b n o s l ho hs hab _ ih =>
  obtain ⟨h1, h2, h3, h4, h5⟩ := ih
  refine ⟨?_, ⟨_, _, rfl, rfl, rfl⟩, hab, h3, fun i hi => ?_⟩
  ·rw [show 1 = 0 + 1 from rfl, skp_cons]
   show (skp l (n + 0)).map (· + 1) = _
   rw [Nat.add_zero, h1]; rfl
  ·cases i with
   | succ i => rw [List.drop_succ_cons]; exact h4 i (by simpa using hi)
   | zero =>
    rw [List.drop_zero]
    show (spanB tok _ && (decide ((0 : Int) ≤ (n : Int)) && operB L z tok ⟨3, o.1, a, b, n⟩ l)) = true
    unfold spanB operB
    simp only [Bool.and_eq_true, decide_eq_true_eq, ho, hs]
    exact ⟨⟨by omega, by omega, by omega⟩, by omega, h5⟩
 | @nil o first a ha =>
  exact ⟨rfl, Nat.le_refl _, ha, (fun i hi => by cases hi), (by unfold itB kidN; simp)⟩
 | @part o x r first a b n l hx ha hp _ ih =>
  obtain ⟨h1, h2, h3, h4, h5⟩ := ih
  refine ⟨h1, by omega, h3, h4, ?_⟩
  unfold itB
  rw [if_pos hx]
  have e2 : tkn tok (a : Int) = tat tok a := rfl
  simp only [Bool.and_eq_true, decide_eq_true_eq, e2]
  exact ⟨⟨by omega, by omega⟩, hp, h5⟩
 | @hole o r first a c b n x t l _ hm1 hm2 _ ih1 ih2 =>
  obtain ⟨h1, ⟨x', r', e, hf, ht⟩, h3, h4, h5⟩ := ih1
  obtain ⟨g1, g2, g3, g4, g5⟩ := ih2
  cases e
  have hs1 : skp (x :: t ++ l) 1 = some (x :: t).length := zHL _ _ _ h1 _
  have hd : (x :: t ++ l).drop (x :: t).length = l := List.drop_left ..
  refine ⟨?_, by omega, g3, fun i hi => ?_, ?_⟩
  ·rw [Nat.add_comm, skp_add, hs1]
   show (skp ((x :: t ++ l).drop (x :: t).length) n).map _ = _
   rw [hd, g1, List.length_append]; rfl
  ·by_cases hit : i < (x :: t).length
   ·rw [List.drop_append_of_le_length (Nat.le_of_lt hit)]
    obtain ⟨m, hm⟩ := zIP _ _ h1 i hit
    have hc := List.drop_eq_getElem_cons hit
    have hn := h5 i hit
    rw [hc] at hm hn ⊢
    rw [zMf hm]; exact hn
   ·have e2 : (x :: t ++ l).drop i = l.drop (i - (x :: t).length) := by
     rw [List.drop_append, List.drop_of_length_le (by omega), List.nil_append]
    rw [e2]
    exact g4 _ (by rw [List.length_append] at hi; omega)
  ·rw [List.cons_append] at hs1 hd ⊢
   rw [zFf hs1, hd]
   unfold itB
   rw [if_neg (by simp)]
   simp only [Bool.and_eq_true, beq_iff_eq, Bool.or_eq_true, Bool.not_eq_true']
   refine ⟨hf, ?_, ?_, by rw [ht]; exact g5⟩
   ·cases first with
    | true => exact .inr (hm1 rfl)
    | false => exact .inl rfl
   ·cases r with
    | nil => exact .inr (hm2 rfl)
    | cons y r => exact .inl rfl
end
section
open Go.RowKit
theorem zNm {o : OP} {s : SH} (h : ofS o.1 = some s) : prt o.1 = s.P := by unfold prt; rw [zAl h]
theorem zAq {L : List OP} {p : Nm} {o : OP} (h : findO L p = some o) : o ∈ L ∧ o.1 = p := ⟨List.mem_of_find?_eq_some h, by have := List.find?_some h; simpa using this⟩
theorem zAc {p : Nm} {s : SH} (h : ofS p = some s) : s.P ≠ [] ∧ (∀ x ∈ s.P, x ≠ [] ∧ x ≠ [40] ∧ x ≠ [41]) := by
 obtain ⟨_, _, hm, hw, _⟩ := zCh h
 refine ⟨hw.1, fun x hx => ?_⟩
 unfold shM at hm
 simp only [Bool.and_eq_true] at hm
 have hs := List.all_eq_true.1 hm.2.2 x hx
 have hb : bar x = false := by
  unfold stB at hs
  simp only [Bool.and_eq_true, Bool.not_eq_true'] at hs
  exact hs.1
 refine ⟨zJ4 hs, ?_, ?_⟩
 ·rintro rfl; revert hb; decide
 ·rintro rfl; revert hb; decide
def sepN (b : Bool) : List Nm → List Nm
 | [] => if b then [[]] else []
 | q :: P => [] :: q :: sepN b P
theorem zIR (b : Bool) : ∀ (p : Nm) (P : List Nm), sepL (p :: P) ++ (if b then [[]] else []) = p :: sepN b P
 | p, [] => rfl
 | p, q :: P => by
  show p :: [] :: sepL (q :: P) ++ _ = _
  rw [List.cons_append, List.cons_append, zIR b q P]; rfl
theorem zB2 {s : SH} {p : Nm} {P : List Nm} (h : s.P = p :: P) : itemsL s = (if s.l then [[]] else []) ++ p :: sepN s.r P := by
 unfold itemsL; rw [h, zIR]
def isP (x : TK) : Bool := x.k == 1 || (x.k == 2 || x.k == 6)
def clB (L : List OP) (x : TK) : Bool := (x.k == 6 && txN x == [41]) || (isP x && L.any fun o => match ofS o.1 with | some s => s.P.tail.contains (txN x) | none => false)
def opB (L : List OP) (x : TK) : Bool := (x.k == 6 && txN x == [40]) || (isP x && L.any fun o => match ofS o.1 with | some s => s.P.dropLast.contains (txN x) | none => false)
def b2n (b : Bool) : Nat := if b then 1 else 0
def bal (L : List OP) : List TK → Nat → Option Nat
 | [], h => some h
 | x :: r, h => if clB L x then (match h with | 0 => none | h + 1 => bal L r (h + b2n (opB L x))) else bal L r (h + b2n (opB L x))
theorem zIS (L : List OP) : ∀ (s : List TK) (h m : Nat), bal L s h = some m → ∀ d, bal L s (h + d) = some (m + d)
 | [], h, m, e, d => by cases e; rfl
 | x :: r, h, m, e, d => by
  unfold bal at e ⊢
  by_cases hc : clB L x = true
  ·rw [if_pos hc] at e ⊢
   cases h with
   | zero => cases e
   | succ h =>
    rw [show h + 1 + d = (h + d) + 1 by omega]
    have := zIS L r _ _ e d
    rw [show h + b2n (opB L x) + d = h + d + b2n (opB L x) by omega] at this
    exact this
  ·rw [if_neg hc] at e ⊢
   have := zIS L r _ _ e d
   rw [show h + b2n (opB L x) + d = h + d + b2n (opB L x) by omega] at this
   exact this
theorem bal_app (L : List OP) : ∀ (s t : List TK) (h : Nat), bal L (s ++ t) h = (bal L s h).bind (bal L t)
 | [], t, h => rfl
 | x :: r, t, h => by
  rw [List.cons_append]
  unfold bal
  by_cases hc : clB L x = true
  ·rw [if_pos hc, if_pos hc]
   cases h with
   | zero => rfl
   | succ h => exact bal_app L r t _
  ·rw [if_neg hc, if_neg hc]
   exact bal_app L r t _
def sg (tok : List TK) (a b : Nat) : List TK := (tok.drop a).take (b - a)
theorem zHM (tok : List TK) (a : Nat) : sg tok a a = [] := by unfold sg; rw [Nat.sub_self]; rfl
theorem zKl (tok : List TK) {a c b : Nat} (h1 : a ≤ c) (h2 : c ≤ b) : sg tok a b = sg tok a c ++ sg tok c b := by
 unfold sg
 rw [show b - a = (c - a) + (b - c) by omega, List.take_add, List.drop_drop, show a + (c - a) = c by omega]
theorem zEI {tok : List TK} {a b : Nat} (h : a < b) (ha : a < tok.length) : sg tok a b = tat tok a :: sg tok (a + 1) b := by
 unfold sg
 rw [show b - a = (b - (a + 1)) + 1 by omega, List.drop_eq_getElem_cons ha, List.take_succ_cons]
 congr 1
 unfold tat
 simp [List.getD, ha]
theorem zKm {L : List OP} {tok : List TK} {a q b h m : Nat} (e : bal L (sg tok a b) h = some m) (h1 : a ≤ q) (h2 : q ≤ b) : ∃ m', bal L (sg tok a q) h = some m' := by
 rw [zKl tok h1 h2, bal_app] at e
 cases hb : bal L (sg tok a q) h with
 | none => rw [hb] at e; cases e
 | some m' => exact ⟨m', rfl⟩
theorem zPs {P : List Nm} {y : Nm} (h : y ∈ P.dropLast) : y ∈ P := (List.dropLast_sublist P).subset h
theorem zEJ {x : TK} {y : Nm} (h : partB x.k (txN x) y = true) : isP x = true ∧ txN x = y := by
 unfold partB at h
 rw [Bool.and_eq_true, beq_iff_eq] at h
 exact ⟨h.1, h.2⟩
theorem zKn {L : List OP} {x : Nm} (h : ∀ o ∈ L, ∀ s, ofS o.1 = some s → x ∉ s.P) (F : List Nm → List Nm) (hF : ∀ P, ∀ y ∈ F P, y ∈ P) :
  (L.any fun o => match ofS o.1 with | some s => (F s.P).contains x | none => false) = false := by
 rw [Bool.eq_false_iff]
 intro ha
 obtain ⟨o, ho, h2⟩ := List.any_eq_true.1 ha
 cases hs : ofS o.1 with
 | none => rw [hs] at h2; cases h2
 | some s =>
  rw [hs] at h2
  exact h o ho s hs (hF _ _ (by simpa using h2))
theorem zCt {L : List OP} {x : TK} (hk : x.k = 6) : (txN x = [40] → clB L x = false ∧ opB L x = true) ∧ (txN x = [41] → clB L x = true ∧ opB L x = false) := by
 have hno : ∀ y : Nm, (y = [40] ∨ y = [41]) → ∀ o ∈ L, ∀ s, ofS o.1 = some s → y ∉ s.P := fun y hy o _ s hs hm => by
  have := (zAc hs).2 y hm
  rcases hy with h | h
  ·exact this.2.1 h
  ·exact this.2.2 h
 refine ⟨fun ht => ?_, fun ht => ?_⟩
 ·unfold clB opB
  rw [ht, hk, zKn (hno _ (.inl rfl)) List.tail (fun P y h => List.mem_of_mem_tail h)]
  exact ⟨by rw [Bool.and_false]; rfl, rfl⟩
 ·unfold clB opB
  rw [ht, hk, zKn (hno _ (.inr rfl)) List.dropLast (fun P y h => zPs h)]
  exact ⟨rfl, by rw [Bool.and_false]; rfl⟩
theorem zIT {k : Int} {fr : Bool} (h : leafB k fr = true) : (k = 3 ∨ k = 4 ∨ k = 5) ∨ ((k = 1 ∨ k = 2) ∧ fr = true) := by
 unfold leafB at h
 simp only [Bool.or_eq_true, Bool.and_eq_true, beq_iff_eq] at h
 omega
end
section
open Go.RowKit
def prs (I : List Nm) : List Nm := I.filter fun x => !x.isEmpty
def hasp (I : List Nm) : Bool := !(prs I).isEmpty
theorem prs_app (A B : List Nm) : prs (A ++ B) = prs A ++ prs B := List.filter_append ..
theorem zDe {x : Nm} (h : x ≠ []) (r : List Nm) : prs (x :: r) = x :: prs r := List.filter_cons_of_pos (by simpa using h)
theorem zFg (r : List Nm) : prs ([] :: r) = prs r := List.filter_cons_of_neg (by simp)
theorem zKo (b : Bool) : ∀ P : List Nm, (∀ x ∈ P, x ≠ []) → prs (sepN b P) = P
 | [], _ => by cases b <;> rfl
 | q :: P, h => by
  show prs ([] :: q :: sepN b P) = _
  rw [zFg, zDe (h q (List.mem_cons_self ..)), zKo b P fun x hx => h x (List.mem_cons_of_mem _ hx)]
theorem zCu {p : Nm} {s : SH} (h : ofS p = some s) : prs (itemsL s) = s.P := by
 obtain ⟨h1, h2⟩ := zAc h
 cases hP : s.P with
 | nil => exact absurd hP h1
 | cons q P =>
  rw [zB2 hP, prs_app, zDe (h2 q (by rw [hP]; simp)).1, zKo _ _ fun x hx => (h2 x (by rw [hP]; exact List.mem_cons_of_mem _ hx)).1]
  cases s.l <;> rfl
theorem zKp {x : Nm} (h : x ≠ []) (r : List Nm) : hasp (x :: r) = true := by unfold hasp; rw [zDe h]; rfl
theorem zEK (r : List Nm) : hasp ([] :: r) = hasp r := by unfold hasp; rw [zFg]
def nadj : List Nm → Prop
 | [] => True
 | [_] => True
 | x :: y :: r => (x = [] → y ≠ []) ∧ nadj (y :: r)
theorem zGY {x : Nm} {r : List Nm} (h : nadj (x :: r)) : nadj r := by
 cases r with
 | nil => trivial
 | cons y r => exact h.2
theorem zIU (b : Bool) : ∀ (p : Nm) (P : List Nm), p ≠ [] → (∀ x ∈ P, x ≠ []) → nadj (p :: sepN b P)
 | p, [], hp, _ => by
  cases b
  ·trivial
  ·exact ⟨fun h => absurd h hp, trivial⟩
 | p, q :: P, hp, h => by
  have hq := h q (List.mem_cons_self ..)
  exact ⟨fun h => absurd h hp, fun _ => hq, zIU b q P hq fun x hx => h x (List.mem_cons_of_mem _ hx)⟩
theorem zJF {p : Nm} {s : SH} (h : ofS p = some s) : nadj (itemsL s) := by
 obtain ⟨h1, h2⟩ := zAc h
 cases hP : s.P with
 | nil => exact absurd hP h1
 | cons q P =>
  have hq := (h2 q (by rw [hP]; simp)).1
  have hr := zIU s.r q P hq fun x hx => (h2 x (by rw [hP]; exact List.mem_cons_of_mem _ hx)).1
  rw [zB2 hP]
  cases s.l
  ·exact hr
  ·exact ⟨fun _ => hq, hr⟩
theorem zKq {r : List Nm} (h : nadj ([] :: r)) : r = [] ∨ ∃ y r', r = y :: r' ∧ y ≠ [] := by
 cases r with
 | nil => exact .inl rfl
 | cons y r => exact .inr ⟨y, r, rfl, h.1 rfl⟩
section
variable {L : List OP} {z : List Int} {tok : List TK}
theorem zB3 {a b n : Nat} {l : List ND} (h : Dv L z tok .tr a b l n) : a < b ∧ b ≤ tok.length := by
 obtain ⟨_, _, h3, h4, _⟩ := zCs h
 exact ⟨h3, h4⟩
theorem zGZ {o : OP} {I : List Nm} {first : Bool} {a b n : Nat} {l : List ND} (h : Dv L z tok (.it o I first) a b l n) : a ≤ b ∧ b ≤ tok.length := by
 obtain ⟨_, h2, h3, _⟩ := zCs h
 exact ⟨h2, h3⟩
end
end
section
open Go.RowKit
section
variable {L : List OP} {z : List Int} {tok : List TK}
theorem zMg {o k : OP} {x : ND} {right : Bool} (hx : x.k = 3) (hn : findO L x.n = some k) (h : mayH L z o x right = true) : fitsB z o k right = true := by
 unfold mayH at h
 rw [if_pos hx, hn] at h
 exact h
end
end
end Go.Proofs.YtcjbhdgjcpnklaaGreatDoor
