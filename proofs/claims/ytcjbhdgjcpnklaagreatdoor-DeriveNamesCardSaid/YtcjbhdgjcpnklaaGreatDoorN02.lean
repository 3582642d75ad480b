import Derived.Test.YtcjbhdgjcpnklaaGreatDoorV21
import Derived.Test.YtcjbhdgjcpnklaaGreatDoorN01
namespace Go.Proofs.YtcjbhdgjcpnklaaGreatDoor
section
open Go.RowKit
inductive Gl
 | tr
 | it (o : OP) (I : List Nm) (first : Bool)
inductive Dv (L : List OP) (z : List Int) (tok : List TK) : Gl → Nat → Nat → List ND → Nat → Prop
 | leaf {a : Nat} : a < tok.length → leafB (tat tok a).k (freeB L z (txN (tat tok a))) = true → Dv L z tok .tr a (a + 1) [⟨1, txN (tat tok a), a, (a + 1 : Nat), 0⟩] 1
 | paren {a b : Nat} {t : List ND} : b < tok.length → (tat tok a).k = 6 → txN (tat tok a) = [40] → (tat tok b).k = 6 → txN (tat tok b) = [41] → Dv L z tok .tr (a + 1) b t 1 → Dv L z tok .tr a (b + 1) (⟨2, [], a, (b + 1 : Nat), 1⟩ :: t) 1
 | oper {a b n : Nat} {o : OP} {s : SH} {l : List ND} : findO L o.1 = some o → ofS o.1 = some s → a < b → Dv L z tok (.it o (itemsL s) true) a b l n → Dv L z tok .tr a b (⟨3, o.1, a, b, n⟩ :: l) 1
 | nil {o : OP} {first : Bool} {a : Nat} : a ≤ tok.length → Dv L z tok (.it o [] first) a a [] 0
 | part {o : OP} {x : Nm} {r : List Nm} {first : Bool} {a b n : Nat} {l : List ND} : x ≠ [] → a < tok.length → partB (tat tok a).k (txN (tat tok a)) x = true → Dv L z tok (.it o r false) (a + 1) b l n → Dv L z tok (.it o (x :: r) first) a b l n
 | hole {o : OP} {r : List Nm} {first : Bool} {a c b n : Nat} {x : ND} {t l : List ND} : Dv L z tok .tr a c (x :: t) 1 → (first = true → mayH L z o x false = true) → (r = [] → mayH L z o x true = true) → Dv L z tok (.it o r false) c b l n → Dv L z tok (.it o ([] :: r) first) a b (x :: t ++ l) (n + 1)
theorem zOl {m n : Nat} {l : List ND} (h : skp l m = some n) (y : List ND) : kidN m (l ++ y) = kidN m l := by
 have h1 := zIQ m (l ++ y) n (zHL _ _ _ h y) l.length (zNl _ _ _ h)
 rw [List.take_left] at h1
 exact h1.symm
theorem zMf {L : List OP} {z : List Int} {tok : List TK} {x : ND} {l : List ND} {n : Nat} (h : skp (x :: l) 1 = some n) (y : List ND) : nodeS L z tok (x :: l ++ y) = nodeS L z tok (x :: l) := by
 have h' := h
 rw [show 1 = 0 + 1 from rfl, skp_cons, Nat.add_zero] at h'
 obtain ⟨p, hp, _⟩ := Option.map_eq_some_iff.1 h'
 rw [List.cons_append]
 show (spanB tok x && (if x.k = 1 then leafNB L z tok x else if x.k = 2 then parenB tok x (l ++ y) else if x.k = 3 then decide (0 ≤ x.c) && operB L z tok x (l ++ y) else false)) = (spanB tok x && (if x.k = 1 then leafNB L z tok x else if x.k = 2 then parenB tok x l else if x.k = 3 then decide (0 ≤ x.c) && operB L z tok x l else false))
 have ho : operB L z tok x (l ++ y) = operB L z tok x l := by
  unfold operB; rw [zOl hp]
 rw [ho]
 by_cases hc : x.c = 1
 ·have hp1 : parenB tok x (l ++ y) = parenB tok x l := by
   rw [hc] at hp
   cases l with
   | nil => cases hp
   | cons u l => rfl
  rw [hp1]
 ·have hp1 : ∀ l : List ND, parenB tok x l = false := fun l => by
   unfold parenB
   rw [show (x.c == 1) = false by simpa using hc, Bool.false_and]
  rw [hp1, hp1]
def DvP (L : List OP) (z : List Int) (tok : List TK) : Gl → Nat → Nat → List ND → Nat → Prop
 | .tr, a, b, l, _ => skp l 1 = some l.length ∧ (∃ x r, l = x :: r ∧ x.f = a ∧ x.t = b) ∧ a < b ∧ b ≤ tok.length ∧ ∀ i, i < l.length → nodeS L z tok (l.drop i) = true
 | .it o I first, a, b, l, n => skp l n = some l.length ∧ a ≤ b ∧ b ≤ tok.length ∧ (∀ i, i < l.length → nodeS L z tok (l.drop i) = true) ∧ itB L z tok o b I first a (kidN n l) = true
theorem zCs {L : List OP} {z : List Int} {tok : List TK} {g : Gl} {a b n : Nat} {l : List ND} (h : Dv L z tok g a b l n) : DvP L z tok g a b l n := by
 induction h with
 | @leaf a ha hl =>
  refine ⟨rfl, ⟨_, _, rfl, rfl, rfl⟩, by omega, by omega, fun i hi => ?_⟩
  obtain rfl : i = 0 := by simp at hi; exact hi
  rw [List.drop_zero]
  unfold nodeS spanB leafNB tkn
  simp [hl]
  omega
 | @paren a b t hb k1 t1 k2 t2 _ ih =>
  obtain ⟨h1, ⟨x, r, rfl, hf, ht⟩, h3, h4, h5⟩ := ih
  refine ⟨?_, ⟨_, _, rfl, rfl, rfl⟩, by omega, by omega, fun i hi => ?_⟩
  ·rw [show 1 = 0 + 1 from rfl, skp_cons]
   show (skp (x :: r) 1).map (· + 1) = _
   rw [h1]; rfl
  ·cases i with
   | succ i => rw [List.drop_succ_cons]; exact h5 i (by simpa using hi)
   | zero =>
    rw [List.drop_zero]
    have e1 : tkn tok (((b + 1 : Nat) : Int) - 1) = tat tok b := by unfold tkn; congr 1; omega
    have e2 : tkn tok (a : Int) = tat tok a := rfl
    show (spanB tok ⟨2, [], a, (b + 1 : Nat), 1⟩ && parenB tok ⟨2, [], a, (b + 1 : Nat), 1⟩ (x :: r)) = true
    unfold spanB parenB
    simp only [Bool.and_eq_true, decide_eq_true_eq, beq_iff_eq, e1, e2]
    exact ⟨⟨by omega, by omega, by omega⟩, trivial, trivial, by omega, k1, t1, k2, t2, by omega, by omega⟩
 | @oper a b n o s l ho hs hab _ ih =>
  obtain ⟨h1, h2, h3, h4, h5⟩ := ih
  refine ⟨?_, ⟨_, _, rfl, rfl, rfl⟩, hab, h3, fun i hi => ?_⟩
  ·rw [show 1 = 0 + 1 from rfl, skp_cons]
   show (skp l (n + 0)).map (· + 1) = _
   rw [Nat.add_zero, h1]; rfl
  ·cases i with
   | succ i => rw [List.drop_succ_cons]; exact h4 i (by simpa using hi)
   | zero =>
    rw [List.drop_zero]
    show (spanB tok _ && (decide ((0 : Int) ≤ (n : Int)) && operB L z tok ⟨3, o.1, a, b, n⟩ l)) = true
    unfold spanB operB
    simp only [Bool.and_eq_true, decide_eq_true_eq, ho, hs]
    exact ⟨⟨by omega, by omega, by omega⟩, by omega, h5⟩
 | @nil o first a ha =>
  exact ⟨rfl, Nat.le_refl _, ha, (fun i hi => by cases hi), (by unfold itB kidN; simp)⟩
 | @part o x r first a b n l hx ha hp _ ih =>
  obtain ⟨h1, h2, h3, h4, h5⟩ := ih
  refine ⟨h1, by omega, h3, h4, ?_⟩
  unfold itB
  rw [if_pos hx]
  have e2 : tkn tok (a : Int) = tat tok a := rfl
  simp only [Bool.and_eq_true, decide_eq_true_eq, e2]
  exact ⟨⟨by omega, by omega⟩, hp, h5⟩
 | @hole o r first a c b n x t l _ hm1 hm2 _ ih1 ih2 =>
  obtain ⟨h1, ⟨x', r', e, hf, ht⟩, h3, h4, h5⟩ := ih1
  obtain ⟨g1, g2, g3, g4, g5⟩ := ih2
  cases e
  have hs1 : skp (x :: t ++ l) 1 = some (x :: t).length := zHL _ _ _ h1 _
  have hd : (x :: t ++ l).drop (x :: t).length = l := List.drop_left ..
  refine ⟨?_, by omega, g3, fun i hi => ?_, ?_⟩
  ·rw [Nat.add_comm, skp_add, hs1]
   show (skp ((x :: t ++ l).drop (x :: t).length) n).map _ = _
   rw [hd, g1, List.length_append]; rfl
  ·by_cases hit : i < (x :: t).length
   ·rw [List.drop_append_of_le_length (Nat.le_of_lt hit)]
    obtain ⟨m, hm⟩ := zIP _ _ h1 i hit
    have hc := List.drop_eq_getElem_cons hit
    have hn := h5 i hit
    rw [hc] at hm hn ⊢
    rw [zMf hm]; exact hn
   ·have e2 : (x :: t ++ l).drop i = l.drop (i - (x :: t).length) := by
     rw [List.drop_append, List.drop_of_length_le (by omega), List.nil_append]
    rw [e2]
    exact g4 _ (by rw [List.length_append] at hi; omega)
  ·rw [List.cons_append] at hs1 hd ⊢
   rw [zFf hs1, hd]
   unfold itB
   rw [if_neg (by simp)]
   simp only [Bool.and_eq_true, beq_iff_eq, Bool.or_eq_true, Bool.not_eq_true']
   refine ⟨hf, ?_, ?_, by rw [ht]; exact g5⟩
   ·cases first with
    | true => exact .inr (hm1 rfl)
    | false => exact .inl rfl
   ·cases r with
    | nil => exact .inr (hm2 rfl)
    | cons y r => exact .inl rfl
theorem zTX {L : List OP} {z : List Int} {tok : List TK} {N : Nat} {o : OP} {to_ : Int} (hto : to_ ≤ tok.length)
  (IH : ∀ (x : ND) (r : List ND) (n : Nat), (x :: r).length ≤ N → skp (x :: r) 1 = some n → (∀ i, i < (x :: r).length → nodeS L z tok ((x :: r).drop i) = true) → Dv L z tok .tr x.f.toNat x.t.toNat ((x :: r).take n) 1) :
  ∀ (I : List Nm) (first : Bool) (a : Int) (m : Nat) (l : List ND) (p : Nat), l.length ≤ N → skp l m = some p → (∀ i, i < l.length → nodeS L z tok (l.drop i) = true) → itB L z tok o to_ I first a (kidN m l) = true → 0 ≤ a → Dv L z tok (.it o I first) a.toNat to_.toNat (l.take p) m
 | [], first, a, m, l, p, hl, hp, hn, h, ha => by
  unfold itB at h
  rw [Bool.and_eq_true, beq_iff_eq, List.isEmpty_iff] at h
  obtain ⟨h1, rfl⟩ := h
  have hm : m = 0 := by rw [← zSO m l p hp, h1]; rfl
  subst hm
  rw [zCr] at hp; cases hp
  exact .nil (by omega)
 | x :: r, first, a, m, l, p, hl, hp, hn, h, ha => by
  unfold itB at h
  by_cases hx : x ≠ []
  ·rw [if_pos hx] at h
   simp only [Bool.and_eq_true, decide_eq_true_eq] at h
   have ih := zTX hto IH r false (a + 1) m l p hl hp hn h.2.2 (by omega)
   rw [show (a + 1).toNat = a.toNat + 1 by omega] at ih
   exact .part hx (by omega) h.2.1 ih
  ·rw [if_neg hx] at h
   obtain rfl : x = [] := Classical.not_not.1 hx
   cases m with
   | zero => cases h
   | succ m =>
    cases l with
    | nil => cases hp
    | cons u l =>
     obtain ⟨n1, n2, h1, h2, rfl⟩ := zOk hp
     rw [zFf h1] at h
     simp only [Bool.and_eq_true, beq_iff_eq, Bool.or_eq_true, Bool.not_eq_true'] at h
     obtain ⟨hf, hm1, hm2, hr⟩ := h
     have hu := zSP (hn 0 (by simp))
     have ih1 := IH u l n1 hl h1 hn
     have ih2 := zTX hto IH r false u.t m ((u :: l).drop n1) n2 (by rw [List.length_drop]; omega) h2 (fun i hi => by
      rw [List.drop_drop]
      exact hn _ (by rw [List.length_drop] at hi; omega)) hr (by omega)
     have hpos := zOj (m := 0) h1
     obtain ⟨q, rfl⟩ : ∃ q, n1 = q + 1 := ⟨n1 - 1, by omega⟩
     rw [List.take_add]
     rw [List.take_succ_cons] at ih1 ⊢
     rw [hf] at ih1
     refine .hole ih1 (fun e => ?_) (fun e => ?_) ih2
     ·rcases hm1 with h | h
      ·rw [e] at h; cases h
      ·exact h
     ·rcases hm2 with h | h
      ·rw [e] at h; cases h
      ·exact h
theorem zTY {L : List OP} {z : List Int} {tok : List TK} : ∀ (N : Nat) (x : ND) (r : List ND) (n : Nat), (x :: r).length ≤ N → skp (x :: r) 1 = some n → (∀ i, i < (x :: r).length → nodeS L z tok ((x :: r).drop i) = true) → Dv L z tok .tr x.f.toNat x.t.toNat ((x :: r).take n) 1
 | 0, x, r, n, hl, hs, hn => by simp at hl
 | N + 1, x, r, n, hl, hs, hn => by
  have hx := hn 0 (by simp)
  rw [List.drop_zero] at hx
  have hsp := zSP hx
  rw [show 1 = 0 + 1 from rfl, skp_cons, Nat.add_zero] at hs
  obtain ⟨p, hp, rfl⟩ := Option.map_eq_some_iff.1 hs
  have hn' : ∀ i, i < r.length → nodeS L z tok (r.drop i) = true := fun i hi => by
   have := hn (i + 1) (by rw [List.length_cons]; omega)
   rwa [List.drop_succ_cons] at this
  have h2 : (if x.k = 1 then leafNB L z tok x else if x.k = 2 then parenB tok x r else if x.k = 3 then decide (0 ≤ x.c) && operB L z tok x r else false) = true := by
   unfold nodeS at hx
   rw [Bool.and_eq_true] at hx
   exact hx.2
  rw [List.take_succ_cons]
  obtain ⟨k, nm, f, t, c⟩ := x
  dsimp only at hsp h2 hp ⊢
  by_cases k1 : k = 1
  ·rw [if_pos k1] at h2
   unfold leafNB at h2
   simp only [Bool.and_eq_true, beq_iff_eq] at h2
   obtain ⟨rfl, rfl, h3, rfl⟩ := h2
   subst k1
   rw [show (0 : Int).toNat = 0 from rfl, zCr] at hp
   cases hp
   rw [List.take_zero, show (f + 1).toNat = f.toNat + 1 by omega]
   have e : (⟨1, txN (tkn tok f), f, f + 1, 0⟩ : ND) = ⟨1, txN (tat tok f.toNat), (f.toNat : Nat), (f.toNat + 1 : Nat), 0⟩ := by
    unfold tkn
    congr 1
    ·omega
    ·omega
   rw [e]
   exact .leaf (by omega) h3
  ·rw [if_neg k1] at h2
   by_cases k2 : k = 2
   ·rw [if_pos k2] at h2
    unfold parenB at h2
    simp only [Bool.and_eq_true, beq_iff_eq, decide_eq_true_eq] at h2
    obtain ⟨rfl, rfl, c3, c4, c5, c6, c7, h3⟩ := h2
    subst k2
    cases r with
    | nil => cases h3
    | cons y r =>
     simp only [Bool.and_eq_true, beq_iff_eq] at h3
     have ih := zTY N y r p (by rw [List.length_cons] at hl; omega) hp hn'
     rw [h3.1, h3.2, show (f + 1).toNat = f.toNat + 1 by omega] at ih
     have e : (⟨2, [], f, t, 1⟩ : ND) = ⟨2, [], (f.toNat : Nat), ((t - 1).toNat + 1 : Nat), 1⟩ := by
      congr 1
      ·omega
      ·omega
     rw [e, show t.toNat = (t - 1).toNat + 1 by omega]
     exact .paren (by omega) c4 c5 c6 c7 ih
   ·rw [if_neg k2] at h2
    by_cases k3 : k = 3
    ·rw [if_pos k3, Bool.and_eq_true, decide_eq_true_eq] at h2
     have h3 := h2.2
     subst k3
     unfold operB at h3
     dsimp only at h3
     split at h3
     ·cases h3
     ·rename_i o ho
      split at h3
      ·cases h3
      ·rename_i s hs2
       have hon : o.1 = nm := by
        have := List.find?_some ho
        simpa using this
       have ih := zTX (N := N) (to_ := t) (by omega) (zTY N) _ _ _ _ _ _ (by rw [List.length_cons] at hl; omega) hp hn' h3 (by omega)
       have e : (⟨3, nm, f, t, c⟩ : ND) = ⟨3, o.1, (f.toNat : Nat), (t.toNat : Nat), (c.toNat : Nat)⟩ := by
        rw [hon]
        congr 1
        ·omega
        ·omega
        ·omega
       rw [e]
       rw [← hon] at ho
       exact .oper ho hs2 (by omega) ih
    ·rw [if_neg k3] at h2; cases h2
theorem zQs {L : List OP} {z : List Int} {tok : List TK} {t : List ND} : rightB L z tok t = true ↔ Dv L z tok .tr 0 tok.length t 1 := by
 constructor
 ·intro h
  obtain ⟨h1, h2, h3⟩ := zRL.1 h
  cases t with
  | nil => cases h2
  | cons x r =>
   have h4 := zTY _ x r _ (Nat.le_refl _) h1 h3
   unfold headB at h2
   simp only [Bool.and_eq_true, beq_iff_eq] at h2
   rw [List.take_length, h2.1, h2.2] at h4
   exact h4
 ·intro h
  obtain ⟨h1, ⟨x, r, rfl, hf, ht⟩, h3, h4, h5⟩ := zCs h
  refine zRL.2 ⟨h1, ?_, h5⟩
  unfold headB
  simp only [Bool.and_eq_true, beq_iff_eq]
  exact ⟨hf, ht⟩
end
section
open Go.RowKit
structure Uq (L : List OP) : Prop where
 one : ∀ o ∈ L, ∀ o' ∈ L, ∀ s s', ofS o.1 = some s → ofS o'.1 = some s' → ∀ x, x ∈ s.P → x ∈ s'.P → o = o'
 nd : ∀ o ∈ L, ∀ s, ofS o.1 = some s → s.P.Nodup
theorem zNm {o : OP} {s : SH} (h : ofS o.1 = some s) : prt o.1 = s.P := by unfold prt; rw [zAl h]
theorem zUM {L : List OP} (h : uniqB L = true) : Uq L := by
 have h' : (allP L).Nodup := of_decide_eq_true h
 clear h
 induction L with
 | nil => exact ⟨(fun o ho => by cases ho), (fun o ho => by cases ho)⟩
 | cons u L ih =>
  have e : allP (u :: L) = prt u.1 ++ allP L := by unfold allP; rw [List.flatMap_cons]
  rw [e, List.nodup_append] at h'
  have I := ih h'.2.1
  have hin : ∀ o ∈ L, ∀ x ∈ prt o.1, x ∈ allP L := fun o ho x hx => List.mem_flatMap.2 ⟨o, ho, hx⟩
  refine ⟨fun o ho o' ho' s s' hs hs' x hx hx' => ?_, fun o ho s hs => ?_⟩
  ·rw [← zNm hs] at hx
   rw [← zNm hs'] at hx'
   rcases List.mem_cons.1 ho with rfl | ho1
   ·rcases List.mem_cons.1 ho' with rfl | ho2
    ·rfl
    ·exact absurd rfl (h'.2.2 x hx x (hin o' ho2 x hx'))
   ·rcases List.mem_cons.1 ho' with rfl | ho2
    ·exact absurd rfl (h'.2.2 x hx' x (hin o ho1 x hx))
    ·exact I.one o ho1 o' ho2 s s' hs hs' x (by rw [← zNm hs]; exact hx) (by rw [← zNm hs']; exact hx')
  ·rcases List.mem_cons.1 ho with rfl | ho
   ·rw [← zNm hs]; exact h'.1
   ·exact I.nd o ho s hs
theorem zAq {L : List OP} {p : Nm} {o : OP} (h : findO L p = some o) : o ∈ L ∧ o.1 = p := ⟨List.mem_of_find?_eq_some h, by have := List.find?_some h; simpa using this⟩
theorem zAc {p : Nm} {s : SH} (h : ofS p = some s) : s.P ≠ [] ∧ (∀ x ∈ s.P, x ≠ [] ∧ x ≠ [40] ∧ x ≠ [41]) := by
 obtain ⟨_, _, hm, hw, _⟩ := zCh h
 refine ⟨hw.1, fun x hx => ?_⟩
 unfold shM at hm
 simp only [Bool.and_eq_true] at hm
 have hs := List.all_eq_true.1 hm.2.2 x hx
 have hb : bar x = false := by
  unfold stB at hs
  simp only [Bool.and_eq_true, Bool.not_eq_true'] at hs
  exact hs.1
 refine ⟨zJ4 hs, ?_, ?_⟩
 ·rintro rfl; revert hb; decide
 ·rintro rfl; revert hb; decide
def sepN (b : Bool) : List Nm → List Nm
 | [] => if b then [[]] else []
 | q :: P => [] :: q :: sepN b P
theorem zIR (b : Bool) : ∀ (p : Nm) (P : List Nm), sepL (p :: P) ++ (if b then [[]] else []) = p :: sepN b P
 | p, [] => rfl
 | p, q :: P => by
  show p :: [] :: sepL (q :: P) ++ _ = _
  rw [List.cons_append, List.cons_append, zIR b q P]; rfl
theorem zB2 {s : SH} {p : Nm} {P : List Nm} (h : s.P = p :: P) : itemsL s = (if s.l then [[]] else []) ++ p :: sepN s.r P := by
 unfold itemsL; rw [h, zIR]
def isP (x : TK) : Bool := x.k == 1 || (x.k == 2 || x.k == 6)
def clB (L : List OP) (x : TK) : Bool := (x.k == 6 && txN x == [41]) || (isP x && L.any fun o => match ofS o.1 with | some s => s.P.tail.contains (txN x) | none => false)
def opB (L : List OP) (x : TK) : Bool := (x.k == 6 && txN x == [40]) || (isP x && L.any fun o => match ofS o.1 with | some s => s.P.dropLast.contains (txN x) | none => false)
def b2n (b : Bool) : Nat := if b then 1 else 0
def bal (L : List OP) : List TK → Nat → Option Nat
 | [], h => some h
 | x :: r, h => if clB L x then (match h with | 0 => none | h + 1 => bal L r (h + b2n (opB L x))) else bal L r (h + b2n (opB L x))
theorem zIS (L : List OP) : ∀ (s : List TK) (h m : Nat), bal L s h = some m → ∀ d, bal L s (h + d) = some (m + d)
 | [], h, m, e, d => by cases e; rfl
 | x :: r, h, m, e, d => by
  unfold bal at e ⊢
  by_cases hc : clB L x = true
  ·rw [if_pos hc] at e ⊢
   cases h with
   | zero => cases e
   | succ h =>
    rw [show h + 1 + d = (h + d) + 1 by omega]
    have := zIS L r _ _ e d
    rw [show h + b2n (opB L x) + d = h + d + b2n (opB L x) by omega] at this
    exact this
  ·rw [if_neg hc] at e ⊢
   have := zIS L r _ _ e d
   rw [show h + b2n (opB L x) + d = h + d + b2n (opB L x) by omega] at this
   exact this
theorem bal_app (L : List OP) : ∀ (s t : List TK) (h : Nat), bal L (s ++ t) h = (bal L s h).bind (bal L t)
 | [], t, h => rfl
 | x :: r, t, h => by
  rw [List.cons_append]
  unfold bal
  by_cases hc : clB L x = true
  ·rw [if_pos hc, if_pos hc]
   cases h with
   | zero => rfl
   | succ h => exact bal_app L r t _
  ·rw [if_neg hc, if_neg hc]
   exact bal_app L r t _
def sg (tok : List TK) (a b : Nat) : List TK := (tok.drop a).take (b - a)
theorem zHM (tok : List TK) (a : Nat) : sg tok a a = [] := by unfold sg; rw [Nat.sub_self]; rfl
theorem zKl (tok : List TK) {a c b : Nat} (h1 : a ≤ c) (h2 : c ≤ b) : sg tok a b = sg tok a c ++ sg tok c b := by
 unfold sg
 rw [show b - a = (c - a) + (b - c) by omega, List.take_add, List.drop_drop, show a + (c - a) = c by omega]
theorem zEI {tok : List TK} {a b : Nat} (h : a < b) (ha : a < tok.length) : sg tok a b = tat tok a :: sg tok (a + 1) b := by
 unfold sg
 rw [show b - a = (b - (a + 1)) + 1 by omega, List.drop_eq_getElem_cons ha, List.take_succ_cons]
 congr 1
 unfold tat
 simp [List.getD, ha]
theorem zKm {L : List OP} {tok : List TK} {a q b h m : Nat} (e : bal L (sg tok a b) h = some m) (h1 : a ≤ q) (h2 : q ≤ b) : ∃ m', bal L (sg tok a q) h = some m' := by
 rw [zKl tok h1 h2, bal_app] at e
 cases hb : bal L (sg tok a q) h with
 | none => rw [hb] at e; cases e
 | some m' => exact ⟨m', rfl⟩
theorem zSQ {L : List OP} {tok : List TK} {a q b h m k : Nat} (e : bal L (sg tok a q) h = some m) (h1 : a ≤ q) (h2 : q ≤ b) : bal L (sg tok a b) h = some k ↔ bal L (sg tok q b) m = some k := by
 rw [zKl tok h1 h2, bal_app, e]; rfl
theorem zPs {P : List Nm} {y : Nm} (h : y ∈ P.dropLast) : y ∈ P := (List.dropLast_sublist P).subset h
theorem zEJ {x : TK} {y : Nm} (h : partB x.k (txN x) y = true) : isP x = true ∧ txN x = y := by
 unfold partB at h
 rw [Bool.and_eq_true, beq_iff_eq] at h
 exact ⟨h.1, h.2⟩
theorem zR2 {L : List OP} (U : Uq L) {o : OP} {s : SH} (ho : o ∈ L) (hs : ofS o.1 = some s) {x : Nm} (hx : x ∈ s.P) (F : List Nm → List Nm) (hF : ∀ P, ∀ y ∈ F P, y ∈ P) :
  (L.any fun o => match ofS o.1 with | some s => (F s.P).contains x | none => false) = (F s.P).contains x := by
 rw [Bool.eq_iff_iff, List.any_eq_true]
 constructor
 ·rintro ⟨o', ho', h⟩
  cases hs' : ofS o'.1 with
  | none => rw [hs'] at h; cases h
  | some s' =>
   rw [hs'] at h
   dsimp only at h
   have hx' : x ∈ F s'.P := by simpa using h
   have := U.one o ho o' ho' s s' hs hs' x hx (hF _ _ hx')
   subst this
   rw [hs] at hs'; cases hs'
   exact h
 ·intro h
  exact ⟨o, ho, by rw [hs]; exact h⟩
theorem zT5 {L : List OP} (U : Uq L) {o : OP} {s : SH} (ho : o ∈ L) (hs : ofS o.1 = some s) {A B : List Nm} {y : Nm} (hP : s.P = A ++ y :: B) {x : TK} (h : partB x.k (txN x) y = true) : clB L x = !A.isEmpty ∧ opB L x = !B.isEmpty := by
 obtain ⟨h1, h2⟩ := zEJ h
 have hy : y ∈ s.P := by rw [hP]; simp
 have hok := (zAc hs).2 y hy
 have hnd := U.nd o ho s hs
 rw [hP] at hnd
 have hnA : y ∉ A := fun hA => (List.nodup_append.1 hnd).2.2 y hA y (List.mem_cons_self ..) rfl
 have hnB : y ∉ B := (List.nodup_cons.1 (List.nodup_append.1 hnd).2.1).1
 unfold clB opB
 rw [h1, h2, show (y == [41]) = false by simpa using hok.2.2, show (y == [40]) = false by simpa using hok.2.1, Bool.and_false, Bool.false_or, Bool.true_and, Bool.false_or, Bool.true_and]
 rw [zR2 U ho hs hy List.tail (fun P y h => List.mem_of_mem_tail h), zR2 U ho hs hy List.dropLast (fun P y h => zPs h), hP]
 refine ⟨?_, ?_⟩
 ·cases A with
  | nil => simpa using hnB
  | cons a A => simp
 ·cases hB : B with
  | nil =>
   rw [List.dropLast_concat]
   simpa using hnA
  | cons b B' =>
   rw [List.dropLast_append_of_ne_nil (by simp), List.dropLast_cons_of_ne_nil (by simp)]
   simp
theorem zKn {L : List OP} {x : Nm} (h : ∀ o ∈ L, ∀ s, ofS o.1 = some s → x ∉ s.P) (F : List Nm → List Nm) (hF : ∀ P, ∀ y ∈ F P, y ∈ P) :
  (L.any fun o => match ofS o.1 with | some s => (F s.P).contains x | none => false) = false := by
 rw [Bool.eq_false_iff]
 intro ha
 obtain ⟨o, ho, h2⟩ := List.any_eq_true.1 ha
 cases hs : ofS o.1 with
 | none => rw [hs] at h2; cases h2
 | some s =>
  rw [hs] at h2
  exact h o ho s hs (hF _ _ (by simpa using h2))
theorem zCt {L : List OP} {x : TK} (hk : x.k = 6) : (txN x = [40] → clB L x = false ∧ opB L x = true) ∧ (txN x = [41] → clB L x = true ∧ opB L x = false) := by
 have hno : ∀ y : Nm, (y = [40] ∨ y = [41]) → ∀ o ∈ L, ∀ s, ofS o.1 = some s → y ∉ s.P := fun y hy o _ s hs hm => by
  have := (zAc hs).2 y hm
  rcases hy with h | h
  ·exact this.2.1 h
  ·exact this.2.2 h
 refine ⟨fun ht => ?_, fun ht => ?_⟩
 ·unfold clB opB
  rw [ht, hk, zKn (hno _ (.inl rfl)) List.tail (fun P y h => List.mem_of_mem_tail h)]
  exact ⟨by rw [Bool.and_false]; rfl, rfl⟩
 ·unfold clB opB
  rw [ht, hk, zKn (hno _ (.inr rfl)) List.dropLast (fun P y h => zPs h)]
  exact ⟨rfl, by rw [Bool.and_false]; rfl⟩
theorem zTZ {L : List OP} {z : List Int} {x : Nm} (h : freeB L z x = true) : ∀ o ∈ L, ∀ s, ofS o.1 = some s → x ∉ s.P := by
 intro o ho s hs hx
 unfold freeB entL at h
 rw [beq_iff_eq, List.length_map] at h
 have h2 := List.eq_nil_of_length_eq_zero h
 have h3 : o ∈ L.filter (hasP x) := List.mem_filter.2 ⟨ho, by unfold hasP; rw [zNm hs]; simpa using hx⟩
 rw [h2] at h3
 cases h3
theorem zIT {k : Int} {fr : Bool} (h : leafB k fr = true) : (k = 3 ∨ k = 4 ∨ k = 5) ∨ ((k = 1 ∨ k = 2) ∧ fr = true) := by
 unfold leafB at h
 simp only [Bool.or_eq_true, Bool.and_eq_true, beq_iff_eq] at h
 omega
theorem zSR {L : List OP} {z : List Int} {x : TK} (h : leafB x.k (freeB L z (txN x)) = true) : (clB L x = false ∧ opB L x = false) ∧ ∀ o ∈ L, ∀ s, ofS o.1 = some s → ∀ y ∈ s.P, partB x.k (txN x) y = false := by
 rcases zIT h with hk | ⟨hk, hf⟩
 ·have h1 : isP x = false := by unfold isP; rcases hk with h | h | h <;> rw [h] <;> rfl
  have h6 : (x.k == 6) = false := by rcases hk with h | h | h <;> rw [h] <;> rfl
  refine ⟨?_, fun o ho s hs y hy => ?_⟩
  ·unfold clB opB
   rw [h1, h6]
   exact ⟨rfl, rfl⟩
  ·unfold partB
   rw [show (x.k == 1 || (x.k == 2 || x.k == 6)) = isP x from rfl, h1]; rfl
 ·have hno := zTZ hf
  have h6 : (x.k == 6) = false := by rcases hk with h | h <;> rw [h] <;> rfl
  refine ⟨?_, fun o ho s hs y hy => ?_⟩
  ·unfold clB opB
   rw [h6, zKn hno List.tail (fun P y h => List.mem_of_mem_tail h), zKn hno List.dropLast (fun P y h => zPs h), Bool.and_false]
   exact ⟨rfl, rfl⟩
  ·rw [Bool.eq_false_iff]
   intro hp
   exact hno o ho s hs (by rw [(zEJ hp).2]; exact hy)
end
section
open Go.RowKit
def prs (I : List Nm) : List Nm := I.filter fun x => !x.isEmpty
def hasp (I : List Nm) : Bool := !(prs I).isEmpty
theorem prs_app (A B : List Nm) : prs (A ++ B) = prs A ++ prs B := List.filter_append ..
theorem zDe {x : Nm} (h : x ≠ []) (r : List Nm) : prs (x :: r) = x :: prs r := List.filter_cons_of_pos (by simpa using h)
theorem zFg (r : List Nm) : prs ([] :: r) = prs r := List.filter_cons_of_neg (by simp)
theorem zKo (b : Bool) : ∀ P : List Nm, (∀ x ∈ P, x ≠ []) → prs (sepN b P) = P
 | [], _ => by cases b <;> rfl
 | q :: P, h => by
  show prs ([] :: q :: sepN b P) = _
  rw [zFg, zDe (h q (List.mem_cons_self ..)), zKo b P fun x hx => h x (List.mem_cons_of_mem _ hx)]
theorem zCu {p : Nm} {s : SH} (h : ofS p = some s) : prs (itemsL s) = s.P := by
 obtain ⟨h1, h2⟩ := zAc h
 cases hP : s.P with
 | nil => exact absurd hP h1
 | cons q P =>
  rw [zB2 hP, prs_app, zDe (h2 q (by rw [hP]; simp)).1, zKo _ _ fun x hx => (h2 x (by rw [hP]; exact List.mem_cons_of_mem _ hx)).1]
  cases s.l <;> rfl
theorem zQm (A B : List Nm) : hasp (A ++ B) = (hasp A || hasp B) := by
 unfold hasp
 rw [prs_app]
 cases prs A <;> simp
theorem zKp {x : Nm} (h : x ≠ []) (r : List Nm) : hasp (x :: r) = true := by unfold hasp; rw [zDe h]; rfl
theorem zEK (r : List Nm) : hasp ([] :: r) = hasp r := by unfold hasp; rw [zFg]
def nadj : List Nm → Prop
 | [] => True
 | [_] => True
 | x :: y :: r => (x = [] → y ≠ []) ∧ nadj (y :: r)
theorem zGY {x : Nm} {r : List Nm} (h : nadj (x :: r)) : nadj r := by
 cases r with
 | nil => trivial
 | cons y r => exact h.2
theorem zQ7 : ∀ (J I : List Nm), nadj (J ++ I) → nadj I
 | [], _, h => h
 | _ :: J, I, h => zQ7 J I (zGY h)
theorem zIU (b : Bool) : ∀ (p : Nm) (P : List Nm), p ≠ [] → (∀ x ∈ P, x ≠ []) → nadj (p :: sepN b P)
 | p, [], hp, _ => by
  cases b
  ·trivial
  ·exact ⟨fun h => absurd h hp, trivial⟩
 | p, q :: P, hp, h => by
  have hq := h q (List.mem_cons_self ..)
  exact ⟨fun h => absurd h hp, fun _ => hq, zIU b q P hq fun x hx => h x (List.mem_cons_of_mem _ hx)⟩
theorem zJF {p : Nm} {s : SH} (h : ofS p = some s) : nadj (itemsL s) := by
 obtain ⟨h1, h2⟩ := zAc h
 cases hP : s.P with
 | nil => exact absurd hP h1
 | cons q P =>
  have hq := (h2 q (by rw [hP]; simp)).1
  have hr := zIU s.r q P hq fun x hx => (h2 x (by rw [hP]; exact List.mem_cons_of_mem _ hx)).1
  rw [zB2 hP]
  cases s.l
  ·exact hr
  ·exact ⟨fun _ => hq, hr⟩
theorem zKq {r : List Nm} (h : nadj ([] :: r)) : r = [] ∨ ∃ y r', r = y :: r' ∧ y ≠ [] := by
 cases r with
 | nil => exact .inl rfl
 | cons y r => exact .inr ⟨y, r, rfl, h.1 rfl⟩
section
variable {L : List OP} {z : List Int} {tok : List TK}
theorem zB3 {a b n : Nat} {l : List ND} (h : Dv L z tok .tr a b l n) : a < b ∧ b ≤ tok.length := by
 obtain ⟨_, _, h3, h4, _⟩ := zCs h
 exact ⟨h3, h4⟩
theorem zGZ {o : OP} {I : List Nm} {first : Bool} {a b n : Nat} {l : List ND} (h : Dv L z tok (.it o I first) a b l n) : a ≤ b ∧ b ≤ tok.length := by
 obtain ⟨_, h2, h3, _⟩ := zCs h
 exact ⟨h2, h3⟩
def BalP (L : List OP) (tok : List TK) : Gl → Nat → Nat → Prop
 | .tr, a, b => bal L (sg tok a b) 0 = some 0
 | .it o I _, a, b => ∀ s J, o ∈ L → ofS o.1 = some s → itemsL s = J ++ I → bal L (sg tok a b) (b2n (hasp J && hasp I)) = some 0
theorem zRZ {o : OP} {s : SH} {J r : List Nm} {x : Nm} (U : Uq L) (ho : o ∈ L) (hs : ofS o.1 = some s) (hJ : itemsL s = J ++ x :: r) (hx : x ≠ []) {t : TK} (hp : partB t.k (txN t) x = true) : clB L t = hasp J ∧ opB L t = hasp r := by
 have hP : s.P = prs J ++ x :: prs r := by rw [← zCu hs, hJ, prs_app, zDe hx]
 exact zT5 U ho hs hP hp
theorem zRM (U : Uq L) {g : Gl} {a b n : Nat} {l : List ND} (h : Dv L z tok g a b l n) : BalP L tok g a b := by
 induction h with
 | @leaf a ha hl =>
  show bal L (sg tok a (a + 1)) 0 = some 0
  have w := (zSR hl).1
  rw [zEI (by omega) ha, zHM]
  unfold bal
  rw [w.1, w.2]; rfl
 | @paren a b t hb k1 t1 k2 t2 hd ih =>
  have hab := zB3 hd
  show bal L (sg tok a (b + 1)) 0 = some 0
  rw [zEI (by omega) (by omega), zKl tok (c := b) (by omega) (by omega), zEI (a := b) (by omega) hb, zHM]
  have w1 := (zCt (L := L) k1).1 t1
  have w2 := (zCt (L := L) k2).2 t2
  unfold bal
  rw [w1.1, w1.2, if_neg (by decide), bal_app]
  have e : bal L (sg tok (a + 1) b) (0 + 1) = some (0 + 1) := zIS L _ _ _ ih 1
  show (bal L (sg tok (a + 1) b) (0 + 1)).bind _ = _
  rw [e]
  show bal L [tat tok b] 1 = some 0
  unfold bal
  rw [w2.1, w2.2]; rfl
 | @oper a b n o s l ho hs hab _ ih =>
  exact ih s [] (zAq ho).1 hs rfl
 | @nil o first a ha =>
  intro s J _ _ _
  rw [zHM, show hasp [] = false from rfl, Bool.and_false]; rfl
 | @part o x r first a b n l hx ha hp hd ih =>
  intro s J ho hs hJ
  have w := zRZ U ho hs hJ hx hp
  have hab := zGZ hd
  have i2 := ih s (J ++ [x]) ho hs (by rw [hJ]; simp)
  rw [zQm, zKp hx, Bool.or_true, Bool.true_and] at i2
  rw [zKp hx, Bool.and_true, zEI (by omega) ha]
  unfold bal
  rw [w.1, w.2]
  cases hasp J with
  | true => rw [if_pos rfl]; show bal L _ (0 + b2n (hasp r)) = _; rw [Nat.zero_add]; exact i2
  | false => rw [if_neg (by decide)]; show bal L _ (0 + b2n (hasp r)) = _; rw [Nat.zero_add]; exact i2
 | @hole o r first a c b n x t l hd1 _ _ hd2 ih1 ih2 =>
  intro s J ho hs hJ
  have h1 := zB3 hd1
  have h2 := zGZ hd2
  have i2 := ih2 s (J ++ [[]]) ho hs (by rw [hJ]; simp)
  rw [zQm, show hasp [[]] = false from rfl, Bool.or_false] at i2
  rw [zEK, zKl tok (c := c) (by omega) (by omega), bal_app]
  have e : bal L (sg tok a c) (0 + b2n (hasp J && hasp r)) = some (0 + b2n (hasp J && hasp r)) := zIS L _ _ _ ih1 _
  rw [Nat.zero_add] at e
  rw [e]
  exact i2
def RestP (L : List OP) (z : List Int) (tok : List TK) : Gl → Nat → Nat → Prop
 | .tr, _, _ => True
 | .it o I _, a, b => ∀ s J, o ∈ L → ofS o.1 = some s → itemsL s = J ++ I → hasp J = true → ∃ e, a ≤ e ∧ e ≤ b ∧ bal L (sg tok a e) (b2n (hasp I)) = some 0 ∧ (∀ q, a ≤ q → q < e → ∃ h, bal L (sg tok a q) (b2n (hasp I)) = some (h + 1)) ∧ (e < b → ∃ x t, Dv L z tok .tr e b (x :: t) 1 ∧ mayH L z o x true = true)
theorem zTa (U : Uq L) {g : Gl} {a b n : Nat} {l : List ND} (h : Dv L z tok g a b l n) : RestP L z tok g a b := by
 induction h with
 | leaf => trivial
 | paren => trivial
 | oper => trivial
 | @nil o first a ha =>
  intro s J _ _ _ _
  exact ⟨a, Nat.le_refl _, Nat.le_refl _, by rw [zHM]; rfl, fun q h1 h2 => by omega, fun h => by omega⟩
 | @part o x r first a b n l hx ha hp hd ih =>
  intro s J ho hs hJ hj
  have w := zRZ U ho hs hJ hx hp
  have hab := zGZ hd
  obtain ⟨e, e1, e2, e3, e4, e5⟩ := ih s (J ++ [x]) ho hs (by rw [hJ]; simp) (by rw [zQm, zKp hx, Bool.or_true])
  have key : ∀ q, a + 1 ≤ q → bal L (sg tok a q) (b2n (hasp (x :: r))) = bal L (sg tok (a + 1) q) (b2n (hasp r)) := fun q hq => by
   rw [zKp hx, zEI (by omega) ha]
   show bal L (tat tok a :: _) 1 = _
   rw [show bal L (tat tok a :: sg tok (a + 1) q) 1 = if clB L (tat tok a) then bal L (sg tok (a + 1) q) (0 + b2n (opB L (tat tok a))) else bal L (sg tok (a + 1) q) (1 + b2n (opB L (tat tok a))) from rfl, w.1, w.2, hj, if_pos rfl, Nat.zero_add]
  refine ⟨e, by omega, e2, by rw [key e e1]; exact e3, fun q h1 h2 => ?_, e5⟩
  by_cases hq : q = a
  ·subst hq
   rw [zHM, zKp hx]
   exact ⟨0, rfl⟩
  ·rw [key q (by omega)]
   exact e4 q (by omega) h2
 | @hole o r first a c b n x t l hd1 _ hm2 hd2 ih1 ih2 =>
  intro s J ho hs hJ hj
  have h1 := zB3 hd1
  have h2 := zGZ hd2
  have i1 := zRM U hd1
  cases hr : hasp r with
  | true =>
   obtain ⟨e, e1, e2, e3, e4, e5⟩ := ih2 s (J ++ [[]]) ho hs (by rw [hJ]; simp) (by rw [zQm, hj, Bool.true_or])
   rw [hr] at e3 e4
   rw [zEK, hr]
   have e0 : bal L (sg tok a c) 1 = some 1 := zIS L _ _ _ i1 1
   refine ⟨e, by omega, e2, ?_, fun q q1 q2 => ?_, e5⟩
   ·rw [zKl tok (c := c) (by omega) e1, bal_app, show b2n true = 1 from rfl, e0]
    exact e3
   ·by_cases hq : q < c
    ·obtain ⟨m, hm⟩ := zKm i1 q1 (Nat.le_of_lt hq)
     exact ⟨m, zIS L _ _ _ hm 1⟩
    ·rw [zKl tok (c := c) (by omega) (by omega), bal_app, show b2n true = 1 from rfl, e0]
     exact e4 q (by omega) q2
  | false =>
   have hn := zQ7 J _ (hJ ▸ zJF hs)
   have hr0 : r = [] := by
    rcases zKq hn with h | ⟨y, r', rfl, hy⟩
    ·exact h
    ·rw [zKp hy] at hr; cases hr
   subst hr0
   cases hd2
   rw [zEK, hr]
   exact ⟨a, Nat.le_refl _, by omega, by rw [zHM]; rfl, fun q q1 q2 => by omega, fun _ => ⟨x, t, hd1, hm2 rfl⟩⟩
end
end
section
open Go.RowKit
section
variable {L : List OP} {z : List Int} {tok : List TK}
structure Fst (L : List OP) (z : List Int) (tok : List TK) (o : OP) (s : SH) (a b n : Nat) (l : List ND) (p : Nm) (P : List Nm) (f n' : Nat) (tl l' : List ND) : Prop where
 hP : s.P = p :: P
 h1 : a ≤ f
 h2 : f < b
 part : partB (tat tok f).k (txN (tat tok f)) p = true
 low : bal L (sg tok a f) 0 = some 0
 app : l = tl ++ l'
 num : n = n' + b2n s.l
 rest : Dv L z tok (.it o (sepN s.r P) false) (f + 1) b l' n'
 left : s.l = true → ∃ x t, tl = x :: t ∧ Dv L z tok .tr a f (x :: t) 1 ∧ mayH L z o x false = true
 none_ : s.l = false → f = a ∧ tl = []
theorem zQx (U : Uq L) {o : OP} {s : SH} (hs : ofS o.1 = some s) {a b n : Nat} {l : List ND} (D : Dv L z tok (.it o (itemsL s) true) a b l n) : ∃ p P f n' tl l', Fst L z tok o s a b n l p P f n' tl l' := by
 obtain ⟨h1, h2⟩ := zAc hs
 cases hP : s.P with
 | nil => exact absurd hP h1
 | cons p P =>
  have hp := (h2 p (by rw [hP]; simp)).1
  rw [zB2 hP] at D
  cases hl : s.l with
  | false =>
   rw [hl] at D
   cases D with
   | part hx ha hpt hd =>
    have := zGZ hd
    exact ⟨p, P, a, n, [], l, hP, Nat.le_refl _, by omega, hpt, by rw [zHM]; rfl, rfl, by rw [hl]; rfl, hd, (fun h => by rw [hl] at h; cases h), fun _ => ⟨rfl, rfl⟩⟩
   | hole => exact absurd rfl hp
  | true =>
   rw [hl] at D
   cases D with
   | part hx => exact absurd rfl hx
   | @hole _ _ _ _ c _ n' x t l' hd1 hm1 hm2 hd2 =>
    have hd2' : Dv L z tok (.it o (p :: sepN s.r P) false) c b l' n' := hd2
    cases hd2' with
    | part hx ha hpt hd =>
     have := zGZ hd
     have hc := zB3 hd1
     exact ⟨p, P, c, n', x :: t, l', hP, by omega, by omega, hpt, zRM U hd1, rfl, by rw [hl]; rfl, hd, (fun _ => ⟨x, t, rfl, hd1, hm1 rfl⟩), fun h => by rw [hl] at h; cases h⟩
    | hole => exact absurd rfl hp
theorem zR3 (U : Uq L) {o : OP} {s : SH} (ho : o ∈ L) (hs : ofS o.1 = some s) {a b n : Nat} {l : List ND} {p : Nm} {P : List Nm} {f n' : Nat} {tl l' : List ND} (F : Fst L z tok o s a b n l p P f n' tl l') :
  ∃ e, f < e ∧ e ≤ b ∧ bal L (sg tok a e) 0 = some 0 ∧ (∀ q, f < q → q < e → ∃ h, bal L (sg tok a q) 0 = some (h + 1)) ∧ (e < b → ∃ x t, Dv L z tok .tr e b (x :: t) 1 ∧ mayH L z o x true = true) := by
 have hp := ((zAc hs).2 p (by rw [F.hP]; simp)).1
 have hI : itemsL s = ((if s.l then [[]] else []) ++ [p]) ++ sepN s.r P := by rw [zB2 F.hP]; simp
 have hI2 : itemsL s = (if s.l then [[]] else []) ++ p :: sepN s.r P := zB2 F.hP
 have hj0 : hasp (if s.l then [[]] else ([] : List Nm)) = false := by cases s.l <;> rfl
 obtain ⟨e, e1, e2, e3, e4, e5⟩ := zTa U F.rest s _ ho hs hI (by rw [zQm, zKp hp, Bool.or_true])
 have w := zRZ U ho hs hI2 hp F.part
 have hb := zGZ F.rest
 have hlt : f < tok.length := by have := F.h2; omega
 have key : ∀ q, f + 1 ≤ q → bal L (sg tok a q) 0 = bal L (sg tok (f + 1) q) (b2n (hasp (sepN s.r P))) := fun q hq => by
  rw [zKl tok F.h1 (show f ≤ q by omega), bal_app, F.low, zEI (by omega) hlt]
  rw [show (some 0).bind (bal L (tat tok f :: sg tok (f + 1) q)) = if clB L (tat tok f) then none else bal L (sg tok (f + 1) q) (0 + b2n (opB L (tat tok f))) from rfl, w.1, w.2, hj0, if_neg (by decide), Nat.zero_add]
 refine ⟨e, by omega, e2, by rw [key e e1]; exact e3, fun q q1 q2 => ?_, e5⟩
 rw [key q q1]
 exact e4 q q1 q2
theorem zMg {o k : OP} {x : ND} {right : Bool} (hx : x.k = 3) (hn : findO L x.n = some k) (h : mayH L z o x right = true) : fitsB z o k right = true := by
 unfold mayH at h
 rw [if_pos hx, hn] at h
 exact h
theorem zRa (U : Uq L) (hz : RowsOk z) {o2 : OP} {s2 : SH} {p2 : Nm} {P2 : List Nm} (ho2 : o2 ∈ L) (hs2 : ofS o2.1 = some s2) (hP2 : s2.P = p2 :: P2) :
  ∀ (N a b : Nat) (x : ND) (t : List ND), b - a ≤ N → Dv L z tok .tr a b (x :: t) 1 → ∀ q, a ≤ q → q < b → bal L (sg tok a q) 0 = some 0 → partB (tat tok q).k (txN (tat tok q)) p2 = true →
   ∀ (o : OP) (right : Bool), mayH L z o x right = true → fitsB z o o2 right = true
 | 0, a, b, x, t, hN, D, q, q1, q2, hb, hp, o, right, hm => by omega
 | N + 1, a, b, x, t, hN, D, q, q1, q2, hb, hp, o, right, hm => by
  have hm2 : p2 ∈ s2.P := by rw [hP2]; simp
  cases D with
  | leaf ha hl =>
   obtain rfl : q = a := by omega
   have := (zSR hl).2 o2 ho2 s2 hs2 p2 hm2
   rw [this] at hp; cases hp
  | @paren _ b t hbl k1 t1 k2 t2 hd =>
   by_cases hq : q = a
   ·subst hq
    have h2 := (zEJ hp).2
    rw [t1] at h2
    exact absurd h2.symm ((zAc hs2).2 p2 hm2).2.1
   ·have hab := zB3 hd
    have w1 := (zCt (L := L) k1).1 t1
    obtain ⟨m, hm'⟩ := zKm (zRM U hd) (show a + 1 ≤ q by omega) (by omega)
    rw [zEI (by omega) (by omega)] at hb
    rw [show bal L (tat tok a :: sg tok (a + 1) q) 0 = if clB L (tat tok a) then none else bal L (sg tok (a + 1) q) (0 + b2n (opB L (tat tok a))) from rfl, w1.1, w1.2, if_neg (by decide)] at hb
    have h3 : bal L (sg tok (a + 1) q) (0 + b2n true) = some (m + 1) := zIS L _ _ _ hm' 1
    rw [h3] at hb
    cases hb
  | @oper _ _ n k s l hk hs hab hd =>
   have hkm := (zAq hk).1
   have hfit : fitsB z o k right = true := zMg rfl hk hm
   obtain ⟨p, P, f, n', tl, l', F⟩ := zQx U hs hd
   obtain ⟨e, e1, e2, e3, e4, e5⟩ := zR3 U hkm hs F
   have hf1 := F.h1
   have hf2 := F.h2
   by_cases hq : q < f
   ·have hsl : s.l = true := by
     cases hl : s.l with
     | true => rfl
     | false => have := (F.none_ hl).1; omega
    obtain ⟨x', t', _, hd', hm'⟩ := F.left hsl
    have h1 := zRa U hz ho2 hs2 hP2 N a f x' t' (by omega) hd' q q1 hq hb hp k false hm'
    cases right with
    | false => exact zDQ hz o k o2 false hfit h1
    | true => exact zE0 hz o k o2 true hfit h1
   ·by_cases hq2 : q = f
    ·subst hq2
     have h2 := (zEJ hp).2
     rw [(zEJ F.part).2] at h2
     have : k = o2 := U.one k hkm o2 ho2 s s2 hs hs2 p (by rw [F.hP]; simp) (by rw [h2]; exact hm2)
     rw [← this]; exact hfit
    ·by_cases hq3 : q < e
     ·obtain ⟨h, hh⟩ := e4 q (by omega) hq3
      rw [hh] at hb; cases hb
     ·obtain ⟨x', t', hd', hm'⟩ := e5 (by omega)
      rw [zSQ e3 (by omega) (by omega)] at hb
      have h1 := zRa U hz ho2 hs2 hP2 N e b x' t' (by omega) hd' q (by omega) q2 hb hp k true hm'
      cases right with
      | true => exact zDQ hz o k o2 true hfit h1
      | false => exact zE0 hz o k o2 false hfit h1
theorem zRt (U : Uq L) {o : OP} {s : SH} (ho : o ∈ L) (hs : ofS o.1 = some s) {N : Nat} (IH : ∀ (a b : Nat) (t t' : List ND), b - a ≤ N → Dv L z tok .tr a b t 1 → Dv L z tok .tr a b t' 1 → t = t') :
  ∀ (I J : List Nm) (a b : Nat) (fst fst' : Bool) (l l' : List ND) (n n' : Nat), itemsL s = J ++ I → hasp J = true → b - a ≤ N → Dv L z tok (.it o I fst) a b l n → Dv L z tok (.it o I fst') a b l' n' → l = l' ∧ n = n'
 | [], J, a, b, fst, fst', l, l', n, n', hJ, hj, hN, D, D' => by
  cases D
  cases D'
  exact ⟨rfl, rfl⟩
 | x :: r, J, a, b, fst, fst', l, l', n, n', hJ, hj, hN, D, D' => by
  by_cases hx : x ≠ []
  ·cases D with
   | hole => exact absurd rfl hx
   | part _ _ _ hd =>
    cases D' with
    | hole => exact absurd rfl hx
    | part _ _ _ hd' =>
     exact zRt U ho hs IH r (J ++ [x]) (a + 1) b _ _ l l' n n' (by rw [hJ]; simp) (by rw [zQm, hj, Bool.true_or]) (by omega) hd hd'
  ·obtain rfl : x = [] := Classical.not_not.1 hx
   cases D with
   | part h => exact absurd rfl h
   | @hole _ _ _ _ c _ m u t l1 hd1 _ _ hd2 =>
    cases D' with
    | part h => exact absurd rfl h
    | @hole _ _ _ _ c' _ m' u' t' l1' hd1' _ _ hd2' =>
     have h1 := zB3 hd1
     have h1' := zB3 hd1'
     have h2 := zGZ hd2
     have h2' := zGZ hd2'
     have hc : c = c' := by
      rcases zKq (zQ7 J _ (hJ ▸ zJF hs)) with h | ⟨y, r', rfl, hy⟩
      ·subst h
       cases hd2
       cases hd2'
       rfl
      ·have hJ' : itemsL s = (J ++ [[]]) ++ y :: r' := by rw [hJ]; simp
       have hj' : hasp (J ++ [[]]) = true := by rw [zQm, hj, Bool.true_or]
       have no : ∀ c c' : Nat, a < c → c < c' → c' ≤ tok.length → bal L (sg tok a c) 0 = some 0 → bal L (sg tok a c') 0 = some 0 → partB (tat tok c).k (txN (tat tok c)) y = true → False := by
        intro c c' k1 k2 k3 b1 b2 hp
        have w := zRZ U ho hs hJ' hy hp
        obtain ⟨m, hm⟩ := zKm b2 (show a ≤ c + 1 by omega) (by omega)
        rw [zKl tok (show a ≤ c by omega) (show c ≤ c + 1 by omega), bal_app, b1, zEI (by omega) (by omega), zHM] at hm
        rw [show (some 0).bind (bal L [tat tok c]) = if clB L (tat tok c) then none else some (0 + b2n (opB L (tat tok c))) from rfl, w.1, hj', if_pos rfl] at hm
        cases hm
       have g1 := zRM U hd1
       have g1' := zRM U hd1'
       have p1 : partB (tat tok c).k (txN (tat tok c)) y = true := by
        cases hd2 with
        | part _ _ hp _ => exact hp
        | hole => exact absurd rfl hy
       have p1' : partB (tat tok c').k (txN (tat tok c')) y = true := by
        cases hd2' with
        | part _ _ hp _ => exact hp
        | hole => exact absurd rfl hy
       rcases Nat.lt_trichotomy c c' with h | h | h
       ·exact (no c c' h1.1 h h1'.2 g1 g1' p1).elim
       ·exact h
       ·exact (no c' c h1'.1 h h1.2 g1' g1 p1').elim
     subst hc
     have e1 := IH a c (u :: t) (u' :: t') (by omega) hd1 hd1'
     obtain ⟨e2, e3⟩ := zRt U ho hs IH r (J ++ [[]]) c b _ _ l1 l1' m m' (by rw [hJ]; simp) (by rw [zQm, hj, Bool.true_or]) (by omega) hd2 hd2'
     rw [e1, e2, e3]
     exact ⟨rfl, rfl⟩
theorem zQy (U : Uq L) (hz : RowsOk z) : ∀ (N a b : Nat) (t t' : List ND), b - a ≤ N → Dv L z tok .tr a b t 1 → Dv L z tok .tr a b t' 1 → t = t'
 | 0, a, b, t, t', hN, D, D' => by have := zB3 D; omega
 | N + 1, a, b, t, t', hN, D, D' => by
  have leafNo : ∀ {t : List ND} {n : Nat} {o : OP} {s : SH} {l : List ND} {a b : Nat}, leafB (tat tok a).k (freeB L z (txN (tat tok a))) = true → b = a + 1 → findO L o.1 = some o → ofS o.1 = some s → Dv L z tok (.it o (itemsL s) true) a b l n → False := by
   intro t n o s l a b hl hb hk hs hd
   obtain ⟨p, P, f, n', tl, l', F⟩ := zQx U hs hd
   have hf1 := F.h1
   have hf2 := F.h2
   obtain rfl : f = a := by omega
   have := (zSR hl).2 o (zAq hk).1 s hs p (by rw [F.hP]; simp)
   rw [F.part] at this; cases this
  have parenNo : ∀ {t : List ND} {n : Nat} {o : OP} {s : SH} {l : List ND} {a b c : Nat}, (tat tok a).k = 6 → txN (tat tok a) = [40] → Dv L z tok .tr (a + 1) b t 1 → c = b + 1 → findO L o.1 = some o → ofS o.1 = some s → Dv L z tok (.it o (itemsL s) true) a c l n → False := by
   intro t n o s l a b c k1 t1 hdp hc hk hs hd
   obtain ⟨p, P, f, n', tl, l', F⟩ := zQx U hs hd
   have hf1 := F.h1
   have hf2 := F.h2
   have hab := zB3 hdp
   by_cases hfa : f = a
   ·have h2 := (zEJ F.part).2
    rw [hfa, t1] at h2
    exact ((zAc hs).2 p (by rw [F.hP]; simp)).2.1 h2.symm
   ·have w1 := (zCt (L := L) k1).1 t1
    obtain ⟨m, hm'⟩ := zKm (zRM U hdp) (show a + 1 ≤ f by omega) (by omega)
    have hb := F.low
    rw [zEI (by omega) (by omega)] at hb
    rw [show bal L (tat tok a :: sg tok (a + 1) f) 0 = if clB L (tat tok a) then none else bal L (sg tok (a + 1) f) (0 + b2n (opB L (tat tok a))) from rfl, w1.1, w1.2, if_neg (by decide)] at hb
    have h3 : bal L (sg tok (a + 1) f) (0 + b2n true) = some (m + 1) := zIS L _ _ _ hm' 1
    rw [h3] at hb
    cases hb
  have apart : ∀ {o1 o2 : OP} {s1 s2 : SH} {n1 n2 : Nat} {l1 l2 : List ND} {p1 p2 : Nm} {P1 P2 : List Nm} {f1 f2 m1 m2 : Nat} {tl1 tl2 r1 r2 : List ND}, o1 ∈ L → o2 ∈ L → ofS o1.1 = some s1 → ofS o2.1 = some s2 →
    Fst L z tok o1 s1 a b n1 l1 p1 P1 f1 m1 tl1 r1 → Fst L z tok o2 s2 a b n2 l2 p2 P2 f2 m2 tl2 r2 → f1 < f2 → False := by
   intro o1 o2 s1 s2 n1 n2 l1 l2 p1 p2 P1 P2 f1 f2 m1 m2 tl1 tl2 r1 r2 ho1 ho2 hs1 hs2 F1 F2 hlt
   obtain ⟨e, e1, e2, e3, e4, e5⟩ := zR3 U ho1 hs1 F1
   have g1 := F1.h1
   have g2 := F2.h2
   have hle : e ≤ f2 := by
    by_cases h : e ≤ f2
    ·exact h
    ·obtain ⟨h, hh⟩ := e4 f2 hlt (by omega)
     rw [F2.low] at hh; cases hh
   obtain ⟨x, t, hd, hm⟩ := e5 (by omega)
   have hlow : bal L (sg tok e f2) 0 = some 0 := (zSQ e3 (by omega) hle).1 F2.low
   have q1 := zRa U hz ho2 hs2 F2.hP _ e b x t (Nat.le_refl _) hd f2 hle g2 hlow F2.part o1 true hm
   have hsl : s2.l = true := by
    cases hl : s2.l with
    | true => rfl
    | false => have := (F2.none_ hl).1; omega
   obtain ⟨x', t', _, hd', hm'⟩ := F2.left hsl
   have q2 := zRa U hz ho1 hs1 F1.hP _ a f2 x' t' (Nat.le_refl _) hd' f1 g1 hlt F1.low F1.part o2 false hm'
   have := zSN hz o1 o2
   rw [q1, q2] at this
   cases this
  cases D with
  | leaf ha hl =>
   generalize hb : a + 1 = b at D'
   cases D' with
   | leaf => rfl
   | paren _ _ _ _ _ hd => have := zB3 hd; omega
   | oper hk hs hab hd => exact (leafNo (t := []) hl hb.symm hk hs hd).elim
  | @paren _ b t hbl k1 t1 k2 t2 hd =>
   generalize hb : b + 1 = c at D'
   have hab := zB3 hd
   cases D' with
   | leaf => omega
   | @paren _ b' t' _ _ _ _ _ hd' =>
    obtain rfl : b = b' := by omega
    rw [zQy U hz N (a + 1) b t t' (by omega) hd hd']
   | oper hk hs _ hd' => exact (parenNo k1 t1 hd hb.symm hk hs hd').elim
  | @oper _ _ n1 o1 s1 l1 hk1 hs1 hab hd1 =>
   generalize hc : b = c at D'
   cases D' with
   | leaf ha hl => exact (leafNo (t := []) hl hc hk1 hs1 hd1).elim
   | paren hbl k1 t1 k2 t2 hd => exact (parenNo k1 t1 hd hc hk1 hs1 hd1).elim
   | @oper _ _ n2 o2 s2 l2 hk2 hs2 _ hd2 =>
    subst hc
    obtain ⟨p1, P1, f1, m1, tl1, r1, F1⟩ := zQx U hs1 hd1
    obtain ⟨p2, P2, f2, m2, tl2, r2, F2⟩ := zQx U hs2 hd2
    have ho1 := (zAq hk1).1
    have ho2 := (zAq hk2).1
    have hf : f1 = f2 := by
     rcases Nat.lt_trichotomy f1 f2 with h | h | h
     ·exact (apart ho1 ho2 hs1 hs2 F1 F2 h).elim
     ·exact h
     ·exact (apart ho2 ho1 hs2 hs1 F2 F1 h).elim
    subst hf
    have hp : p1 = p2 := by rw [← (zEJ F1.part).2, ← (zEJ F2.part).2]
    have ho : o1 = o2 := U.one o1 ho1 o2 ho2 s1 s2 hs1 hs2 p1 (by rw [F1.hP]; simp) (by rw [hp, F2.hP]; simp)
    subst ho
    rw [hs1] at hs2; cases hs2
    have hPP : P1 = P2 := by have := F1.hP; rw [F2.hP] at this; exact (List.cons.inj this).2.symm
    subst hPP
    have g1 := F1.h1
    have g2 := F1.h2
    have hpn := ((zAc hs1).2 p1 (by rw [F1.hP]; simp)).1
    obtain ⟨q1, q2⟩ := zRt U ho1 hs1 (zQy U hz N) (sepN s1.r P1) ((if s1.l then [[]] else []) ++ [p1]) (f1 + 1) b _ _ _ _ _ _ (by rw [zB2 F1.hP]; simp) (by rw [zQm, zKp hpn, Bool.or_true]) (by omega) F1.rest F2.rest
    have q3 : tl1 = tl2 := by
     cases hl : s1.l with
     | false => rw [(F1.none_ hl).2, (F2.none_ hl).2]
     | true =>
      obtain ⟨x, t, e, hd, _⟩ := F1.left hl
      obtain ⟨x', t', e', hd', _⟩ := F2.left hl
      rw [e, e']
      exact zQy U hz N a f1 _ _ (by omega) hd hd'
    rw [F1.app, F2.app, F1.num, F2.num, q1, q2, q3]
theorem zRh (hU : uniqB L = true) (hz : RowsOk z) {t t' : List ND} (h : rightB L z tok t = true) (h' : rightB L z tok t' = true) : t = t' :=
 zQy (zUM hU) hz _ _ _ _ _ (Nat.le_refl _) (zQs.1 h) (zQs.1 h')
end
end
end Go.Proofs.YtcjbhdgjcpnklaaGreatDoor
