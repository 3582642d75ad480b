import Derived.Test.YtanhpgmiadgmjaaGreatDoorR21
import Derived.Test.YtanhpgmiadgmjaaGreatDoorR27
namespace Go.Proofs.YtanhpgmiadgmjaaGreatDoor
open Go.RowKit
structure Uq (L : List OP) : Prop where
 one : ∀ o ∈ L, ∀ o' ∈ L, ∀ s s', ofS o.1 = some s → ofS o'.1 = some s' → ∀ x, x ∈ s.P → x ∈ s'.P → o = o'
 nd : ∀ o ∈ L, ∀ s, ofS o.1 = some s → s.P.Nodup
theorem prt_of {o : OP} {s : SH} (h : ofS o.1 = some s) : prt o.1 = s.P := by unfold prt; rw [ofR_some h]
theorem uq_of {L : List OP} (h : uniqB L = true) : Uq L := by
 have h' : (allP L).Nodup := of_decide_eq_true h
 clear h
 induction L with
 | nil => exact ⟨(fun o ho => by cases ho), (fun o ho => by cases ho)⟩
 | cons u L ih =>
  have e : allP (u :: L) = prt u.1 ++ allP L := by unfold allP; rw [List.flatMap_cons]
  rw [e, List.nodup_append] at h'
  have I := ih h'.2.1
  have hin : ∀ o ∈ L, ∀ x ∈ prt o.1, x ∈ allP L := fun o ho x hx => List.mem_flatMap.2 ⟨o, ho, hx⟩
  refine ⟨fun o ho o' ho' s s' hs hs' x hx hx' => ?_, fun o ho s hs => ?_⟩
  ·rw [← prt_of hs] at hx
   rw [← prt_of hs'] at hx'
   rcases List.mem_cons.1 ho with rfl | ho1
   ·rcases List.mem_cons.1 ho' with rfl | ho2
    ·rfl
    ·exact absurd rfl (h'.2.2 x hx x (hin o' ho2 x hx'))
   ·rcases List.mem_cons.1 ho' with rfl | ho2
    ·exact absurd rfl (h'.2.2 x hx' x (hin o ho1 x hx))
    ·exact I.one o ho1 o' ho2 s s' hs hs' x (by rw [← prt_of hs]; exact hx) (by rw [← prt_of hs']; exact hx')
  ·rcases List.mem_cons.1 ho with rfl | ho
   ·rw [← prt_of hs]; exact h'.1
   ·exact I.nd o ho s hs
theorem findO_mem {L : List OP} {p : Nm} {o : OP} (h : findO L p = some o) : o ∈ L ∧ o.1 = p := ⟨List.mem_of_find?_eq_some h, by have := List.find?_some h; simpa using this⟩
theorem parts_ok {p : Nm} {s : SH} (h : ofS p = some s) : s.P ≠ [] ∧ (∀ x ∈ s.P, x ≠ [] ∧ x ≠ [40] ∧ x ≠ [41]) := by
 obtain ⟨_, _, hm, hw, _⟩ := ofS_some h
 refine ⟨hw.1, fun x hx => ?_⟩
 unfold shM at hm
 simp only [Bool.and_eq_true] at hm
 have hs := List.all_eq_true.1 hm.2.2 x hx
 have hb : bar x = false := by
  unfold stB at hs
  simp only [Bool.and_eq_true, Bool.not_eq_true'] at hs
  exact hs.1
 refine ⟨stB_ne hs, ?_, ?_⟩
 ·rintro rfl; revert hb; decide
 ·rintro rfl; revert hb; decide
def sepN (b : Bool) : List Nm → List Nm
 | [] => if b then [[]] else []
 | q :: P => [] :: q :: sepN b P
theorem sep_cons (b : Bool) : ∀ (p : Nm) (P : List Nm), sepL (p :: P) ++ (if b then [[]] else []) = p :: sepN b P
 | p, [] => rfl
 | p, q :: P => by
  show p :: [] :: sepL (q :: P) ++ _ = _
  rw [List.cons_append, List.cons_append, sep_cons b q P]; rfl
theorem items_eq {s : SH} {p : Nm} {P : List Nm} (h : s.P = p :: P) : itemsL s = (if s.l then [[]] else []) ++ p :: sepN s.r P := by
 unfold itemsL; rw [h, sep_cons]
def isP (x : TK) : Bool := x.k == 1 || (x.k == 2 || x.k == 6)
def clB (L : List OP) (x : TK) : Bool := (x.k == 6 && txN x == [41]) || (isP x && L.any fun o => match ofS o.1 with | some s => s.P.tail.contains (txN x) | none => false)
def opB (L : List OP) (x : TK) : Bool := (x.k == 6 && txN x == [40]) || (isP x && L.any fun o => match ofS o.1 with | some s => s.P.dropLast.contains (txN x) | none => false)
def b2n (b : Bool) : Nat := if b then 1 else 0
def bal (L : List OP) : List TK → Nat → Option Nat
 | [], h => some h
 | x :: r, h => if clB L x then (match h with | 0 => none | h + 1 => bal L r (h + b2n (opB L x))) else bal L r (h + b2n (opB L x))
theorem bal_up (L : List OP) : ∀ (s : List TK) (h m : Nat), bal L s h = some m → ∀ d, bal L s (h + d) = some (m + d)
 | [], h, m, e, d => by cases e; rfl
 | x :: r, h, m, e, d => by
  unfold bal at e ⊢
  by_cases hc : clB L x = true
  ·rw [if_pos hc] at e ⊢
   cases h with
   | zero => cases e
   | succ h =>
    rw [show h + 1 + d = (h + d) + 1 by omega]
    have := bal_up L r _ _ e d
    rw [show h + b2n (opB L x) + d = h + d + b2n (opB L x) by omega] at this
    exact this
  ·rw [if_neg hc] at e ⊢
   have := bal_up L r _ _ e d
   rw [show h + b2n (opB L x) + d = h + d + b2n (opB L x) by omega] at this
   exact this
theorem bal_app (L : List OP) : ∀ (s t : List TK) (h : Nat), bal L (s ++ t) h = (bal L s h).bind (bal L t)
 | [], t, h => rfl
 | x :: r, t, h => by
  rw [List.cons_append]
  unfold bal
  by_cases hc : clB L x = true
  ·rw [if_pos hc, if_pos hc]
   cases h with
   | zero => rfl
   | succ h => exact bal_app L r t _
  ·rw [if_neg hc, if_neg hc]
   exact bal_app L r t _
def sg (tok : List TK) (a b : Nat) : List TK := (tok.drop a).take (b - a)
theorem sg_self (tok : List TK) (a : Nat) : sg tok a a = [] := by unfold sg; rw [Nat.sub_self]; rfl
theorem sg_app (tok : List TK) {a c b : Nat} (h1 : a ≤ c) (h2 : c ≤ b) : sg tok a b = sg tok a c ++ sg tok c b := by
 unfold sg
 rw [show b - a = (c - a) + (b - c) by omega, List.take_add, List.drop_drop, show a + (c - a) = c by omega]
theorem sg_cons {tok : List TK} {a b : Nat} (h : a < b) (ha : a < tok.length) : sg tok a b = tat tok a :: sg tok (a + 1) b := by
 unfold sg
 rw [show b - a = (b - (a + 1)) + 1 by omega, List.drop_eq_getElem_cons ha, List.take_succ_cons]
 congr 1
 unfold tat
 simp [List.getD, ha]
theorem bal_pre {L : List OP} {tok : List TK} {a q b h m : Nat} (e : bal L (sg tok a b) h = some m) (h1 : a ≤ q) (h2 : q ≤ b) : ∃ m', bal L (sg tok a q) h = some m' := by
 rw [sg_app tok h1 h2, bal_app] at e
 cases hb : bal L (sg tok a q) h with
 | none => rw [hb] at e; cases e
 | some m' => exact ⟨m', rfl⟩
theorem bal_cut {L : List OP} {tok : List TK} {a q b h m k : Nat} (e : bal L (sg tok a q) h = some m) (h1 : a ≤ q) (h2 : q ≤ b) : bal L (sg tok a b) h = some k ↔ bal L (sg tok q b) m = some k := by
 rw [sg_app tok h1 h2, bal_app, e]; rfl
theorem mem_dl {P : List Nm} {y : Nm} (h : y ∈ P.dropLast) : y ∈ P := (List.dropLast_sublist P).subset h
theorem isP_of {x : TK} {y : Nm} (h : partB x.k (txN x) y = true) : isP x = true ∧ txN x = y := by
 unfold partB at h
 rw [Bool.and_eq_true, beq_iff_eq] at h
 exact ⟨h.1, h.2⟩
theorem any_part {L : List OP} (U : Uq L) {o : OP} {s : SH} (ho : o ∈ L) (hs : ofS o.1 = some s) {x : Nm} (hx : x ∈ s.P) (F : List Nm → List Nm) (hF : ∀ P, ∀ y ∈ F P, y ∈ P) :
  (L.any fun o => match ofS o.1 with | some s => (F s.P).contains x | none => false) = (F s.P).contains x := by
 rw [Bool.eq_iff_iff, List.any_eq_true]
 constructor
 ·rintro ⟨o', ho', h⟩
  cases hs' : ofS o'.1 with
  | none => rw [hs'] at h; cases h
  | some s' =>
   rw [hs'] at h
   dsimp only at h
   have hx' : x ∈ F s'.P := by simpa using h
   have := U.one o ho o' ho' s s' hs hs' x hx (hF _ _ hx')
   subst this
   rw [hs] at hs'; cases hs'
   exact h
 ·intro h
  exact ⟨o, ho, by rw [hs]; exact h⟩
theorem part_w {L : List OP} (U : Uq L) {o : OP} {s : SH} (ho : o ∈ L) (hs : ofS o.1 = some s) {A B : List Nm} {y : Nm} (hP : s.P = A ++ y :: B) {x : TK} (h : partB x.k (txN x) y = true) : clB L x = !A.isEmpty ∧ opB L x = !B.isEmpty := by
 obtain ⟨h1, h2⟩ := isP_of h
 have hy : y ∈ s.P := by rw [hP]; simp
 have hok := (parts_ok hs).2 y hy
 have hnd := U.nd o ho s hs
 rw [hP] at hnd
 have hnA : y ∉ A := fun hA => (List.nodup_append.1 hnd).2.2 y hA y (List.mem_cons_self ..) rfl
 have hnB : y ∉ B := (List.nodup_cons.1 (List.nodup_append.1 hnd).2.1).1
 unfold clB opB
 rw [h1, h2, show (y == [41]) = false by simpa using hok.2.2, show (y == [40]) = false by simpa using hok.2.1, Bool.and_false, Bool.false_or, Bool.true_and, Bool.false_or, Bool.true_and]
 rw [any_part U ho hs hy List.tail (fun P y h => List.mem_of_mem_tail h), any_part U ho hs hy List.dropLast (fun P y h => mem_dl h), hP]
 refine ⟨?_, ?_⟩
 ·cases A with
  | nil => simpa using hnB
  | cons a A => simp
 ·cases hB : B with
  | nil =>
   rw [List.dropLast_concat]
   simpa using hnA
  | cons b B' =>
   rw [List.dropLast_append_of_ne_nil (by simp), List.dropLast_cons_of_ne_nil (by simp)]
   simp
theorem not_any {L : List OP} {x : Nm} (h : ∀ o ∈ L, ∀ s, ofS o.1 = some s → x ∉ s.P) (F : List Nm → List Nm) (hF : ∀ P, ∀ y ∈ F P, y ∈ P) :
  (L.any fun o => match ofS o.1 with | some s => (F s.P).contains x | none => false) = false := by
 rw [Bool.eq_false_iff]
 intro ha
 obtain ⟨o, ho, h2⟩ := List.any_eq_true.1 ha
 cases hs : ofS o.1 with
 | none => rw [hs] at h2; cases h2
 | some s =>
  rw [hs] at h2
  exact h o ho s hs (hF _ _ (by simpa using h2))
theorem bracket_w {L : List OP} {x : TK} (hk : x.k = 6) : (txN x = [40] → clB L x = false ∧ opB L x = true) ∧ (txN x = [41] → clB L x = true ∧ opB L x = false) := by
 have hno : ∀ y : Nm, (y = [40] ∨ y = [41]) → ∀ o ∈ L, ∀ s, ofS o.1 = some s → y ∉ s.P := fun y hy o _ s hs hm => by
  have := (parts_ok hs).2 y hm
  rcases hy with h | h
  ·exact this.2.1 h
  ·exact this.2.2 h
 refine ⟨fun ht => ?_, fun ht => ?_⟩
 ·unfold clB opB
  rw [ht, hk, not_any (hno _ (.inl rfl)) List.tail (fun P y h => List.mem_of_mem_tail h)]
  exact ⟨by rw [Bool.and_false]; rfl, rfl⟩
 ·unfold clB opB
  rw [ht, hk, not_any (hno _ (.inr rfl)) List.dropLast (fun P y h => mem_dl h)]
  exact ⟨rfl, by rw [Bool.and_false]; rfl⟩
theorem free_no {L : List OP} {z : List Int} {x : Nm} (h : freeB L z x = true) : ∀ o ∈ L, ∀ s, ofS o.1 = some s → x ∉ s.P := by
 intro o ho s hs hx
 unfold freeB entL at h
 rw [beq_iff_eq, List.length_map] at h
 have h2 := List.eq_nil_of_length_eq_zero h
 have h3 : o ∈ L.filter (hasP x) := List.mem_filter.2 ⟨ho, by unfold hasP; rw [prt_of hs]; simpa using hx⟩
 rw [h2] at h3
 cases h3
theorem leaf_k {k : Int} {fr : Bool} (h : leafB k fr = true) : (k = 3 ∨ k = 4 ∨ k = 5) ∨ ((k = 1 ∨ k = 2) ∧ fr = true) := by
 unfold leafB at h
 simp only [Bool.or_eq_true, Bool.and_eq_true, beq_iff_eq] at h
 omega
theorem leaf_w {L : List OP} {z : List Int} {x : TK} (h : leafB x.k (freeB L z (txN x)) = true) : (clB L x = false ∧ opB L x = false) ∧ ∀ o ∈ L, ∀ s, ofS o.1 = some s → ∀ y ∈ s.P, partB x.k (txN x) y = false := by
 rcases leaf_k h with hk | ⟨hk, hf⟩
 ·have h1 : isP x = false := by unfold isP; rcases hk with h | h | h <;> rw [h] <;> rfl
  have h6 : (x.k == 6) = false := by rcases hk with h | h | h <;> rw [h] <;> rfl
  refine ⟨?_, fun o ho s hs y hy => ?_⟩
  ·unfold clB opB
   rw [h1, h6]
   exact ⟨rfl, rfl⟩
  ·unfold partB
   rw [show (x.k == 1 || (x.k == 2 || x.k == 6)) = isP x from rfl, h1]; rfl
 ·have hno := free_no hf
  have h6 : (x.k == 6) = false := by rcases hk with h | h <;> rw [h] <;> rfl
  refine ⟨?_, fun o ho s hs y hy => ?_⟩
  ·unfold clB opB
   rw [h6, not_any hno List.tail (fun P y h => List.mem_of_mem_tail h), not_any hno List.dropLast (fun P y h => mem_dl h), Bool.and_false]
   exact ⟨rfl, rfl⟩
  ·rw [Bool.eq_false_iff]
   intro hp
   exact hno o ho s hs (by rw [(isP_of hp).2]; exact hy)
end Go.Proofs.YtanhpgmiadgmjaaGreatDoor
