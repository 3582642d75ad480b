import Derived.Test.YtanhpgmiadgmjaaGreatDoorR14
import Derived.Test.YtanhpgmiadgmjaaGreatDoorR16
import Derived.Test.YtanhpgmiadgmjaaGreatDoorR17
import Derived.Test.YtanhpgmiadgmjaaGreatDoorR20
import Derived.Test.YtanhpgmiadgmjaaGreatDoorR23
namespace Go.Proofs.YtanhpgmiadgmjaaGreatDoor
section
open Go.RowKit
def sideV (right : Bool) : Int := if right then 2 else 1
def endB (s : SH) (right : Bool) : Bool := if right then s.r else s.l
def fitsB (z : List Int) (o k : OP) (right : Bool) : Bool :=
 match ofS o.1, ofS k.1 with
 | some s, some t => endB s right && ((!t.l && !t.r) || (tgt z o.2.1 k.2.1 || (o.2.1 == k.2.1 && (o.2.2 == sideV right && k.2.2 == sideV right))))
 | _, _ => false
theorem fitsB_some {z : List Int} {o k : OP} {right : Bool} {s t : SH} (ho : ofS o.1 = some s) (hk : ofS k.1 = some t) : fitsB z o k right = (endB s right && ((!t.l && !t.r) || (tgt z o.2.1 k.2.1 || (o.2.1 == k.2.1 && (o.2.2 == sideV right && k.2.2 == sideV right))))) := by
 unfold fitsB; rw [ho, hk]
theorem fitsB_no1 {z : List Int} {o : OP} (k : OP) (right : Bool) (ho : ofS o.1 = none) : fitsB z o k right = false := by
 unfold fitsB; rw [ho]
theorem fitsB_no2 {z : List Int} (o : OP) {k : OP} (right : Bool) (hk : ofS k.1 = none) : fitsB z o k right = false := by
 unfold fitsB; rw [hk]
 cases ofS o.1 <;> rfl
theorem fitsB_iff {z : List Int} {o k : OP} {right : Bool} : fitsB z o k right = true ↔ ∃ s t, ofS o.1 = some s ∧ ofS k.1 = some t ∧ endB s right = true ∧ ((t.l = false ∧ t.r = false) ∨ tgt z o.2.1 k.2.1 = true ∨ (o.2.1 = k.2.1 ∧ o.2.2 = sideV right ∧ k.2.2 = sideV right)) := by
 cases ho : ofS o.1 with
 | none => rw [fitsB_no1 k right ho]; simp
 | some s =>
  cases hk : ofS k.1 with
  | none => rw [fitsB_no2 o right hk]; simp
  | some t =>
   rw [fitsB_some ho hk]
   simp only [Bool.and_eq_true, Bool.or_eq_true, Bool.not_eq_true', beq_iff_eq]
   constructor
   ·rintro ⟨h1, h2⟩
    exact ⟨s, t, rfl, rfl, h1, h2⟩
   ·rintro ⟨s', t', hs, ht, h1, h2⟩
    cases hs; cases ht
    exact ⟨h1, h2⟩
def RowsOk (z : List Int) : Prop := ∃ E, Inv z E
theorem rowsOk_start : RowsOk zS := ⟨[], inv_start⟩
theorem rowsOk_edge {z : List Int} (h : RowsOk z) {g k : Int} (he : eE z g k = 0) : RowsOk (eV z g k) := by
 obtain ⟨E, H⟩ := h
 unfold eV
 rw [if_pos he]
 unfold eE at he
 by_cases hb : inB 1 [g, k] = true
 ·rw [if_pos hb] at he
  by_cases hc : g = k ∨ T z k.toNat g.toNat = true
  ·rw [if_pos hc] at he; cases he
  ·rw [inB_two] at hb
   refine ⟨_, H.edge (g := g.toNat) (h := k.toNat) ⟨by show 1 ≤ g.toNat; omega, by show g.toNat ≤ 9; omega, by show 1 ≤ k.toNat; omega, by show k.toNat ≤ 9; omega⟩ (fun e => hc (.inl (by omega))) ?_⟩
   cases ht : T z k.toNat g.toNat with
   | true => exact absurd (.inr ht) hc
   | false => rfl
 ·rw [if_neg hb] at he; cases he
theorem tgt_trans {z : List Int} (h : RowsOk z) {a b c : Int} (h1 : tgt z a b = true) (h2 : tgt z b c = true) : tgt z a c = true := by
 obtain ⟨E, H⟩ := h
 unfold tgt at h1 h2 ⊢
 rw [Bool.and_eq_true, inB_two] at h1 h2 ⊢
 refine ⟨⟨h1.1.1, h2.1.2⟩, ?_⟩
 exact (H.T (by omega)).2 (Ld.trans ((H.T (by omega)).1 h1.2) ((H.T (by omega)).1 h2.2))
theorem tgt_asym {z : List Int} (h : RowsOk z) {a b : Int} (h1 : tgt z a b = true) (h2 : tgt z b a = true) : False := by
 have h3 := tgt_trans h h1 h2
 obtain ⟨E, H⟩ := h
 unfold tgt at h3
 rw [Bool.and_eq_true, inB_two] at h3
 exact H.acy _ ((H.T (by omega)).1 h3.2)
theorem tgt_irr {z : List Int} (h : RowsOk z) {a : Int} (h1 : tgt z a a = true) : False := tgt_asym h h1 h1
theorem fits_once {z : List Int} (h : RowsOk z) (o k : OP) : (fitsB z o k true && fitsB z k o false) = false := by
 rw [Bool.eq_false_iff]
 intro hh
 rw [Bool.and_eq_true] at hh
 obtain ⟨s, t, hs, ht, e1, c1⟩ := fitsB_iff.1 hh.1
 obtain ⟨t', s', ht', hs', e2, c2⟩ := fitsB_iff.1 hh.2
 rw [ht] at ht'; cases ht'
 rw [hs] at hs'; cases hs'
 have hr : s.r = true := e1
 have hl : t.l = true := e2
 have d1 : ¬ (t.l = false ∧ t.r = false) := fun x => by rw [hl] at x; cases x.1
 have d2 : ¬ (s.l = false ∧ s.r = false) := fun x => by rw [hr] at x; cases x.2
 rcases c1.resolve_left d1 with g1 | ⟨g1, a1, b1⟩
 ·rcases c2.resolve_left d2 with g2 | ⟨g2, _, _⟩
  ·exact tgt_asym h g1 g2
  ·rw [g2] at g1; exact tgt_irr h g1
 ·rcases c2.resolve_left d2 with g2 | ⟨_, a2, _⟩
  ·rw [g1] at g2; exact tgt_irr h g2
  ·rw [b1] at a2; exact absurd a2 (by decide)
theorem fits_through {z : List Int} (h : RowsOk z) (a b c : OP) (right : Bool) (h1 : fitsB z a b right = true) (h2 : fitsB z b c right = true) : fitsB z a c right = true := by
 obtain ⟨s, t, hs, ht, e1, c1⟩ := fitsB_iff.1 h1
 obtain ⟨t', u, ht', hu, e2, c2⟩ := fitsB_iff.1 h2
 rw [ht] at ht'; cases ht'
 refine fitsB_iff.2 ⟨s, u, hs, hu, e1, ?_⟩
 have d1 : ¬ (t.l = false ∧ t.r = false) := fun x => by
  unfold endB at e2
  cases right
  ·rw [if_neg (by decide), x.1] at e2; cases e2
  ·rw [if_pos rfl, x.2] at e2; cases e2
 rcases c2 with hc | hc
 ·exact .inl hc
 ·right
  rcases c1.resolve_left d1 with g1 | ⟨g1, a1, b1⟩
  ·rcases hc with g2 | ⟨g2, _, _⟩
   ·exact .inl (tgt_trans h g1 g2)
   ·rw [← g2]; exact .inl g1
  ·rcases hc with g2 | ⟨g2, _, c2⟩
   ·rw [g1]; exact .inl g2
   ·exact .inr ⟨g1.trans g2, a1, c2⟩
theorem fits_cross {z : List Int} (h : RowsOk z) (a b c : OP) (right : Bool) (h1 : fitsB z a b right = true) (h2 : fitsB z b c (!right) = true) : fitsB z a c right = true := by
 obtain ⟨s, t, hs, ht, e1, c1⟩ := fitsB_iff.1 h1
 obtain ⟨t', u, ht', hu, e2, c2⟩ := fitsB_iff.1 h2
 rw [ht] at ht'; cases ht'
 refine fitsB_iff.2 ⟨s, u, hs, hu, e1, ?_⟩
 have d1 : ¬ (t.l = false ∧ t.r = false) := fun x => by
  unfold endB at e2
  cases right
  ·rw [show (!false) = true from rfl, if_pos rfl, x.2] at e2; cases e2
  ·rw [show (!true) = false from rfl, if_neg (by decide), x.1] at e2; cases e2
 rcases c2 with hc | hc
 ·exact .inl hc
 ·right
  rcases c1.resolve_left d1 with g1 | ⟨g1, a1, b1⟩
  ·rcases hc with g2 | ⟨g2, _, _⟩
   ·exact .inl (tgt_trans h g1 g2)
   ·rw [← g2]; exact .inl g1
  ·rcases hc with g2 | ⟨_, a2, _⟩
   ·rw [g1]; exact .inl g2
   ·rw [b1] at a2
    cases right
    ·exact absurd a2 (by decide)
    ·exact absurd a2 (by decide)
def partB (k : Int) (s name : Nm) : Bool := (k == 1 || (k == 2 || k == 6)) && s == name
def leafB (k : Int) (fr : Bool) : Bool := (k == 3 || (k == 4 || k == 5)) || ((k == 1 || k == 2) && fr)
end
section
open Go.RowKit
theorem stq_rows {L : List OP} {z : List Int} (h : RowsOk z) (k g hh : Nat) (o : OP) : RowsOk (stq L z k g hh o).2 := by
 unfold stq
 split
 ·rename_i he
  unfold chK at he ⊢
  split
  ·rename_i h2
   rw [if_pos h2] at he
   exact rowsOk_edge h he
  ·rename_i h2
   rw [if_neg h2] at he
   split
   ·rename_i h3
    rw [if_pos h3] at he
    show RowsOk (drpZ L z o.1)
    unfold drpZ
    rw [if_pos he]; exact h
   ·rename_i h3
    rw [if_neg h3] at he
    show RowsOk (addZ L z o)
    unfold addZ
    rw [if_pos he]; exact h
 ·exact h
theorem mkE_rows (C : List CH) : RowsOk (mkE C).2 := by
 suffices h : ∀ (D : List CH) (s : List OP × List Int), RowsOk s.2 → RowsOk (D.foldl (fun s x => stq s.1 s.2 x.1 x.2.1 x.2.2.1 (fitO x.2.2.2)) s).2 from h C _ rowsOk_start
 intro D
 induction D with
 | nil => exact fun s h => h
 | cons x D ih => exact fun s h => ih _ (stq_rows h _ _ _ _)
end
section
open Go.RowKit Go.ChangeShapes Go.WideShapes Go.ChangeAt
theorem cellsTok : Tryz.prog.cellsOf 41 = 5 := by kernel_rfl
structure TA where
 k : Int
 f : Int
 t : Int
 s : ByteArray
 e : Int
def TA.d {H : Type} (x : TA) : DataW H := .agg [.lit (.int .i64 x.k), .lit (.int .i64 x.f), .lit (.int .i64 x.t), .lit (.string x.s.data.toList), .lit (.int .i64 x.e)]
section
variable {H : Type} {enc : TypeId × Value → H} {w : World} {base : Nat} {held : Bool}
end
end
section
open Go.RowKit Go.ChangeShapes Go.WideShapes Go.ChangeAt
section
variable {H : Type} {enc : TypeId × Value → H} {w : World} {base : Nat} {held : Bool}
def OA.cs (e : OA) : List Value := [.string e.s, .int .i64 e.g, .int .i64 e.a]
end
end
end Go.Proofs.YtanhpgmiadgmjaaGreatDoor
