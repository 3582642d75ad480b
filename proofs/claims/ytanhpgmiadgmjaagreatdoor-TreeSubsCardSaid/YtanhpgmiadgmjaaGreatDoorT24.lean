import Derived.Test.YtanhpgmiadgmjaaGreatDoorT14
import Derived.Test.YtanhpgmiadgmjaaGreatDoorT16
import Derived.Test.YtanhpgmiadgmjaaGreatDoorT17
import Derived.Test.YtanhpgmiadgmjaaGreatDoorT20
import Derived.Test.YtanhpgmiadgmjaaGreatDoorT23
namespace Go.Proofs.YtanhpgmiadgmjaaGreatDoor
section
open Go.RowKit
def sideV (right : Bool) : Int := if right then 2 else 1
def endB (s : SH) (right : Bool) : Bool := if right then s.r else s.l
def fitsB (z : List Int) (o k : OP) (right : Bool) : Bool :=
 match ofS o.1, ofS k.1 with
 | some s, some t => endB s right && ((!t.l && !t.r) || (tgt z o.2.1 k.2.1 || (o.2.1 == k.2.1 && (o.2.2 == sideV right && k.2.2 == sideV right))))
 | _, _ => false
theorem fitsB_some {z : List Int} {o k : OP} {right : Bool} {s t : SH} (ho : ofS o.1 = some s) (hk : ofS k.1 = some t) : fitsB z o k right = (endB s right && ((!t.l && !t.r) || (tgt z o.2.1 k.2.1 || (o.2.1 == k.2.1 && (o.2.2 == sideV right && k.2.2 == sideV right))))) := by
 unfold fitsB; rw [ho, hk]
theorem fitsB_no1 {z : List Int} {o : OP} (k : OP) (right : Bool) (ho : ofS o.1 = none) : fitsB z o k right = false := by
 unfold fitsB; rw [ho]
theorem fitsB_no2 {z : List Int} (o : OP) {k : OP} (right : Bool) (hk : ofS k.1 = none) : fitsB z o k right = false := by
 unfold fitsB; rw [hk]
 cases ofS o.1 <;> rfl
def RowsOk (z : List Int) : Prop := ∃ E, Inv z E
theorem rowsOk_start : RowsOk zS := ⟨[], inv_start⟩
theorem rowsOk_edge {z : List Int} (h : RowsOk z) {g k : Int} (he : eE z g k = 0) : RowsOk (eV z g k) := by
 obtain ⟨E, H⟩ := h
 unfold eV
 rw [if_pos he]
 unfold eE at he
 by_cases hb : inB 1 [g, k] = true
 ·rw [if_pos hb] at he
  by_cases hc : g = k ∨ T z k.toNat g.toNat = true
  ·rw [if_pos hc] at he; cases he
  ·rw [inB_two] at hb
   refine ⟨_, H.edge (g := g.toNat) (h := k.toNat) ⟨by show 1 ≤ g.toNat; omega, by show g.toNat ≤ 9; omega, by show 1 ≤ k.toNat; omega, by show k.toNat ≤ 9; omega⟩ (fun e => hc (.inl (by omega))) ?_⟩
   cases ht : T z k.toNat g.toNat with
   | true => exact absurd (.inr ht) hc
   | false => rfl
 ·rw [if_neg hb] at he; cases he
def partB (k : Int) (s name : Nm) : Bool := (k == 1 || (k == 2 || k == 6)) && s == name
def leafB (k : Int) (fr : Bool) : Bool := (k == 3 || (k == 4 || k == 5)) || ((k == 1 || k == 2) && fr)
end
section
open Go.RowKit
theorem stq_rows {L : List OP} {z : List Int} (h : RowsOk z) (k g hh : Nat) (o : OP) : RowsOk (stq L z k g hh o).2 := by
 unfold stq
 split
 ·rename_i he
  unfold chK at he ⊢
  split
  ·rename_i h2
   rw [if_pos h2] at he
   exact rowsOk_edge h he
  ·rename_i h2
   rw [if_neg h2] at he
   split
   ·rename_i h3
    rw [if_pos h3] at he
    show RowsOk (drpZ L z o.1)
    unfold drpZ
    rw [if_pos he]; exact h
   ·rename_i h3
    rw [if_neg h3] at he
    show RowsOk (addZ L z o)
    unfold addZ
    rw [if_pos he]; exact h
 ·exact h
theorem mkE_rows (C : List CH) : RowsOk (mkE C).2 := by
 suffices h : ∀ (D : List CH) (s : List OP × List Int), RowsOk s.2 → RowsOk (D.foldl (fun s x => stq s.1 s.2 x.1 x.2.1 x.2.2.1 (fitO x.2.2.2)) s).2 from h C _ rowsOk_start
 intro D
 induction D with
 | nil => exact fun s h => h
 | cons x D ih => exact fun s h => ih _ (stq_rows h _ _ _ _)
end
section
open Go.RowKit Go.ChangeShapes Go.WideShapes Go.ChangeAt
theorem cellsTok : Tryz.prog.cellsOf 41 = 5 := by kernel_rfl
structure TA where
 k : Int
 f : Int
 t : Int
 s : ByteArray
 e : Int
def TA.d {H : Type} (x : TA) : DataW H := .agg [.lit (.int .i64 x.k), .lit (.int .i64 x.f), .lit (.int .i64 x.t), .lit (.string x.s.data.toList), .lit (.int .i64 x.e)]
section
variable {H : Type} {enc : TypeId × Value → H} {w : World} {base : Nat} {held : Bool}
end
end
section
open Go.RowKit Go.ChangeShapes Go.WideShapes Go.ChangeAt
section
variable {H : Type} {enc : TypeId × Value → H} {w : World} {base : Nat} {held : Bool}
def OA.cs (e : OA) : List Value := [.string e.s, .int .i64 e.g, .int .i64 e.a]
end
end
end Go.Proofs.YtanhpgmiadgmjaaGreatDoor
