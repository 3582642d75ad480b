import Derived.Test.YtcjbhdgjcpnklaaGreatDoorV14
import Derived.Laws.ResultCell
import Derived.Laws.Rows
import Derived.Test.YtcjbhdgjcpnklaaGreatDoorV18
import Derived.Deep.Slices
import Derived.Test.YtcjbhdgjcpnklaaGreatDoorV19
import Derived.Test.YtcjbhdgjcpnklaaGreatDoorV21
import Derived.Test.YtcjbhdgjcpnklaaGreatDoorV22
import Derived.Deep.DeepCutAuto
import Derived.Test.YtcjbhdgjcpnklaaGreatDoorV17
import Derived.Test.YtcjbhdgjcpnklaaGreatDoorV16
namespace Go.Proofs.YtcjbhdgjcpnklaaGreatDoor
section
open Go.RowKit
def sumU (p : Nm) : Nat → Nat
 | 0 => 0
 | k + 1 => sumU p k + (p.getD k 0).toNat
def fitQ (p : Nm) : Nat := sumU p p.length % 16
def fitG (g : Int) : Int := 1 + Int.tmod (Int.tmod g 9 + 9) 9
def fitA (p : Nm) (g a : Int) : Int := if mayV (pat (fitQ p)) (fitG g) (Int.tmod (Int.tmod a 3 + 3) 3) = 0 then Int.tmod (Int.tmod a 3 + 3) 3 else 0
end
section
open Go.RowKit Go.ChangeShapes Go.WideShapes Go.ChangeAt
def OA.op (e : OA) : OP := (e.s.data.toList, e.g, e.a)
section
variable {H : Type} {enc : TypeId × Value → H} {w : World} {base : Nat} {held : Bool}
end
end
section
def fitO (o : OP) : OP := (pat (fitQ o.1), fitG o.2.1, fitA o.1 o.2.1 o.2.2)
end
section
open Go.RowKit
theorem zBR {w w' : World} {a : Option Addr} {n c : Nat} {L : List OP} (h : OpS w a n c L) (hb : Below w.heap.size w w') : OpS w' a n c L := h.below hb
end
section
open Go.RowKit
def chK (L : List OP) (z : List Int) (k g h : Nat) (o : OP) : Int × List OP × List Int :=
 if k % 4 = 2 then (eE z (1 + (g % 9 : Nat)) (1 + (h % 9 : Nat)), (if eE z (1 + (g % 9 : Nat)) (1 + (h % 9 : Nat)) = 0 then L else []), eV z (1 + (g % 9 : Nat)) (1 + (h % 9 : Nat)))
 else if k % 4 = 3 then (drpE L o.1, drpL L o.1, drpZ L z o.1) else (addE L o, addR L o, addZ L z o)
def stq (L : List OP) (z : List Int) (k g h : Nat) (o : OP) : List OP × List Int := if (chK L z k g h o).1 = 0 then (chK L z k g h o).2 else (L, z)
end
section
open Go.RowKit
abbrev CH := Nat × Nat × Nat × OP
def chC (x : CH) : List Value := [.int .u8 (x.1 : Int), .int .u8 (x.2.1 : Int), .int .u8 (x.2.2.1 : Int), .string (mk x.2.2.2.1), .int .i64 x.2.2.2.2.1, .int .i64 x.2.2.2.2.2]
def cC (C : List CH) : List Value := C.flatMap chC
theorem zHJ (x : CH) (C : List CH) : cC (x :: C) = .int .u8 (x.1 : Int) :: .int .u8 (x.2.1 : Int) :: .int .u8 (x.2.2.1 : Int) :: .string (mk x.2.2.2.1) :: .int .i64 x.2.2.2.2.1 :: .int .i64 x.2.2.2.2.2 :: cC C := rfl
theorem zKb : ∀ C : List CH, (cC C).length = C.length * 6
 | [] => rfl
 | x :: C => by rw [zHJ]; simp only [List.length_cons, zKb C]; omega
abbrev ChS (w : World) (a : Option Addr) (n c : Nat) (C : List CH) : Prop := Vs 6 w a n c (cC C)
theorem ChS.len {w : World} {a : Option Addr} {n c : Nat} {C : List CH} (h : ChS w a n c C) : C.length = n := by
 have := Vs.hl h; rw [zKb] at this; omega
def mkE (C : List CH) : List OP × List Int := C.foldl (fun s x => stq s.1 s.2 x.1 x.2.1 x.2.2.1 (fitO x.2.2.2)) ([], zS)
end
section
open Go.RowKit
def sideV (right : Bool) : Int := if right then 2 else 1
def endB (s : SH) (right : Bool) : Bool := if right then s.r else s.l
def fitsB (z : List Int) (o k : OP) (right : Bool) : Bool :=
 match ofS o.1, ofS k.1 with
 | some s, some t => endB s right && ((!t.l && !t.r) || (tgt z o.2.1 k.2.1 || (o.2.1 == k.2.1 && (o.2.2 == sideV right && k.2.2 == sideV right))))
 | _, _ => false
theorem zEz {z : List Int} {o k : OP} {right : Bool} {s t : SH} (ho : ofS o.1 = some s) (hk : ofS k.1 = some t) : fitsB z o k right = (endB s right && ((!t.l && !t.r) || (tgt z o.2.1 k.2.1 || (o.2.1 == k.2.1 && (o.2.2 == sideV right && k.2.2 == sideV right))))) := by
 unfold fitsB; rw [ho, hk]
theorem zGT {z : List Int} {o : OP} (k : OP) (right : Bool) (ho : ofS o.1 = none) : fitsB z o k right = false := by
 unfold fitsB; rw [ho]
theorem zGU {z : List Int} (o : OP) {k : OP} (right : Bool) (hk : ofS k.1 = none) : fitsB z o k right = false := by
 unfold fitsB; rw [hk]
 cases ofS o.1 <;> rfl
theorem zBk {z : List Int} {o k : OP} {right : Bool} : fitsB z o k right = true ↔ ∃ s t, ofS o.1 = some s ∧ ofS k.1 = some t ∧ endB s right = true ∧ ((t.l = false ∧ t.r = false) ∨ tgt z o.2.1 k.2.1 = true ∨ (o.2.1 = k.2.1 ∧ o.2.2 = sideV right ∧ k.2.2 = sideV right)) := by
 cases ho : ofS o.1 with
 | none => rw [zGT k right ho]; simp
 | some s =>
  cases hk : ofS k.1 with
  | none => rw [zGU o right hk]; simp
  | some t =>
   rw [zEz ho hk]
   simp only [Bool.and_eq_true, Bool.or_eq_true, Bool.not_eq_true', beq_iff_eq]
   constructor
   ·rintro ⟨h1, h2⟩
    exact ⟨s, t, rfl, rfl, h1, h2⟩
   ·rintro ⟨s', t', hs, ht, h1, h2⟩
    cases hs; cases ht
    exact ⟨h1, h2⟩
def RowsOk (z : List Int) : Prop := ∃ E, Inv z E
theorem zGV : RowsOk zS := ⟨[], inv_start⟩
theorem zHK {z : List Int} (h : RowsOk z) {g k : Int} (he : eE z g k = 0) : RowsOk (eV z g k) := by
 obtain ⟨E, H⟩ := h
 unfold eV
 rw [if_pos he]
 unfold eE at he
 by_cases hb : inB 1 [g, k] = true
 ·rw [if_pos hb] at he
  by_cases hc : g = k ∨ T z k.toNat g.toNat = true
  ·rw [if_pos hc] at he; cases he
  ·rw [zBz] at hb
   refine ⟨_, H.edge (g := g.toNat) (h := k.toNat) ⟨by show 1 ≤ g.toNat; omega, by show g.toNat ≤ 9; omega, by show 1 ≤ k.toNat; omega, by show k.toNat ≤ 9; omega⟩ (fun e => hc (.inl (by omega))) ?_⟩
   cases ht : T z k.toNat g.toNat with
   | true => exact absurd (.inr ht) hc
   | false => rfl
 ·rw [if_neg hb] at he; cases he
theorem zGW {z : List Int} (h : RowsOk z) {a b c : Int} (h1 : tgt z a b = true) (h2 : tgt z b c = true) : tgt z a c = true := by
 obtain ⟨E, H⟩ := h
 unfold tgt at h1 h2 ⊢
 rw [Bool.and_eq_true, zBz] at h1 h2 ⊢
 refine ⟨⟨h1.1.1, h2.1.2⟩, ?_⟩
 exact (H.T (by omega)).2 (Ld.trans ((H.T (by omega)).1 h1.2) ((H.T (by omega)).1 h2.2))
theorem zDQ {z : List Int} (h : RowsOk z) (a b c : OP) (right : Bool) (h1 : fitsB z a b right = true) (h2 : fitsB z b c right = true) : fitsB z a c right = true := by
 obtain ⟨s, t, hs, ht, e1, c1⟩ := zBk.1 h1
 obtain ⟨t', u, ht', hu, e2, c2⟩ := zBk.1 h2
 rw [ht] at ht'; cases ht'
 refine zBk.2 ⟨s, u, hs, hu, e1, ?_⟩
 have d1 : ¬ (t.l = false ∧ t.r = false) := fun x => by
  unfold endB at e2
  cases right
  ·rw [if_neg (by decide), x.1] at e2; cases e2
  ·rw [if_pos rfl, x.2] at e2; cases e2
 rcases c2 with hc | hc
 ·exact .inl hc
 ·right
  rcases c1.resolve_left d1 with g1 | ⟨g1, a1, b1⟩
  ·rcases hc with g2 | ⟨g2, _, _⟩
   ·exact .inl (zGW h g1 g2)
   ·rw [← g2]; exact .inl g1
  ·rcases hc with g2 | ⟨g2, _, c2⟩
   ·rw [g1]; exact .inl g2
   ·exact .inr ⟨g1.trans g2, a1, c2⟩
theorem zE0 {z : List Int} (h : RowsOk z) (a b c : OP) (right : Bool) (h1 : fitsB z a b right = true) (h2 : fitsB z b c (!right) = true) : fitsB z a c right = true := by
 obtain ⟨s, t, hs, ht, e1, c1⟩ := zBk.1 h1
 obtain ⟨t', u, ht', hu, e2, c2⟩ := zBk.1 h2
 rw [ht] at ht'; cases ht'
 refine zBk.2 ⟨s, u, hs, hu, e1, ?_⟩
 have d1 : ¬ (t.l = false ∧ t.r = false) := fun x => by
  unfold endB at e2
  cases right
  ·rw [show (!false) = true from rfl, if_pos rfl, x.2] at e2; cases e2
  ·rw [show (!true) = false from rfl, if_neg (by decide), x.1] at e2; cases e2
 rcases c2 with hc | hc
 ·exact .inl hc
 ·right
  rcases c1.resolve_left d1 with g1 | ⟨g1, a1, b1⟩
  ·rcases hc with g2 | ⟨g2, _, _⟩
   ·exact .inl (zGW h g1 g2)
   ·rw [← g2]; exact .inl g1
  ·rcases hc with g2 | ⟨_, a2, _⟩
   ·rw [g1]; exact .inl g2
   ·rw [b1] at a2
    cases right
    ·exact absurd a2 (by decide)
    ·exact absurd a2 (by decide)
def partB (k : Int) (s name : Nm) : Bool := (k == 1 || (k == 2 || k == 6)) && s == name
def leafB (k : Int) (fr : Bool) : Bool := (k == 3 || (k == 4 || k == 5)) || ((k == 1 || k == 2) && fr)
end
section
open Go.RowKit
theorem zIM {L : List OP} {z : List Int} (h : RowsOk z) (k g hh : Nat) (o : OP) : RowsOk (stq L z k g hh o).2 := by
 unfold stq
 split
 ·rename_i he
  unfold chK at he ⊢
  split
  ·rename_i h2
   rw [if_pos h2] at he
   exact zHK h he
  ·rename_i h2
   rw [if_neg h2] at he
   split
   ·rename_i h3
    rw [if_pos h3] at he
    show RowsOk (drpZ L z o.1)
    unfold drpZ
    rw [if_pos he]; exact h
   ·rename_i h3
    rw [if_neg h3] at he
    show RowsOk (addZ L z o)
    unfold addZ
    rw [if_pos he]; exact h
 ·exact h
theorem zIN (C : List CH) : RowsOk (mkE C).2 := by
 suffices h : ∀ (D : List CH) (s : List OP × List Int), RowsOk s.2 → RowsOk (D.foldl (fun s x => stq s.1 s.2 x.1 x.2.1 x.2.2.1 (fitO x.2.2.2)) s).2 from h C _ zGV
 intro D
 induction D with
 | nil => exact fun s h => h
 | cons x D ih => exact fun s h => ih _ (zIM h _ _ _ _)
end
section
open Go.RowKit Go.ChangeShapes Go.WideShapes Go.ChangeAt
structure TA where
 k : Int
 f : Int
 t : Int
 s : ByteArray
 e : Int
def TA.d {H : Type} (x : TA) : DataW H := .agg [.lit (.int .i64 x.k), .lit (.int .i64 x.f), .lit (.int .i64 x.t), .lit (.string x.s.data.toList), .lit (.int .i64 x.e)]
section
variable {H : Type} {enc : TypeId × Value → H} {w : World} {base : Nat} {held : Bool}
end
end
section
open Go.RowKit Go.ChangeShapes Go.WideShapes Go.ChangeAt
section
variable {H : Type} {enc : TypeId × Value → H} {w : World} {base : Nat} {held : Bool}
def OA.cs (e : OA) : List Value := [.string e.s, .int .i64 e.g, .int .i64 e.a]
end
end
end Go.Proofs.YtcjbhdgjcpnklaaGreatDoor
