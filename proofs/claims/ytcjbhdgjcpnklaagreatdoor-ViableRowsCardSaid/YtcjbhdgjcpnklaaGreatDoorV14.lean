import Derived.Test.YtcjbhdgjcpnklaaGreatDoorRows
import Derived.WalkKit
import Derived.WideShapes
import Derived.ProofKit
import Derived.OpenShut
import Derived.SizedLaws
import Derived.Stop.LaidErr
import Derived.Test.YtcjbhdgjcpnklaaGreatDoorV22
import Derived.Test.YtcjbhdgjcpnklaaGreatDoorV10
import Derived.Test.YtcjbhdgjcpnklaaGreatDoorV13
namespace Go.Proofs.YtcjbhdgjcpnklaaGreatDoor
section
open Go.RowKit
def sdB (s : SH) (a : Int) : Bool := a == 0 || ((a == 1 && s.l) || (a == 2 && s.r))
def mayV (p : Nm) (g a : Int) : Int := match ofS p with
 | none => 23
 | some s => if g < 1 ∨ 9 < g then 21 else if sdB s a = true then 0 else 24
theorem zD3 {p : Nm} (h : ofS p = none) (g a : Int) : mayV p g a = 23 := by unfold mayV; rw [h]
theorem zDZ {p : Nm} {s : SH} (h : ofS p = some s) {g : Int} (hg : g < 1 ∨ 9 < g) (a : Int) : mayV p g a = 21 := by unfold mayV; rw [h]; exact if_pos hg
theorem zBg {p : Nm} {s : SH} (h : ofS p = some s) {g : Int} (hg : 1 ≤ g ∧ g ≤ 9) (a : Int) : mayV p g a = if sdB s a = true then 0 else 24 := by
 unfold mayV; rw [h]; exact if_neg (by omega)
theorem zFQ (s : SH) : sdB s 0 = true := rfl
theorem zHA (s : SH) : sdB s 1 = s.l := by unfold sdB; cases s.l <;> cases s.r <;> rfl
theorem zHB (s : SH) : sdB s 2 = s.r := by unfold sdB; cases s.l <;> cases s.r <;> rfl
theorem zNa (s : SH) {a : Int} (h : a < 0 ∨ 2 < a) : sdB s a = false := by
 unfold sdB
 rw [show (a == 0) = false from beq_eq_false_iff_ne.2 (by omega), show (a == 1) = false from beq_eq_false_iff_ne.2 (by omega), show (a == 2) = false from beq_eq_false_iff_ne.2 (by omega)]
 rfl
def knds : List (Nm × Bool × Bool × Int) := [([120, 102, 120], true, true, 0), ([120, 102, 121], true, true, 2), ([121, 102, 120], true, true, 1), ([102, 120], false, true, 0), ([102, 121], false, true, 2), ([120, 102], true, false, 0), ([121, 102], true, false, 1)]
def kd (i : Nat) : Nm × Bool × Bool × Int := knds.getD i ([], false, false, 0)
theorem zI6 : ∀ n : Nat, n < 256 → 97 ≤ n → n ≤ 122 → cls n = 2 := by decide +kernel
def LowL (l : List Int) : Prop := ∀ x ∈ l, 97 ≤ x ∧ x ≤ 122
theorem LowL.rng {l : List Int} (h : LowL l) : ∀ x ∈ l, 0 ≤ x ∧ x ≤ 255 := fun x hx => by have := h x hx; omega
theorem LowL.head {c : Int} {l : List Int} (h : LowL (c :: l)) : cls c = 2 := by
 have hc := h c (List.mem_cons_self ..)
 have := zI6 c.toNat (by omega) (by omega) (by omega)
 rwa [Int.toNat_of_nonneg (by omega)] at this
def pats : List Nm := [[95, 43, 95], [95, 42, 95], [95, 45, 95], [45, 95], [95, 33], [105, 102, 95, 116, 104, 101, 110, 95], [105, 102, 95, 116, 104, 101, 110, 95, 101, 108, 115, 101, 95], [91, 95, 93], [123, 95, 124, 95, 125], [95, 63, 95, 58, 95], [110, 111, 116, 95], [95, 105, 115, 95], [108, 101, 116, 95, 61, 95, 105, 110, 95], [95, 61, 62, 95], [95, 59, 95], [60, 60, 95, 62, 62]]
def pat (k : Nat) : Nm := pats.getD k []
theorem zMI : ∀ k, k < 16 → (ofS (pat k)).isSome = true := by decide +kernel
theorem zNb {k : Nat} (h : k < 16) : ∃ s, ofS (pat k) = some s := Option.isSome_iff_exists.1 (zMI k h)
theorem zKH : ∀ k, k < 16 → (pat k).length ≤ 20 := by decide
end
section
open Go.RowKit Go.ChangeShapes Go.WideShapes Go.ChangeAt
theorem cellsOper : Tryz.prog.cellsOf 38 = 3 := by kernel_rfl
theorem cellsStrF : Tryz.prog.cellsOf 9 = 1 := by kernel_rfl
theorem cellsIntF : Tryz.prog.cellsOf 3 = 1 := by kernel_rfl
structure OA where
 s : ByteArray
 g : Int
 a : Int
def OA.d {H : Type} (e : OA) : DataW H := .agg [.lit (.string e.s.data.toList), .lit (.int .i64 e.g), .lit (.int .i64 e.a)]
section
variable {H : Type} {enc : TypeId × Value → H} {w : World} {base : Nat} {held : Bool}
set_option maxRecDepth 100000 in
theorem zI7 {n : Nat} {cs : List Value} {x : DataW H × List MemPlace} (h : DataW.trod enc Tryz.prog w base (fun _ => true) held n 38 cs = some x) :
  ∃ e : OA, cs = [.string e.s, .int .i64 e.g, .int .i64 e.a] ∧ x.1 = e.d := by
 obtain ⟨xs, n', rfl, hx, hl, hlen, hf⟩ := DataW.trod_struct Tryz.underlying38 h
 rw [cellsOper] at hl
 match cs, hl, xs, hlen with
 | [c0, c1, c2], _, [y0, y1, y2], _ =>
  have h0 : DataW.trod enc Tryz.prog w base (fun _ => true) held n' 9 (([c0, c1, c2].drop 0).take (Tryz.prog.cellsOf 9)) = [y0, y1, y2][0]? := hf 0 _ rfl
  have h1 : DataW.trod enc Tryz.prog w base (fun _ => true) held n' 3 (([c0, c1, c2].drop 1).take (Tryz.prog.cellsOf 3)) = [y0, y1, y2][1]? := hf 1 _ rfl
  have h2 : DataW.trod enc Tryz.prog w base (fun _ => true) held n' 3 (([c0, c1, c2].drop 2).take (Tryz.prog.cellsOf 3)) = [y0, y1, y2][2]? := hf 2 _ rfl
  simp only [cellsStrF, cellsIntF, List.drop_zero, List.drop_succ_cons, List.take_succ_cons, List.take_zero, List.getElem?_cons_zero, List.getElem?_cons_succ] at h0 h1 h2
  obtain ⟨s, e0, k0, _⟩ := DataW.trod_string Tryz.underlying9 h0
  obtain ⟨g, e1, k1⟩ := DataW.trod_int Tryz.underlying3 h1
  obtain ⟨a, e2, k2⟩ := DataW.trod_int Tryz.underlying3 h2
  simp only [List.cons.injEq, and_true] at e0 e1 e2
  subst e0; subst e1; subst e2
  refine ⟨⟨s, g, a⟩, rfl, ?_⟩
  rw [hx, k0, k1.1, k2.1]
  rfl
end
end
section
open Go.RowKit
theorem cells3 {w w' : World} {q : Nat} {x y z : Value} {t : TypeId} (h : w.heap[q]? = some (.cells #[x, y, z] t (0, 0))) (hb : Below w.heap.size w w') :
  w'.heap[q]? = some (.cells #[x, y, z] t (0, 0)) := (hb.block q (Array.getElem?_eq_some_iff.1 h).1).trans h
set_option maxRecDepth 20000 in
theorem zKI (sa : Option Addr) (sn sc : Nat) (P : List Nm) (l r : Bool) (a : Int) (w : World) :
  Calls Tryz.prog 86 #[.agg #[.slice sa sn sc, .bool l, .bool r], .int .i64 a] w fun e w' => e = .returned (.bool (sdB ⟨P, l, r⟩ a)) ∧ Below w.heap.size w w' := by
 have HB : Hid (Below w.heap.size w (w.alloc (.cells #[.slice sa sn sc, .bool l, .bool r] 157))) := hid ((Below.refl _ _).alloc (Nat.le_refl _) _)
 have hq := heap_alloc_new w (.cells #[.slice sa sn sc, .bool l, .bool r] 157)
 obtain ⟨⟨q0, q1, q2⟩, _⟩ := three hq
 clear hq
 by_cases h0 : a = 0
 ·subst h0
  have HE := hid (zFQ ⟨P, l, r⟩)
  go_enter Tryz.func86, Tryz.ntmps86
  go_wp2
  go_ret
  exact ⟨by rw [HE.out]; rfl, HB.out⟩
 by_cases h1 : a = 1
 ·subst h1
  have HE := hid (zHA ⟨P, l, r⟩)
  go_enter Tryz.func86, Tryz.ntmps86
  go_wp2
  go_ret
  exact ⟨by rw [HE.out]; rfl, HB.out⟩
 by_cases h2 : a = 2
 ·subst h2
  have HE := hid (zHB ⟨P, l, r⟩)
  go_enter Tryz.func86, Tryz.ntmps86
  go_wp2
  go_ret
  exact ⟨by rw [HE.out]; rfl, HB.out⟩
 ·have HE : Hid (sdB ⟨P, l, r⟩ a = false) := hid (by
   unfold sdB
   rw [show (a == 0) = false from beq_eq_false_iff_ne.2 h0, show (a == 1) = false from beq_eq_false_iff_ne.2 h1, show (a == 2) = false from beq_eq_false_iff_ne.2 h2]
   rfl)
  go_enter Tryz.func86, Tryz.ntmps86
  go_wp2
  go_ret
  exact ⟨by rw [HE.out]; rfl, HB.out⟩
set_option maxRecDepth 20000 in
set_option maxHeartbeats 4000000 in
set_option maxRecDepth 20000 in
theorem zMJ (p : Nm) (g a : Int) (w : World) (ht : Tab w) (hsz : p.length ≤ 1000000) :
  Calls Tryz.prog 46 #[.agg #[.string (mk p), .int .i64 g, .int .i64 a]] w fun e w' => e = .returned (.int .i64 (mayV p g a)) ∧ Below w.heap.size w w' := by
 obtain ⟨B, hB⟩ : ∃ B, B = w.heap.size := ⟨_, rfl⟩
 obtain ⟨w1, hw1⟩ : ∃ w1, w1 = w.alloc (.cells #[.string (mk p), .int .i64 g, .int .i64 a] 38) := ⟨_, rfl⟩
 have HX1 : Hid (w1.heap[B]? = some (.cells #[.string (mk p), .int .i64 g, .int .i64 a] 38 (0, 0))) := hid (by rw [hw1, hB]; exact heap_alloc_new w _)
 have HB1 : Hid (Below w.heap.size w w1) := hid (by rw [hw1]; exact (Below.refl _ _).alloc (Nat.le_refl _) _)
 have HT1 : Hid (Tab w1) := hid (ht.keep HB1.out)
 have HOF : Hid (∀ w, Tab w → Calls Tryz.prog 85 #[.string (mk p)] w fun e w' => ∃ a n c, e = .returned (shV a n c (ofR p)) ∧ Ss w' a n c (ofR p).1.P ∧ Below w.heap.size w w') := hid fun w h => zFP p w h hsz
 clear ht
 have hcell := three HX1.out
 obtain ⟨⟨x0, x1, x2⟩, _⟩ := hcell
 cases hO : ofS p with
 | none =>
  have HE := hid (zD3 hO g a)
  have HR := hid (zAZ hO)
  rw [HR.out] at HOF
  simp only [shV] at HOF
  clear hO
  go_enter Tryz.func46, Tryz.ntmps46
  go_wp2_with fail
  rw [← hw1, ← hB]
  clear hw1 hB
  refine (HOF.out w1 HT1.out).mono ?_
  rintro e w2 ⟨sa, sn, sc, rfl, _, hb2⟩
  have HB2 : Hid (Below w.heap.size w (w2.alloc (.cells #[.slice sa sn sc, .bool false, .bool false] 157))) := hid ((HB1.out.trans (hb2.mono HB1.out.size)).alloc (by have := HB1.out.size; have := hb2.size; omega) _)
  go_wp2
  go_ret
  exact ⟨by rw [HE.out]; rfl, HB2.out⟩
 | some s =>
  have HR := hid (zAl hO)
  rw [HR.out] at HOF
  simp only [shV] at HOF
  have HS := hid hO
  clear hO
  obtain ⟨P, l, r⟩ := s
  go_enter Tryz.func46, Tryz.ntmps46
  go_wp2_with fail
  rw [← hw1, ← hB]
  clear hw1 hB
  refine (HOF.out w1 HT1.out).mono ?_
  rintro e w2 ⟨sa, sn, sc, rfl, _, hb2⟩
  obtain ⟨q, hq⟩ : ∃ q, q = w2.heap.size := ⟨_, rfl⟩
  obtain ⟨w3, hw3⟩ : ∃ w3, w3 = w2.alloc (.cells #[.slice sa sn sc, .bool l, .bool r] 157) := ⟨_, rfl⟩
  have hb3 : Below w1.heap.size w1 w3 := by rw [hw3]; exact hb2.alloc hb2.size _
  have HB3 : Hid (Below w.heap.size w w3) := hid (HB1.out.trans (hb3.mono HB1.out.size))
  have HX3 := hid (cells3 HX1.out hb3)
  have HQ3 : Hid (w3.heap[q]? = some (.cells #[.slice sa sn sc, .bool l, .bool r] 157 (0, 0))) := hid (by rw [hw3, hq]; exact heap_alloc_new w2 _)
  obtain ⟨⟨y0, y1, y2⟩, _⟩ := three HX3.out
  obtain ⟨⟨z0, z1, z2⟩, _⟩ := three HQ3.out
  rw [hw3] at y0 y1 y2 z0 z1 z2
  rw [hq] at z0 z1 z2
  clear hb2 hb3 x0 x1 x2
  have HW3 := hid (And.intro hq hw3)
  clear hq hw3
  by_cases hg1 : g < 1
  ·have HE := hid (zDZ HS.out (.inl hg1) a)
   go_wp2
   go_ret
   exact ⟨by rw [HE.out]; rfl, by rw [← HW3.out.2]; exact HB3.out⟩
  by_cases hg2 : 10 ≤ g
  ·have HE := hid (zDZ HS.out (.inr (by omega : 9 < g)) a)
   go_wp2
   go_ret
   exact ⟨by rw [HE.out]; rfl, by rw [← HW3.out.2]; exact HB3.out⟩
  have HE := hid (zBg HS.out (g := g) (by omega) a)
  go_wp2_with fail
  rw [← HW3.out.1, ← HW3.out.2]
  rw [← HW3.out.2] at y0 y1 y2 z0 z1 z2
  refine (zKI sa sn sc P l r a w3).mono ?_
  rintro e w4 ⟨rfl, hb4⟩
  have HB4 : Hid (Below w.heap.size w w4) := hid (HB3.out.trans (hb4.mono HB3.out.size))
  cases hd : sdB ⟨P, l, r⟩ a with
  | true =>
   rw [hd] at HE
   go_wp2
   go_ret
   exact ⟨by rw [HE.out]; rfl, HB4.out⟩
  | false =>
   rw [hd] at HE
   go_wp2
   go_ret
   exact ⟨by rw [HE.out]; rfl, HB4.out⟩
end
section
open Go.RowKit
set_option maxRecDepth 20000 in
set_option maxHeartbeats 4000000 in
set_option maxRecDepth 20000 in
theorem zGH (p : Nm) (g a : Int) (w : World) (hsz : p.length ≤ 200) :
  Calls Tryz.prog 55 #[.agg #[.string (mk p), .int .i64 g, .int .i64 a]] w fun e w' => e = .returned (.int .i64 (mayV p g a)) ∧ Below w.heap.size w w' := by
 obtain ⟨B, hB⟩ : ∃ B, B = w.heap.size := ⟨_, rfl⟩
 obtain ⟨w1, hw1⟩ : ∃ w1, w1 = w.alloc (.cells #[.string (mk p), .int .i64 g, .int .i64 a] 38) := ⟨_, rfl⟩
 have HX1 : Hid (w1.heap[B]? = some (.cells #[.string (mk p), .int .i64 g, .int .i64 a] 38 (0, 0))) := hid (by rw [hw1, hB]; exact heap_alloc_new w _)
 have HB1 : Hid (Below w.heap.size w w1) := hid (by rw [hw1]; exact (Below.refl _ _).alloc (Nat.le_refl _) _)
 have HOF : Hid (∀ w, Calls Tryz.prog 105 #[.string (mk p)] w fun e w' => ∃ a n c, e = .returned (shV a n c (ofR p)) ∧ Ss w' a n c (ofR p).1.P ∧ Below w.heap.size w w') := hid fun w => zMH p w hsz
 have hcell := three HX1.out
 obtain ⟨⟨x0, x1, x2⟩, _⟩ := hcell
 cases hO : ofS p with
 | none =>
  have HE := hid (zD3 hO g a)
  have HR := hid (zAZ hO)
  rw [HR.out] at HOF
  simp only [shV] at HOF
  clear hO
  go_enter Tryz.func55, Tryz.ntmps55
  go_wp2_with fail
  rw [← hw1, ← hB]
  clear hw1 hB
  refine (HOF.out w1).mono ?_
  rintro e w2 ⟨sa, sn, sc, rfl, _, hb2⟩
  have HB2 : Hid (Below w.heap.size w (w2.alloc (.cells #[.slice sa sn sc, .bool false, .bool false] 157))) := hid ((HB1.out.trans (hb2.mono HB1.out.size)).alloc (by have := HB1.out.size; have := hb2.size; omega) _)
  go_wp2
  go_ret
  exact ⟨by rw [HE.out]; rfl, HB2.out⟩
 | some s =>
  have HR := hid (zAl hO)
  rw [HR.out] at HOF
  simp only [shV] at HOF
  have HS := hid hO
  clear hO
  obtain ⟨P, l, r⟩ := s
  go_enter Tryz.func55, Tryz.ntmps55
  go_wp2_with fail
  rw [← hw1, ← hB]
  clear hw1 hB
  refine (HOF.out w1).mono ?_
  rintro e w2 ⟨sa, sn, sc, rfl, _, hb2⟩
  obtain ⟨q, hq⟩ : ∃ q, q = w2.heap.size := ⟨_, rfl⟩
  obtain ⟨w3, hw3⟩ : ∃ w3, w3 = w2.alloc (.cells #[.slice sa sn sc, .bool l, .bool r] 157) := ⟨_, rfl⟩
  have hb3 : Below w1.heap.size w1 w3 := by rw [hw3]; exact hb2.alloc hb2.size _
  have HB3 : Hid (Below w.heap.size w w3) := hid (HB1.out.trans (hb3.mono HB1.out.size))
  have HX3 := hid (cells3 HX1.out hb3)
  have HQ3 : Hid (w3.heap[q]? = some (.cells #[.slice sa sn sc, .bool l, .bool r] 157 (0, 0))) := hid (by rw [hw3, hq]; exact heap_alloc_new w2 _)
  obtain ⟨⟨y0, y1, y2⟩, _⟩ := three HX3.out
  obtain ⟨⟨z0, z1, z2⟩, _⟩ := three HQ3.out
  rw [hw3] at y0 y1 y2 z0 z1 z2
  rw [hq] at z0 z1 z2
  clear hb2 hb3 x0 x1 x2
  have HW3 := hid (And.intro hq hw3)
  clear hq hw3
  by_cases hg1 : g < 1
  ·have HE := hid (zDZ HS.out (.inl hg1) a)
   go_wp2
   go_ret
   exact ⟨by rw [HE.out]; rfl, by rw [← HW3.out.2]; exact HB3.out⟩
  by_cases hg2 : 9 < g
  ·have HE := hid (zDZ HS.out (.inr hg2) a)
   go_wp2
   go_ret
   exact ⟨by rw [HE.out]; rfl, by rw [← HW3.out.2]; exact HB3.out⟩
  by_cases ha0 : a < 0
  ·have HE : Hid (mayV p g a = 24) := hid (by rw [zBg HS.out (g := g) (by omega) a, zNa _ (.inl ha0)]; rfl)
   go_wp2
   go_ret
   exact ⟨by rw [HE.out]; rfl, by rw [← HW3.out.2]; exact HB3.out⟩
  by_cases ha2 : 2 < a
  ·have HE : Hid (mayV p g a = 24) := hid (by rw [zBg HS.out (g := g) (by omega) a, zNa _ (.inr ha2)]; rfl)
   go_wp2
   go_ret
   exact ⟨by rw [HE.out]; rfl, by rw [← HW3.out.2]; exact HB3.out⟩
  have HM := hid (zBg HS.out (g := g) (by omega) a)
  obtain rfl | rfl | rfl : a = 0 ∨ a = 1 ∨ a = 2 := by omega
  ·have HE : Hid (mayV p g 0 = 0) := hid (by rw [HM.out, zFQ]; rfl)
   go_wp2
   go_ret
   exact ⟨by rw [HE.out]; rfl, by rw [← HW3.out.2]; exact HB3.out⟩
  ·cases l with
   | true =>
    have HE : Hid (mayV p g 1 = 0) := hid (by rw [HM.out, zHA]; rfl)
    go_wp2
    go_ret
    exact ⟨by rw [HE.out]; rfl, by rw [← HW3.out.2]; exact HB3.out⟩
   | false =>
    have HE : Hid (mayV p g 1 = 24) := hid (by rw [HM.out, zHA]; rfl)
    go_wp2
    go_ret
    exact ⟨by rw [HE.out]; rfl, by rw [← HW3.out.2]; exact HB3.out⟩
  ·cases r with
   | true =>
    have HE : Hid (mayV p g 2 = 0) := hid (by rw [HM.out, zHB]; rfl)
    go_wp2
    go_ret
    exact ⟨by rw [HE.out]; rfl, by rw [← HW3.out.2]; exact HB3.out⟩
   | false =>
    have HE : Hid (mayV p g 2 = 24) := hid (by rw [HM.out, zHB]; rfl)
    go_wp2
    go_ret
    exact ⟨by rw [HE.out]; rfl, by rw [← HW3.out.2]; exact HB3.out⟩
end
end Go.Proofs.YtcjbhdgjcpnklaaGreatDoor
