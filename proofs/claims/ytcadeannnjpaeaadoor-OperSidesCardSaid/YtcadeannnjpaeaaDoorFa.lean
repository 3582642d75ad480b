/- Contracts of package oper's sided and May, and of the document's May. -/
import Derived.Test.YtcadeannnjpaeaaDoorFm
import Derived.Test.YtcadeannnjpaeaaDoorHu
namespace Go.Proofs.YtcadeannnjpaeaaDoor
open Go.RowKit

/-- The three cells of a block stay where only later blocks are written. -/
theorem cells3 {w w' : World} {q : Nat} {x y z : Value} {t : TypeId} (h : w.heap[q]? = some (.cells #[x, y, z] t (0, 0))) (hb : Below w.heap.size w w') :
    w'.heap[q]? = some (.cells #[x, y, z] t (0, 0)) := (hb.block q (Array.getElem?_eq_some_iff.1 h).1).trans h

set_option maxRecDepth 20000 in
theorem sided_any (sa : Option Addr) (sn sc : Nat) (P : List Nm) (l r : Bool) (a : Int) (w : World) :
    Calls Tryd.prog 16 #[.agg #[.slice sa sn sc, .bool l, .bool r], .int .i64 a] w fun e w' => e = .returned (.bool (sdB ⟨P, l, r⟩ a)) ∧ Below w.heap.size w w' := by
  have HB : Hid (Below w.heap.size w (w.alloc (.cells #[.slice sa sn sc, .bool l, .bool r] 35))) := Lib.hid ((Below.refl _ _).alloc (Nat.le_refl _) _)
  have hq := heap_alloc_new w (.cells #[.slice sa sn sc, .bool l, .bool r] 35)
  obtain ⟨⟨q0, q1, q2⟩, _⟩ := three hq
  clear hq
  by_cases h0 : a = 0
  · subst h0
    have HE := Lib.hid (sdB_zero ⟨P, l, r⟩)
    go_enter Tryd.func16, Tryd.ntmps16
    go_wp2
    go_ret
    exact ⟨by rw [HE.out]; rfl, HB.out⟩
  by_cases h1 : a = 1
  · subst h1
    have HE := Lib.hid (sdB_one ⟨P, l, r⟩)
    go_enter Tryd.func16, Tryd.ntmps16
    go_wp2
    go_ret
    exact ⟨by rw [HE.out]; rfl, HB.out⟩
  by_cases h2 : a = 2
  · subst h2
    have HE := Lib.hid (sdB_two ⟨P, l, r⟩)
    go_enter Tryd.func16, Tryd.ntmps16
    go_wp2
    go_ret
    exact ⟨by rw [HE.out]; rfl, HB.out⟩
  · have HE : Hid (sdB ⟨P, l, r⟩ a = false) := Lib.hid (by
      unfold sdB
      rw [show (a == 0) = false from beq_eq_false_iff_ne.2 h0, show (a == 1) = false from beq_eq_false_iff_ne.2 h1, show (a == 2) = false from beq_eq_false_iff_ne.2 h2]
      rfl)
    go_enter Tryd.func16, Tryd.ntmps16
    go_wp2
    go_ret
    exact ⟨by rw [HE.out]; rfl, HB.out⟩

set_option maxRecDepth 20000 in
set_option maxHeartbeats 4000000 in
theorem omay_any (p : Nm) (g a : Int) (w : World) (ht : Tab w) (hsz : p.length ≤ 1000000) :
    Calls Tryd.prog 11 #[.agg #[.string (mk p), .int .i64 g, .int .i64 a]] w fun e w' => e = .returned (.int .i64 (mayV p g a)) ∧ Below w.heap.size w w' := by
  obtain ⟨B, hB⟩ : ∃ B, B = w.heap.size := ⟨_, rfl⟩
  obtain ⟨w1, hw1⟩ : ∃ w1, w1 = w.alloc (.cells #[.string (mk p), .int .i64 g, .int .i64 a] 23) := ⟨_, rfl⟩
  have HX1 : Hid (w1.heap[B]? = some (.cells #[.string (mk p), .int .i64 g, .int .i64 a] 23 (0, 0))) := Lib.hid (by rw [hw1, hB]; exact heap_alloc_new w _)
  have HB1 : Hid (Below w.heap.size w w1) := Lib.hid (by rw [hw1]; exact (Below.refl _ _).alloc (Nat.le_refl _) _)
  have HT1 : Hid (Tab w1) := Lib.hid (ht.keep HB1.out)
  have HOF : Hid (∀ w, Tab w → Calls Tryd.prog 13 #[.string (mk p)] w fun e w' => ∃ a n c, e = .returned (shV a n c (ofR p)) ∧ Ss w' a n c (ofR p).1.P ∧ Below w.heap.size w w') := Lib.hid fun w h => sof_any p w h hsz
  clear ht
  have hcell := three HX1.out
  obtain ⟨⟨x0, x1, x2⟩, _⟩ := hcell
  cases hO : ofS p with
  | none =>
    have HE := Lib.hid (mayV_none hO g a)
    have HR := Lib.hid (ofR_none hO)
    rw [HR.out] at HOF
    simp only [shV] at HOF
    clear hO
    go_enter Tryd.func11, Tryd.ntmps11
    go_wp2_with fail
    rw [← hw1, ← hB]
    clear hw1 hB
    refine (HOF.out w1 HT1.out).mono ?_
    rintro e w2 ⟨sa, sn, sc, rfl, _, hb2⟩
    have HB2 : Hid (Below w.heap.size w (w2.alloc (.cells #[.slice sa sn sc, .bool false, .bool false] 35))) := Lib.hid ((HB1.out.trans (hb2.mono HB1.out.size)).alloc (by have := HB1.out.size; have := hb2.size; omega) _)
    go_wp2
    go_ret
    exact ⟨by rw [HE.out]; rfl, HB2.out⟩
  | some s =>
    have HR := Lib.hid (ofR_some hO)
    rw [HR.out] at HOF
    simp only [shV] at HOF
    have HS := Lib.hid hO
    clear hO
    obtain ⟨P, l, r⟩ := s
    go_enter Tryd.func11, Tryd.ntmps11
    go_wp2_with fail
    rw [← hw1, ← hB]
    clear hw1 hB
    refine (HOF.out w1 HT1.out).mono ?_
    rintro e w2 ⟨sa, sn, sc, rfl, _, hb2⟩
    obtain ⟨q, hq⟩ : ∃ q, q = w2.heap.size := ⟨_, rfl⟩
    obtain ⟨w3, hw3⟩ : ∃ w3, w3 = w2.alloc (.cells #[.slice sa sn sc, .bool l, .bool r] 35) := ⟨_, rfl⟩
    have hb3 : Below w1.heap.size w1 w3 := by rw [hw3]; exact hb2.alloc hb2.size _
    have HB3 : Hid (Below w.heap.size w w3) := Lib.hid (HB1.out.trans (hb3.mono HB1.out.size))
    have HX3 := Lib.hid (cells3 HX1.out hb3)
    have HQ3 : Hid (w3.heap[q]? = some (.cells #[.slice sa sn sc, .bool l, .bool r] 35 (0, 0))) := Lib.hid (by rw [hw3, hq]; exact heap_alloc_new w2 _)
    obtain ⟨⟨y0, y1, y2⟩, _⟩ := three HX3.out
    obtain ⟨⟨z0, z1, z2⟩, _⟩ := three HQ3.out
    rw [hw3] at y0 y1 y2 z0 z1 z2
    rw [hq] at z0 z1 z2
    clear hb2 hb3 x0 x1 x2
    have HW3 := Lib.hid (And.intro hq hw3)
    clear hq hw3
    by_cases hg1 : g < 1
    · have HE := Lib.hid (mayV_grp HS.out (.inl hg1) a)
      go_wp2
      go_ret
      exact ⟨by rw [HE.out]; rfl, by rw [← HW3.out.2]; exact HB3.out⟩
    by_cases hg2 : 10 ≤ g
    · have HE := Lib.hid (mayV_grp HS.out (.inr (by omega : 9 < g)) a)
      go_wp2
      go_ret
      exact ⟨by rw [HE.out]; rfl, by rw [← HW3.out.2]; exact HB3.out⟩
    have HE := Lib.hid (mayV_some HS.out (g := g) (by omega) a)
    go_wp2_with fail
    rw [← HW3.out.1, ← HW3.out.2]
    rw [← HW3.out.2] at y0 y1 y2 z0 z1 z2
    refine (sided_any sa sn sc P l r a w3).mono ?_
    rintro e w4 ⟨rfl, hb4⟩
    have HB4 : Hid (Below w.heap.size w w4) := Lib.hid (HB3.out.trans (hb4.mono HB3.out.size))
    cases hd : sdB ⟨P, l, r⟩ a with
    | true =>
      rw [hd] at HE
      go_wp2
      go_ret
      exact ⟨by rw [HE.out]; rfl, HB4.out⟩
    | false =>
      rw [hd] at HE
      go_wp2
      go_ret
      exact ⟨by rw [HE.out]; rfl, HB4.out⟩

end Go.Proofs.YtcadeannnjpaeaaDoor
