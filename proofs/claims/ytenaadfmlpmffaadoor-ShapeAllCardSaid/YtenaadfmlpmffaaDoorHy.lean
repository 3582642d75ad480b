/- The law ShapeAll. -/
import Derived.Test.YtenaadfmlpmffaaDoorHw
import Derived.Test.YtenaadfmlpmffaaDoorHx
import Derived.Test.YtenaadfmlpmffaaDoorMC
namespace Go.Proofs.YtenaadfmlpmffaaDoor
open Go.RowKit

/-- The three cells of a shape in a block. -/
def Sh3 (w : World) (q : Nat) (v : Value) (l r : Bool) : Prop := w.cell? ⟨q, 0, none⟩ = some v ∧ w.cell? ⟨q, 1, none⟩ = some (.bool l) ∧ w.cell? ⟨q, 2, none⟩ = some (.bool r)
theorem sh3_of {w : World} {q : Nat} {v : Value} {l r : Bool} (h : w.heap[q]? = some (.cells #[v, .bool l, .bool r] 24 (0, 0))) : Sh3 w q v l r := (three h).1

set_option maxRecDepth 100000 in
set_option maxHeartbeats 16000000 in
theorem shapeAll_any (p : Nm) (a : Option Addr) (n c : Nat) (P : List Nm) (l r : Bool) (w : World) (h : Ss w a n c P) (ht : Tab w) :
    Calls Tryd.prog 3 #[.string (mk p), .agg #[.slice a n c, .bool l, .bool r]] w fun e w' => e = .returned (.bool true) ∧ Below w.heap.size w w' := by
  have H := Lib.hid h
  have HT := Lib.hid ht
  obtain ⟨B, hB⟩ : ∃ B, B = w.heap.size := ⟨_, rfl⟩
  obtain ⟨wA, hwA⟩ : ∃ wA, wA = w.alloc (.cells #[.slice a n c, .bool l, .bool r] 24) := ⟨_, rfl⟩
  have HA : Hid (Below w.heap.size w wA) := Lib.hid (by rw [hwA]; exact (Below.refl _ _).alloc (Nat.le_refl _) _)
  have HXA : Hid (wA.heap[B]? = some (.cells #[.slice a n c, .bool l, .bool r] 24 (0, 0)) ∧ wA.heap.size = B + 1 ∧ B = w.heap.size) := Lib.hid ⟨by rw [hwA, hB]; exact heap_alloc_new w _, by rw [hwA, hB]; simp, hB⟩
  obtain ⟨F, hF⟩ : ∃ F, F = p.take 60 := ⟨_, rfl⟩
  have hF60 : F.length ≤ 60 := by rw [hF, List.length_take]; omega
  have HFE : Hid (∀ w, Calls Tryd.prog 9 #[.string (mk p)] w fun e w' => e = .returned (.string (mk F)) ∧ w = w') := Lib.hid fun w => by rw [hF]; exact few_any p w
  obtain ⟨x, hx⟩ : ∃ x, x = ofR F := ⟨_, rfl⟩
  have HOF : Hid (∀ w, Tab w → Calls Tryd.prog 8 #[.string (mk F)] w fun e w' => ∃ a n c, e = .returned (shV a n c x) ∧ Ss w' a n c x.1.P ∧ Below w.heap.size w w') := Lib.hid fun w h => by rw [hx]; exact sof_any F w h (by omega)
  have HRO : Hid (∀ w, Calls Tryd.prog 10 #[.string (mk F)] w fun e w' => ∃ a n c, e = .returned (shV a n c x) ∧ Ss w' a n c x.1.P ∧ Below w.heap.size w w') := Lib.hid fun w => by rw [hx]; exact srof_any F w (by omega)
  obtain ⟨T, hTx⟩ : ∃ T, T = stx ⟨shP P, l, r⟩ := ⟨_, rfl⟩
  have HTX := Lib.hid hTx
  clear hx hF h ht hTx
  obtain ⟨⟨PP, l2, r2⟩, e2⟩ := x
  simp only [shV] at HOF HRO
  go_enter Tryd.func3, Tryd.ntmps3
  go_wp2_with fail
  rw [← hwA, ← hB]
  clear hwA hB
  refine (shown_any wA (HT.out.keep HA.out)).mono ?_
  rintro e w1 ⟨rfl, hb1⟩
  have HW1 : Hid (Below w.heap.size w w1) := Lib.hid (HA.out.trans (hb1.mono HA.out.size))
  have HX1 : Hid (w1.heap[B]? = some (.cells #[.slice a n c, .bool l, .bool r] 24 (0, 0))) := Lib.hid ((hb1.block B (by have := HXA.out.2; omega)).trans HXA.out.1)
  clear hb1
  go_wp2_with fail
  refine (HFE.out _).mono ?_
  rintro e w' ⟨rfl, rfl⟩
  go_wp2_with fail
  refine (HOF.out _ (HT.out.keep HW1.out)).mono ?_
  rintro e w2 ⟨a2, n2, c2, rfl, hs2, hb2⟩
  have hn2 := Ss.len hs2
  have hlc2 := hs2.lc
  obtain ⟨w2', hw2⟩ : ∃ w2', w2' = w2.alloc (.cells #[.slice a2 n2 c2, .bool l2, .bool r2] 24) := ⟨_, rfl⟩
  have HQ2 : Hid (w2'.heap[w2.heap.size]? = some (.cells #[.slice a2 n2 c2, .bool l2, .bool r2] 24 (0, 0)) ∧ w2'.heap.size = w2.heap.size + 1) := Lib.hid ⟨by rw [hw2]; exact heap_alloc_new w2 _, by rw [hw2]; simp⟩
  have HB2 : Hid (Below w1.heap.size w1 w2') := Lib.hid (by rw [hw2]; exact hb2.alloc hb2.size _)
  have HS2 : Hid (Ss w2' a2 n2 c2 PP) := Lib.hid (Vs.below hs2 (by rw [hw2]; exact (Below.refl _ _).alloc (Nat.le_refl _) _))
  have HW2 : Hid (Below w.heap.size w w2') := Lib.hid (HW1.out.trans (HB2.out.mono HW1.out.size))
  have HX2 : Hid (w2'.heap[B]? = some (.cells #[.slice a n c, .bool l, .bool r] 24 (0, 0)) ∧ B < w2'.heap.size) := Lib.hid (by
    have h1 : B < w1.heap.size := (Array.getElem?_eq_some_iff.1 HX1.out).1
    exact ⟨(HB2.out.block B h1).trans HX1.out, Nat.lt_of_lt_of_le h1 HB2.out.size⟩)
  clear hs2 hb2
  go_wp2_with fail
  rw [← hw2]
  clear hw2
  refine (HFE.out _).mono ?_
  rintro e w' ⟨rfl, rfl⟩
  go_wp2_with fail
  refine (HRO.out _).mono ?_
  rintro e w3 ⟨a3, n3, c3, rfl, hs3, hb3⟩
  have hn3 := Ss.len hs3
  have hlc3 := hs3.lc
  obtain rfl : n3 = n2 := hn3.symm.trans hn2
  obtain ⟨w5, hw5⟩ : ∃ w5, w5 = w3.alloc (.cells #[.slice a3 n3 c3, .bool l2, .bool r2] 24) := ⟨_, rfl⟩
  obtain ⟨q1, hq1⟩ : ∃ q1, q1 = w2.heap.size := ⟨_, rfl⟩
  obtain ⟨q2, hq2⟩ : ∃ q2, q2 = w3.heap.size := ⟨_, rfl⟩
  have HB5 : Hid (Below w2'.heap.size w2' w5) := Lib.hid (by rw [hw5]; exact hb3.alloc hb3.size _)
  have HW5 : Hid (Below w.heap.size w w5) := Lib.hid (HW2.out.trans (HB5.out.mono HW2.out.size))
  have HS5 : Hid (Ss w5 a2 n3 c2 PP ∧ Ss w5 a3 n3 c3 PP) := Lib.hid ⟨Vs.below HS2.out HB5.out, Vs.below hs3 (by rw [hw5]; exact (Below.refl _ _).alloc (Nat.le_refl _) _)⟩
  have HK : Hid (∀ w', Below w5.heap.size w5 w' → (w'.cell? ⟨B, 0, none⟩ = some (.slice a n c) ∧ w'.cell? ⟨B, 1, none⟩ = some (.bool l) ∧ w'.cell? ⟨B, 2, none⟩ = some (.bool r)) ∧ (w'.cell? ⟨q1, 0, none⟩ = some (.slice a2 n3 c2) ∧ w'.cell? ⟨q1, 1, none⟩ = some (.bool l2) ∧ w'.cell? ⟨q1, 2, none⟩ = some (.bool r2)) ∧ (w'.cell? ⟨q2, 0, none⟩ = some (.slice a3 n3 c3) ∧ w'.cell? ⟨q2, 1, none⟩ = some (.bool l2) ∧ w'.cell? ⟨q2, 2, none⟩ = some (.bool r2))) := Lib.hid fun w' hk => by
    have h5 := HB5.out.size
    have hB : w5.heap[B]? = some (.cells #[.slice a n c, .bool l, .bool r] 24 (0, 0)) := (HB5.out.block B HX2.out.2).trans HX2.out.1
    have h1 : w5.heap[q1]? = some (.cells #[.slice a2 n3 c2, .bool l2, .bool r2] 24 (0, 0)) := by rw [hq1]; exact (HB5.out.block _ (by have := HQ2.out.2; omega)).trans HQ2.out.1
    have h2 : w5.heap[q2]? = some (.cells #[.slice a3 n3 c3, .bool l2, .bool r2] 24 (0, 0)) := by rw [hq2, hw5]; exact heap_alloc_new w3 _
    have l1 := (Array.getElem?_eq_some_iff.1 hB).1
    have l2' := (Array.getElem?_eq_some_iff.1 h1).1
    have l3 := (Array.getElem?_eq_some_iff.1 h2).1
    exact ⟨(three ((hk.block B l1).trans hB)).1, (three ((hk.block q1 l2').trans h1)).1, (three ((hk.block q2 l3).trans h2)).1⟩
  clear hs3 hb3
  go_wp2_with fail
  rw [← hw5, ← hq1, ← hq2]
  clear hw5 hq1 hq2
  obtain ⟨⟨x0, x1, x2⟩, ⟨y0, y1, y2⟩, z0, z1, z2⟩ := HK.out w5 (Below.refl _ _)
  go_region_held3 (fun w' => (w'.cell? ⟨B, 0, none⟩ = some (.slice a n c) ∧ w'.cell? ⟨B, 1, none⟩ = some (.bool l) ∧ w'.cell? ⟨B, 2, none⟩ = some (.bool r)) ∧ (w'.cell? ⟨q1, 0, none⟩ = some (.slice a2 n3 c2) ∧ w'.cell? ⟨q1, 1, none⟩ = some (.bool l2) ∧ w'.cell? ⟨q1, 2, none⟩ = some (.bool r2)) ∧ (w'.cell? ⟨q2, 0, none⟩ = some (.slice a3 n3 c3) ∧ w'.cell? ⟨q2, 1, none⟩ = some (.bool l2) ∧ w'.cell? ⟨q2, 2, none⟩ = some (.bool r2)))
    (first
      | exact HK.out _ (Below.refl _ _).drew
      | exact HK.out _ HB10.out
      | exact HK.out _ HB9.out
      | exact HK.out _ HB8.out
      | exact HK.out _ HB7.out
      | exact HK.out _ HB6.out)
    (first
      | (go_at_call 11; (refine (rsame_any a2 a3 n3 c2 c3 PP l2 r2 _ (Vs.drew HS5.out.1) (Vs.drew HS5.out.2)).mono ?_); (rintro e w6 ⟨rfl, hb6⟩); (have HB6 : Hid (Below w5.heap.size w5 w6) := Lib.hid ((Below.refl _ _).drew.trans hb6)); clear hb6)
      | (go_at_call 14; (refine (rtext_any a9 n9 c9 (shP P) l r _ HS9.out (shP_size P l r)).mono ?_); (rw [← HTX.out]); (rintro e w10 ⟨rfl, hb10⟩); (have HB10 : Hid (Below w5.heap.size w5 w10) := Lib.hid (HB9.out.trans (hb10.mono HB9.out.size))); clear hb10)
      | (go_at_call 13; (refine (short_any a n c P l r _ (H.out.below (HW5.out.trans (HB8.out.mono HW5.out.size)))).mono ?_); (rintro e w9 ⟨a9, n9, c9, rfl, hs9, hb9⟩); (have HB9 : Hid (Below w5.heap.size w5 w9) := Lib.hid (HB8.out.trans (hb9.mono HB8.out.size))); (have HS9 := Lib.hid hs9); clear hb9 hs9)
      | (go_at_call 12; (refine (text_any a7 n7 c7 (shP P) l r _ HS7.out (shP_size P l r)).mono ?_); (rw [← HTX.out]); (rintro e w8 ⟨rfl, hb8⟩); (have HB8 : Hid (Below w5.heap.size w5 w8) := Lib.hid (HB7.out.trans (hb8.mono HB7.out.size))); clear hb8)
      | (go_at_call 13; (refine (short_any a n c P l r _ (H.out.below (HW5.out.trans (HB6.out.mono HW5.out.size)))).mono ?_); (rintro e w7 ⟨a7, n7, c7, rfl, hs7, hb7⟩); (have HB7 : Hid (Below w5.heap.size w5 w7) := Lib.hid (HB6.out.trans (hb7.mono HB6.out.size))); (have HS7 := Lib.hid hs7); clear hb7 hs7))
  all_goals
    go_wp2
    go_ret
    exact ⟨rfl, HW5.out.trans (HB10.out.mono HW5.out.size)⟩

end Go.Proofs.YtenaadfmlpmffaaDoor
