/- The law FitsCross (laid by genYd.py). -/
import Derived.Test.YtcegbmhnbmfnnaaDoorYd
import Derived.Test.YtcegbmhnbmfnnaaDoorMU
namespace Go.Proofs.YtcegbmhnbmfnnaaDoor
open Go.RowKit

set_option maxRecDepth 100000 in
set_option maxHeartbeats 16000000 in
theorem fitsCross_any (aC : Option Addr) (len cap : Nat) (C : List CH) (p1 : Nm) (g1 s1 : Int) (p2 : Nm) (g2 s2 : Int) (p3 : Nm) (g3 s3 : Int) (right : Bool) (w : World) (ht : Tab w) (hC : ChS w aC len cap C) (hok : ∀ x ∈ C, okC x) (hp1 : p1.length ≤ 140737488355328) (hp2 : p2.length ≤ 140737488355328) (hp3 : p3.length ≤ 140737488355328) :
    Calls Tryd.prog 5 #[.slice aC len cap, .agg #[.string (mk p1), .int .i64 g1, .int .i64 s1, .string (mk p2), .int .i64 g2, .int .i64 s2, .string (mk p3), .int .i64 g3, .int .i64 s3], .bool right] w fun e w' => e = .returned (.bool true) ∧ Below w.heap.size w w' := by
  obtain ⟨L, Z, hro, hE, hM⟩ := make_lit aC len cap C hok
  obtain ⟨r1, x1, y1, -, -, -, hl1, hF1⟩ := fit_lit p1 g1 s1 hp1
  have HF1 := Lib.hid hF1
  obtain ⟨r2, x2, y2, -, -, -, hl2, hF2⟩ := fit_lit p2 g2 s2 hp2
  have HF2 := Lib.hid hF2
  obtain ⟨r3, x3, y3, -, -, -, hl3, hF3⟩ := fit_lit p3 g3 s3 hp3
  have HF3 := Lib.hid hF3
  obtain ⟨v0, hv0, hK0⟩ := fits_lit hE.2.2.2.1 hE.2.2.2.2 r1 x1 y1 r2 x2 y2 right (by omega) (by omega)
  have HK0 := Lib.hid hK0
  obtain ⟨v1, hv1, hK1⟩ := fits_lit hE.2.2.2.1 hE.2.2.2.2 r2 x2 y2 r3 x3 y3 (!right) (by omega) (by omega)
  have HK1 := Lib.hid hK1
  obtain ⟨v2, hv2, hK2⟩ := fits_lit hE.2.2.2.1 hE.2.2.2.2 r1 x1 y1 r3 x3 y3 right (by omega) (by omega)
  have HK2 := Lib.hid hK2
  have HNB : Hid (v0 = true → v1 = true → v2 = true) := Lib.hid (by rw [hv0, hv1, hv2]; exact fits_cross hro _ _ _ _)
  have HM := Lib.hid hM
  have HZ := Lib.hid hE.2.2.2.1
  obtain ⟨B, hB⟩ : ∃ B, B = w.heap.size := ⟨_, rfl⟩
  obtain ⟨wB, hwB⟩ : ∃ wB, wB = w.alloc (.cells #[.string (mk p1), .int .i64 g1, .int .i64 s1, .string (mk p2), .int .i64 g2, .int .i64 s2, .string (mk p3), .int .i64 g3, .int .i64 s3] 35) := ⟨_, rfl⟩
  have HX : Hid (wB.heap[B]? = some (.cells #[.string (mk p1), .int .i64 g1, .int .i64 s1, .string (mk p2), .int .i64 g2, .int .i64 s2, .string (mk p3), .int .i64 g3, .int .i64 s3] 35 (0, 0))) := Lib.hid (by rw [hwB, hB]; exact heap_alloc_new w _)
  have hAB : Below w.heap.size w wB := by rw [hwB]; exact below_alloc w _
  have KX : Hid (∀ w', Below wB.heap.size wB w' → w'.heap[B]? = some (.cells #[.string (mk p1), .int .i64 g1, .int .i64 s1, .string (mk p2), .int .i64 g2, .int .i64 s2, .string (mk p3), .int .i64 g3, .int .i64 s3] 35 (0, 0))) := Lib.hid fun w' hh => (hh.block B (Array.getElem?_eq_some_iff.1 HX.out).1).trans HX.out
  have HAB := Lib.hid hAB
  have HTB : Hid (Tab wB) := Lib.hid (ht.keep hAB)
  have HC : Hid (ChS wB aC len cap C) := Lib.hid (hC.below hAB)
  clear ht hC hok hM hE hro hAB hp1 hl1 hF1 hp2 hl2 hF2 hp3 hl3 hF3 hv0 hv1 hv2 hK0 hK1 hK2
  go_enter Tryd.func5, Tryd.ntmps5
  go_upto_region 1 with fail
  rw [← hwB, ← hB]
  clear hwB hB
  go_wp2_with fail
  refine (shown_any wB HTB.out).mono ?_
  rintro e w1 ⟨rfl, hb1⟩
  have HB1 : Hid (Below wB.heap.size wB w1) := Lib.hid hb1
  clear hb1
  go_wp2_with fail
  refine (HM.out w1 (HC.out.below HB1.out)).mono ?_
  rintro e w2 ⟨a', n', c', rfl, -, hb2⟩
  have HB2 : Hid (Below wB.heap.size wB w2) := Lib.hid (HB1.out.trans (hb2.mono HB1.out.size))
  clear hb2
  have hfd := field_rows a' n' c' HZ.out
  obtain ⟨q0, hq0⟩ : ∃ q, q = w2.heap.size := ⟨_, rfl⟩
  have hnew : ∀ W : World, RB (W.alloc (.cells #[.int .i64 0, .int .i64 0, .int .i64 0, .int .i64 0, .int .i64 0, .int .i64 0, .int .i64 0, .int .i64 0, .int .i64 0, .int .i64 0] 28)) W.heap.size z0 := new_rows
  go_upto_region 3 with (refine store_rows rfl (.tmp 8) (.tmp 16) rfl w2.heap.size rfl Z rfl HZ.out z0 z0_len (hnew w2) ?_; intro w3 hr3 ho3; have HR3 := Lib.hid hr3; have HO3 := Lib.hid ho3; clear hr3 ho3)
  have HB3 : Hid (Below wB.heap.size wB w3) := Lib.hid ((HB2.out.alloc HB2.out.size _).trans (HO3.out.below HB2.out.size))
  rw [← hq0] at HR3 ⊢
  clear hfd hnew hq0 HO3 HB1 HB2
  obtain ⟨c0, c1, c2⟩ := (nine_cells (KX.out w3 HB3.out)).1
  go_wp2_with fail
  refine (HF1.out w3).mono ?_
  rintro e w4 ⟨rfl, hb4⟩
  obtain ⟨q1, hq1⟩ : ∃ q, q = w4.heap.size := ⟨_, rfl⟩
  obtain ⟨w5, hw5⟩ : ∃ x, x = w4.alloc (.cells #[.string (mk r1), .int .i64 x1, .int .i64 y1] 24) := ⟨_, rfl⟩
  have HI5 : Hid (Below w3.heap.size w3 w5) := Lib.hid (by rw [hw5]; exact hb4.alloc hb4.size _)
  have HB5 : Hid (Below wB.heap.size wB w5) := Lib.hid (HB3.out.trans (HI5.out.mono HB3.out.size))
  have HR5 : Hid (RB w5 q0 Z) := Lib.hid (HR3.out.keep HI5.out HR3.out.lt)
  have HD1_5 : Hid (D3 w5 q1 (r1, x1, y1)) := Lib.hid (by rw [hw5, hq1]; exact D3.new w4 (r1, x1, y1))
  clear hb4 c0 c1 c2
  go_upto_region 4 with fail
  rw [← hw5, ← hq1]
  clear hw5 hq1
  obtain ⟨c0, c1, c2⟩ := (nine_cells (KX.out w5 HB5.out)).2.1
  go_wp2_with fail
  refine (HF2.out w5).mono ?_
  rintro e w6 ⟨rfl, hb6⟩
  obtain ⟨q2, hq2⟩ : ∃ q, q = w6.heap.size := ⟨_, rfl⟩
  obtain ⟨w7, hw7⟩ : ∃ x, x = w6.alloc (.cells #[.string (mk r2), .int .i64 x2, .int .i64 y2] 24) := ⟨_, rfl⟩
  have HI7 : Hid (Below w5.heap.size w5 w7) := Lib.hid (by rw [hw7]; exact hb6.alloc hb6.size _)
  have HB7 : Hid (Below wB.heap.size wB w7) := Lib.hid (HB5.out.trans (HI7.out.mono HB5.out.size))
  have HR7 : Hid (RB w7 q0 Z) := Lib.hid (HR5.out.keep HI7.out HR5.out.lt)
  have HD2_7 : Hid (D3 w7 q2 (r2, x2, y2)) := Lib.hid (by rw [hw7, hq2]; exact D3.new w6 (r2, x2, y2))
  have HD1_7 : Hid (D3 w7 q1 (r1, x1, y1)) := Lib.hid (HD1_5.out.below HI7.out)
  clear hb6 c0 c1 c2
  go_upto_region 5 with fail
  rw [← hw7, ← hq2]
  clear hw7 hq2
  obtain ⟨c0, c1, c2⟩ := (nine_cells (KX.out w7 HB7.out)).2.2
  go_wp2_with fail
  refine (HF3.out w7).mono ?_
  rintro e w8 ⟨rfl, hb8⟩
  obtain ⟨q3, hq3⟩ : ∃ q, q = w8.heap.size := ⟨_, rfl⟩
  obtain ⟨w9, hw9⟩ : ∃ x, x = w8.alloc (.cells #[.string (mk r3), .int .i64 x3, .int .i64 y3] 24) := ⟨_, rfl⟩
  have HI9 : Hid (Below w7.heap.size w7 w9) := Lib.hid (by rw [hw9]; exact hb8.alloc hb8.size _)
  have HB9 : Hid (Below wB.heap.size wB w9) := Lib.hid (HB7.out.trans (HI9.out.mono HB7.out.size))
  have HR9 : Hid (RB w9 q0 Z) := Lib.hid (HR7.out.keep HI9.out HR7.out.lt)
  have HD3_9 : Hid (D3 w9 q3 (r3, x3, y3)) := Lib.hid (by rw [hw9, hq3]; exact D3.new w8 (r3, x3, y3))
  have HD1_9 : Hid (D3 w9 q1 (r1, x1, y1)) := Lib.hid (HD1_7.out.below HI9.out)
  have HD2_9 : Hid (D3 w9 q2 (r2, x2, y2)) := Lib.hid (HD2_7.out.below HI9.out)
  clear hb8 c0 c1 c2
  go_upto_region 6 with fail
  rw [← hw9, ← hq3]
  clear hw9 hq3
  have KR : Hid (∀ w', Below w9.heap.size w9 w' → RB w' q0 Z) := Lib.hid fun w' hh => HR9.out.keep hh HR9.out.lt
  have KD1 : Hid (∀ w', Below w9.heap.size w9 w' → D3 w' q1 (r1, x1, y1)) := Lib.hid fun w' hh => HD1_9.out.below hh
  have KD2 : Hid (∀ w', Below w9.heap.size w9 w' → D3 w' q2 (r2, x2, y2)) := Lib.hid fun w' hh => HD2_9.out.below hh
  have KD3 : Hid (∀ w', Below w9.heap.size w9 w' → D3 w' q3 (r3, x3, y3)) := Lib.hid fun w' hh => HD3_9.out.below hh
  have HTW : Hid (Tab w9) := Lib.hid (HTB.out.keep HB9.out)
  have HB := Lib.hid (Below.refl w9.heap.size w9)
  obtain rfl | ⟨rfl, rfl⟩ | ⟨rfl, rfl, rfl⟩ : v0 = false ∨ (v0 = true ∧ v1 = false) ∨ (v0 = true ∧ v1 = true ∧ v2 = true) := by have := HNB.out; cases v0 <;> cases v1 <;> simp_all
  all_goals
    go_wp2_with (first
      | (refine load_rows rfl (.tmp 8) rfl q0 rfl Z HZ.out (KR.out _ HB.out) ?_)
      | (refine load_d3 rfl (.tmp 9) rfl q1 rfl r1 x1 y1 (KD1.out _ HB.out) ?_)
      | (refine load_d3 rfl (.tmp 10) rfl q2 rfl r2 x2 y2 (KD2.out _ HB.out) ?_)
      | (refine load_d3 rfl (.tmp 11) rfl q3 rfl r3 x3 y3 (KD3.out _ HB.out) ?_)
      | (go_at_call 10; (with_reducible first | refine (HK0.out w9 _ HTW.out HB.out).mono ?_ | refine (HK1.out w9 _ HTW.out HB.out).mono ?_ | refine (HK2.out w9 _ HTW.out HB.out).mono ?_); rintro e wx ⟨rfl, hbx⟩; have HB := Lib.hid hbx; clear hbx))
    go_ret
    exact ⟨ret_bool (by simp), HAB.out.trans ((HB9.out.trans (HB.out.mono HB9.out.size)).mono HAB.out.size)⟩

end Go.Proofs.YtcegbmhnbmfnnaaDoor
