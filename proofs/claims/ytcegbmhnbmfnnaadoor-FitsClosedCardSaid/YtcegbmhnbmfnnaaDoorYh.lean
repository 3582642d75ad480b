/- The law FitsClosed. -/
import Derived.Test.YtcegbmhnbmfnnaaDoorYd
namespace Go.Proofs.YtcegbmhnbmfnnaaDoor
open Go.RowKit

theorem fits_val {z : List Int} (hz : z.length = 10) (hr : ∀ i, i < 10 → I64 (bt z i)) {p : Nm} {g s : Int} {q : Nm} {h t : Int} {right v : Bool} (hv : fitsB z (p, g, s) (q, h, t) right = v) (hp : p.length ≤ 1000000) (hq : q.length ≤ 1000000) : ∀ w0 w' : World, Tab w0 → Below w0.heap.size w0 w' → Calls Tryd.prog 10 #[.agg (rv z), .agg #[.string (mk p), .int .i64 g, .int .i64 s], .agg #[.string (mk q), .int .i64 h, .int .i64 t], .bool right] w' fun e w'' => e = .returned (.bool v) ∧ Below w0.heap.size w0 w'' :=
  fun w0 w' ht hb => (fits_any z hz hr p g s q h t right w' (ht.keep hb) hp hq).mono (by rintro e w'' ⟨rfl, hb2⟩; exact ⟨by rw [hv], hb.trans (hb2.mono hb.size)⟩)
theorem of_sq : ofS [91, 95, 93] = some ⟨[[91], [93]], false, false⟩ := by kernel_rfl
theorem of_pl : ofS [95, 43, 95] = some ⟨[[43]], true, true⟩ := by kernel_rfl
theorem of_mi : ofS [45, 95] = some ⟨[[45]], false, true⟩ := by kernel_rfl
theorem of_ex : ofS [95, 33] = some ⟨[[33]], true, false⟩ := by kernel_rfl
theorem fits_closed (z : List Int) (a b c d : Int) (right : Bool) : fitsB z ([95, 43, 95], a, b) ([91, 95, 93], c, d) right = true := by
  rw [fitsB_val of_pl of_sq]
  cases right <;> rfl
theorem fits_nohole (z : List Int) {p : Nm} {P : List Nm} {l r right : Bool} (h : ofS p = some ⟨P, l, r⟩) (hn : (if right then r else l) = false) (a b : Int) (k : OP) : fitsB z (p, a, b) k right = false := by
  rw [Bool.eq_false_iff]
  intro hh
  obtain ⟨s, t, hs, _, he, _⟩ := fitsB_iff.1 hh
  rw [h] at hs
  cases hs
  unfold endB at he
  dsimp only at he
  rw [hn] at he
  cases he
theorem tmod_nine (b : Nat) : ∃ m : Nat, Int.tmod (b : Int) 9 = m ∧ m ≤ 8 := ⟨b % 9, by rw [Int.tmod_eq_emod_of_nonneg (by omega)]; omega, by omega⟩

set_option maxRecDepth 100000 in
set_option maxHeartbeats 16000000 in
theorem fitsClosed_any (aC : Option Addr) (len cap : Nat) (C : List CH) (p1 : Nm) (g1 s1 : Int) (b : Nat) (w : World) (ht : Tab w) (hC : ChS w aC len cap C) (hok : ∀ x ∈ C, okC x) (hp1 : p1.length ≤ 140737488355328) (hb : b ≤ 255) :
    Calls Tryd.prog 6 #[.slice aC len cap, .agg #[.string (mk p1), .int .i64 g1, .int .i64 s1], .int .u8 b] w fun e w' => e = .returned (.bool true) ∧ Below w.heap.size w w' := by
  obtain ⟨L, Z, hro, hE, hM⟩ := make_lit aC len cap C hok
  obtain ⟨r1, x1, y1, -, -, -, hl1, hF1⟩ := fit_lit p1 g1 s1 hp1
  have HF1 := Lib.hid hF1
  obtain ⟨m, hm, hm8⟩ := tmod_nine b
  obtain ⟨G, hG⟩ : ∃ G : Int, G = 1 + (m : Int) := ⟨_, rfl⟩
  have hcv : IntKind.i64.wrap (b : Int) = (b : Int) := IntWalk.i64_in (b : Int) (by omega)
  have hadd : wrap64 (1 + (m : Int)) = G := by rw [hG]; exact IntWalk.wrap64_in (1 + (m : Int)) (by omega)
  have hl20 : r1.length ≤ 1000000 := by omega
  have HK0 := Lib.hid (fits_val hE.2.2.2.1 hE.2.2.2.2 (fits_closed Z x1 0 G 0 true) (by decide) (by decide))
  have HK1 := Lib.hid (fits_val hE.2.2.2.1 hE.2.2.2.2 (fits_closed Z x1 0 G 0 false) (by decide) (by decide))
  have HK2 := Lib.hid (fits_val hE.2.2.2.1 hE.2.2.2.2 (fits_nohole Z of_sq (right := true) rfl G 0 (r1, x1, y1)) (by decide) hl20)
  have HK3 := Lib.hid (fits_val hE.2.2.2.1 hE.2.2.2.2 (fits_nohole Z of_sq (right := false) rfl G 0 (r1, x1, y1)) (by decide) hl20)
  have HK4 : Hid (∀ w0 w' : World, Tab w0 → Below w0.heap.size w0 w' → Calls Tryd.prog 10 #[.agg (rv Z), .agg #[.string { data := #[45, 95] }, .int .i64 9, .int .i64 0], .agg #[.string (mk r1), .int .i64 x1, .int .i64 y1], .bool false] w' fun e w'' => e = .returned (.bool false) ∧ Below w0.heap.size w0 w'') := Lib.hid (fits_val hE.2.2.2.1 hE.2.2.2.2 (fits_nohole Z of_mi (right := false) rfl 9 0 (r1, x1, y1)) (by decide) hl20)
  have HK5 : Hid (∀ w0 w' : World, Tab w0 → Below w0.heap.size w0 w' → Calls Tryd.prog 10 #[.agg (rv Z), .agg #[.string { data := #[95, 33] }, .int .i64 9, .int .i64 0], .agg #[.string (mk r1), .int .i64 x1, .int .i64 y1], .bool true] w' fun e w'' => e = .returned (.bool false) ∧ Below w0.heap.size w0 w'') := Lib.hid (fits_val hE.2.2.2.1 hE.2.2.2.2 (fits_nohole Z of_ex (right := true) rfl 9 0 (r1, x1, y1)) (by decide) hl20)
  have HM := Lib.hid hM
  have HZ := Lib.hid hE.2.2.2.1
  obtain ⟨B, hB⟩ : ∃ B, B = w.heap.size := ⟨_, rfl⟩
  obtain ⟨wB, hwB⟩ : ∃ wB, wB = w.alloc (.cells #[.string (mk p1), .int .i64 g1, .int .i64 s1] 24) := ⟨_, rfl⟩
  have HX1 : Hid (D3 wB B (p1, g1, s1)) := Lib.hid (by rw [hwB, hB]; exact D3.new w (p1, g1, s1))
  have hAB : Below w.heap.size w wB := by rw [hwB]; exact below_alloc w _
  have HAB := Lib.hid hAB
  have HTB : Hid (Tab wB) := Lib.hid (ht.keep hAB)
  have HC : Hid (ChS wB aC len cap C) := Lib.hid (hC.below hAB)
  clear ht hC hok hM hE hro hAB hp1 hl1 hF1 hl20 hb hG hm8
  go_enter Tryd.func6, Tryd.ntmps6
  go_upto_region 1 with fail
  rw [← hwB, ← hB]
  clear hwB hB
  go_wp2_with fail
  refine (shown_any wB HTB.out).mono ?_
  rintro e w1 ⟨rfl, hb1⟩
  have HB1 : Hid (Below wB.heap.size wB w1) := Lib.hid hb1
  clear hb1
  go_wp2_with fail
  refine (HM.out w1 (HC.out.below HB1.out)).mono ?_
  rintro e w2 ⟨a', n', c', rfl, -, hb2⟩
  have HB2 : Hid (Below wB.heap.size wB w2) := Lib.hid (HB1.out.trans (hb2.mono HB1.out.size))
  clear hb2
  have hfd := field_rows a' n' c' HZ.out
  obtain ⟨q0, hq0⟩ : ∃ q, q = w2.heap.size := ⟨_, rfl⟩
  have hnew : ∀ W : World, RB (W.alloc (.cells #[.int .i64 0, .int .i64 0, .int .i64 0, .int .i64 0, .int .i64 0, .int .i64 0, .int .i64 0, .int .i64 0, .int .i64 0, .int .i64 0] 28)) W.heap.size z0 := new_rows
  go_upto_region 3 with (refine store_rows rfl (.tmp 8) (.tmp 15) rfl w2.heap.size rfl Z rfl HZ.out z0 z0_len (hnew w2) ?_; intro w3 hr3 ho3; have HR3 := Lib.hid hr3; have HO3 := Lib.hid ho3; clear hr3 ho3)
  have HB3 : Hid (Below wB.heap.size wB w3) := Lib.hid ((HB2.out.alloc HB2.out.size _).trans (HO3.out.below HB2.out.size))
  rw [← hq0] at HR3 ⊢
  clear hfd hnew hq0 HO3 HB1 HB2
  go_wp2_with (refine load_d3 rfl (.tmp 4) rfl (B) rfl p1 g1 s1 (HX1.out.below HB3.out) ?_)
  refine (HF1.out w3).mono ?_
  rintro e w4 ⟨rfl, hb4⟩
  obtain ⟨q1, hq1⟩ : ∃ q, q = w4.heap.size := ⟨_, rfl⟩
  obtain ⟨w5, hw5⟩ : ∃ x, x = w4.alloc (.cells #[.string (mk r1), .int .i64 x1, .int .i64 y1] 24) := ⟨_, rfl⟩
  have HI5 : Hid (Below w3.heap.size w3 w5) := Lib.hid (by rw [hw5]; exact hb4.alloc hb4.size _)
  have HB5 : Hid (Below wB.heap.size wB w5) := Lib.hid (HB3.out.trans (HI5.out.mono HB3.out.size))
  have HR5 : Hid (RB w5 q0 Z) := Lib.hid (HR3.out.keep HI5.out HR3.out.lt)
  have HD1_5 : Hid (D3 w5 q1 (r1, x1, y1)) := Lib.hid (by rw [hw5, hq1]; exact D3.new w4 (r1, x1, y1))
  clear hb4
  obtain ⟨q2, hq2⟩ : ∃ q, q = w5.heap.size := ⟨_, rfl⟩
  obtain ⟨w6, hw6⟩ : ∃ x, x = w5.alloc (.cells #[.string { data := #[91, 95, 93] }, .int .i64 G, .int .i64 0] 24) := ⟨_, rfl⟩
  obtain ⟨w7, hw7⟩ : ∃ x, x = w6.alloc (.cells #[.string { data := #[95, 43, 95] }, .int .i64 x1, .int .i64 0] 24) := ⟨_, rfl⟩
  have s6 : w6.heap.size = q2 + 1 := by rw [hw6, hq2]; simp
  have HI7 : Hid (Below w5.heap.size w5 w7) := Lib.hid (by rw [hw7, hw6]; exact (below_alloc w5 _).alloc (by simp) _)
  have HB7 : Hid (Below wB.heap.size wB w7) := Lib.hid (HB5.out.trans (HI7.out.mono HB5.out.size))
  have HR7 : Hid (RB w7 q0 Z) := Lib.hid (HR5.out.keep HI7.out HR5.out.lt)
  have HD1_7 : Hid (D3 w7 q1 (r1, x1, y1)) := Lib.hid (HD1_5.out.below HI7.out)
  have HD2_7 : Hid (D3 w7 q2 ([91, 95, 93], G, 0)) := Lib.hid (by rw [hw7, hw6, hq2]; exact (D3.new w5 ([91, 95, 93], G, 0)).alloc _)
  have HD3_7 : Hid (D3 w7 (q2 + 1) ([95, 43, 95], x1, 0)) := Lib.hid (by rw [hw7, ← s6]; exact D3.new w6 ([95, 43, 95], x1, 0))
  have KR : Hid (∀ w', Below w7.heap.size w7 w' → RB w' q0 Z) := Lib.hid fun w' hh => HR7.out.keep hh HR7.out.lt
  have KD1 : Hid (∀ w', Below w7.heap.size w7 w' → D3 w' q1 (r1, x1, y1)) := Lib.hid fun w' hh => HD1_7.out.below hh
  have KD2 : Hid (∀ w', Below w7.heap.size w7 w' → D3 w' q2 ([91, 95, 93], G, 0)) := Lib.hid fun w' hh => HD2_7.out.below hh
  have KD3 : Hid (∀ w', Below w7.heap.size w7 w' → D3 w' (q2 + 1) ([95, 43, 95], x1, 0)) := Lib.hid fun w' hh => HD3_7.out.below hh
  have HTW : Hid (Tab w7) := Lib.hid (HTB.out.keep HB7.out)
  have HB := Lib.hid (Below.refl w7.heap.size w7)
  have d1 : w6.cell? ⟨q1, 1, none⟩ = some (.int .i64 x1) := (HD1_5.out.below (by rw [hw6]; exact below_alloc w5 _)).cells.2.1
  rw [hw6] at d1
  rw [hq2] at s6 KD2 KD3
  clear hq2 HD2_7 HD3_7
  go_upto_region 4 with fail
  rw [← hw5, ← hq1]
  clear hw5 hq1
  go_upto_region 6 with fail
  rw [← hw6, ← hw7]
  try rw [s6]
  clear hw6 hw7 s6 d1
  go_wp2_with (first
    | (refine load_rows rfl (.tmp 8) rfl q0 rfl Z HZ.out (KR.out _ HB.out) ?_)
    | (refine load_d3 rfl (.tmp 9) rfl q1 rfl r1 x1 y1 (KD1.out _ HB.out) ?_)
    | (refine load_d3 rfl (.tmp 10) rfl w5.heap.size rfl [91, 95, 93] G 0 (KD2.out _ HB.out) ?_)
    | (refine load_d3 rfl (.tmp 11) rfl (w5.heap.size + 1) rfl [95, 43, 95] x1 0 (KD3.out _ HB.out) ?_)
    | (go_at_call 10; (with_reducible first | refine (HK0.out w7 _ HTW.out HB.out).mono ?_ | refine (HK1.out w7 _ HTW.out HB.out).mono ?_ | refine (HK2.out w7 _ HTW.out HB.out).mono ?_ | refine (HK3.out w7 _ HTW.out HB.out).mono ?_ | refine (HK4.out w7 _ HTW.out HB.out).mono ?_ | refine (HK5.out w7 _ HTW.out HB.out).mono ?_); rintro e wx ⟨rfl, hbx⟩; have HB := Lib.hid hbx; clear hbx))
  go_ret
  exact ⟨rfl, HAB.out.trans ((HB7.out.trans (HB.out.mono HB7.out.size)).mono HAB.out.size)⟩

end Go.Proofs.YtcegbmhnbmfnnaaDoor
