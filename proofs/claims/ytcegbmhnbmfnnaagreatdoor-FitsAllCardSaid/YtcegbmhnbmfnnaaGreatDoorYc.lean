/- Operators and rows in blocks of their own, as a walk loads them; the laws' own shown. -/
import Derived.Test.YtcegbmhnbmfnnaaGreatDoorYb
import Derived.Test.YtcegbmhnbmfnnaaGreatDoorMK
namespace Go.Proofs.YtcegbmhnbmfnnaaGreatDoor
open Go.RowKit

theorem d3_info : (Tryz.prog.info? 28).map (·.size) = some 3 := by kernel_rfl
/-- A load of an operator in a block of its own. -/
theorem load_d3 {ops : Array Oper} {rest : List Oper} {o : Oper} {a : Act} {w : World} {Q : Exit → Act → World → Prop} (hw : Region.wanted o (yielded ops a.tmps) = true) (x : Operand) (ho : o.op = .load 28 x)
    (b : Nat) (hx : a.eval x = .pointer (some ⟨b, 0, none⟩)) (p : Nm) (g s : Int) (h : D3 w b (p, g, s))
    (k : wpList Tryz.prog ops Q rest (a.put o.dst (.agg #[.string (mk p), .int .i64 g, .int .i64 s])) w) : wpList Tryz.prog ops Q (o :: rest) a w :=
  wpList_step fun K hK => by
    rw [if_pos hw]
    exact wp_load_row 28 x ho b hx _ _ _ _ h Tryz.underlying28 rfl d3_info (hK _ _ k)
/-- An env's rows, as a field of its value. -/
theorem field_rows (a : Option Addr) (n c : Nat) {z : List Int} (hz : z.length = 10) (w : World) : (Instr.field 26 (.agg (ev a n c z)) 1).run Tryz.prog w = .ok (.agg (rv z)) w := by
  obtain ⟨y0, y1, y2, y3, y4, y5, y6, y7, y8, y9, rfl⟩ := ten hz
  kernel_rfl
theorem new_rows (w : World) : RB (w.alloc (.cells #[.int .i64 0, .int .i64 0, .int .i64 0, .int .i64 0, .int .i64 0, .int .i64 0, .int .i64 0, .int .i64 0, .int .i64 0, .int .i64 0] 24)) w.heap.size z0 := RB.new w z0
theorem zS_i64 : ∀ i, i < 10 → I64 (bt zS i) := fun i hi => by have := zS_rng i hi; unfold I64; exact this

theorem sh_1 : fitsB zS ([95, 43, 95], 3, 1) ([95, 42, 95], 2, 1) true = true := by decide +kernel
theorem sh_2 : fitsB zS ([95, 43, 95], 3, 1) ([95, 42, 95], 2, 1) false = true := by decide +kernel
theorem sh_3 : fitsB zS ([95, 43, 95], 3, 1) ([95, 43, 95], 3, 1) false = true := by decide +kernel
theorem sh_4 : fitsB zS ([95, 43, 95], 3, 1) ([95, 43, 95], 3, 1) true = false := by decide +kernel
theorem sh_5 : fitsB zS ([95, 42, 95], 2, 1) ([95, 43, 95], 3, 1) false = false := by decide +kernel

set_option maxRecDepth 100000 in
set_option maxHeartbeats 16000000 in
theorem shown_any (w : World) (ht : Tab w) : Calls Tryz.prog 5 #[] w fun e w' => e = .returned (.bool true) ∧ Below w.heap.size w w' := by
  have HT := Lib.hid ht
  have hfd := field_rows none 0 0 (z := zS) rfl
  clear ht
  go_enter Tryz.func5, Tryz.ntmps5
  go_wp2_with fail
  refine (new_any w).mono ?_
  rintro e w1 ⟨rfl, hb1⟩
  obtain ⟨q0, hq0⟩ : ∃ q, q = w1.heap.size := ⟨_, rfl⟩
  have hnew : ∀ W : World, RB (W.alloc (.cells #[.int .i64 0, .int .i64 0, .int .i64 0, .int .i64 0, .int .i64 0, .int .i64 0, .int .i64 0, .int .i64 0, .int .i64 0, .int .i64 0] 24)) W.heap.size z0 := new_rows
  go_upto_region 2 with (refine store_rows rfl (.tmp 1) (.tmp 5) rfl w1.heap.size rfl zS rfl rfl z0 z0_len (hnew w1) ?_; intro w2 hr2 ho2; have HR2 := Lib.hid hr2; have HO2 := Lib.hid ho2; clear hr2 ho2)
  have HB2 : Hid (Below w1.heap.size w1 w2) := Lib.hid ((below_alloc w1 _).trans ((HO2.out.below (Nat.le_refl _)).mono (by simp)))
  rw [← hq0] at HR2 HB2 ⊢
  have HB1 : Hid (Below w.heap.size w w2) := Lib.hid (hb1.trans (HB2.out.mono (by rw [hq0]; exact hb1.size)))
  clear hb1 HO2 HB2 hfd hnew hq0
  obtain ⟨q1, hq1⟩ : ∃ q, q = w2.heap.size := ⟨_, rfl⟩
  obtain ⟨w3, hw3⟩ : ∃ w3, w3 = w2.alloc (.cells #[.string { data := #[95, 43, 95] }, .int .i64 3, .int .i64 1] 28) := ⟨_, rfl⟩
  obtain ⟨w4, hw4⟩ : ∃ w4, w4 = w3.alloc (.cells #[.string { data := #[95, 42, 95] }, .int .i64 2, .int .i64 1] 28) := ⟨_, rfl⟩
  have s3 : w3.heap.size = q1 + 1 := by rw [hw3, hq1]; simp
  have KR : Hid (∀ w', Below w4.heap.size w4 w' → RB w' q0 zS) := Lib.hid fun w' hh => ((HR2.out.alloc (.cells #[.string { data := #[95, 43, 95] }, .int .i64 3, .int .i64 1] 28)).alloc (.cells #[.string { data := #[95, 42, 95] }, .int .i64 2, .int .i64 1] 28)).keep (by rw [← hw3, ← hw4]; exact hh) (by have := HR2.out.lt; rw [hw4, hw3]; simp; omega)
  have K1 : Hid (∀ w', Below w4.heap.size w4 w' → D3 w' q1 ([95, 43, 95], 3, 1)) := Lib.hid fun w' hh => by
    have h3 : D3 w4 q1 ([95, 43, 95], 3, 1) := by rw [hw4, hw3, hq1]; exact (D3.new w2 ([95, 43, 95], 3, 1)).alloc _
    exact h3.below hh
  have K2 : Hid (∀ w', Below w4.heap.size w4 w' → D3 w' (q1 + 1) ([95, 42, 95], 2, 1)) := Lib.hid fun w' hh => by
    have h3 : D3 w4 (q1 + 1) ([95, 42, 95], 2, 1) := by rw [hw4, ← s3]; exact D3.new w3 ([95, 42, 95], 2, 1)
    exact h3.below hh
  have HB4 : Hid (Below w.heap.size w w4) := Lib.hid (by rw [hw4, hw3]; exact (HB1.out.alloc HB1.out.size _).alloc (by have := HB1.out.size; simp; omega) _)
  have KTB : Hid (∀ w', Below w4.heap.size w4 w' → Tab w') := Lib.hid fun w' hh => (HT.out.keep HB4.out).keep hh
  have KF : ∀ {o k : OP} {right v : Bool}, fitsB zS o k right = v → o.1.length ≤ 1000000 → k.1.length ≤ 1000000 → ∀ w', Below w4.heap.size w4 w' → Calls Tryz.prog 8 #[.agg (rv zS), .agg #[.string (mk o.1), .int .i64 o.2.1, .int .i64 o.2.2], .agg #[.string (mk k.1), .int .i64 k.2.1, .int .i64 k.2.2], .bool right] w' fun e w'' => e = .returned (.bool v) ∧ Below w4.heap.size w4 w'' := fun hv h1 h2 w' hh => by
    refine (fits_any zS rfl zS_i64 _ _ _ _ _ _ _ w' (KTB.out w' hh) h1 h2).mono ?_
    rintro e w'' ⟨rfl, hb⟩
    exact ⟨by rw [← hv], hh.trans (hb.mono hh.size)⟩
  have K11 := Lib.hid (KF sh_1 (by decide) (by decide))
  have K12 := Lib.hid (KF sh_2 (by decide) (by decide))
  have K13 := Lib.hid (KF sh_3 (by decide) (by decide))
  have K14 := Lib.hid (KF sh_4 (by decide) (by decide))
  have K15 := Lib.hid (KF sh_5 (by decide) (by decide))
  have HB := Lib.hid (Below.refl w4.heap.size w4)
  clear KF
  go_upto_region 4 with fail
  rw [← hw3, ← hw4]
  try rw [s3]
  try rw [← hq1]
  clear hw3 hw4 s3 hq1 HR2
  go_wp2_with (first
    | (refine load_rows rfl (.tmp 1) rfl q0 rfl zS rfl (KR.out _ HB.out) ?_)
    | (refine load_d3 rfl (.tmp 2) rfl q1 rfl [95, 43, 95] 3 1 (K1.out _ HB.out) ?_)
    | (refine load_d3 rfl (.tmp 3) rfl (q1 + 1) rfl [95, 42, 95] 2 1 (K2.out _ HB.out) ?_)
    | (go_at_call 8; (with_reducible first | refine (K11.out _ HB.out).mono ?_ | refine (K12.out _ HB.out).mono ?_ | refine (K13.out _ HB.out).mono ?_ | refine (K14.out _ HB.out).mono ?_ | refine (K15.out _ HB.out).mono ?_); rintro e w5 ⟨rfl, hb5⟩; have HB := Lib.hid hb5; clear hb5))
  go_ret
  exact ⟨rfl, HB4.out.trans (HB.out.mono HB4.out.size)⟩

end Go.Proofs.YtcegbmhnbmfnnaaGreatDoor
