/- The document's example at the head of all statements; ClassAll's walk. -/
import Derived.Test.YthmpedmfpbfdaaaDoorVd
namespace Go.Proofs.YthmpedmfpbfdaaaDoor
open Go.RowKit

theorem byte_rng {c : Int} (h : (Lit.int .u8 c).wf = true) : 0 ≤ c ∧ c ≤ 255 := by
  have h1 : IntKind.u8.min = 0 := rfl
  have h2 : IntKind.u8.max = 255 := rfl
  simp only [Lit.wf, Bool.and_eq_true, decide_eq_true_eq] at h
  omega

theorem lit1 : runL 5 [58, 45, 120] = 2 := by decide +kernel
theorem lit2 : cls 120 = 2 := by decide +kernel
theorem lit3 : nameB 95 = true := by decide +kernel

set_option maxHeartbeats 400000 in
theorem shown_any (w : World) (ht : Tab w) :
    Calls Tryd.prog 7 #[] w fun e w' => e = .returned (.bool true) ∧ Below w.heap.size w w' := by
  have kc := Joins.run_convert_bytes_const_at (P := Tryd.prog) w 22 5 #[.int .u8 58, .int .u8 45, .int .u8 120] 3 3 w.heap.size rfl Tryd.underlying22 Tryd.underlying5
  have HB1 : Hid (Bs (w.alloc (.cells #[.int .u8 58, .int .u8 45, .int .u8 120] 5 (3, 4))) (some ⟨w.heap.size, 0, none⟩) 3 3 [58, 45, 120]) := Lib.hid (Bs.lit w 5 (by simp) (by simp) rfl rfl (by decide))
  have hb0 : Below w.heap.size w (w.alloc (.cells #[.int .u8 58, .int .u8 45, .int .u8 120] 5 (3, 4))) := (Below.refl _ _).alloc (Nat.le_refl _) _
  have HT := Lib.hid ht
  have HB0 := Lib.hid hb0
  clear ht hb0
  go_enter Tryd.func7, Tryd.ntmps7
  go_wp2_with fail
  refine (run_any _ _ _ _ _ _ HB1.out (HT.out.keep HB0.out)).mono ?_
  rintro e w1 ⟨rfl, hb1⟩
  rw [lit1]
  have HW1 : Hid (Below w.heap.size w w1) := Lib.hid (HB0.out.trans (hb1.mono HB0.out.size))
  clear hb1
  go_wp2_with fail
  refine (of_any _ _ (HT.out.keep HW1.out) (by decide) (by decide)).mono ?_
  rintro e w2 ⟨rfl, hb2⟩
  rw [lit2]
  have HW2 : Hid (Below w.heap.size w w2) := Lib.hid (HW1.out.trans (hb2.mono HW1.out.size))
  clear hb2
  go_wp2_with fail
  refine (name_any _ _ (HT.out.keep HW2.out) (by decide) (by decide)).mono ?_
  rintro e w3 ⟨rfl, hb3⟩
  rw [lit3]
  have HW3 : Hid (Below w.heap.size w w3) := Lib.hid (HW2.out.trans (hb3.mono HW2.out.size))
  clear hb3
  go_wp2
  go_ret
  exact ⟨rfl, HW3.out⟩

set_option maxHeartbeats 400000 in
theorem classAll_any (c : Int) (a : Option Addr) (len cap : Nat) (l : List Int) (n : Int) (w : World) (ht : Tab w) (h : Bs w a len cap l) (h0 : 0 ≤ c) (h1 : c ≤ 255) :
    Calls Tryd.prog 3 #[.int .u8 c, .slice a len cap, .int .i64 n] w fun e w' => e = .returned (.bool true) ∧ Below w.heap.size w w' := by
  have HT := Lib.hid ht
  have H := Lib.hid h
  clear ht h
  go_enter Tryd.func3, Tryd.ntmps3
  go_wp2_with fail
  refine (shown_any _ HT.out).mono ?_
  rintro e w1 ⟨rfl, hb1⟩
  have HW1 := Lib.hid hb1
  clear hb1
  go_wp2_with fail
  refine (of_any _ _ (HT.out.keep HW1.out) h0 h1).mono ?_
  rintro e w2 ⟨rfl, hb2⟩
  have HW2 : Hid (Below w.heap.size w w2) := Lib.hid (HW1.out.trans (hb2.mono HW1.out.size))
  clear hb2
  go_wp2_with fail
  refine (rof_any _ _ h0 h1).mono ?_
  rintro e w' ⟨rfl, rfl⟩
  go_wp2_with fail
  refine (name_any _ _ (HT.out.keep HW2.out) h0 h1).mono ?_
  rintro e w3 ⟨rfl, hb3⟩
  have HW3 : Hid (Below w.heap.size w w3) := Lib.hid (HW2.out.trans (hb3.mono HW2.out.size))
  clear hb3
  go_wp2_with fail
  refine (rname_any _ _ h0 h1).mono ?_
  rintro e w' ⟨rfl, rfl⟩
  go_wp2_with fail
  refine (few_any _ _ _ _ _ (H.out.below HW3.out)).mono ?_
  rintro e w' ⟨rfl, rfl⟩
  go_wp2_with fail
  refine (run_any _ _ _ _ _ _ (few_bs (H.out.below HW3.out)) (HT.out.keep HW3.out)).mono ?_
  rintro e w4 ⟨rfl, hb4⟩
  have HW4 : Hid (Below w.heap.size w w4) := Lib.hid (HW3.out.trans (hb4.mono HW3.out.size))
  clear hb4
  go_wp2_with fail
  refine (few_any _ _ _ _ _ (H.out.below HW4.out)).mono ?_
  rintro e w' ⟨rfl, rfl⟩
  go_wp2_with fail
  refine (rrun_any _ _ _ _ _ _ (few_bs (H.out.below HW4.out))).mono ?_
  rintro e w' ⟨rfl, rfl⟩
  go_wp2
  go_ret
  exact ⟨rfl, HW4.out⟩

end Go.Proofs.YthmpedmfpbfdaaaDoor
