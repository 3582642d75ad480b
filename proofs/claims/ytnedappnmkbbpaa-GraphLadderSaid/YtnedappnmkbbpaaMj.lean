/- GraphLadder (laid by genMj.py). -/
import Derived.Test.YtnedappnmkbbpaaMi
namespace Go.Proofs.Ytnedappnmkbbpaa
open Go.RowKit

theorem and3 (a : Int) : ∃ A : Nat, bits .and .i64 a 3 = A ∧ A ≤ 3 := by
  refine ⟨(a % 4).toNat, ?_, by omega⟩
  show IntKind.i64.wrap ((BitVec.ofInt 64 a &&& BitVec.ofInt 64 3).toNat : Int) = _
  have : (BitVec.ofInt 64 a &&& BitVec.ofInt 64 3).toNat = (a % 4).toNat := by
    rw [BitVec.toNat_and, BitVec.toNat_ofInt, show (BitVec.ofInt 64 3).toNat = 2 ^ 2 - 1 from rfl, Nat.and_two_pow_sub_one_eq_mod]
    omega
  rw [this, IntKind.wrap_i64]
  omega

theorem lad_tgt (g h : Int) : tgt zS g h = decide (1 ≤ g ∧ g ≤ 5 ∧ 1 ≤ h ∧ h < g) := by
  by_cases hin : inB 0 [g, h] = true
  · obtain ⟨⟨g1, g2⟩, h1, h2⟩ := (inB_two 0 g h).1 hin
    obtain ⟨x, rfl⟩ := Int.eq_ofNat_of_zero_le g1
    obtain ⟨y, rfl⟩ := Int.eq_ofNat_of_zero_le h1
    rw [tgt, hin, T, Int.toNat_natCast, Int.toNat_natCast, zS_bits x (by omega) y (by omega), Bool.true_and]
    congr 1
    apply propext
    omega
  · rw [tgt, show inB 0 [g, h] = false by simpa using hin, decide_eq_false]
    · rfl
    · intro hh
      exact hin ((inB_two 0 g h).2 (by omega))

set_option maxRecDepth 20000 in
set_option maxHeartbeats 4000000 in
theorem ladder_any (g h : Int) (w : World) : Calls Try.prog 7 #[.int .i64 g, .int .i64 h] w fun e w' => e = .returned (.bool true) ∧ Below w.heap.size w w' := by
  obtain ⟨A, hA, hA3⟩ := and3 g
  obtain ⟨B, hB, hB3⟩ := and3 h
  have hw1 : IntKind.i64.wrap (1 + (A : Int)) = (A : Int) + 1 := by rw [IntKind.wrap_i64]; omega
  by_cases c1 : 1 ≤ g
  · by_cases c2 : g ≤ 5
    · by_cases c3 : 1 ≤ h
      · by_cases c4 : h < g
        · have HW : Hid (tgt zS g h = true) := Lib.hid (by rw [lad_tgt]; simp; omega)
          by_cases hb0 : B = 0
          · have HAB : Hid (tgt zS ((A : Int) + 1) B = false) := Lib.hid (by rw [lad_tgt]; simp; omega)
            have q1 : decide (1 ≤ (B : Int)) = false := by simp; omega
            clear hb0
            go_enter Try.func7, Try.ntmps7
            go_wp2_with fail
            refine (shown_any w).mono ?_
            rintro e w1 ⟨rfl, hb1⟩
            have HB1 := Lib.hid hb1
            clear hb1
            go_wp2_with fail
            refine (start_any w1).mono ?_
            rintro e w2 ⟨rfl, hb2⟩
            have HB2 := Lib.hid (HB1.out.trans (hb2.mono HB1.out.size))
            clear hb2
            go_wp2_with (first
              | (refine store_rows rfl (.tmp 6) (.tmp 9) rfl w2.heap.size rfl zS rfl rfl z0 z0_len (heap_alloc_new w2 _) ?_; intro w3 hr3 ho3; have HR3 := Lib.hid hr3; have HB3 := Lib.hid ((HB2.out.alloc HB2.out.size _).trans (ho3.below HB2.out.size)); clear hr3 ho3)
              | (refine load_rows rfl (.tmp 6) rfl w2.heap.size rfl zS rfl HR3.out ?_))
            refine (tighter_any zS rfl zS_rng g h w3).mono ?_
            rw [HW.out]
            rintro e w4 ⟨rfl, hb4⟩
            have HR4 := Lib.hid (RB.keep HR3.out hb4 HR3.out.lt)
            have HB4 := Lib.hid (HB3.out.trans (hb4.mono HB3.out.size))
            clear hb4
            go_wp2_with (refine load_rows rfl (.tmp 6) rfl w2.heap.size rfl zS rfl HR4.out ?_)
            refine (tighter_any zS rfl zS_rng _ _ w4).mono ?_
            rw [HAB.out]
            rintro e w5 ⟨rfl, hb5⟩
            have HB5 := Lib.hid (HB4.out.trans (hb5.mono HB4.out.size))
            clear hb5
            go_wp2
            go_ret
            exact ⟨by rfl, HB5.out⟩
          · have q1 : decide (1 ≤ (B : Int)) = true := by simp; omega
            by_cases hab : B ≤ A
            · have HAB : Hid (tgt zS ((A : Int) + 1) B = true) := Lib.hid (by rw [lad_tgt]; simp; omega)
              have q2 : decide ((B : Int) ≤ A) = true := by simp; omega
              clear hb0
              go_enter Try.func7, Try.ntmps7
              go_wp2_with fail
              refine (shown_any w).mono ?_
              rintro e w1 ⟨rfl, hb1⟩
              have HB1 := Lib.hid hb1
              clear hb1
              go_wp2_with fail
              refine (start_any w1).mono ?_
              rintro e w2 ⟨rfl, hb2⟩
              have HB2 := Lib.hid (HB1.out.trans (hb2.mono HB1.out.size))
              clear hb2
              go_wp2_with (first
                | (refine store_rows rfl (.tmp 6) (.tmp 9) rfl w2.heap.size rfl zS rfl rfl z0 z0_len (heap_alloc_new w2 _) ?_; intro w3 hr3 ho3; have HR3 := Lib.hid hr3; have HB3 := Lib.hid ((HB2.out.alloc HB2.out.size _).trans (ho3.below HB2.out.size)); clear hr3 ho3)
                | (refine load_rows rfl (.tmp 6) rfl w2.heap.size rfl zS rfl HR3.out ?_))
              refine (tighter_any zS rfl zS_rng g h w3).mono ?_
              rw [HW.out]
              rintro e w4 ⟨rfl, hb4⟩
              have HR4 := Lib.hid (RB.keep HR3.out hb4 HR3.out.lt)
              have HB4 := Lib.hid (HB3.out.trans (hb4.mono HB3.out.size))
              clear hb4
              go_wp2_with (refine load_rows rfl (.tmp 6) rfl w2.heap.size rfl zS rfl HR4.out ?_)
              refine (tighter_any zS rfl zS_rng _ _ w4).mono ?_
              rw [HAB.out]
              rintro e w5 ⟨rfl, hb5⟩
              have HB5 := Lib.hid (HB4.out.trans (hb5.mono HB4.out.size))
              clear hb5
              go_wp2
              go_ret
              exact ⟨by rfl, HB5.out⟩
            · have HAB : Hid (tgt zS ((A : Int) + 1) B = false) := Lib.hid (by rw [lad_tgt]; simp; omega)
              have q2 : decide ((B : Int) ≤ A) = false := by simp; omega
              clear hb0
              go_enter Try.func7, Try.ntmps7
              go_wp2_with fail
              refine (shown_any w).mono ?_
              rintro e w1 ⟨rfl, hb1⟩
              have HB1 := Lib.hid hb1
              clear hb1
              go_wp2_with fail
              refine (start_any w1).mono ?_
              rintro e w2 ⟨rfl, hb2⟩
              have HB2 := Lib.hid (HB1.out.trans (hb2.mono HB1.out.size))
              clear hb2
              go_wp2_with (first
                | (refine store_rows rfl (.tmp 6) (.tmp 9) rfl w2.heap.size rfl zS rfl rfl z0 z0_len (heap_alloc_new w2 _) ?_; intro w3 hr3 ho3; have HR3 := Lib.hid hr3; have HB3 := Lib.hid ((HB2.out.alloc HB2.out.size _).trans (ho3.below HB2.out.size)); clear hr3 ho3)
                | (refine load_rows rfl (.tmp 6) rfl w2.heap.size rfl zS rfl HR3.out ?_))
              refine (tighter_any zS rfl zS_rng g h w3).mono ?_
              rw [HW.out]
              rintro e w4 ⟨rfl, hb4⟩
              have HR4 := Lib.hid (RB.keep HR3.out hb4 HR3.out.lt)
              have HB4 := Lib.hid (HB3.out.trans (hb4.mono HB3.out.size))
              clear hb4
              go_wp2_with (refine load_rows rfl (.tmp 6) rfl w2.heap.size rfl zS rfl HR4.out ?_)
              refine (tighter_any zS rfl zS_rng _ _ w4).mono ?_
              rw [HAB.out]
              rintro e w5 ⟨rfl, hb5⟩
              have HB5 := Lib.hid (HB4.out.trans (hb5.mono HB4.out.size))
              clear hb5
              go_wp2
              go_ret
              exact ⟨by rfl, HB5.out⟩
        · have q0 : decide (h < g) = false := by simp; omega
          have HW : Hid (tgt zS g h = false) := Lib.hid (by rw [lad_tgt]; simp; omega)
          by_cases hb0 : B = 0
          · have HAB : Hid (tgt zS ((A : Int) + 1) B = false) := Lib.hid (by rw [lad_tgt]; simp; omega)
            have q1 : decide (1 ≤ (B : Int)) = false := by simp; omega
            clear hb0
            go_enter Try.func7, Try.ntmps7
            go_wp2_with fail
            refine (shown_any w).mono ?_
            rintro e w1 ⟨rfl, hb1⟩
            have HB1 := Lib.hid hb1
            clear hb1
            go_wp2_with fail
            refine (start_any w1).mono ?_
            rintro e w2 ⟨rfl, hb2⟩
            have HB2 := Lib.hid (HB1.out.trans (hb2.mono HB1.out.size))
            clear hb2
            go_wp2_with (first
              | (refine store_rows rfl (.tmp 6) (.tmp 9) rfl w2.heap.size rfl zS rfl rfl z0 z0_len (heap_alloc_new w2 _) ?_; intro w3 hr3 ho3; have HR3 := Lib.hid hr3; have HB3 := Lib.hid ((HB2.out.alloc HB2.out.size _).trans (ho3.below HB2.out.size)); clear hr3 ho3)
              | (refine load_rows rfl (.tmp 6) rfl w2.heap.size rfl zS rfl HR3.out ?_))
            refine (tighter_any zS rfl zS_rng g h w3).mono ?_
            rw [HW.out]
            rintro e w4 ⟨rfl, hb4⟩
            have HR4 := Lib.hid (RB.keep HR3.out hb4 HR3.out.lt)
            have HB4 := Lib.hid (HB3.out.trans (hb4.mono HB3.out.size))
            clear hb4
            go_wp2_with (refine load_rows rfl (.tmp 6) rfl w2.heap.size rfl zS rfl HR4.out ?_)
            refine (tighter_any zS rfl zS_rng _ _ w4).mono ?_
            rw [HAB.out]
            rintro e w5 ⟨rfl, hb5⟩
            have HB5 := Lib.hid (HB4.out.trans (hb5.mono HB4.out.size))
            clear hb5
            go_wp2
            go_ret
            exact ⟨by rfl, HB5.out⟩
          · have q1 : decide (1 ≤ (B : Int)) = true := by simp; omega
            by_cases hab : B ≤ A
            · have HAB : Hid (tgt zS ((A : Int) + 1) B = true) := Lib.hid (by rw [lad_tgt]; simp; omega)
              have q2 : decide ((B : Int) ≤ A) = true := by simp; omega
              clear hb0
              go_enter Try.func7, Try.ntmps7
              go_wp2_with fail
              refine (shown_any w).mono ?_
              rintro e w1 ⟨rfl, hb1⟩
              have HB1 := Lib.hid hb1
              clear hb1
              go_wp2_with fail
              refine (start_any w1).mono ?_
              rintro e w2 ⟨rfl, hb2⟩
              have HB2 := Lib.hid (HB1.out.trans (hb2.mono HB1.out.size))
              clear hb2
              go_wp2_with (first
                | (refine store_rows rfl (.tmp 6) (.tmp 9) rfl w2.heap.size rfl zS rfl rfl z0 z0_len (heap_alloc_new w2 _) ?_; intro w3 hr3 ho3; have HR3 := Lib.hid hr3; have HB3 := Lib.hid ((HB2.out.alloc HB2.out.size _).trans (ho3.below HB2.out.size)); clear hr3 ho3)
                | (refine load_rows rfl (.tmp 6) rfl w2.heap.size rfl zS rfl HR3.out ?_))
              refine (tighter_any zS rfl zS_rng g h w3).mono ?_
              rw [HW.out]
              rintro e w4 ⟨rfl, hb4⟩
              have HR4 := Lib.hid (RB.keep HR3.out hb4 HR3.out.lt)
              have HB4 := Lib.hid (HB3.out.trans (hb4.mono HB3.out.size))
              clear hb4
              go_wp2_with (refine load_rows rfl (.tmp 6) rfl w2.heap.size rfl zS rfl HR4.out ?_)
              refine (tighter_any zS rfl zS_rng _ _ w4).mono ?_
              rw [HAB.out]
              rintro e w5 ⟨rfl, hb5⟩
              have HB5 := Lib.hid (HB4.out.trans (hb5.mono HB4.out.size))
              clear hb5
              go_wp2
              go_ret
              exact ⟨by rfl, HB5.out⟩
            · have HAB : Hid (tgt zS ((A : Int) + 1) B = false) := Lib.hid (by rw [lad_tgt]; simp; omega)
              have q2 : decide ((B : Int) ≤ A) = false := by simp; omega
              clear hb0
              go_enter Try.func7, Try.ntmps7
              go_wp2_with fail
              refine (shown_any w).mono ?_
              rintro e w1 ⟨rfl, hb1⟩
              have HB1 := Lib.hid hb1
              clear hb1
              go_wp2_with fail
              refine (start_any w1).mono ?_
              rintro e w2 ⟨rfl, hb2⟩
              have HB2 := Lib.hid (HB1.out.trans (hb2.mono HB1.out.size))
              clear hb2
              go_wp2_with (first
                | (refine store_rows rfl (.tmp 6) (.tmp 9) rfl w2.heap.size rfl zS rfl rfl z0 z0_len (heap_alloc_new w2 _) ?_; intro w3 hr3 ho3; have HR3 := Lib.hid hr3; have HB3 := Lib.hid ((HB2.out.alloc HB2.out.size _).trans (ho3.below HB2.out.size)); clear hr3 ho3)
                | (refine load_rows rfl (.tmp 6) rfl w2.heap.size rfl zS rfl HR3.out ?_))
              refine (tighter_any zS rfl zS_rng g h w3).mono ?_
              rw [HW.out]
              rintro e w4 ⟨rfl, hb4⟩
              have HR4 := Lib.hid (RB.keep HR3.out hb4 HR3.out.lt)
              have HB4 := Lib.hid (HB3.out.trans (hb4.mono HB3.out.size))
              clear hb4
              go_wp2_with (refine load_rows rfl (.tmp 6) rfl w2.heap.size rfl zS rfl HR4.out ?_)
              refine (tighter_any zS rfl zS_rng _ _ w4).mono ?_
              rw [HAB.out]
              rintro e w5 ⟨rfl, hb5⟩
              have HB5 := Lib.hid (HB4.out.trans (hb5.mono HB4.out.size))
              clear hb5
              go_wp2
              go_ret
              exact ⟨by rfl, HB5.out⟩
      · have HW : Hid (tgt zS g h = false) := Lib.hid (by rw [lad_tgt]; simp; omega)
        by_cases hb0 : B = 0
        · have HAB : Hid (tgt zS ((A : Int) + 1) B = false) := Lib.hid (by rw [lad_tgt]; simp; omega)
          have q1 : decide (1 ≤ (B : Int)) = false := by simp; omega
          clear hb0
          go_enter Try.func7, Try.ntmps7
          go_wp2_with fail
          refine (shown_any w).mono ?_
          rintro e w1 ⟨rfl, hb1⟩
          have HB1 := Lib.hid hb1
          clear hb1
          go_wp2_with fail
          refine (start_any w1).mono ?_
          rintro e w2 ⟨rfl, hb2⟩
          have HB2 := Lib.hid (HB1.out.trans (hb2.mono HB1.out.size))
          clear hb2
          go_wp2_with (first
            | (refine store_rows rfl (.tmp 6) (.tmp 9) rfl w2.heap.size rfl zS rfl rfl z0 z0_len (heap_alloc_new w2 _) ?_; intro w3 hr3 ho3; have HR3 := Lib.hid hr3; have HB3 := Lib.hid ((HB2.out.alloc HB2.out.size _).trans (ho3.below HB2.out.size)); clear hr3 ho3)
            | (refine load_rows rfl (.tmp 6) rfl w2.heap.size rfl zS rfl HR3.out ?_))
          refine (tighter_any zS rfl zS_rng g h w3).mono ?_
          rw [HW.out]
          rintro e w4 ⟨rfl, hb4⟩
          have HR4 := Lib.hid (RB.keep HR3.out hb4 HR3.out.lt)
          have HB4 := Lib.hid (HB3.out.trans (hb4.mono HB3.out.size))
          clear hb4
          go_wp2_with (refine load_rows rfl (.tmp 6) rfl w2.heap.size rfl zS rfl HR4.out ?_)
          refine (tighter_any zS rfl zS_rng _ _ w4).mono ?_
          rw [HAB.out]
          rintro e w5 ⟨rfl, hb5⟩
          have HB5 := Lib.hid (HB4.out.trans (hb5.mono HB4.out.size))
          clear hb5
          go_wp2
          go_ret
          exact ⟨by rfl, HB5.out⟩
        · have q1 : decide (1 ≤ (B : Int)) = true := by simp; omega
          by_cases hab : B ≤ A
          · have HAB : Hid (tgt zS ((A : Int) + 1) B = true) := Lib.hid (by rw [lad_tgt]; simp; omega)
            have q2 : decide ((B : Int) ≤ A) = true := by simp; omega
            clear hb0
            go_enter Try.func7, Try.ntmps7
            go_wp2_with fail
            refine (shown_any w).mono ?_
            rintro e w1 ⟨rfl, hb1⟩
            have HB1 := Lib.hid hb1
            clear hb1
            go_wp2_with fail
            refine (start_any w1).mono ?_
            rintro e w2 ⟨rfl, hb2⟩
            have HB2 := Lib.hid (HB1.out.trans (hb2.mono HB1.out.size))
            clear hb2
            go_wp2_with (first
              | (refine store_rows rfl (.tmp 6) (.tmp 9) rfl w2.heap.size rfl zS rfl rfl z0 z0_len (heap_alloc_new w2 _) ?_; intro w3 hr3 ho3; have HR3 := Lib.hid hr3; have HB3 := Lib.hid ((HB2.out.alloc HB2.out.size _).trans (ho3.below HB2.out.size)); clear hr3 ho3)
              | (refine load_rows rfl (.tmp 6) rfl w2.heap.size rfl zS rfl HR3.out ?_))
            refine (tighter_any zS rfl zS_rng g h w3).mono ?_
            rw [HW.out]
            rintro e w4 ⟨rfl, hb4⟩
            have HR4 := Lib.hid (RB.keep HR3.out hb4 HR3.out.lt)
            have HB4 := Lib.hid (HB3.out.trans (hb4.mono HB3.out.size))
            clear hb4
            go_wp2_with (refine load_rows rfl (.tmp 6) rfl w2.heap.size rfl zS rfl HR4.out ?_)
            refine (tighter_any zS rfl zS_rng _ _ w4).mono ?_
            rw [HAB.out]
            rintro e w5 ⟨rfl, hb5⟩
            have HB5 := Lib.hid (HB4.out.trans (hb5.mono HB4.out.size))
            clear hb5
            go_wp2
            go_ret
            exact ⟨by rfl, HB5.out⟩
          · have HAB : Hid (tgt zS ((A : Int) + 1) B = false) := Lib.hid (by rw [lad_tgt]; simp; omega)
            have q2 : decide ((B : Int) ≤ A) = false := by simp; omega
            clear hb0
            go_enter Try.func7, Try.ntmps7
            go_wp2_with fail
            refine (shown_any w).mono ?_
            rintro e w1 ⟨rfl, hb1⟩
            have HB1 := Lib.hid hb1
            clear hb1
            go_wp2_with fail
            refine (start_any w1).mono ?_
            rintro e w2 ⟨rfl, hb2⟩
            have HB2 := Lib.hid (HB1.out.trans (hb2.mono HB1.out.size))
            clear hb2
            go_wp2_with (first
              | (refine store_rows rfl (.tmp 6) (.tmp 9) rfl w2.heap.size rfl zS rfl rfl z0 z0_len (heap_alloc_new w2 _) ?_; intro w3 hr3 ho3; have HR3 := Lib.hid hr3; have HB3 := Lib.hid ((HB2.out.alloc HB2.out.size _).trans (ho3.below HB2.out.size)); clear hr3 ho3)
              | (refine load_rows rfl (.tmp 6) rfl w2.heap.size rfl zS rfl HR3.out ?_))
            refine (tighter_any zS rfl zS_rng g h w3).mono ?_
            rw [HW.out]
            rintro e w4 ⟨rfl, hb4⟩
            have HR4 := Lib.hid (RB.keep HR3.out hb4 HR3.out.lt)
            have HB4 := Lib.hid (HB3.out.trans (hb4.mono HB3.out.size))
            clear hb4
            go_wp2_with (refine load_rows rfl (.tmp 6) rfl w2.heap.size rfl zS rfl HR4.out ?_)
            refine (tighter_any zS rfl zS_rng _ _ w4).mono ?_
            rw [HAB.out]
            rintro e w5 ⟨rfl, hb5⟩
            have HB5 := Lib.hid (HB4.out.trans (hb5.mono HB4.out.size))
            clear hb5
            go_wp2
            go_ret
            exact ⟨by rfl, HB5.out⟩
    · have HW : Hid (tgt zS g h = false) := Lib.hid (by rw [lad_tgt]; simp; omega)
      by_cases hb0 : B = 0
      · have HAB : Hid (tgt zS ((A : Int) + 1) B = false) := Lib.hid (by rw [lad_tgt]; simp; omega)
        have q1 : decide (1 ≤ (B : Int)) = false := by simp; omega
        clear hb0
        go_enter Try.func7, Try.ntmps7
        go_wp2_with fail
        refine (shown_any w).mono ?_
        rintro e w1 ⟨rfl, hb1⟩
        have HB1 := Lib.hid hb1
        clear hb1
        go_wp2_with fail
        refine (start_any w1).mono ?_
        rintro e w2 ⟨rfl, hb2⟩
        have HB2 := Lib.hid (HB1.out.trans (hb2.mono HB1.out.size))
        clear hb2
        go_wp2_with (first
          | (refine store_rows rfl (.tmp 6) (.tmp 9) rfl w2.heap.size rfl zS rfl rfl z0 z0_len (heap_alloc_new w2 _) ?_; intro w3 hr3 ho3; have HR3 := Lib.hid hr3; have HB3 := Lib.hid ((HB2.out.alloc HB2.out.size _).trans (ho3.below HB2.out.size)); clear hr3 ho3)
          | (refine load_rows rfl (.tmp 6) rfl w2.heap.size rfl zS rfl HR3.out ?_))
        refine (tighter_any zS rfl zS_rng g h w3).mono ?_
        rw [HW.out]
        rintro e w4 ⟨rfl, hb4⟩
        have HR4 := Lib.hid (RB.keep HR3.out hb4 HR3.out.lt)
        have HB4 := Lib.hid (HB3.out.trans (hb4.mono HB3.out.size))
        clear hb4
        go_wp2_with (refine load_rows rfl (.tmp 6) rfl w2.heap.size rfl zS rfl HR4.out ?_)
        refine (tighter_any zS rfl zS_rng _ _ w4).mono ?_
        rw [HAB.out]
        rintro e w5 ⟨rfl, hb5⟩
        have HB5 := Lib.hid (HB4.out.trans (hb5.mono HB4.out.size))
        clear hb5
        go_wp2
        go_ret
        exact ⟨by rfl, HB5.out⟩
      · have q1 : decide (1 ≤ (B : Int)) = true := by simp; omega
        by_cases hab : B ≤ A
        · have HAB : Hid (tgt zS ((A : Int) + 1) B = true) := Lib.hid (by rw [lad_tgt]; simp; omega)
          have q2 : decide ((B : Int) ≤ A) = true := by simp; omega
          clear hb0
          go_enter Try.func7, Try.ntmps7
          go_wp2_with fail
          refine (shown_any w).mono ?_
          rintro e w1 ⟨rfl, hb1⟩
          have HB1 := Lib.hid hb1
          clear hb1
          go_wp2_with fail
          refine (start_any w1).mono ?_
          rintro e w2 ⟨rfl, hb2⟩
          have HB2 := Lib.hid (HB1.out.trans (hb2.mono HB1.out.size))
          clear hb2
          go_wp2_with (first
            | (refine store_rows rfl (.tmp 6) (.tmp 9) rfl w2.heap.size rfl zS rfl rfl z0 z0_len (heap_alloc_new w2 _) ?_; intro w3 hr3 ho3; have HR3 := Lib.hid hr3; have HB3 := Lib.hid ((HB2.out.alloc HB2.out.size _).trans (ho3.below HB2.out.size)); clear hr3 ho3)
            | (refine load_rows rfl (.tmp 6) rfl w2.heap.size rfl zS rfl HR3.out ?_))
          refine (tighter_any zS rfl zS_rng g h w3).mono ?_
          rw [HW.out]
          rintro e w4 ⟨rfl, hb4⟩
          have HR4 := Lib.hid (RB.keep HR3.out hb4 HR3.out.lt)
          have HB4 := Lib.hid (HB3.out.trans (hb4.mono HB3.out.size))
          clear hb4
          go_wp2_with (refine load_rows rfl (.tmp 6) rfl w2.heap.size rfl zS rfl HR4.out ?_)
          refine (tighter_any zS rfl zS_rng _ _ w4).mono ?_
          rw [HAB.out]
          rintro e w5 ⟨rfl, hb5⟩
          have HB5 := Lib.hid (HB4.out.trans (hb5.mono HB4.out.size))
          clear hb5
          go_wp2
          go_ret
          exact ⟨by rfl, HB5.out⟩
        · have HAB : Hid (tgt zS ((A : Int) + 1) B = false) := Lib.hid (by rw [lad_tgt]; simp; omega)
          have q2 : decide ((B : Int) ≤ A) = false := by simp; omega
          clear hb0
          go_enter Try.func7, Try.ntmps7
          go_wp2_with fail
          refine (shown_any w).mono ?_
          rintro e w1 ⟨rfl, hb1⟩
          have HB1 := Lib.hid hb1
          clear hb1
          go_wp2_with fail
          refine (start_any w1).mono ?_
          rintro e w2 ⟨rfl, hb2⟩
          have HB2 := Lib.hid (HB1.out.trans (hb2.mono HB1.out.size))
          clear hb2
          go_wp2_with (first
            | (refine store_rows rfl (.tmp 6) (.tmp 9) rfl w2.heap.size rfl zS rfl rfl z0 z0_len (heap_alloc_new w2 _) ?_; intro w3 hr3 ho3; have HR3 := Lib.hid hr3; have HB3 := Lib.hid ((HB2.out.alloc HB2.out.size _).trans (ho3.below HB2.out.size)); clear hr3 ho3)
            | (refine load_rows rfl (.tmp 6) rfl w2.heap.size rfl zS rfl HR3.out ?_))
          refine (tighter_any zS rfl zS_rng g h w3).mono ?_
          rw [HW.out]
          rintro e w4 ⟨rfl, hb4⟩
          have HR4 := Lib.hid (RB.keep HR3.out hb4 HR3.out.lt)
          have HB4 := Lib.hid (HB3.out.trans (hb4.mono HB3.out.size))
          clear hb4
          go_wp2_with (refine load_rows rfl (.tmp 6) rfl w2.heap.size rfl zS rfl HR4.out ?_)
          refine (tighter_any zS rfl zS_rng _ _ w4).mono ?_
          rw [HAB.out]
          rintro e w5 ⟨rfl, hb5⟩
          have HB5 := Lib.hid (HB4.out.trans (hb5.mono HB4.out.size))
          clear hb5
          go_wp2
          go_ret
          exact ⟨by rfl, HB5.out⟩
  · have HW : Hid (tgt zS g h = false) := Lib.hid (by rw [lad_tgt]; simp; omega)
    by_cases hb0 : B = 0
    · have HAB : Hid (tgt zS ((A : Int) + 1) B = false) := Lib.hid (by rw [lad_tgt]; simp; omega)
      have q1 : decide (1 ≤ (B : Int)) = false := by simp; omega
      clear hb0
      go_enter Try.func7, Try.ntmps7
      go_wp2_with fail
      refine (shown_any w).mono ?_
      rintro e w1 ⟨rfl, hb1⟩
      have HB1 := Lib.hid hb1
      clear hb1
      go_wp2_with fail
      refine (start_any w1).mono ?_
      rintro e w2 ⟨rfl, hb2⟩
      have HB2 := Lib.hid (HB1.out.trans (hb2.mono HB1.out.size))
      clear hb2
      go_wp2_with (first
        | (refine store_rows rfl (.tmp 6) (.tmp 9) rfl w2.heap.size rfl zS rfl rfl z0 z0_len (heap_alloc_new w2 _) ?_; intro w3 hr3 ho3; have HR3 := Lib.hid hr3; have HB3 := Lib.hid ((HB2.out.alloc HB2.out.size _).trans (ho3.below HB2.out.size)); clear hr3 ho3)
        | (refine load_rows rfl (.tmp 6) rfl w2.heap.size rfl zS rfl HR3.out ?_))
      refine (tighter_any zS rfl zS_rng g h w3).mono ?_
      rw [HW.out]
      rintro e w4 ⟨rfl, hb4⟩
      have HR4 := Lib.hid (RB.keep HR3.out hb4 HR3.out.lt)
      have HB4 := Lib.hid (HB3.out.trans (hb4.mono HB3.out.size))
      clear hb4
      go_wp2_with (refine load_rows rfl (.tmp 6) rfl w2.heap.size rfl zS rfl HR4.out ?_)
      refine (tighter_any zS rfl zS_rng _ _ w4).mono ?_
      rw [HAB.out]
      rintro e w5 ⟨rfl, hb5⟩
      have HB5 := Lib.hid (HB4.out.trans (hb5.mono HB4.out.size))
      clear hb5
      go_wp2
      go_ret
      exact ⟨by rfl, HB5.out⟩
    · have q1 : decide (1 ≤ (B : Int)) = true := by simp; omega
      by_cases hab : B ≤ A
      · have HAB : Hid (tgt zS ((A : Int) + 1) B = true) := Lib.hid (by rw [lad_tgt]; simp; omega)
        have q2 : decide ((B : Int) ≤ A) = true := by simp; omega
        clear hb0
        go_enter Try.func7, Try.ntmps7
        go_wp2_with fail
        refine (shown_any w).mono ?_
        rintro e w1 ⟨rfl, hb1⟩
        have HB1 := Lib.hid hb1
        clear hb1
        go_wp2_with fail
        refine (start_any w1).mono ?_
        rintro e w2 ⟨rfl, hb2⟩
        have HB2 := Lib.hid (HB1.out.trans (hb2.mono HB1.out.size))
        clear hb2
        go_wp2_with (first
          | (refine store_rows rfl (.tmp 6) (.tmp 9) rfl w2.heap.size rfl zS rfl rfl z0 z0_len (heap_alloc_new w2 _) ?_; intro w3 hr3 ho3; have HR3 := Lib.hid hr3; have HB3 := Lib.hid ((HB2.out.alloc HB2.out.size _).trans (ho3.below HB2.out.size)); clear hr3 ho3)
          | (refine load_rows rfl (.tmp 6) rfl w2.heap.size rfl zS rfl HR3.out ?_))
        refine (tighter_any zS rfl zS_rng g h w3).mono ?_
        rw [HW.out]
        rintro e w4 ⟨rfl, hb4⟩
        have HR4 := Lib.hid (RB.keep HR3.out hb4 HR3.out.lt)
        have HB4 := Lib.hid (HB3.out.trans (hb4.mono HB3.out.size))
        clear hb4
        go_wp2_with (refine load_rows rfl (.tmp 6) rfl w2.heap.size rfl zS rfl HR4.out ?_)
        refine (tighter_any zS rfl zS_rng _ _ w4).mono ?_
        rw [HAB.out]
        rintro e w5 ⟨rfl, hb5⟩
        have HB5 := Lib.hid (HB4.out.trans (hb5.mono HB4.out.size))
        clear hb5
        go_wp2
        go_ret
        exact ⟨by rfl, HB5.out⟩
      · have HAB : Hid (tgt zS ((A : Int) + 1) B = false) := Lib.hid (by rw [lad_tgt]; simp; omega)
        have q2 : decide ((B : Int) ≤ A) = false := by simp; omega
        clear hb0
        go_enter Try.func7, Try.ntmps7
        go_wp2_with fail
        refine (shown_any w).mono ?_
        rintro e w1 ⟨rfl, hb1⟩
        have HB1 := Lib.hid hb1
        clear hb1
        go_wp2_with fail
        refine (start_any w1).mono ?_
        rintro e w2 ⟨rfl, hb2⟩
        have HB2 := Lib.hid (HB1.out.trans (hb2.mono HB1.out.size))
        clear hb2
        go_wp2_with (first
          | (refine store_rows rfl (.tmp 6) (.tmp 9) rfl w2.heap.size rfl zS rfl rfl z0 z0_len (heap_alloc_new w2 _) ?_; intro w3 hr3 ho3; have HR3 := Lib.hid hr3; have HB3 := Lib.hid ((HB2.out.alloc HB2.out.size _).trans (ho3.below HB2.out.size)); clear hr3 ho3)
          | (refine load_rows rfl (.tmp 6) rfl w2.heap.size rfl zS rfl HR3.out ?_))
        refine (tighter_any zS rfl zS_rng g h w3).mono ?_
        rw [HW.out]
        rintro e w4 ⟨rfl, hb4⟩
        have HR4 := Lib.hid (RB.keep HR3.out hb4 HR3.out.lt)
        have HB4 := Lib.hid (HB3.out.trans (hb4.mono HB3.out.size))
        clear hb4
        go_wp2_with (refine load_rows rfl (.tmp 6) rfl w2.heap.size rfl zS rfl HR4.out ?_)
        refine (tighter_any zS rfl zS_rng _ _ w4).mono ?_
        rw [HAB.out]
        rintro e w5 ⟨rfl, hb5⟩
        have HB5 := Lib.hid (HB4.out.trans (hb5.mono HB4.out.size))
        clear hb5
        go_wp2
        go_ret
        exact ⟨by rfl, HB5.out⟩

end Go.Proofs.Ytnedappnmkbbpaa
