/- LinesBack's walk. -/
import Derived.Test.YtoapfchdmfmdeaaIf
namespace Go.Proofs.Ytoapfchdmfmdeaa
open Go.RowKit

/-- The line and the column at the loop's head: those of the place ahead. -/
def headR (L : List Int) (k p : Nat) (c : Int) : Prop := (k = 0 ∧ p = 0 ∧ c = -1) ∨ ∃ j, k = j + 1 ∧ p = ln L j ∧ c = cl L j

theorem off_end (L : List Int) (m : Nat) (hm : L.length = m) : offE L (ln L m) ((cl L m : Int) + 1) = 3 ∧ offE L ((ln L m : Int) + 1) 0 = 3 ∧ offE L (-1) 0 = 3 := by
  refine ⟨(offV_none fun k hk h1 h2 => ?_).2, (offV_none fun k hk h1 h2 => ?_).2, (offV_none fun k hk h1 h2 => ?_).2⟩
  · rw [hm] at hk
    obtain ⟨d, rfl⟩ := Nat.exists_eq_add_of_le hk
    have := cl_on L k d (by omega)
    omega
  · rw [hm] at hk
    obtain ⟨d, rfl⟩ := Nat.exists_eq_add_of_le hk
    have := ln_mono L k d
    omega
  · omega

set_option maxRecDepth 100000 in
set_option maxHeartbeats 8000000 in
theorem linesback_any (a0 : Option Addr) (n0 c0 : Nat) (l0 : List Int) (w : World) (hB0 : Bs w a0 n0 c0 l0) :
    Calls Try.prog 4 #[.slice a0 n0 c0] w fun e w' => e = .returned (.bool true) ∧ Below w.heap.size w w' := by
  have hlc := hB0.lc
  have hcm := hB0.cm
  obtain ⟨m, hm⟩ : ∃ m, m = min n0 120 := ⟨_, rfl⟩
  have hm1 : m ≤ 120 := by omega
  have HB := Lib.hid (hB0.take (k := m) (c' := c0) (by omega) (by omega) hcm)
  have HF := Lib.hid (fun w => few_any a0 n0 c0 m w hm hlc)
  obtain ⟨L, hL⟩ : ∃ L, l0.take m = L := ⟨_, rfl⟩
  rw [hL] at HB
  have HLL := Lib.hid HB.out.hl
  clear hB0 hlc hcm hm hL
  go_enter Try.func4, Try.ntmps4
  go_wp2_with fail
  refine (shown_any w).mono ?_
  rintro e w1 ⟨rfl, hb1⟩
  have HW1 := Lib.hid hb1
  clear hb1
  go_wp2_with fail
  refine (HF.out w1).mono ?_
  rintro e w2 ⟨rfl, rfl⟩
  have HB := Lib.hid (HB.out.below HW1.out)
  go_wp2_with fail
  go_loopw [5, 6, 7] (fun p c i wr => ∃ (k q : Nat) (d : Int), i = .int .i64 k ∧ p = .int .i64 q ∧ c = .int .i64 d ∧ k ≤ m + 1 ∧ q ≤ 121 ∧ -1 ≤ d ∧ d ≤ 121 ∧ Hid (headR L k q d) ∧ Hid (Bs wr a0 m c0 L) ∧ Hid (Below w.heap.size w wr)) (fun _ _ i _ => m + 1 - (intOf i).toNat)
  case atStart => exact ⟨0, 0, -1, rfl, rfl, rfl, by omega, by omega, by omega, by omega, Lib.hid (.inl ⟨rfl, rfl, rfl⟩), HB, HW1⟩
  case round =>
    obtain ⟨k, q, d, rfl, rfl, rfl, hk, hq, hd0, hd1, HR, HBr, HWr⟩ := hrel
    by_cases hlt : k ≤ m
    · have HX := Lib.hid (offV_some (l := L) (k := k) (by rw [HLL.out]; exact hlt) rfl rfl)
      have hp1 := ln_le L k
      have hc1 := cl_le L k
      rcases Nat.eq_zero_or_pos k with hz | hpos
      · subst hz
        have hq0 : q = 0 ∧ d = -1 := by
          rcases HR.out with ⟨_, h1, h2⟩ | ⟨j, hj, _⟩
          · exact ⟨h1, h2⟩
          · omega
        obtain ⟨rfl, rfl⟩ := hq0
        rw [show ln L 0 = 0 from rfl, show cl L 0 = 0 from rfl, show ((0 : Nat) : Int) = 0 from rfl] at HX
        clear hp1 hc1
        go_wp2_with fail
        refine (place_any _ _ _ _ 0 _ HBr.out (by omega) (by omega)).mono ?_
        rintro e w2 ⟨rfl, hb⟩
        have HW2 := Lib.hid (HWr.out.trans (hb.mono HWr.out.size))
        have HB2 := Lib.hid (HBr.out.below hb)
        rw [show ln L 0 = 0 from rfl, show cl L 0 = 0 from rfl]
        clear hb
        go_wp2_with fail
        refine (off_any _ _ _ _ 0 0 _ HB2.out (by omega)).mono ?_
        rintro e w3 ⟨rfl, hb⟩
        have HW3 := Lib.hid (HW2.out.trans (hb.mono HW2.out.size))
        have HB3 := Lib.hid (HB2.out.below hb)
        rw [HX.out.1, HX.out.2]
        clear hb
        go_wp2
        go_roundw
        case rel => exact ⟨1, 0, 0, by go_num, rfl, rfl, by omega, by omega, by omega, by omega, Lib.hid (.inr ⟨0, rfl, rfl, rfl⟩), HB3, HW3⟩
        case measure => simp [intOf]
      · obtain ⟨j, rfl⟩ : ∃ j, k = j + 1 := ⟨k - 1, by omega⟩
        have hqd : q = ln L j ∧ d = cl L j := by
          rcases HR.out with ⟨h0, _, _⟩ | ⟨j', hj, h1, h2⟩
          · omega
          · obtain rfl : j = j' := by omega
            exact ⟨h1, h2⟩
        obtain ⟨h1, rfl⟩ := hqd
        have HLS := Lib.hid (ln_succ L j)
        have HCS := Lib.hid (cl_succ L j)
        rw [← h1] at HLS
        clear h1 HR
        have hr := bt_rng HBr.out.rng j
        have hr0 := hr.1
        have hr1 := hr.2
        have hcj := cl_le L j
        have hj1 : j + 1 ≤ m := hlt
        by_cases h10 : bt L j = 10
        · have hx : ln L (j + 1) = q + 1 := by rw [HLS.out, if_pos h10]
          have hy : cl L (j + 1) = 0 := by rw [HCS.out, if_pos h10]
          have hb10 : (bt L j != 10) = false := by rw [h10]; rfl
          have HRN : Hid (headR L (j + 1 + 1) (q + 1) 0) := Lib.hid (.inr ⟨j + 1, rfl, hx.symm, by rw [hy]; rfl⟩)
          have HP := Lib.hid (fun w h => place_any a0 m c0 L (j + 1) w h hj1 (by omega))
          rw [hx, hy] at HP HX
          rw [hx] at hp1
          have HO := Lib.hid (fun w h => off_any a0 m c0 L ((q + 1 : Nat) : Int) ((0 : Nat) : Int) w h (by omega))
          rw [HX.out.1, HX.out.2] at HO
          rw [Int.natCast_add, Int.natCast_add, show ((1 : Nat) : Int) = 1 from rfl, show ((0 : Nat) : Int) = 0 from rfl] at HP
          rw [Int.natCast_add, Int.natCast_add, show ((1 : Nat) : Int) = 1 from rfl, show ((0 : Nat) : Int) = 0 from rfl] at HO
          rw [Int.natCast_add, show ((1 : Nat) : Int) = 1 from rfl]
          have b1 : IntKind.i64.wrap ((j : Int) + 1 - 1) = j := by rw [IntKind.wrap_i64]; omega
          have b2 : IntKind.i64.wrap ((q : Int) + 1) = (q : Int) + 1 := by rw [IntKind.wrap_i64]; omega
          have b3 : (((q : Int) + 1) != q) = true := by simp; omega
          have b4 : (((q : Int) + 1) == q) = false := by simp; omega
          have b5 : (((j : Int) + 1) == 0) = false := by simp; omega
          have b6 : IntKind.i64.wrap ((j : Int) + 1 + 1) = (j : Int) + 1 + 1 := by rw [IntKind.wrap_i64]; omega
          clear hx hy h10 hc1 hr
          go_wp2_with fail
          refine (HP.out _ HBr.out).mono ?_
          rintro e w2 ⟨rfl, hb⟩
          have HW2 := Lib.hid (HWr.out.trans (hb.mono HWr.out.size))
          have HB2 := Lib.hid (HBr.out.below hb)
          clear hb
          go_wp2_with fail
          refine (HO.out _ HB2.out).mono ?_
          rintro e w3 ⟨rfl, hb⟩
          have HW3 := Lib.hid (HW2.out.trans (hb.mono HW2.out.size))
          have HB3 := Lib.hid (HB2.out.below hb)
          obtain ⟨b, off, rfl, _, hc⟩ := HB3.out.at_ (by omega)
          have hck := hc j hlt
          clear hb hc
          go_wp2
          go_roundw
          case rel => exact ⟨j + 1 + 1, q + 1, 0, by go_num, by go_num, rfl, by omega, by omega, by omega, by omega, HRN, HB3, HW3⟩
          case measure => simp [intOf]; omega
        · have hx : ln L (j + 1) = q := by rw [HLS.out, if_neg h10]
          have hy : cl L (j + 1) = cl L j + 1 := by rw [HCS.out, if_neg h10]
          have HRN : Hid (headR L (j + 1 + 1) q ((cl L j : Int) + 1)) := Lib.hid (.inr ⟨j + 1, rfl, hx.symm, by rw [hy]; rfl⟩)
          have HP := Lib.hid (fun w h => place_any a0 m c0 L (j + 1) w h hj1 (by omega))
          rw [hx, hy] at HP HX
          have HO := Lib.hid (fun w h => off_any a0 m c0 L (q : Int) ((cl L j + 1 : Nat) : Int) w h (by omega))
          rw [HX.out.1, HX.out.2] at HO
          obtain ⟨c, hcc⟩ : ∃ c, cl L j = c := ⟨_, rfl⟩
          rw [hcc] at HP HO HRN hcj
          rw [hcc]
          rw [Int.natCast_add, Int.natCast_add, show ((1 : Nat) : Int) = 1 from rfl] at HP
          rw [Int.natCast_add, Int.natCast_add, show ((1 : Nat) : Int) = 1 from rfl] at HO
          rw [Int.natCast_add, show ((1 : Nat) : Int) = 1 from rfl]
          have b2 : IntKind.i64.wrap ((c : Int) + 1) = (c : Int) + 1 := by rw [IntKind.wrap_i64]; omega
          have b6 : IntKind.i64.wrap ((j : Int) + 1 + 1) = (j : Int) + 1 + 1 := by rw [IntKind.wrap_i64]; omega
          clear hx hy h10 hc1 hr hcc hp1
          go_wp2_with fail
          refine (HP.out _ HBr.out).mono ?_
          rintro e w2 ⟨rfl, hb⟩
          have HW2 := Lib.hid (HWr.out.trans (hb.mono HWr.out.size))
          have HB2 := Lib.hid (HBr.out.below hb)
          clear hb
          go_wp2_with fail
          refine (HO.out _ HB2.out).mono ?_
          rintro e w3 ⟨rfl, hb⟩
          have HW3 := Lib.hid (HW2.out.trans (hb.mono HW2.out.size))
          have HB3 := Lib.hid (HB2.out.below hb)
          clear hb
          go_wp2
          go_roundw
          case rel => exact ⟨j + 1 + 1, q, (c : Int) + 1, by go_num, rfl, rfl, by omega, by omega, by omega, by omega, HRN, HB3, HW3⟩
          case measure => simp [intOf]; omega
    · have hqd : q = ln L m ∧ d = cl L m := by
        rcases HR.out with ⟨h0, _, _⟩ | ⟨j', hj, h1, h2⟩
        · omega
        · obtain rfl : m = j' := by omega
          exact ⟨h1, h2⟩
      obtain ⟨h1, rfl⟩ := hqd
      have HOE := Lib.hid (off_end L m HLL.out)
      rw [← h1] at HOE
      have HC := Lib.hid (fun w h => cnt_any a0 m c0 L w h (by omega))
      rw [← h1] at HC
      obtain ⟨c, hcc⟩ : ∃ c, cl L m = c := ⟨_, rfl⟩
      rw [hcc] at HOE hd1
      rw [hcc]
      have b1 : IntKind.i64.wrap ((c : Int) + 1) = (c : Int) + 1 := by rw [IntKind.wrap_i64]; omega
      have b2 : IntKind.i64.wrap ((q : Int) + 1) = (q : Int) + 1 := by rw [IntKind.wrap_i64]; omega
      clear h1 hcc hd0
      go_wp2_with fail
      refine (off_any _ _ _ _ (q : Int) ((c : Int) + 1) _ HBr.out (by omega)).mono ?_
      rintro e w2 ⟨rfl, hb⟩
      rw [HOE.out.1]
      have HW2 := Lib.hid (HWr.out.trans (hb.mono HWr.out.size))
      have HB2 := Lib.hid (HBr.out.below hb)
      clear hb
      go_wp2_with fail
      refine (off_any _ _ _ _ ((q : Int) + 1) 0 _ HB2.out (by omega)).mono ?_
      rintro e w3 ⟨rfl, hb⟩
      rw [HOE.out.2.1]
      have HW3 := Lib.hid (HW2.out.trans (hb.mono HW2.out.size))
      have HB3 := Lib.hid (HB2.out.below hb)
      clear hb
      go_wp2_with fail
      refine (off_any _ _ _ _ (-1) 0 _ HB3.out (by omega)).mono ?_
      rintro e w4 ⟨rfl, hb⟩
      rw [HOE.out.2.2]
      have HW4 := Lib.hid (HW3.out.trans (hb.mono HW3.out.size))
      have HB4 := Lib.hid (HB3.out.below hb)
      clear hb
      go_wp2_with fail
      refine (HC.out _ HB4.out).mono ?_
      rintro e w5 ⟨rfl, hb⟩
      have HW5 := Lib.hid (HW4.out.trans (hb.mono HW4.out.size))
      clear hb
      go_wp2
      go_ret
      exact ⟨rfl, HW5.out⟩

end Go.Proofs.Ytoapfchdmfmdeaa
