/- LinesJoin's walk. -/
import Derived.Test.YtoapfchdmfmdeaaIf
namespace Go.Proofs.Ytoapfchdmfmdeaa
open Go.RowKit

theorem tmod_rng (a : Int) (m : Nat) : -((m : Int) + 1) < Int.tmod a ((m : Int) + 1) ∧ Int.tmod a ((m : Int) + 1) < (m : Int) + 1 := by
  have h := Int.natAbs_tmod a ((m : Int) + 1)
  have h2 := Nat.mod_lt a.natAbs (show 0 < ((m : Int) + 1).natAbs by omega)
  omega

theorem tmod_nat (r : Int) (m : Nat) (h0 : 0 ≤ r) : ∃ k : Nat, k ≤ m ∧ Int.tmod r ((m : Int) + 1) = k := by
  have h := tmod_rng r m
  have h1 : 0 ≤ Int.tmod r ((m : Int) + 1) := by rw [Int.tmod_eq_emod_of_nonneg h0]; exact Int.emod_nonneg _ (by omega)
  obtain ⟨k, hk⟩ := Int.eq_ofNat_of_zero_le h1
  exact ⟨k, by omega, hk⟩

set_option maxRecDepth 100000 in
set_option maxHeartbeats 8000000 in
theorem linesjoin_any (a0 : Option Addr) (n0 c0 : Nat) (l0 : List Int) (a1 : Option Addr) (n1 c1 : Nat) (l1 : List Int) (z : Nat) (hz : z ≤ 255) (w : World) (hB0 : Bs w a0 n0 c0 l0) (hB1 : Bs w a1 n1 c1 l1) :
    Calls Try.prog 5 #[.slice a0 n0 c0, .slice a1 n1 c1, .int .u8 z] w fun e w' => e = .returned (.bool true) ∧ Below w.heap.size w w' := by
  have hlc := hB0.lc
  have hcm := hB0.cm
  have hlc1 := hB1.lc
  have hcm1 := hB1.cm
  obtain ⟨m, hm⟩ : ∃ m, m = min n0 120 := ⟨_, rfl⟩
  have hm1 : m ≤ 120 := by omega
  obtain ⟨n, hn⟩ : ∃ n, n = min n1 120 := ⟨_, rfl⟩
  have hn1 : n ≤ 120 := by omega
  have HB := Lib.hid (hB0.take (k := m) (c' := c0) (by omega) (by omega) hcm)
  have HF := Lib.hid (fun w => few_any a0 n0 c0 m w hm hlc)
  have HD := Lib.hid (hB1.take (k := n) (c' := c1) (by omega) (by omega) hcm1)
  have HG := Lib.hid (fun w => few_any a1 n1 c1 n w hn hlc1)
  obtain ⟨X, hX⟩ : ∃ X, l0.take m = X := ⟨_, rfl⟩
  obtain ⟨Y, hY⟩ : ∃ Y, l1.take n = Y := ⟨_, rfl⟩
  rw [hX] at HB
  rw [hY] at HD
  have HXL := Lib.hid HB.out.hl
  have HYL := Lib.hid HD.out.hl
  clear hB0 hlc hcm hm hX hB1 hlc1 hcm1 hn hY
  obtain ⟨k, hk, hk2⟩ := tmod_nat (z : Int) n (by omega)
  have hzz : IntKind.i64.wrap (z : Int) = z := by rw [IntKind.wrap_i64]; omega
  have b1 : IntKind.i64.wrap ((n : Int) + 1) = (n : Int) + 1 := by rw [IntKind.wrap_i64]; omega
  have b0 : ¬ ((n : Int) + 1 = 0) := by omega
  have b2 : IntKind.i64.wrap ((m : Int) + k) = (m : Int) + k := by rw [IntKind.wrap_i64]; omega
  have HN := Lib.hid (ln_inr X Y k)
  have HC := Lib.hid (cl_inr X Y k)
  rw [HXL.out] at HN HC
  have hp1 := ln_le X m
  have hq1 := cl_le X m
  have hr1 := ln_le Y k
  have hs1 := cl_le Y k
  go_enter Try.func5, Try.ntmps5
  go_wp2_with fail
  refine (shown_any w).mono ?_
  rintro e w1 ⟨rfl, hb1⟩
  have HW1 := Lib.hid hb1
  have HB := Lib.hid (HB.out.below hb1)
  have HD := Lib.hid (HD.out.below hb1)
  clear hb1
  go_wp2_with fail
  refine (HF.out w1).mono ?_
  rintro e w2 ⟨rfl, rfl⟩
  go_wp2_with fail
  refine (HG.out w1).mono ?_
  rintro e w2 ⟨rfl, rfl⟩
  go_wp2_with fail
  refine (place_any _ _ _ _ m _ HB.out (by omega) (by omega)).mono ?_
  rintro e w2 ⟨rfl, hb⟩
  have HW2 := Lib.hid (HW1.out.trans (hb.mono HW1.out.size))
  have HB := Lib.hid (HB.out.below hb)
  have HD := Lib.hid (HD.out.below hb)
  clear hb
  go_wp2_with fail
  refine (place_any _ _ _ _ k _ HD.out (by omega) (by omega)).mono ?_
  rintro e w3 ⟨rfl, hb⟩
  have HW3 := Lib.hid (HW2.out.trans (hb.mono HW2.out.size))
  have HB0 := Lib.hid (HB.out.below hb)
  have HB := Lib.hid (HB0.out.alloc (.cells #[] 5))
  have HD := Lib.hid (HD.out.below hb)
  have HO : Hid (OwnB w3.heap.size 5 (w3.alloc (.cells #[] 5)) (some ⟨w3.heap.size, 0, none⟩) 0 0 []) := Lib.hid (OwnB.made (Nat.le_refl _))
  have HA : Hid (Below w3.heap.size w3 (w3.alloc (.cells #[] 5))) := Lib.hid ((Below.refl _ _).alloc (Nat.le_refl _) _)
  clear hb
  go_wp2_with (at_builtin; refine wpList_app rfl (.tmp 47) (.tmp 48) 22 rfl 5 w3.heap.size Try.underlying22 info5 _ _ _ _ rfl HO.out _ _ _ _ rfl HB.out (by omega) HA.out.size ?_; refine Lib.hid ?_)
  refine Hid.out ?_
  refine Lib.hid ?_
  intro g1 d1 w4 ho1 hb1
  have HO1 := Lib.hid ho1
  have HA1 := Lib.hid (HA.out.trans hb1)
  have HD1 := Lib.hid (HD.out.below HA1.out)
  clear ho1 hb1
  go_wp2_with (at_builtin; refine wpList_app rfl (.tmp 49) (.tmp 50) 22 rfl 5 w3.heap.size Try.underlying22 info5 _ _ _ _ rfl HO1.out _ _ _ _ rfl HD1.out (by omega) HA1.out.size ?_; refine Lib.hid ?_)
  refine Hid.out ?_
  refine Lib.hid ?_
  intro g2 d2 w5 ho2 hb2
  have HO2 := Lib.hid ho2.bs
  have HA2 := Lib.hid (HA1.out.trans hb2)
  have HW5 := Lib.hid (HW3.out.trans (HA2.out.mono HW3.out.size))
  have HB5 := Lib.hid (HB0.out.below HA2.out)
  have HP := Lib.hid (place_any g2 (m + n) d2 (X ++ Y) (m + k) w5 HO2.out (by omega) (by omega))
  rw [HN.out, HC.out, Int.natCast_add, Int.natCast_add] at HP
  have HQ := Lib.hid (fun w h => cnt_any a0 m c0 X w h (by omega))
  obtain ⟨p, hp⟩ : ∃ p, ln X m = p := ⟨_, rfl⟩
  obtain ⟨q, hq⟩ : ∃ q, cl X m = q := ⟨_, rfl⟩
  obtain ⟨r, hr⟩ : ∃ r, ln Y k = r := ⟨_, rfl⟩
  obtain ⟨s, hs⟩ : ∃ s, cl Y k = s := ⟨_, rfl⟩
  rw [hp] at HP HQ hp1
  rw [hq] at HP hq1
  rw [hr] at HP hr1
  rw [hs] at HP hs1
  rw [hp, hq, hr, hs]
  have b3 : IntKind.i64.wrap ((s : Int) + q) = (q : Int) + s := by rw [IntKind.wrap_i64]; omega
  have b4 : IntKind.i64.wrap ((p : Int) + r) = (p : Int) + r := by rw [IntKind.wrap_i64]; omega
  have b5 : IntKind.i64.wrap ((p : Int) + 1 - 1) = (p : Int) := by rw [IntKind.wrap_i64]; omega
  clear ho2 hb2 hp hq hr hs
  by_cases h0 : r = 0
  · rw [if_pos h0, Int.natCast_add] at HP
    have hb0 : ((r : Int) == 0) = true := by simp [h0]
    clear h0
    go_wp2_with fail
    refine HP.out.mono ?_
    rintro e w6 ⟨rfl, hb⟩
    have HW6 := Lib.hid (HW5.out.trans (hb.mono HW5.out.size))
    have HB6 := Lib.hid (HB5.out.below hb)
    clear hb
    go_wp2_with fail
    refine (HQ.out _ HB6.out).mono ?_
    rintro e w7 ⟨rfl, hb⟩
    have HW7 := Lib.hid (HW6.out.trans (hb.mono HW6.out.size))
    clear hb
    go_wp2
    go_ret
    exact ⟨rfl, HW7.out⟩
  · rw [if_neg h0] at HP
    have hb0 : ((r : Int) == 0) = false := by simp [h0]
    clear h0
    go_wp2_with fail
    refine HP.out.mono ?_
    rintro e w6 ⟨rfl, hb⟩
    have HW6 := Lib.hid (HW5.out.trans (hb.mono HW5.out.size))
    have HB6 := Lib.hid (HB5.out.below hb)
    clear hb
    go_wp2_with fail
    refine (HQ.out _ HB6.out).mono ?_
    rintro e w7 ⟨rfl, hb⟩
    have HW7 := Lib.hid (HW6.out.trans (hb.mono HW6.out.size))
    clear hb
    go_wp2
    go_ret
    exact ⟨rfl, HW7.out⟩

end Go.Proofs.Ytoapfchdmfmdeaa
