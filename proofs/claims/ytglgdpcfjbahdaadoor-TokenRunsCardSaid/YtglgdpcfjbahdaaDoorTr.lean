/- TokenRuns' walk. -/
import Derived.Test.YtglgdpcfjbahdaaDoorTo
import Derived.Deep.QuietTactic
import Derived.BigQuiet
namespace Go.Proofs.YtglgdpcfjbahdaaDoor
open Go.RowKit

set_option maxRecDepth 100000 in
set_option maxHeartbeats 4000000 in
theorem tokenRuns_any (a : Option Addr) (len cap : Nat) (l : List Int) (c : Int) (w : World) (h : Bs w a len cap l) (ht : Tab w) (h0 : 0 ≤ c) (h1 : c ≤ 255) :
    Calls Tryd.prog 5 #[.slice a len cap, .int .u8 c] w fun e w' => e = .returned (.bool true) ∧ Below w.heap.size w w' := by
  have hb := few_bs h
  have H := Lib.hid h
  have HT := Lib.hid ht
  obtain ⟨C, rfl⟩ := Int.eq_ofNat_of_zero_le h0
  obtain ⟨L, hL⟩ : ∃ L, L = l.take 120 := ⟨_, rfl⟩
  obtain ⟨m, hm⟩ : ∃ m, m = min len 120 := ⟨_, rfl⟩
  rw [← hL, ← hm] at hb
  have hm1 : m ≤ 120 := by omega
  have HM := Lib.hid hm
  have HLL := Lib.hid hb.hl
  have hlc := hb.lc
  have hcm := hb.cm
  unfold maxLen at hcm
  have HC := Lib.hid hb.cm
  have HB := Lib.hid hb
  obtain ⟨k, hk⟩ : ∃ k, k = C % (m + 1) := ⟨_, rfl⟩
  have hkm : k ≤ m := by have := Nat.mod_lt C (show 0 < m + 1 by omega); omega
  have hri : ((C : Nat) : Int) % ((m : Int) + 1) = (k : Int) := by rw [hk, Int.natCast_emod]; rfl
  have hkL : k ≤ L.length := by rw [hb.hl]; exact hkm
  obtain ⟨n, z, hs, hn, hz⟩ := sk_ways L k hkL
  have HS := Lib.hid hs
  have HE1 := fun (f : Nat) (t : TR) => nx_good (f := f) (t := t) hkL hb.rng
  have HE0 := nx_gone (l := L) hkL
  clear h ht hL hm hk h0
  cases hx : nx L k with
  | none =>
    have HX := Lib.hid hx
    clear hs HE1 HE0 hz hn hx HS
    go_enter Tryd.func5, Tryd.ntmps5
    go_wp2_with fail
    refine (shown_any _ HT.out).mono ?_
    rintro e w1 ⟨rfl, hb1⟩
    have HW1 := Lib.hid hb1
    clear hb1
    go_wp2_with fail
    refine (few_any _ _ _ _ _ (H.out.below HW1.out)).mono ?_
    rintro e w' ⟨rfl, rfl⟩
    rw [← HM.out]
    go_wp2_with fail
    try rw [hri]
    refine (next_any _ _ _ L k _ (HB.out.below HW1.out) (HT.out.keep HW1.out) (by omega) hkm).mono ?_
    rw [HX.out, nxV_none]
    rintro e w2 ⟨rfl, hb2⟩
    have HW2 : Hid (Below w.heap.size w w2) := Lib.hid (HW1.out.trans (hb2.mono HW1.out.size))
    clear hb2 hri
    go_wp2
    go_ret
    exact ⟨rfl, HW2.out.alloc HW2.out.size _⟩
  | some ft =>
    obtain ⟨f, t⟩ := ft
    obtain ⟨hf, hfl, hg⟩ := HE1 _ _ hx
    have htr := nx_runs hkL HB.out.rng hx
    rw [hs] at hf
    subst hf
    obtain ⟨K, N, T, E⟩ := t
    have HX := Lib.hid hx
    have HG := Lib.hid hg
    have hkm' : k < m := by rw [HLL.out] at hfl; omega
    rw [HLL.out] at hfl
    have g1 : 1 ≤ N := hg.n1
    have g2 : N ≤ _ := hg.nl
    rw [List.length_drop, HLL.out] at g2
    have g3 : 1 ≤ K := hg.k1
    have g4 : K ≤ 8 := hg.k8
    have hrng := HB.out.rng
    have u0 := (bt_rng hrng (k + n)).1
    have u1 := (bt_rng hrng (k + n)).2
    have s0 := (bt_rng hrng (k + n + N)).1
    have s1 := (bt_rng hrng (k + n + N)).2
    have hlen : (L.drop (k + n)).length = m - (k + n) := by rw [List.length_drop, HLL.out]
    have htr1 := htr.k1
    have htr2 := htr.k2
    have htr3 := htr.k3
    have htr4 := htr.k4
    have htr5 := htr.k5
    have htr6 := htr.k6
    have htr7 := htr.k7
    simp only [bt_drop, Nat.add_zero, hlen] at htr1 htr2 htr3 htr4 htr5 htr6 htr7
    have HTR : Hid ((K = 1 → (cls (bt L (k + n)) = 2 ∨ cls (bt L (k + n)) = 9) ∧ (N < m - (k + n) → nameB (bt L (k + n + N)) = false)) ∧
        (K = 2 → cls (bt L (k + n)) = 5 ∧ (N < m - (k + n) → cls (bt L (k + n + N)) ≠ 5) ∧ (T = [46] → N < m - (k + n) ∧ cls (bt L (k + n + N)) ≠ 1 ∧ cls (bt L (k + n + N)) ≠ 8)) ∧
        (K = 3 → cls (bt L (k + n)) = 3 ∧ (N < m - (k + n) → nameB (bt L (k + n + N)) = false)) ∧
        (K = 4 → cls (bt L (k + n)) = 4 ∧ (N < m - (k + n) → cls (bt L (k + n + N)) ≠ 4)) ∧
        (K = 5 → cls (bt L (k + n)) = 7 ∧ bt L (k + n + (N - 1)) = 39 ∧ 2 ≤ N) ∧
        (K = 6 → cls (bt L (k + n)) = 6 ∧ N = 1) ∧
        (K = 7 → T = [46] ∧ (N < m - (k + n) → cls (bt L (k + n + N)) = 1 ∨ cls (bt L (k + n + N)) = 8))) := Lib.hid ⟨htr1, htr2, htr3, htr4, htr5, htr6, htr7⟩
    have hcv := cls_rng s0 s1
    have HDOT : Hid (K ≠ 8 → K ≠ 5 → ((bstr T).toList == [46]) = decide (T = [46])) := Lib.hid fun h8 h5 => one_dot (by
      rw [show T = (L.drop (k + n)).take N from hg.says h8 h5]; exact fun x hx => hrng x (List.drop_subset _ _ (List.take_subset _ _ hx)))
    obtain ⟨cc, hcc⟩ : ∃ cc, cc = cls (bt L (k + n)) := ⟨_, rfl⟩
    obtain ⟨v, hv⟩ : ∃ v, v = cls (bt L (k + n + N)) := ⟨_, rfl⟩
    rw [← hcc, ← hv] at HTR
    rw [← hv] at hcv
    have HNV : Hid (nameB (bt L (k + n + N)) = true ↔ (v = 2 ∨ v = 3 ∨ v = 4)) := Lib.hid (by rw [hv]; exact nameB_iff)
    have HCC := Lib.hid hcc
    have HVV := Lib.hid hv
    clear hs HE1 HE0 hz hn hx hg htr htr1 htr2 htr3 htr4 htr5 htr6 htr7 hlen hrng hcc hv HS
    obtain ⟨b, off, rfl, hbl, hcell⟩ := HB.out.at_ (by omega)
    have HCELL := Lib.hid hcell
    clear hcell
    have b0 : decide (((k + n : Nat) : Int) < 0) = false := decide_eq_false (by omega)
    have b1 : decide (((k + n + N : Nat) : Int) ≤ ((k + n : Nat) : Int)) = false := decide_eq_false (by omega)
    have b2 : decide ((m : Int) < ((k + n + N : Nat) : Int)) = false := decide_eq_false (by omega)
    by_cases hAB : k + n + N < m
    · go_enter Tryd.func5, Tryd.ntmps5
      go_wp2_with fail
      refine (shown_any _ HT.out).mono ?_
      rintro e w1 ⟨rfl, hb1⟩
      have HW1 := Lib.hid hb1
      clear hb1
      go_wp2_with fail
      refine (few_any _ _ _ _ _ (H.out.below HW1.out)).mono ?_
      rintro e w' ⟨rfl, rfl⟩
      rw [← HM.out]
      go_wp2_with fail
      try rw [hri]
      refine (next_any _ _ _ L k _ (HB.out.below HW1.out) (HT.out.keep HW1.out) (by omega) hkm).mono ?_
      rw [HX.out, nxV_some]
      rintro e w2 ⟨rfl, hb2⟩
      have HW2 : Hid (Below w.heap.size w w2) := Lib.hid (HW1.out.trans (hb2.mono HW1.out.size))
      clear hb2 hri
      have hbw : b < w2.heap.size := Nat.lt_of_lt_of_le hbl HW2.out.size
      have hck : w2.cell? ⟨b, off + (k + n), none⟩ = some (.int .u8 (bt L (k + n))) := (HW2.out.cell hbl).trans (HCELL.out _ (by omega))
      go_wp2_with fail
      refine (of_any _ _ (HT.out.keep (HW2.out.alloc HW2.out.size _)) u0 u1).mono ?_
      rw [← HCC.out]
      rintro e w3 ⟨rfl, hb3⟩
      have hc3 := past_alloc hb3
      have HW3 : Hid (Below w.heap.size w w3) := Lib.hid (HW2.out.trans (hc3.mono HW2.out.size))
      have HV3 : Hid (TV w2.heap.size _ w3) := Lib.hid ((tv_new w2 _ 27).keep hb3)
      clear hb3 hc3 hck
      have q0 := HV3.out.c 0
      have q1 := HV3.out.c 1
      have q2 := HV3.out.c 2
      have q3 := HV3.out.c 3
      have q4 := HV3.out.c 4
      have hlt := HV3.out.lt
      simp only [List.getElem?_toArray, List.getElem?_cons_zero, List.getElem?_cons_succ] at q0 q1 q2 q3 q4
      have hbw3 : b < w3.heap.size := Nat.lt_of_lt_of_le hbl HW3.out.size
      have hck : w3.cell? ⟨b, off + (k + n + N), none⟩ = some (.int .u8 (bt L (k + n + N))) := (HW3.out.cell hbl).trans (HCELL.out _ (by omega))
      go_wp2_with fail
      refine (of_any _ _ (HT.out.keep HW3.out) s0 s1).mono ?_
      rw [← HVV.out]
      rintro e w4 ⟨rfl, hb4⟩
      have HW4 : Hid (Below w.heap.size w w4) := Lib.hid (HW3.out.trans (hb4.mono HW3.out.size))
      have HV4 := Lib.hid (HV3.out.keep hb4)
      clear hb4 hck q0 q1 q2 q3 q4 hlt
      have q0 := HV4.out.c 0
      have q1 := HV4.out.c 1
      have q2 := HV4.out.c 2
      have q3 := HV4.out.c 3
      have q4 := HV4.out.c 4
      have hlt := HV4.out.lt
      simp only [List.getElem?_toArray, List.getElem?_cons_zero, List.getElem?_cons_succ] at q0 q1 q2 q3 q4
      obtain rfl | rfl | rfl | rfl | rfl | rfl | rfl | rfl : K = 1 ∨ K = 2 ∨ K = 3 ∨ K = 4 ∨ K = 5 ∨ K = 6 ∨ K = 7 ∨ K = 8 := by omega
      · obtain ⟨hp1, hp2, hp3, hp4, hp5, hp6, hp7⟩ := HTR.out
        obtain ⟨hcc, hp1b⟩ := hp1 rfl
        have hnn := hp1b (by omega)
        have hvo : ¬ (v = 2 ∨ v = 3 ∨ v = 4) := fun hh => by rw [HNV.out.2 hh] at hnn; cases hnn
        have v2 : (v == 2) = false := beq_eq_false_iff_ne.2 (by omega)
        have v3 : (v == 3) = false := beq_eq_false_iff_ne.2 (by omega)
        have v4 : (v == 4) = false := beq_eq_false_iff_ne.2 (by omega)
        clear hp1 hp2 hp3 hp4 hp5 hp6 hp7 hnn hp1b hvo
        rcases hcc with rfl | rfl
        · go_wp2
          go_ret
          exact ⟨rfl, HW4.out⟩
        · go_wp2
          go_ret
          exact ⟨rfl, HW4.out⟩
      · obtain ⟨hp1, hp2, hp3, hp4, hp5, hp6, hp7⟩ := HTR.out
        obtain ⟨rfl, hq5, hqd⟩ := hp2 rfl
        have v5 : (v != 5) = true := by have := hq5 (by omega); simpa using this
        clear hp1 hp2 hp3 hp4 hp5 hp6 hp7 hq5
        by_cases hdot : T = [46]
        · have hq := hqd hdot
          have HD : Hid (((bstr T).toList == [46]) = true) := Lib.hid (by rw [HDOT.out (by omega) (by omega), decide_eq_true hdot])
          have hd1 := HD.out
          have v1 : (v == 1) = false := beq_eq_false_iff_ne.2 hq.2.1
          have v8 : (v == 8) = false := beq_eq_false_iff_ne.2 hq.2.2
          have vm : (v == -1) = false := beq_eq_false_iff_ne.2 (by omega)
          clear hq hqd hdot
          obtain rfl | rfl | rfl | hvo : v = 2 ∨ v = 3 ∨ v = 4 ∨ (v ≠ 2 ∧ v ≠ 3 ∧ v ≠ 4) := by omega
          · go_wp2
            go_ret
            exact ⟨rfl, HW4.out⟩
          · go_wp2
            go_ret
            exact ⟨rfl, HW4.out⟩
          · go_wp2
            go_ret
            exact ⟨rfl, HW4.out⟩
          · have v2 : (v == 2) = false := beq_eq_false_iff_ne.2 hvo.1
            have v3 : (v == 3) = false := beq_eq_false_iff_ne.2 hvo.2.1
            have v4 : (v == 4) = false := beq_eq_false_iff_ne.2 hvo.2.2
            go_wp2
            go_ret
            exact ⟨rfl, HW4.out⟩
        · have hd1 : ((bstr T).toList == [46]) = false := by rw [HDOT.out (by omega) (by omega), decide_eq_false hdot]
          clear hqd hdot
          obtain rfl | rfl | rfl | hvo : v = 2 ∨ v = 3 ∨ v = 4 ∨ (v ≠ 2 ∧ v ≠ 3 ∧ v ≠ 4) := by omega
          · go_wp2
            go_ret
            exact ⟨rfl, HW4.out⟩
          · go_wp2
            go_ret
            exact ⟨rfl, HW4.out⟩
          · go_wp2
            go_ret
            exact ⟨rfl, HW4.out⟩
          · have v2 : (v == 2) = false := beq_eq_false_iff_ne.2 hvo.1
            have v3 : (v == 3) = false := beq_eq_false_iff_ne.2 hvo.2.1
            have v4 : (v == 4) = false := beq_eq_false_iff_ne.2 hvo.2.2
            go_wp2
            go_ret
            exact ⟨rfl, HW4.out⟩
      · obtain ⟨hp1, hp2, hp3, hp4, hp5, hp6, hp7⟩ := HTR.out
        obtain ⟨rfl, hp1b⟩ := hp3 rfl
        have hnn := hp1b (by omega)
        have hvo : ¬ (v = 2 ∨ v = 3 ∨ v = 4) := fun hh => by rw [HNV.out.2 hh] at hnn; cases hnn
        have v2 : (v == 2) = false := beq_eq_false_iff_ne.2 (by omega)
        have v3 : (v == 3) = false := beq_eq_false_iff_ne.2 (by omega)
        have v4 : (v == 4) = false := beq_eq_false_iff_ne.2 (by omega)
        clear hp1 hp2 hp3 hp4 hp5 hp6 hp7 hnn hp1b hvo
        go_wp2
        go_ret
        exact ⟨rfl, HW4.out⟩
      · obtain ⟨hp1, hp2, hp3, hp4, hp5, hp6, hp7⟩ := HTR.out
        obtain ⟨rfl, hp1b⟩ := hp4 rfl
        have hnn := hp1b (by omega)
        have v4b : (v != 4) = true := by simpa using hnn
        clear hp1 hp2 hp3 hp4 hp5 hp6 hp7 hp1b
        obtain rfl | rfl | hvo : v = 2 ∨ v = 3 ∨ (v ≠ 2 ∧ v ≠ 3 ∧ v ≠ 4) := by omega
        · go_wp2
          go_ret
          exact ⟨rfl, HW4.out⟩
        · go_wp2
          go_ret
          exact ⟨rfl, HW4.out⟩
        · have v2 : (v == 2) = false := beq_eq_false_iff_ne.2 hvo.1
          have v3 : (v == 3) = false := beq_eq_false_iff_ne.2 hvo.2.1
          have v4 : (v == 4) = false := beq_eq_false_iff_ne.2 hvo.2.2
          go_wp2
          go_ret
          exact ⟨rfl, HW4.out⟩
      · obtain ⟨hp1, hp2, hp3, hp4, hp5, hp6, hp7⟩ := HTR.out
        obtain ⟨rfl, h39, hN2⟩ := hp5 rfl
        clear hp1 hp2 hp3 hp4 hp5 hp6 hp7
        have hck : w4.cell? ⟨b, off + (k + n + (N - 1)), none⟩ = some (.int .u8 39) := by rw [HW4.out.cell hbl, HCELL.out _ (by omega), h39]
        have hi1 : (k : Int) + n + N - 1 = ((k + n + (N - 1) : Nat) : Int) := by omega
        have hi2 : k + n + N - 1 = k + n + (N - 1) := by omega
        have hi3 : decide ((2 : Int) ≤ N) = true := decide_eq_true (by omega)
        clear h39
        obtain rfl | rfl | rfl | hvo : v = 2 ∨ v = 3 ∨ v = 4 ∨ (v ≠ 2 ∧ v ≠ 3 ∧ v ≠ 4) := by omega
        · go_wp2
          go_ret
          exact ⟨rfl, HW4.out⟩
        · go_wp2
          go_ret
          exact ⟨rfl, HW4.out⟩
        · go_wp2
          go_ret
          exact ⟨rfl, HW4.out⟩
        · have v2 : (v == 2) = false := beq_eq_false_iff_ne.2 hvo.1
          have v3 : (v == 3) = false := beq_eq_false_iff_ne.2 hvo.2.1
          have v4 : (v == 4) = false := beq_eq_false_iff_ne.2 hvo.2.2
          go_wp2
          go_ret
          exact ⟨rfl, HW4.out⟩
      · obtain ⟨hp1, hp2, hp3, hp4, hp5, hp6, hp7⟩ := HTR.out
        obtain ⟨rfl, rfl⟩ := hp6 rfl
        clear hp1 hp2 hp3 hp4 hp5 hp6 hp7
        obtain rfl | rfl | rfl | hvo : v = 2 ∨ v = 3 ∨ v = 4 ∨ (v ≠ 2 ∧ v ≠ 3 ∧ v ≠ 4) := by omega
        · go_wp2
          go_ret
          exact ⟨rfl, HW4.out⟩
        · go_wp2
          go_ret
          exact ⟨rfl, HW4.out⟩
        · go_wp2
          go_ret
          exact ⟨rfl, HW4.out⟩
        · have v2 : (v == 2) = false := beq_eq_false_iff_ne.2 hvo.1
          have v3 : (v == 3) = false := beq_eq_false_iff_ne.2 hvo.2.1
          have v4 : (v == 4) = false := beq_eq_false_iff_ne.2 hvo.2.2
          go_wp2
          go_ret
          exact ⟨rfl, HW4.out⟩
      · obtain ⟨hp1, hp2, hp3, hp4, hp5, hp6, hp7⟩ := HTR.out
        obtain ⟨rfl, hp1b⟩ := hp7 rfl
        have hd1 : ((bstr [46]).toList == [46]) = true := by rw [HDOT.out (by omega) (by omega)]; rfl
        have hvv := hp1b (by omega)
        clear hp1 hp2 hp3 hp4 hp5 hp6 hp7 hp1b
        rcases hvv with rfl | rfl
        · go_wp2
          go_ret
          exact ⟨rfl, HW4.out⟩
        · go_wp2
          go_ret
          exact ⟨rfl, HW4.out⟩
      · obtain rfl | rfl | rfl | hvo : v = 2 ∨ v = 3 ∨ v = 4 ∨ (v ≠ 2 ∧ v ≠ 3 ∧ v ≠ 4) := by omega
        · go_wp2
          go_ret
          exact ⟨rfl, HW4.out⟩
        · go_wp2
          go_ret
          exact ⟨rfl, HW4.out⟩
        · go_wp2
          go_ret
          exact ⟨rfl, HW4.out⟩
        · have v2 : (v == 2) = false := beq_eq_false_iff_ne.2 hvo.1
          have v3 : (v == 3) = false := beq_eq_false_iff_ne.2 hvo.2.1
          have v4 : (v == 4) = false := beq_eq_false_iff_ne.2 hvo.2.2
          go_wp2
          go_ret
          exact ⟨rfl, HW4.out⟩
    · have hEq2 : m ≤ k + n + N := by omega
      have b3 : decide (((k + n + N : Nat) : Int) < (m : Int)) = false := decide_eq_false (by omega)
      clear hAB
      go_enter Tryd.func5, Tryd.ntmps5
      go_wp2_with fail
      refine (shown_any _ HT.out).mono ?_
      rintro e w1 ⟨rfl, hb1⟩
      have HW1 := Lib.hid hb1
      clear hb1
      go_wp2_with fail
      refine (few_any _ _ _ _ _ (H.out.below HW1.out)).mono ?_
      rintro e w' ⟨rfl, rfl⟩
      rw [← HM.out]
      go_wp2_with fail
      try rw [hri]
      refine (next_any _ _ _ L k _ (HB.out.below HW1.out) (HT.out.keep HW1.out) (by omega) hkm).mono ?_
      rw [HX.out, nxV_some]
      rintro e w2 ⟨rfl, hb2⟩
      have HW2 : Hid (Below w.heap.size w w2) := Lib.hid (HW1.out.trans (hb2.mono HW1.out.size))
      clear hb2 hri
      have hbw : b < w2.heap.size := Nat.lt_of_lt_of_le hbl HW2.out.size
      have hck : w2.cell? ⟨b, off + (k + n), none⟩ = some (.int .u8 (bt L (k + n))) := (HW2.out.cell hbl).trans (HCELL.out _ (by omega))
      go_wp2_with fail
      refine (of_any _ _ (HT.out.keep (HW2.out.alloc HW2.out.size _)) u0 u1).mono ?_
      rw [← HCC.out]
      rintro e w3 ⟨rfl, hb3⟩
      have hc3 := past_alloc hb3
      have HW3 : Hid (Below w.heap.size w w3) := Lib.hid (HW2.out.trans (hc3.mono HW2.out.size))
      have HV3 : Hid (TV w2.heap.size _ w3) := Lib.hid ((tv_new w2 _ 27).keep hb3)
      clear hb3 hc3 hck
      have q0 := HV3.out.c 0
      have q1 := HV3.out.c 1
      have q2 := HV3.out.c 2
      have q3 := HV3.out.c 3
      have q4 := HV3.out.c 4
      have hlt := HV3.out.lt
      simp only [List.getElem?_toArray, List.getElem?_cons_zero, List.getElem?_cons_succ] at q0 q1 q2 q3 q4
      obtain rfl | rfl | rfl | rfl | rfl | rfl | rfl | rfl : K = 1 ∨ K = 2 ∨ K = 3 ∨ K = 4 ∨ K = 5 ∨ K = 6 ∨ K = 7 ∨ K = 8 := by omega
      · obtain ⟨hp1, hp2, hp3, hp4, hp5, hp6, hp7⟩ := HTR.out
        obtain ⟨hcc, _⟩ := hp1 rfl
        clear hp1 hp2 hp3 hp4 hp5 hp6 hp7
        rcases hcc with rfl | rfl
        · go_wp2
          go_ret
          exact ⟨rfl, HW3.out⟩
        · go_wp2
          go_ret
          exact ⟨rfl, HW3.out⟩
      · obtain ⟨hp1, hp2, hp3, hp4, hp5, hp6, hp7⟩ := HTR.out
        obtain ⟨rfl, _, hqd⟩ := hp2 rfl
        have hdot : T ≠ [46] := fun hh => by have := (hqd hh).1; omega
        have hd1 : ((bstr T).toList == [46]) = false := by rw [HDOT.out (by omega) (by omega), decide_eq_false hdot]
        clear hqd hdot
        clear hp1 hp2 hp3 hp4 hp5 hp6 hp7
        go_wp2
        go_ret
        exact ⟨rfl, HW3.out⟩
      · obtain ⟨hp1, hp2, hp3, hp4, hp5, hp6, hp7⟩ := HTR.out
        obtain ⟨rfl, _⟩ := hp3 rfl
        clear hp1 hp2 hp3 hp4 hp5 hp6 hp7
        go_wp2
        go_ret
        exact ⟨rfl, HW3.out⟩
      · obtain ⟨hp1, hp2, hp3, hp4, hp5, hp6, hp7⟩ := HTR.out
        obtain ⟨rfl, _⟩ := hp4 rfl
        clear hp1 hp2 hp3 hp4 hp5 hp6 hp7
        go_wp2
        go_ret
        exact ⟨rfl, HW3.out⟩
      · obtain ⟨hp1, hp2, hp3, hp4, hp5, hp6, hp7⟩ := HTR.out
        obtain ⟨rfl, h39, hN2⟩ := hp5 rfl
        clear hp1 hp2 hp3 hp4 hp5 hp6 hp7
        have hck : w3.cell? ⟨b, off + (k + n + (N - 1)), none⟩ = some (.int .u8 39) := by rw [HW3.out.cell hbl, HCELL.out _ (by omega), h39]
        have hi1 : (k : Int) + n + N - 1 = ((k + n + (N - 1) : Nat) : Int) := by omega
        have hi2 : k + n + N - 1 = k + n + (N - 1) := by omega
        have hi3 : decide ((2 : Int) ≤ N) = true := decide_eq_true (by omega)
        clear h39
        go_wp2
        go_ret
        exact ⟨rfl, HW3.out⟩
      · obtain ⟨hp1, hp2, hp3, hp4, hp5, hp6, hp7⟩ := HTR.out
        obtain ⟨rfl, rfl⟩ := hp6 rfl
        clear hp1 hp2 hp3 hp4 hp5 hp6 hp7
        go_wp2
        go_ret
        exact ⟨rfl, HW3.out⟩
      · obtain ⟨hp1, hp2, hp3, hp4, hp5, hp6, hp7⟩ := HTR.out
        obtain ⟨rfl, _⟩ := hp7 rfl
        have hd1 : ((bstr [46]).toList == [46]) = true := by rw [HDOT.out (by omega) (by omega)]; rfl
        clear hp1 hp2 hp3 hp4 hp5 hp6 hp7
        go_wp2
        go_ret
        exact ⟨rfl, HW3.out⟩
      · go_wp2
        go_ret
        exact ⟨rfl, HW3.out⟩

end Go.Proofs.YtglgdpcfjbahdaaDoor
