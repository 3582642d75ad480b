/- The walk of ClassRuns. -/
import Derived.Test.YthmpedmfpbfdaaaDoorVe
namespace Go.Proofs.YthmpedmfpbfdaaaDoor
open Go.RowKit

theorem runL_all (n : Int) : ∀ (l : List Int) (i : Nat), i < runL n l → cls (bt l i) = n
  | [], i, h => by simp [runL] at h
  | c :: r, i, h => by
    simp only [runL] at h
    split at h
    · rename_i hc
      cases i with
      | zero => simpa [bt] using hc
      | succ i => simpa [bt] using runL_all n r i (by omega)
    · omega

theorem runL_stop (n : Int) : ∀ (l : List Int), runL n l < l.length → ¬ cls (bt l (runL n l)) = n
  | [], h => by simp at h
  | c :: r, h => by
    simp only [runL] at h ⊢
    split at h
    · rename_i hc
      rw [if_pos hc]
      have := runL_stop n r (by simp at h; omega)
      rw [show bt (c :: r) (1 + runL n r) = bt r (runL n r) from by rw [Nat.add_comm]; rfl]
      exact this
    · rename_i hc
      rw [if_neg hc]
      simpa [bt] using hc

theorem runL_take (n : Int) : ∀ l : List Int, runL n (l.take (runL n l)) = runL n l
  | [] => rfl
  | c :: r => by
    by_cases hc : cls c = n
    · have e : runL n (c :: r) = runL n r + 1 := by simp only [runL]; rw [if_pos hc]; omega
      rw [e, List.take_succ_cons]
      simp only [runL]
      rw [if_pos hc, runL_take n r]
      omega
    · have e : runL n (c :: r) = 0 := by simp only [runL]; rw [if_neg hc]
      rw [e]
      rfl

theorem runL_rest (n : Int) (l : List Int) : runL n (l.drop (runL n l)) = 0 := by
  by_cases h : runL n l < l.length
  · rw [runL_drop n l _ h, if_neg (runL_stop n l h)]
  · rw [List.drop_eq_nil_iff.2 (by omega)]; rfl

set_option maxHeartbeats 1000000 in
theorem classRuns_any (a : Option Addr) (len cap : Nat) (l0 : List Int) (d : Int) (w : World) (ht : Tab w) (h : Bs w a len cap l0) (h0 : 0 ≤ d) (h1 : d ≤ 255) :
    Calls Tryd.prog 4 #[.slice a len cap, .int .u8 d] w fun e w' => e = .returned (.bool true) ∧ Below w.heap.size w w' := by
  have HT := Lib.hid ht
  have H := Lib.hid h
  clear ht h
  go_enter Tryd.func4, Tryd.ntmps4
  go_wp2_with fail
  refine (shown_any _ HT.out).mono ?_
  rintro e w1 ⟨rfl, hb1⟩
  have HW1 := Lib.hid hb1
  clear hb1
  go_wp2_with fail
  refine (few_any _ _ _ _ _ (H.out.below HW1.out)).mono ?_
  rintro e w' ⟨rfl, rfl⟩
  have hl := few_bs (H.out.below HW1.out)
  clear H
  generalize min len 200 = n at *
  generalize l0.take 200 = l at *
  have hlc := hl.lc
  have hcm := hl.cm
  have hll := hl.hl
  unfold maxLen at hcm
  have HL := Lib.hid hl
  clear hl
  go_wp2_with fail
  refine (run_any _ _ _ _ (d % 10) _ (HL.out.below (Below.refl _ _)) (HT.out.keep HW1.out)).mono ?_
  rintro e w2 ⟨rfl, hb2⟩
  have HW2 : Hid (Below w.heap.size w w2) := Lib.hid (HW1.out.trans (hb2.mono HW1.out.size))
  have HL2 := Lib.hid (HL.out.below hb2)
  clear hb2 HL
  generalize d % 10 = k
  have hr : runL k l ≤ n := by have := runL_le k l; omega
  have HALL := Lib.hid (runL_all k l)
  have HST := Lib.hid (fun hh : runL k l < n => runL_stop k l (by omega))
  have HTK := Lib.hid (runL_take k l)
  have HRS := Lib.hid (runL_rest k l)
  generalize runL k l = r at *
  clear h0 h1 hll
  have hd1 : decide (n < r) = false := by simpa using hr
  have hd2 : decide ((r : Int) < 0) = false := by simp
  by_cases hlt : r < n
  · have h0 := (bt_rng HL2.out.rng r).1
    have h1 := (bt_rng HL2.out.rng r).2
    have hne : (cls (bt l r) == k) = false := by simpa using HST.out hlt
    obtain ⟨b, off, rfl, _, hc⟩ := HL2.out.at_ (by omega)
    have hck := hc r hlt
    clear hc
    go_wp2_with (first | (go_at_call 8; refine (of_any _ _ (HT.out.keep HW2.out) h0 h1).mono ?_; rintro e w3 ⟨rfl, hb3⟩; have HB3 := Lib.hid hb3; clear hb3))
    have HW3 : Hid (Below w.heap.size w w3) := Lib.hid (HW2.out.trans (HB3.out.mono HW2.out.size))
    have HL3 := Lib.hid (HL2.out.below HB3.out)
    clear HB3 HL2
    go_loopw [9] (fun i wr => ∃ j : Nat, i = .int .i64 j ∧ j ≤ r ∧ Hid (Below w3.heap.size w3 wr)) (fun i _ => r - (intOf i).toNat)
    case atStart => exact ⟨0, rfl, by omega, Lib.hid (Below.refl _ _)⟩
    case round =>
      obtain ⟨j, rfl, hj, HB⟩ := hrel
      have HWR : Hid (Below w.heap.size w wr) := Lib.hid (HW3.out.trans (HB.out.mono HW3.out.size))
      have HLR := Lib.hid (HL3.out.below HB.out)
      by_cases hjr : j < r
      · have h0 := (bt_rng HLR.out.rng j).1
        have h1 := (bt_rng HLR.out.rng j).2
        have HE : Hid (cls (bt l j) = k) := Lib.hid (HALL.out j hjr)
        obtain ⟨b2, off2, hab, _, hc⟩ := HLR.out.at_ (by omega)
        simp only [Option.some.injEq, Addr.mk.injEq] at hab
        obtain ⟨rfl, rfl, _⟩ := hab
        have hck := hc j (by omega)
        clear hc
        go_wp2_with (first | (go_at_call 8; refine (of_any _ _ (HT.out.keep HWR.out) h0 h1).mono ?_; rintro e w4 ⟨rfl, hb4⟩; rw [HE.out]; have HB4 := Lib.hid hb4; clear hb4))
        go_roundw
        case rel => exact ⟨j + 1, by go_num, by omega, Lib.hid (HB.out.trans (HB4.out.mono HB.out.size))⟩
        case measure => simp [intOf]; omega
      · have hlr := HLR.out.take (k := r) (c' := cap) hr (by omega) (by unfold maxLen; omega)
        have HLR1 := Lib.hid hlr
        clear hlr
        by_cases hcr : cap = r
        · have hnn : n = r := by omega
          subst hcr
          subst hnn
          go_wp2_with fail
          refine (run_any _ _ _ _ _ _ HLR1.out (HT.out.keep HWR.out)).mono ?_
          rintro e w4 ⟨rfl, hb4⟩
          rw [HTK.out]
          have HW4 : Hid (Below w.heap.size w w4) := Lib.hid (HWR.out.trans (hb4.mono HWR.out.size))
          have HL4 := Lib.hid (HLR.out.below hb4)
          clear hb4
          go_wp2_with fail
          refine (run_any _ _ _ _ _ _ (HL4.out.none_left _ _ (by unfold maxLen; omega)) (HT.out.keep HW4.out)).mono ?_
          rintro e w5 ⟨rfl, hb5⟩
          rw [HRS.out]
          have HW5 : Hid (Below w.heap.size w w5) := Lib.hid (HW4.out.trans (hb5.mono HW4.out.size))
          clear hb5
          go_wp2
          go_ret
          exact ⟨rfl, HW5.out⟩
        · have hdr := HLR.out.drop (k := r) hr
          have HLR2 := Lib.hid hdr
          clear hdr
          go_wp2_with fail
          refine (run_any _ _ _ _ _ _ HLR1.out (HT.out.keep HWR.out)).mono ?_
          rintro e w4 ⟨rfl, hb4⟩
          rw [HTK.out]
          have HW4 : Hid (Below w.heap.size w w4) := Lib.hid (HWR.out.trans (hb4.mono HWR.out.size))
          have HL4 := Lib.hid (HLR2.out.below hb4)
          clear hb4
          go_wp2_with fail
          refine (run_any _ _ _ _ _ _ HL4.out (HT.out.keep HW4.out)).mono ?_
          rintro e w5 ⟨rfl, hb5⟩
          rw [HRS.out]
          have HW5 : Hid (Below w.heap.size w w5) := Lib.hid (HW4.out.trans (hb5.mono HW4.out.size))
          clear hb5
          go_wp2
          go_ret
          exact ⟨rfl, HW5.out⟩
  · have hrn : r = n := by omega
    subst hrn
    have hd3 : decide (r < r) = false := by simp
    clear hd1 hlt HST
    by_cases hn0 : r = 0
    · subst hn0
      have run0 : ∀ (a' : Option Addr) (c' : Nat) (w4 : World), c' ≤ maxLen → Below w.heap.size w w4 → Calls Tryd.prog 12 #[.slice a' 0 c', .int .i64 k] w4 fun e w' => e = .returned (.int .i64 0) ∧ Below w.heap.size w w' := fun a' c' w4 hc' hw4 =>
        (run_any a' 0 c' [] k w4 (Bs.nil w4 a' c' hc') (HT.out.keep hw4)).mono fun e w' ⟨he, hb⟩ => ⟨he, hw4.trans (hb.mono hw4.size)⟩
      have HR0 := Lib.hid run0
      have HCM : Hid (cap ≤ maxLen) := Lib.hid (by unfold maxLen; omega)
      clear run0 hr HTK HRS HALL
      cases a
      all_goals
        go_wp2
        refine wp_loop_rounds 1 ?_
        rw [rounds_succ]
        go_wp2_with fail
        refine (HR0.out _ _ _ (by first | exact HCM.out | (unfold maxLen; omega)) HW2.out).mono ?_
        rintro e w4 ⟨rfl, hb4⟩
        have HW4 := Lib.hid hb4
        clear hb4
        go_wp2_with fail
        refine (HR0.out _ _ _ (by first | exact HCM.out | (unfold maxLen; omega)) HW4.out).mono ?_
        rintro e w5 ⟨rfl, hb5⟩
        have HW5 := Lib.hid hb5
        clear hb5
        go_wp2
        go_ret
        exact ⟨rfl, HW5.out⟩
    · obtain ⟨b, off, rfl, _, _⟩ := HL2.out.at_ (by omega)
      go_wp2
      go_loopw [9] (fun i wr => ∃ j : Nat, i = .int .i64 j ∧ j ≤ r ∧ Hid (Below w2.heap.size w2 wr)) (fun i _ => r - (intOf i).toNat)
      case atStart => exact ⟨0, rfl, by omega, Lib.hid (Below.refl _ _)⟩
      case round =>
        obtain ⟨j, rfl, hj, HB⟩ := hrel
        have HWR : Hid (Below w.heap.size w wr) := Lib.hid (HW2.out.trans (HB.out.mono HW2.out.size))
        have HLR := Lib.hid (HL2.out.below HB.out)
        by_cases hjr : j < r
        · have h0 := (bt_rng HLR.out.rng j).1
          have h1 := (bt_rng HLR.out.rng j).2
          have HE : Hid (cls (bt l j) = k) := Lib.hid (HALL.out j hjr)
          obtain ⟨b2, off2, hab, _, hc⟩ := HLR.out.at_ (by omega)
          simp only [Option.some.injEq, Addr.mk.injEq] at hab
          obtain ⟨rfl, rfl, _⟩ := hab
          have hck := hc j (by omega)
          clear hc
          go_wp2_with (first | (go_at_call 8; refine (of_any _ _ (HT.out.keep HWR.out) h0 h1).mono ?_; rintro e w4 ⟨rfl, hb4⟩; rw [HE.out]; have HB4 := Lib.hid hb4; clear hb4))
          go_roundw
          case rel => exact ⟨j + 1, by go_num, by omega, Lib.hid (HB.out.trans (HB4.out.mono HB.out.size))⟩
          case measure => simp [intOf]; omega
        · have hlr := HLR.out.take (k := r) (c' := cap) hr (by omega) (by unfold maxLen; omega)
          have HLR1 := Lib.hid hlr
          clear hlr
          by_cases hcr : cap = r
          · subst hcr
            go_wp2_with fail
            refine (run_any _ _ _ _ _ _ HLR1.out (HT.out.keep HWR.out)).mono ?_
            rintro e w4 ⟨rfl, hb4⟩
            rw [HTK.out]
            have HW4 : Hid (Below w.heap.size w w4) := Lib.hid (HWR.out.trans (hb4.mono HWR.out.size))
            have HL4 := Lib.hid (HLR.out.below hb4)
            clear hb4
            go_wp2_with fail
            refine (run_any _ _ _ _ _ _ (HL4.out.none_left _ _ (by unfold maxLen; omega)) (HT.out.keep HW4.out)).mono ?_
            rintro e w5 ⟨rfl, hb5⟩
            rw [HRS.out]
            have HW5 : Hid (Below w.heap.size w w5) := Lib.hid (HW4.out.trans (hb5.mono HW4.out.size))
            clear hb5
            go_wp2
            go_ret
            exact ⟨rfl, HW5.out⟩
          · have hdr := HLR.out.drop (k := r) hr
            have HLR2 := Lib.hid hdr
            clear hdr
            go_wp2_with fail
            refine (run_any _ _ _ _ _ _ HLR1.out (HT.out.keep HWR.out)).mono ?_
            rintro e w4 ⟨rfl, hb4⟩
            rw [HTK.out]
            have HW4 : Hid (Below w.heap.size w w4) := Lib.hid (HWR.out.trans (hb4.mono HWR.out.size))
            have HL4 := Lib.hid (HLR2.out.below hb4)
            clear hb4
            go_wp2_with fail
            refine (run_any _ _ _ _ _ _ (show Bs w4 (some ⟨b, off + r, none⟩) 0 (cap - r) (l.drop r) from by have := HL4.out; rwa [Nat.sub_self] at this) (HT.out.keep HW4.out)).mono ?_
            rintro e w5 ⟨rfl, hb5⟩
            rw [HRS.out]
            have HW5 : Hid (Below w.heap.size w w5) := Lib.hid (HW4.out.trans (hb5.mono HW4.out.size))
            clear hb5
            go_wp2
            go_ret
            exact ⟨rfl, HW5.out⟩

end Go.Proofs.YthmpedmfpbfdaaaDoor
