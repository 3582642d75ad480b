/- GraphLeads (laid by genMs.py). -/
import Derived.Test.YtnedappnmkbbpaaMo
import Derived.Test.YtnedappnmkbbpaaMq
namespace Go.Proofs.Ytnedappnmkbbpaa
open Go.RowKit

/-- Tighter of two groups. -/
theorem tight_T (z : List Int) (hz : z.length = 10) (hr : ∀ i, i < 10 → I64 (bt z i)) (x y : Nat) (w : World) (hx : x ≤ 9) (hy : y ≤ 9) :
    Calls Try.prog 13 #[.agg (rv z), .int .i64 x, .int .i64 y] w fun e w' => e = .returned (.bool (T z x y)) ∧ Below w.heap.size w w' := by
  have h := tighter_any z hz hr x y w
  rw [show tgt z x y = T z x y by rw [tgt, inB_nat hx hy]; rfl] at h
  exact h

set_option maxRecDepth 20000 in
set_option maxHeartbeats 8000000 in
theorem leadsl_any (a : Option Addr) (len cap : Nat) (w : World) (h : Pa w a len cap) :
    Calls Try.prog 4 #[.slice a len cap] w fun e w' => e = .returned (.bool true) ∧ Below w.heap.size w w' := by
  have HP : Hid (∀ w', Below w.heap.size w w' → Pa w' a len cap) := Lib.hid fun w' hb => h.below hb
  clear h
  go_enter Try.func4, Try.ntmps4
  go_wp2_with fail
  refine (shown_any w).mono ?_
  rintro e w1 ⟨rfl, hb1⟩
  have HB1 := Lib.hid hb1
  clear hb1
  go_wp2_with fail
  refine (laid_any a len cap w1 (HP.out w1 HB1.out)).mono ?_
  rintro e w2 ⟨z, E, a', n, c, rfl, hI, hE, hn, hv, hb2⟩
  have HI := Lib.hid hI
  have HE := Lib.hid hE
  have HV2 := Lib.hid hv
  have HB2 := Lib.hid (HB1.out.trans (hb2.mono HB1.out.size))
  clear hI hE hv hb2
  go_wp2_with (refine store_rows rfl (.tmp 4) (.tmp 13) rfl w2.heap.size rfl z rfl HI.out.len z0 z0_len (heap_alloc_new w2 _) ?_; intro w3 hr3 ho3; have HR3 := Lib.hid hr3; have HC := Lib.hid (((Below.refl w2.heap.size w2).alloc (Nat.le_refl _) _).trans (ho3.below (Nat.le_refl _))); clear hr3 ho3)
  have HV3 := Lib.hid (HV2.out.below HC.out)
  have HB3 := Lib.hid (HB2.out.trans (HC.out.mono HB2.out.size))
  obtain ⟨X, hX⟩ : ∃ X, w2.heap.size = X := ⟨_, rfl⟩
  rw [hX] at HR3 ⊢
  clear hX HC
  have HX : Hid (∀ w', Below w3.heap.size w3 w' → RB w' X z) := Lib.hid fun w' hb => HR3.out.keep hb HR3.out.lt
  have KT := Lib.hid fun x y w1 hx hy => tight_T z HI.out.len HI.out.rng x y w1 hx hy
  have KL : Hid (∀ (x y : Nat) (w1 : World), x ≤ 9 → y ≤ 9 → Below w3.heap.size w3 w1 → Calls Try.prog 16 #[.slice a' n c, .int .i64 x, .int .i64 y] w1 fun e w' => e = .returned (.bool (T z x y)) ∧ Below w1.heap.size w1 w') := Lib.hid fun x y w1 hx hy hb => leads_any z E HI.out a' n c x y w1 (HV3.out.below hb) HE.out hn hx hy
  have HBs := Lib.hid (Below.refl w3.heap.size w3)
  clear HV2
  go_loopw [6, 7, 8] (fun v _ _ wr => ∃ g : Nat, v = .int .i64 g ∧ 1 ≤ g ∧ g ≤ 10 ∧ Hid (Below w3.heap.size w3 wr)) (fun v _ _ _ => 10 - (intOf v).toNat)
  case atStart => exact ⟨1, rfl, by omega, by omega, HBs⟩
  case round =>
    obtain ⟨g, rfl, hg1, hg, HB4⟩ := hrel
    rename World => v4
    by_cases hg10 : g < 10
    · have hdg : decide ((g : Int) < 10) = true := by simp; omega
      go_wp2
      go_loopw [7, 8] (fun v _ wr => ∃ h : Nat, v = .int .i64 h ∧ 1 ≤ h ∧ h ≤ 10 ∧ Hid (Below w3.heap.size w3 wr)) (fun v _ _ => 10 - (intOf v).toNat)
      case atStart => exact ⟨1, rfl, by omega, by omega, HB4⟩
      case round =>
        clear HB4
        obtain ⟨h, rfl, hh1, hh, HB0⟩ := hrel
        rename World => v0
        by_cases hh10 : h < 10
        · have hdh : decide ((h : Int) < 10) = true := by simp; omega
          cases h0 : T z g h with
          | false =>
            have HT0 := Lib.hid h0
            clear h0
            go_wp2_with (refine load_rows rfl (.tmp 4) rfl X rfl z HI.out.len (HX.out _ HB0.out) ?_)
            refine (KT.out g h _ (by omega) (by omega)).mono ?_
            rw [HT0.out]
            rintro e v1 ⟨rfl, hb⟩
            have HB1 := Lib.hid (HB0.out.trans (hb.mono HB0.out.size))
            clear hb
            go_wp2_with fail
            refine (KL.out g h _ (by omega) (by omega) HB1.out).mono ?_
            rw [HT0.out]
            rintro e v2 ⟨rfl, hb⟩
            have HB2 := Lib.hid (HB1.out.trans (hb.mono HB1.out.size))
            clear hb
            go_wp2_with (refine load_rows rfl (.tmp 4) rfl X rfl z HI.out.len (HX.out _ HB2.out) ?_)
            refine (KT.out g h _ (by omega) (by omega)).mono ?_
            rw [HT0.out]
            rintro e v3 ⟨rfl, hb⟩
            have HB3 := Lib.hid (HB2.out.trans (hb.mono HB2.out.size))
            clear hb
            go_wp2
            go_loopw [8] (fun v wr => ∃ k : Nat, v = .int .i64 k ∧ 1 ≤ k ∧ k ≤ 10 ∧ Hid (Below w3.heap.size w3 wr)) (fun v _ => 10 - (intOf v).toNat)
            case atStart => exact ⟨1, rfl, by omega, by omega, HB3⟩
            case round =>
              obtain ⟨k, rfl, hk1, hk, HB5⟩ := hrel
              rename World => v5
              by_cases hk10 : k < 10
              · have hdk : decide ((k : Int) < 10) = true := by simp; omega
                go_wp2_with (refine load_rows rfl (.tmp 4) rfl X rfl z HI.out.len (HX.out _ HB5.out) ?_)
                refine (KT.out g h _ (by omega) (by omega)).mono ?_
                rw [HT0.out]
                rintro e v6 ⟨rfl, hb⟩
                have HB6 := Lib.hid (HB5.out.trans (hb.mono HB5.out.size))
                clear hb
                go_wp2
                go_roundw
                case rel => exact ⟨k + 1, by go_num, by omega, by omega, HB6⟩
                case measure => simp [intOf]; omega
              · have q3 : decide ((k : Int) < 10) = false := by simp; omega
                go_wp2
                go_roundw
                case rel => exact ⟨h + 1, by go_num, by omega, by omega, HB5⟩
                case measure => simp [intOf]; omega
          | true =>
            have HT0 := Lib.hid h0
            have HT1 : Hid (T z h g = false) := Lib.hid (by
              cases h1 : T z h g with
              | false => rfl
              | true => exact absurd (((HI.out.T (by omega)).1 h0).trans ((HI.out.T (by omega)).1 h1)) (HI.out.acy g))
            clear h0
            go_wp2_with (refine load_rows rfl (.tmp 4) rfl X rfl z HI.out.len (HX.out _ HB0.out) ?_)
            refine (KT.out g h _ (by omega) (by omega)).mono ?_
            rw [HT0.out]
            rintro e v1 ⟨rfl, hb⟩
            have HB1 := Lib.hid (HB0.out.trans (hb.mono HB0.out.size))
            clear hb
            go_wp2_with fail
            refine (KL.out g h _ (by omega) (by omega) HB1.out).mono ?_
            rw [HT0.out]
            rintro e v2 ⟨rfl, hb⟩
            have HB2 := Lib.hid (HB1.out.trans (hb.mono HB1.out.size))
            clear hb
            go_wp2_with (refine load_rows rfl (.tmp 4) rfl X rfl z HI.out.len (HX.out _ HB2.out) ?_)
            refine (KT.out g h _ (by omega) (by omega)).mono ?_
            rw [HT0.out]
            rintro e v3 ⟨rfl, hb⟩
            have HB3 := Lib.hid (HB2.out.trans (hb.mono HB2.out.size))
            clear hb
            go_wp2_with (refine load_rows rfl (.tmp 4) rfl X rfl z HI.out.len (HX.out _ HB3.out) ?_)
            refine (KT.out h g _ (by omega) (by omega)).mono ?_
            rw [HT1.out]
            rintro e v4 ⟨rfl, hb⟩
            have HB4 := Lib.hid (HB3.out.trans (hb.mono HB3.out.size))
            clear hb
            go_wp2
            go_loopw [8] (fun v wr => ∃ k : Nat, v = .int .i64 k ∧ 1 ≤ k ∧ k ≤ 10 ∧ Hid (Below w3.heap.size w3 wr)) (fun v _ => 10 - (intOf v).toNat)
            case atStart => exact ⟨1, rfl, by omega, by omega, HB4⟩
            case round =>
              obtain ⟨k, rfl, hk1, hk, HB5⟩ := hrel
              rename World => v5
              by_cases hk10 : k < 10
              · have hdk : decide ((k : Int) < 10) = true := by simp; omega
                cases h2 : T z h k with
                | false =>
                  have HT2 := Lib.hid h2
                  clear h2
                  go_wp2_with (refine load_rows rfl (.tmp 4) rfl X rfl z HI.out.len (HX.out _ HB5.out) ?_)
                  refine (KT.out g h _ (by omega) (by omega)).mono ?_
                  rw [HT0.out]
                  rintro e v6 ⟨rfl, hb⟩
                  have HB6 := Lib.hid (HB5.out.trans (hb.mono HB5.out.size))
                  clear hb
                  go_wp2_with (refine load_rows rfl (.tmp 4) rfl X rfl z HI.out.len (HX.out _ HB6.out) ?_)
                  refine (KT.out h k _ (by omega) (by omega)).mono ?_
                  rw [HT2.out]
                  rintro e v7 ⟨rfl, hb⟩
                  have HB7 := Lib.hid (HB6.out.trans (hb.mono HB6.out.size))
                  clear hb
                  go_wp2
                  go_roundw
                  case rel => exact ⟨k + 1, by go_num, by omega, by omega, HB7⟩
                  case measure => simp [intOf]; omega
                | true =>
                  have HT2 := Lib.hid h2
                  have HT3 : Hid (T z g k = true) := Lib.hid ((HI.out.T (by omega)).2 (((HI.out.T (by omega)).1 HT0.out).trans ((HI.out.T (by omega)).1 h2)))
                  clear h2
                  go_wp2_with (refine load_rows rfl (.tmp 4) rfl X rfl z HI.out.len (HX.out _ HB5.out) ?_)
                  refine (KT.out g h _ (by omega) (by omega)).mono ?_
                  rw [HT0.out]
                  rintro e v6 ⟨rfl, hb⟩
                  have HB6 := Lib.hid (HB5.out.trans (hb.mono HB5.out.size))
                  clear hb
                  go_wp2_with (refine load_rows rfl (.tmp 4) rfl X rfl z HI.out.len (HX.out _ HB6.out) ?_)
                  refine (KT.out h k _ (by omega) (by omega)).mono ?_
                  rw [HT2.out]
                  rintro e v7 ⟨rfl, hb⟩
                  have HB7 := Lib.hid (HB6.out.trans (hb.mono HB6.out.size))
                  clear hb
                  go_wp2_with (refine load_rows rfl (.tmp 4) rfl X rfl z HI.out.len (HX.out _ HB7.out) ?_)
                  refine (KT.out g k _ (by omega) (by omega)).mono ?_
                  rw [HT3.out]
                  rintro e v8 ⟨rfl, hb⟩
                  have HB8 := Lib.hid (HB7.out.trans (hb.mono HB7.out.size))
                  clear hb
                  go_wp2
                  go_roundw
                  case rel => exact ⟨k + 1, by go_num, by omega, by omega, HB8⟩
                  case measure => simp [intOf]; omega
              · have q3 : decide ((k : Int) < 10) = false := by simp; omega
                go_wp2
                go_roundw
                case rel => exact ⟨h + 1, by go_num, by omega, by omega, HB5⟩
                case measure => simp [intOf]; omega
        · have q2 : decide ((h : Int) < 10) = false := by simp; omega
          go_wp2
          go_roundw
          case rel => exact ⟨g + 1, by go_num, by omega, by omega, HB0⟩
          case measure => simp [intOf]; omega
    · have q1 : decide ((g : Int) < 10) = false := by simp; omega
      have HBE := Lib.hid (HB3.out.trans (HB4.out.mono HB3.out.size))
      go_wp2
      go_ret
      exact ⟨rfl, HBE.out⟩

end Go.Proofs.Ytnedappnmkbbpaa
