/- TreeEnds. -/
import Derived.Test.YtkaeanaeklilfaaGreatDoorXm
import Derived.Test.YtkaeanaeklilfaaGreatDoorXn
namespace Go.Proofs.YtkaeanaeklilfaaGreatDoor
open Go.RowKit

set_option maxRecDepth 100000 in
set_option maxHeartbeats 16000000 in
theorem treeEnds_any (a : Option Addr) (n c : Nat) (T : List ND) (i : Int) (w : World) (ht : Tab w) (h : NdS w a n c T) (hi : -9223372036854775808 ≤ i ∧ i ≤ 9223372036854775807) :
    Calls Tryz.prog 4 #[.slice a n c, .int .i64 i] w fun e w' => e = .returned (.bool true) ∧ Below w.heap.size w w' := by
  have HT := Lib.hid ht
  have H := Lib.hid h
  clear ht h
  go_enter Tryz.func4, Tryz.ntmps4
  go_wp2_with fail
  refine (shown_any w HT.out).mono ?_
  rintro e w1 ⟨rfl, hb1⟩
  have HB1 := Lib.hid hb1
  have H1 := Lib.hid (H.out.below hb1)
  clear hb1
  go_wp2_with fail
  refine (few_any a n c T w1 H1.out).mono ?_
  rintro e w2 ⟨fa, fc, rfl, ho2, hb2⟩
  obtain ⟨N, hN⟩ : ∃ N, N = fewT T := ⟨_, rfl⟩
  rw [← hN] at ho2 ⊢
  have hm20 : N.length ≤ 20 := by rw [hN]; exact fewT_len T
  have H2 : Hid (NdS w2 fa N.length fc N) := Lib.hid ho2.vs
  obtain ⟨m, hm⟩ : ∃ m, m = N.length := ⟨_, rfl⟩
  rw [← hm] at hm20 H2 ⊢
  have HB2 : Hid (Below w.heap.size w w2) := Lib.hid (HB1.out.trans (hb2.mono HB1.out.size))
  clear ho2 hb2 hN H1 HB1
  have KP : Hid (∀ (j : Int) (w' : World), Below w2.heap.size w2 w' → -9223372036854775808 ≤ j ∧ j ≤ 9223372036854775807 → Calls Tryz.prog 18 #[.slice fa m fc, .int .i64 j] w' fun e w'' => ∃ a' c', e = .returned (.slice a' (kidV N j).length c') ∧ Vs 1 w'' a' (kidV N j).length c' (iV (kidV N j)) ∧ Below w'.heap.size w' w'') := Lib.hid fun j w' hb hj => tkids_any fa m fc N j w' (H2.out.below hb) (by omega) hj
  have KR : Hid (∀ (j : Int) (w' : World), Below w2.heap.size w2 w' → -9223372036854775808 ≤ j ∧ j ≤ 9223372036854775807 → Calls Tryz.prog 19 #[.slice fa m fc, .int .i64 j] w' fun e w'' => ∃ a' c', e = .returned (.slice a' (kidV N j).length c') ∧ Vs 1 w'' a' (kidV N j).length c' (iV (kidV N j)) ∧ Below w'.heap.size w' w'') := Lib.hid fun j w' hb hj => rkids_any fa m fc N j w' (H2.out.below hb) (by omega) hj
  have EP : Hid (∀ (j : Int) (w' : World), Below w2.heap.size w2 w' → -9223372036854775808 ≤ j ∧ j ≤ 9223372036854775807 → Calls Tryz.prog 20 #[.slice fa m fc, .int .i64 j] w' fun e w'' => e = .returned (.int .i64 (endV N j)) ∧ w' = w'') := Lib.hid fun j w' hb hj => tend_any fa m fc N j w' (H2.out.below hb) (by omega) hj
  have ER : Hid (∀ (j : Int) (w' : World), Below w2.heap.size w2 w' → -9223372036854775808 ≤ j ∧ j ≤ 9223372036854775807 → Calls Tryz.prog 21 #[.slice fa m fc, .int .i64 j] w' fun e w'' => e = .returned (.int .i64 (endV N j)) ∧ w' = w'') := Lib.hid fun j w' hb hj => rend_any fa m fc N j w' (H2.out.below hb) (by omega) hj
  have HKN : Hid (∀ j, (kidV N j).length ≤ 20) := Lib.hid fun j => by have := kid_num N j; omega
  clear hm
  go_wp2
  go_loopw [7] (fun u wr => ∃ q : Int, u = .int .i64 q ∧ -1 ≤ q ∧ q ≤ (m : Int) + 1 ∧ Hid (Below w2.heap.size w2 wr)) (fun u _ => ((m : Int) + 1 - intOf u).toNat)
  case atStart => exact ⟨-1, rfl, by omega, by omega, Lib.hid (Below.refl _ _)⟩
  case round =>
    obtain ⟨q, rfl, hq0, hq1, HB⟩ := hrel
    by_cases hle : q ≤ (m : Int)
    · go_wp2_with fail
      refine (KP.out q wr HB.out (by omega)).mono ?_
      rintro e w3 ⟨a3, c3, rfl, hv3, hb3⟩
      obtain ⟨K, hK⟩ : ∃ K, K = kidV N q := ⟨_, rfl⟩
      rw [← hK] at hv3 ⊢
      have HK := Lib.hid hK
      have HB3 : Hid (Below w2.heap.size w2 w3) := Lib.hid (HB.out.trans (hb3.mono HB.out.size))
      have HV3 := Lib.hid hv3
      clear hv3 hb3 hK
      go_wp2_with fail
      refine (KR.out q w3 HB3.out (by omega)).mono ?_
      rintro e w4 ⟨a4, c4, rfl, hv4, hb4⟩
      rw [← HK.out] at hv4 ⊢
      have HV4 := Lib.hid hv4
      have HV34 := Lib.hid (HV3.out.below hb4)
      have HB4 : Hid (Below w2.heap.size w2 w4) := Lib.hid (HB3.out.trans (hb4.mono HB3.out.size))
      clear hv4 hb4
      have HKL : Hid (K.length ≤ 20) := Lib.hid (by rw [HK.out]; exact HKN.out q)
      obtain ⟨kl, hkl⟩ : ∃ k, k = K.length := ⟨_, rfl⟩
      rw [← hkl] at HV4 HV34 HKL ⊢
      clear hkl HV3
      go_wp2_with fail
      refine (lsame_any a3 kl c3 K a4 c4 w4 HV34.out HV4.out (by have := HKL.out; omega)).mono ?_
      rintro e w5 ⟨rfl, hb5⟩
      have HB5 : Hid (Below w2.heap.size w2 w5) := Lib.hid (HB4.out.trans (hb5.mono HB4.out.size))
      clear hb5
      go_wp2_with fail
      refine (EP.out q w5 HB5.out (by omega)).mono ?_
      rintro e w6 ⟨rfl, rfl⟩
      obtain ⟨ev0, hev⟩ : ∃ k, k = endV N q := ⟨_, rfl⟩
      rw [← hev]
      have HEV := Lib.hid hev
      clear hev
      go_wp2_with fail
      refine (ER.out q w5 HB5.out (by omega)).mono ?_
      rintro e w6 ⟨rfl, rfl⟩
      rw [← HEV.out]
      go_wp2
      go_roundw
      case rel => exact ⟨q + 1, by go_num, by omega, by omega, HB5⟩
      case measure => simp [intOf]; omega
    · have HBB : Hid (Below w.heap.size w wr) := Lib.hid (HB2.out.trans (HB.out.mono HB2.out.size))
      go_wp2_with fail
      refine (EP.out i wr HB.out hi).mono ?_
      rintro e w6 ⟨rfl, rfl⟩
      obtain ⟨ev0, hev⟩ : ∃ k, k = endV N i := ⟨_, rfl⟩
      rw [← hev]
      have HEV := Lib.hid hev
      clear hev
      go_wp2_with fail
      refine (ER.out i wr HB.out hi).mono ?_
      rintro e w6 ⟨rfl, rfl⟩
      rw [← HEV.out]
      go_wp2_with fail
      refine (KP.out i wr HB.out hi).mono ?_
      rintro e w3 ⟨a3, c3, rfl, hv3, hb3⟩
      obtain ⟨K, hK⟩ : ∃ K, K = kidV N i := ⟨_, rfl⟩
      rw [← hK] at hv3 ⊢
      have HK := Lib.hid hK
      have HB3 : Hid (Below w2.heap.size w2 w3) := Lib.hid (HB.out.trans (hb3.mono HB.out.size))
      have HV3 := Lib.hid hv3
      clear hv3 hb3 hK
      go_wp2_with fail
      refine (KR.out i w3 HB3.out hi).mono ?_
      rintro e w4 ⟨a4, c4, rfl, hv4, hb4⟩
      rw [← HK.out] at hv4 ⊢
      have HV4 := Lib.hid hv4
      have HV34 := Lib.hid (HV3.out.below hb4)
      have HB4 : Hid (Below w2.heap.size w2 w4) := Lib.hid (HB3.out.trans (hb4.mono HB3.out.size))
      clear hv4 hb4
      have HKL : Hid (K.length ≤ 20) := Lib.hid (by rw [HK.out]; exact HKN.out i)
      obtain ⟨kl, hkl⟩ : ∃ k, k = K.length := ⟨_, rfl⟩
      rw [← hkl] at HV4 HV34 HKL ⊢
      clear hkl HV3
      go_wp2_with fail
      refine (lsame_any a3 kl c3 K a4 c4 w4 HV34.out HV4.out (by have := HKL.out; omega)).mono ?_
      rintro e w5 ⟨rfl, hb5⟩
      have HB5 : Hid (Below w2.heap.size w2 w5) := Lib.hid (HB4.out.trans (hb5.mono HB4.out.size))
      clear hb5
      go_wp2
      go_ret
      exact ⟨rfl, HB2.out.trans (HB5.out.mono HB2.out.size)⟩

end Go.Proofs.YtkaeanaeklilfaaGreatDoor
