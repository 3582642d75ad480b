/- Contract of package digits' Take. -/
import Derived.Test.YtecabgmkoknbgaaDoorDm
import Derived.Test.YtecabgmkoknbgaaDoorM1
import Derived.Lib.Hide
namespace Go.Proofs.YtecabgmkoknbgaaDoor
open Go.RowKit

def dkV (l : List Int) : Value := .tuple #[.int .i64 (dkN l), .int .i64 (dkK l), .int .i64 (dkE l)]

set_option maxHeartbeats 400000 in
theorem dtake_any (a : Option Addr) (len cap : Nat) (l : List Int) (w : World) (h : Bs w a len cap l) (ht : Tab w) :
    Calls Tryd.prog 71 #[.slice a len cap] w fun e w' => e = .returned (dkV l) ∧ Below w.heap.size w w' := by
  have hm := h.lt
  have hlc := h.lc
  have hcm := h.cm
  unfold maxLen at hm hcm
  have hrl : runL 4 l ≤ len := by rw [← h.hl]; exact runL_le 4 l
  have HR := Lib.hid h.rng
  have H := Lib.hid h
  have HT := Lib.hid ht
  clear h ht
  by_cases h0 : runL 4 l = 0
  · have HV : Hid (dkV l = .tuple #[.int .i64 0, .int .i64 0, .int .i64 2]) := Lib.hid (by unfold dkV dkK dkE; rw [dkN_zero h0, h0]; rfl)
    have H0 := Lib.hid h0
    clear h0
    go_enter Tryd.func71, Tryd.ntmps71
    go_wp2_with fail
    refine (run_any _ _ _ _ _ _ H.out HT.out).mono ?_
    rintro e w1 ⟨rfl, hb1⟩
    have HB1 := Lib.hid hb1
    clear hb1
    rw [H0.out]
    go_wp2
    exact bodyPost_ret (v := .tuple #[.int .i64 0, .int .i64 0, .int .i64 2]) (by simp [results, Tryd.results71, go_sem]) rfl ⟨by rw [HV.out], HB1.out⟩
  · have hpos : 0 < runL 4 l := by omega
    clear h0
    go_enter Tryd.func71, Tryd.ntmps71
    go_wp2_with fail
    refine (run_any _ _ _ _ _ _ H.out HT.out).mono ?_
    rintro e w1 ⟨rfl, hb1⟩
    have HB1 := Lib.hid hb1
    clear hb1
    go_wp2
    go_loop [2, 3, 15] (fun n z i => ∃ k : Nat, i = .int .i64 k ∧ z = .int .i64 (runL 4 l) ∧ k ≤ runL 4 l ∧ numL (l.take k) ≤ 2147483647 ∧ n = .int .i64 (numL (l.take k))) (fun _ _ i => runL 4 l - (intOf i).toNat)
    case atStart => exact ⟨0, rfl, rfl, by omega, by simp [numL_nil], rfl⟩
    case round =>
      obtain ⟨k, rfl, rfl, hk, hn, rfl⟩ := hrel
      have hnn := num_nonneg HR.out hk
      by_cases hlt : k < runL 4 l
      · have hs := Lib.hid (step_num HR.out hlt)
        have hd0 := (dig_bt HR.out hlt).1
        have hd1 := (dig_bt HR.out hlt).2
        have hb := H.out.below HB1.out
        obtain ⟨b, off, rfl, _, hc⟩ := hb.at_ (by omega)
        have hck := hc k (by omega)
        clear hb hc
        by_cases hbig : 2147483647 < numL (l.take k) * 10 + (bt l k - 48)
        · have HV : Hid (dkV l = .tuple #[.int .i64 0, .int .i64 (runL 4 l), .int .i64 4]) := Lib.hid (by
            have hb := big_of HR.out (j := k + 1) (by omega) (by rw [hs.out]; exact hbig)
            have hne : runL 4 l ≠ 0 := by omega
            simp [dkV, dkN, dkK, dkE, hb, hne])
          go_wp2
          exact bodyPost_ret (v := .tuple #[.int .i64 0, .int .i64 (runL 4 l), .int .i64 4]) (by simp [results, Tryd.results71, go_sem]) rfl ⟨by rw [HV.out], HB1.out⟩
        · go_wp2
          go_round
          case rel => exact ⟨k + 1, by go_num, rfl, by omega, by rw [hs.out]; omega, by rw [hs.out]⟩
          case measure => simp [intOf]; omega
      · have hkk : k = runL 4 l := by omega
        have HV : Hid (dkV l = .tuple #[.int .i64 (numL (l.take k)), .int .i64 (runL 4 l), .int .i64 0]) := Lib.hid (by
          have hb : dkBig l = false := by unfold dkBig; rw [← hkk]; simpa using hn
          have hne : runL 4 l ≠ 0 := by omega
          rw [hkk]; simp [dkV, dkN, dkK, dkE, hb, hne])
        clear hkk
        go_wp2
        exact bodyPost_ret (v := .tuple #[.int .i64 (numL (l.take k)), .int .i64 (runL 4 l), .int .i64 0]) (by simp [results, Tryd.results71, go_sem]) rfl ⟨by rw [HV.out], HB1.out⟩

end Go.Proofs.YtecabgmkoknbgaaDoor
