/- Contract: the document's own runs. -/
import Derived.Test.YtglgdpcfjbahdaaDoorVc
import Derived.Test.YtglgdpcfjbahdaaDoorKr
namespace Go.Proofs.YtglgdpcfjbahdaaDoor
open Go.RowKit

theorem rrun_any (a : Option Addr) (len cap : Nat) (l : List Int) (n : Int) (w : World) (h : Bs w a len cap l) :
    Calls Tryd.prog 30 #[.slice a len cap, .int .i64 n] w fun e w' => e = .returned (.int .i64 (runL n l)) ∧ w = w' := by
  have hm := h.lt
  unfold maxLen at hm
  have H := Lib.hid h
  clear h
  go_enter Tryd.func30, Tryd.ntmps30
  go_wp2
  go_loop [5] (fun i => ∃ k : Nat, i = .int .i64 k ∧ k ≤ len ∧ Hid (k + runL n (l.drop k) = runL n l)) (fun i => len - (intOf i).toNat)
  case atStart => exact ⟨0, rfl, by omega, Lib.hid (by simp)⟩
  case round =>
    obtain ⟨k, rfl, hk, HM⟩ := hrel
    by_cases hlt : k < len
    · have hll := H.out.hl
      have HS := Lib.hid (runL_drop n l k (by omega))
      have h0 := (bt_rng H.out.rng k).1
      have h1 := (bt_rng H.out.rng k).2
      obtain ⟨b, off, rfl, _, hc⟩ := H.out.at_ (by omega)
      have hck := hc k hlt
      clear hll hc
      go_wp2_with (first | (go_at_call 25; refine (rof_any _ _ h0 h1).mono ?_; rintro e w' ⟨rfl, rfl⟩))
      · rename_i hq
        go_round
        case rel => exact ⟨k + 1, by go_num, by omega, Lib.hid (by rw [← HM.out, HS.out, if_pos (by simpa using hq)]; omega)⟩
        case measure => simp [intOf]; omega
      · rename_i hq
        have HF : Hid (runL n l = k) := Lib.hid (by rw [← HM.out, HS.out, if_neg (by simpa using hq)]; rfl)
        go_ret
        exact ⟨by rw [HF.out]; rfl, rfl⟩
    · have HF : Hid (runL n l = len) := Lib.hid (by rw [← HM.out, List.drop_eq_nil_iff.2 (by have := H.out.hl; omega)]; simp [runL]; omega)
      have hkl : k = len := by omega
      subst hkl
      go_wp2
      go_ret
      exact ⟨by rw [HF.out]; rfl, rfl⟩

end Go.Proofs.YtglgdpcfjbahdaaDoor
