/- Contract of package utf's Valid. -/
import Derived.Test.YtfbhokigeneinaaDoorUa
namespace Go.Proofs.YtfbhokigeneinaaDoor
open Go.RowKit

def lenV : Value → Nat
  | .slice _ n _ => n
  | _ => 0

set_option maxHeartbeats 400000 in
theorem valid_any (a : Option Addr) (len cap : Nat) (l : List Int) (w : World) (h : Bs w a len cap l) :
    Calls Tryd.prog 14 #[.slice a len cap] w fun e w' => e = .returned (.bool (valid l)) ∧ w = w' := by
  go_enter Tryd.func14, Tryd.ntmps14
  go_wp2
  go_loop [0] (fun v => ∃ a' len' cap' l', v = .slice a' len' cap' ∧ Bs w a' len' cap' l' ∧ Hid (valid l' = valid l)) (fun v => lenV v)
  case atStart => exact ⟨a, len, cap, l, rfl, h, Lib.hid rfl⟩
  case round =>
    obtain ⟨a', len', cap', l', rfl, hb, HV⟩ := hrel
    clear h
    have hm := hb.lt
    unfold maxLen at hm
    by_cases h0 : len' = 0
    · subst h0
      have hl : l' = [] := List.eq_nil_of_length_eq_zero hb.hl
      subst hl
      have HT : Hid (valid l = true) := Lib.hid (by rw [← HV.out]; exact valid_nil)
      go_wp2
      go_ret
      exact ⟨by rw [HT.out]; rfl, rfl⟩
    · have hpos : 0 < len' := by omega
      obtain ⟨b, off, rfl, hbl, hc⟩ := hb.at_ hpos
      have hne : l' ≠ [] := by intro e; subst e; have := hb.hl; simp at this; omega
      have hn1 := takeN_pos hne
      have hn2 : takeN l' ≤ len' := by have := takeN_le l'; have := hb.hl; omega
      have hlc := hb.lc
      have hcm := hb.cm
      unfold maxLen at hcm
      have HB := Lib.hid hb
      have HS := Lib.hid (valid_step hne)
      clear hc hne hb h0 hbl
      cases hok : okSeq l' with
      | false =>
        have HT : Hid (valid l = false) := Lib.hid (by rw [← HV.out, HS.out, hok]; rfl)
        go_wp2_with (first | (go_at_call 17; refine (take_any _ _ _ _ _ HB.out).mono ?_; rintro e w' ⟨rfl, rfl⟩))
        go_ret
        exact ⟨by rw [HT.out]; rfl, rfl⟩
      | true =>
        have HT : Hid (valid (l'.drop (takeN l')) = valid l) := Lib.hid (by rw [← HV.out, HS.out, hok]; simp)
        by_cases hk : cap' = takeN l'
        · have hlen : len' = takeN l' := by omega
          subst hk
          subst hlen
          go_wp2_with (first | (go_at_call 17; refine (take_any _ _ _ _ _ HB.out).mono ?_; rintro e w' ⟨rfl, rfl⟩))
          go_round
          case rel => exact ⟨_, _, _, _, rfl, HB.out.none_left _ _ (by unfold maxLen; omega), HT⟩
          case measure => simp [lenV]; omega
        · go_wp2_with (first | (go_at_call 17; refine (take_any _ _ _ _ _ HB.out).mono ?_; rintro e w' ⟨rfl, rfl⟩))
          go_round
          case rel => exact ⟨_, _, _, _, rfl, HB.out.drop hn2, HT⟩
          case measure => simp [lenV]; omega

end Go.Proofs.YtfbhokigeneinaaDoor
