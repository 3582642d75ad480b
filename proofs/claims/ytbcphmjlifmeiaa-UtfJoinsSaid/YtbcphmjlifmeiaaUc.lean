/- Contracts of package utf's Valid and Count, and of the statements' own 'few' and 'shown'. -/
import Derived.Test.YtbcphmjlifmeiaaUa
import Derived.Lib.SmallJoins
namespace Go.Proofs.Ytbcphmjlifmeiaa
open Go.RowKit

def lenV : Value → Nat
  | .slice _ n _ => n
  | _ => 0

set_option maxHeartbeats 400000 in
theorem valid_any (a : Option Addr) (len cap : Nat) (l : List Int) (w : World) (h : Bs w a len cap l) :
    Calls Try.prog 12 #[.slice a len cap] w fun e w' => e = .returned (.bool (valid l)) ∧ w = w' := by
  go_enter Try.func12, Try.ntmps12
  go_wp2
  go_loop [0] (fun v => ∃ a' len' cap' l', v = .slice a' len' cap' ∧ Bs w a' len' cap' l' ∧ Hid (valid l' = valid l)) (fun v => lenV v)
  case atStart => exact ⟨a, len, cap, l, rfl, h, Lib.hid rfl⟩
  case round =>
    obtain ⟨a', len', cap', l', rfl, hb, HV⟩ := hrel
    clear h
    have hm := hb.lt
    unfold maxLen at hm
    by_cases h0 : len' = 0
    · subst h0
      have hl : l' = [] := List.eq_nil_of_length_eq_zero hb.hl
      subst hl
      have HT : Hid (valid l = true) := Lib.hid (by rw [← HV.out]; exact valid_nil)
      go_wp2
      go_ret
      exact ⟨by rw [HT.out]; rfl, rfl⟩
    · have hpos : 0 < len' := by omega
      obtain ⟨b, off, rfl, hbl, hc⟩ := hb.at_ hpos
      have hne : l' ≠ [] := by intro e; subst e; have := hb.hl; simp at this; omega
      have hn1 := takeN_pos hne
      have hn2 : takeN l' ≤ len' := by have := takeN_le l'; have := hb.hl; omega
      have hlc := hb.lc
      have hcm := hb.cm
      unfold maxLen at hcm
      have HB := Lib.hid hb
      have HS := Lib.hid (valid_step hne)
      clear hc hne hb h0 hbl
      cases hok : okSeq l' with
      | false =>
        have HT : Hid (valid l = false) := Lib.hid (by rw [← HV.out, HS.out, hok]; rfl)
        go_wp2_with (first | (go_at_call 10; refine (take_any _ _ _ _ _ HB.out).mono ?_; rintro e w' ⟨rfl, rfl⟩))
        go_ret
        exact ⟨by rw [HT.out]; rfl, rfl⟩
      | true =>
        have HT : Hid (valid (l'.drop (takeN l')) = valid l) := Lib.hid (by rw [← HV.out, HS.out, hok]; simp)
        by_cases hk : cap' = takeN l'
        · have hlen : len' = takeN l' := by omega
          subst hk
          subst hlen
          go_wp2_with (first | (go_at_call 10; refine (take_any _ _ _ _ _ HB.out).mono ?_; rintro e w' ⟨rfl, rfl⟩))
          go_round
          case rel => exact ⟨_, _, _, _, rfl, HB.out.none_left _ _ (by unfold maxLen; omega), HT⟩
          case measure => simp [lenV]; omega
        · go_wp2_with (first | (go_at_call 10; refine (take_any _ _ _ _ _ HB.out).mono ?_; rintro e w' ⟨rfl, rfl⟩))
          go_round
          case rel => exact ⟨_, _, _, _, rfl, HB.out.drop hn2, HT⟩
          case measure => simp [lenV]; omega

set_option maxHeartbeats 400000 in
theorem count_any (a : Option Addr) (len cap : Nat) (l : List Int) (w : World) (h : Bs w a len cap l) :
    Calls Try.prog 14 #[.slice a len cap] w fun e w' => e = .returned (.int .i64 (count l)) ∧ w = w' := by
  have hcl := count_le l
  have hll := h.hl
  have hlm := h.lt
  unfold maxLen at hlm
  have HCL : Hid (count l ≤ 9223372036854775807) := Lib.hid (by omega)
  clear hcl hll hlm
  go_enter Try.func14, Try.ntmps14
  go_wp2
  go_loop [0, 3] (fun v n => ∃ a' len' cap' l', ∃ k : Nat, v = .slice a' len' cap' ∧ n = .int .i64 k ∧ Bs w a' len' cap' l' ∧ Hid (k + count l' = count l)) (fun v _ => lenV v)
  case atStart => exact ⟨a, len, cap, l, 0, rfl, rfl, h, Lib.hid (by omega)⟩
  case round =>
    obtain ⟨a', len', cap', l', k, rfl, rfl, hb, HV⟩ := hrel
    clear h
    have hm := hb.lt
    unfold maxLen at hm
    by_cases h0 : len' = 0
    · subst h0
      have hl : l' = [] := List.eq_nil_of_length_eq_zero hb.hl
      subst hl
      have HT : Hid (count l = k) := Lib.hid (by rw [← HV.out, count_nil]; rfl)
      clear hb
      go_wp2
      go_ret
      exact ⟨by rw [HT.out]; rfl, rfl⟩
    · have hpos : 0 < len' := by omega
      obtain ⟨b, off, rfl, hbl, hc⟩ := hb.at_ hpos
      have hne : l' ≠ [] := by intro e; subst e; have := hb.hl; simp at this; omega
      have hn1 := takeN_pos hne
      have hn2 : takeN l' ≤ len' := by have := takeN_le l'; have := hb.hl; omega
      have hlc := hb.lc
      have hcm := hb.cm
      unfold maxLen at hcm
      have HB := Lib.hid hb
      have hs := count_step hne
      have hkb : k + 1 ≤ 9223372036854775807 := by have := HV.out; have := HCL.out; omega
      have HT : Hid (k + 1 + count (l'.drop (takeN l')) = count l) := Lib.hid (by rw [← HV.out, hs]; omega)
      clear hc hne hb h0 hbl hs
      by_cases hk : cap' = takeN l'
      · have hlen : len' = takeN l' := by omega
        subst hk
        subst hlen
        go_wp2_with (first | (go_at_call 10; refine (take_any _ _ _ _ _ HB.out).mono ?_; rintro e w' ⟨rfl, rfl⟩))
        go_round
        case rel => exact ⟨_, _, _, _, k + 1, rfl, by go_num, HB.out.none_left _ _ (by unfold maxLen; omega), HT⟩
        case measure => simp [lenV]; omega
      · go_wp2_with (first | (go_at_call 10; refine (take_any _ _ _ _ _ HB.out).mono ?_; rintro e w' ⟨rfl, rfl⟩))
        go_round
        case rel => exact ⟨_, _, _, _, k + 1, rfl, by go_num, HB.out.drop hn2, HT⟩
        case measure => simp [lenV]; omega

-- 'few': 200 bytes at most.
set_option maxHeartbeats 400000 in
theorem few_any (a : Option Addr) (len cap : Nat) (l : List Int) (w : World) (h : Bs w a len cap l) :
    Calls Try.prog 9 #[.slice a len cap] w fun e w' => e = .returned (.slice a (min len 200) cap) ∧ w = w' := by
  have hm := h.lt
  have hlc := h.lc
  have hcm := h.cm
  unfold maxLen at hm hcm
  clear h
  by_cases h200 : len ≤ 200
  · have HM : Hid (min len 200 = len) := Lib.hid (Nat.min_eq_left h200)
    go_enter Try.func9, Try.ntmps9
    go_wp2
    go_ret
    exact ⟨by rw [HM.out]; rfl, rfl⟩
  · have HM : Hid (min len 200 = 200) := Lib.hid (Nat.min_eq_right (by omega))
    go_enter Try.func9, Try.ntmps9
    go_wp2
    go_ret
    exact ⟨by rw [HM.out]; rfl, rfl⟩

theorem few_bs {w : World} {a : Option Addr} {len cap : Nat} {l : List Int} (h : Bs w a len cap l) : Bs w a (min len 200) cap (l.take 200) := by
  have h1 := h.lc
  have h2 := h.cm
  have h3 := h.take (k := min len 200) (c' := cap) (Nat.min_le_left _ _) (by omega) h2
  rwa [show l.take (min len 200) = l.take 200 from by
    rw [← h.hl, Nat.min_comm, ← List.take_take, List.take_length]] at h3

theorem okLit1 : takeN [195, 169, 65] = 2 ∧ okSeq [195, 169, 65] = true := by decide
theorem okLit2 : takeN [195, 65] = 1 ∧ okSeq [195, 65] = false := by decide
theorem validLit : valid [97] = true := by
  rw [valid_step (by simp), show takeN [97] = 1 from by decide, show okSeq [97] = true from by decide]; simp [valid_nil]

set_option maxHeartbeats 400000 in
theorem shown_any (w : World) :
    Calls Try.prog 8 #[] w fun e w' => e = .returned (.bool true) ∧ Below w.heap.size w w' := by
  have HB1 : Hid (Bs (w.alloc (.cells #[.int .u8 195, .int .u8 169, .int .u8 65] 5)) (some ⟨w.heap.size, 0, none⟩) 3 3 [195, 169, 65]) := Lib.hid (Bs.lit w 5 (by simp) (by simp) rfl rfl (by decide))
  have HB2 : Hid (Bs ((w.alloc (.cells #[.int .u8 195, .int .u8 169, .int .u8 65] 5)).alloc (.cells #[.int .u8 195, .int .u8 65] 5)) (some ⟨w.heap.size + 1, 0, none⟩) 2 2 [195, 65]) := Lib.hid (Bs.lit _ 5 (by simp) (by simp) (by simp) rfl (by decide))
  have HB3 : Hid (Bs (((w.alloc (.cells #[.int .u8 195, .int .u8 169, .int .u8 65] 5)).alloc (.cells #[.int .u8 195, .int .u8 65] 5)).alloc (.cells #[.int .u8 97] 5 (1, 2))) (some ⟨w.heap.size + 1 + 1, 0, none⟩) 1 1 [97]) := Lib.hid (Bs.lit _ 5 (by simp) (by simp) (by simp) rfl (by decide))
  have kc := Joins.run_convert_bytes_const_at (P := Try.prog) ((w.alloc (.cells #[.int .u8 195, .int .u8 169, .int .u8 65] 5)).alloc (.cells #[.int .u8 195, .int .u8 65] 5)) 22 5 #[.int .u8 97] 1 1 (w.heap.size + 1 + 1) (by simp) Try.underlying22 Try.underlying5
  go_enter Try.func8, Try.ntmps8
  go_wp2_with fail
  refine (take_any _ _ _ _ _ HB1.out).mono ?_
  rintro e w' ⟨rfl, rfl⟩
  rw [okLit1.1, okLit1.2]
  go_wp2_with fail
  refine (take_any _ _ _ _ _ HB2.out).mono ?_
  rintro e w' ⟨rfl, rfl⟩
  rw [okLit2.1, okLit2.2]
  go_wp2_with fail
  refine (valid_any _ _ _ _ _ HB3.out).mono ?_
  rintro e w' ⟨rfl, rfl⟩
  rw [validLit]
  go_wp2
  go_ret
  exact ⟨rfl, (((Below.refl _ _).alloc (Nat.le_refl _) _).alloc (by simp) _).alloc (by simp; omega) _⟩

end Go.Proofs.Ytbcphmjlifmeiaa
