/- The document's own Count, and the walk of UtfAll. -/
import Derived.Test.YtbcphmjlifmeiaaUe
namespace Go.Proofs.Ytbcphmjlifmeiaa
open Go.RowKit

set_option maxHeartbeats 400000 in
theorem rcount_any (a : Option Addr) (len cap : Nat) (l : List Int) (w : World) (h : Bs w a len cap l) :
    Calls Try.prog 15 #[.slice a len cap] w fun e w' => e = .returned (.int .i64 (count l)) ∧ Dr w w' := by
  have hlc := h.lc
  have hcm := h.cm
  unfold maxLen at hcm
  have H := Lib.hid h
  have hcl := count_le l
  have HCL : Hid (count l ≤ 9223372036854775807) := Lib.hid (by have := h.hl; omega)
  clear h hcl
  go_enter Try.func15, Try.ntmps15
  go_wp2
  go_loopw [3, 4] (fun at' many wr => ∃ k m : Nat, at' = .int .i64 k ∧ many = .int .i64 m ∧ k ≤ len ∧ Hid (m + count (l.drop k) = count l) ∧ Hid (Dr w wr)) (fun at' _ _ => len - (intOf at').toNat)
  case atStart => exact ⟨0, 0, rfl, rfl, by omega, Lib.hid (by simp), Lib.hid (Dr.refl _)⟩
  case round =>
    obtain ⟨k, m, rfl, rfl, hk, HV, HD⟩ := hrel
    by_cases hlt : k < len
    · have hll := H.out.hl
      obtain ⟨b, off, rfl, hbl, hc⟩ := H.out.at_ (by omega)
      have hne : l.drop k ≠ [] := by intro e; have := congrArg List.length e; simp at this; omega
      have hn1 := takeN_pos hne
      have hn3 : k + takeN (l.drop k) ≤ len := by have := takeN_le (l.drop k); simp at this; omega
      have HB := Lib.hid ((H.out.drop (k := k) (by omega)).dr HD.out)
      have hck : ¬ cap = k := by omega
      have hs := count_step hne
      have hm : m + 1 ≤ 9223372036854775807 := by have := HV.out; have := HCL.out; omega
      have HT : Hid (m + 1 + count (l.drop (k + takeN (l.drop k))) = count l) := Lib.hid (by rw [← HV.out, hs, List.drop_drop]; omega)
      clear hc hne hbl hll hs
      go_wp2_with (first | (go_at_call 11; refine (rtake_any _ _ _ _ _ HB.out).mono ?_; rintro e w' ⟨rfl, hdr⟩; have HD2 := Lib.hid hdr; clear hdr))
      go_roundw
      case rel => exact ⟨k + takeN (l.drop k), m + 1, by go_num, by go_num, hn3, HT, Lib.hid (HD.out.trans HD2.out)⟩
      case measure => simp [intOf]; omega
    · have hkn : k = len := by omega
      subst hkn
      have HT : Hid (count l = m) := Lib.hid (by rw [← HV.out, List.drop_eq_nil_iff.2 (by have := H.out.hl; omega), count_nil]; rfl)
      go_wp2
      go_ret
      exact ⟨by rw [HT.out]; rfl, HD.out⟩

set_option maxHeartbeats 1000000 in
theorem all_any (a : Option Addr) (len cap : Nat) (l0 : List Int) (w : World) (h0 : Bs w a len cap l0) :
    Calls Try.prog 3 #[.slice a len cap] w fun e w' => e = .returned (.bool true) ∧ Below w.heap.size w w' := by
  have H0 := Lib.hid h0
  clear h0
  go_enter Try.func3, Try.ntmps3
  go_wp2_with fail
  refine (shown_any _).mono ?_
  rintro e w1 ⟨rfl, hb1⟩
  have HB1 := Lib.hid hb1
  clear hb1
  go_wp2_with fail
  refine (few_any _ _ _ _ _ (H0.out.below HB1.out)).mono ?_
  rintro e w' ⟨rfl, rfl⟩
  have h := few_bs (H0.out.below HB1.out)
  clear H0
  generalize min len 200 = n at *
  generalize l0.take 200 = l at *
  have H := Lib.hid h
  clear h
  go_wp2_with fail
  refine (take_any _ _ _ _ _ H.out).mono ?_
  rintro e w' ⟨rfl, rfl⟩
  go_wp2_with fail
  refine (rtake_any _ _ _ _ _ H.out).mono ?_
  rintro e w2 ⟨rfl, hd1⟩
  have HD1 := Lib.hid hd1
  have HH := Lib.hid (H.out.dr hd1)
  clear hd1
  go_wp2_with fail
  refine (valid_any _ _ _ _ _ HH.out).mono ?_
  rintro e w' ⟨rfl, rfl⟩
  go_wp2_with fail
  refine (rvalid_any _ _ _ _ _ HH.out).mono ?_
  rintro e w3 ⟨rfl, hd2⟩
  have HD2 := Lib.hid hd2
  have HI := Lib.hid (HH.out.dr hd2)
  clear hd2
  go_wp2_with fail
  refine (count_any _ _ _ _ _ HI.out).mono ?_
  rintro e w' ⟨rfl, rfl⟩
  go_wp2_with fail
  refine (rcount_any _ _ _ _ _ HI.out).mono ?_
  rintro e w4 ⟨rfl, hd3⟩
  have HD3 := Lib.hid hd3
  clear hd3
  go_wp2
  go_ret
  exact ⟨rfl, Dr.below (Dr.below (Dr.below HB1.out HD1.out) HD2.out) HD3.out⟩

end Go.Proofs.Ytbcphmjlifmeiaa
