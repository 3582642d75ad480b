/- The walk of UtfCounts: sequences taken off one by one end where the bytes do. -/
import Derived.Test.YtbcphmjlifmeiaaUc
namespace Go.Proofs.Ytbcphmjlifmeiaa
open Go.RowKit

theorem takeN_bad {l : List Int} (h : l ≠ []) (hok : okSeq l = false) : takeN l = 1 := by unfold takeN; simp [h, hok]

set_option maxHeartbeats 1000000 in
theorem counts_any (a : Option Addr) (len cap : Nat) (l0 : List Int) (w : World) (h0 : Bs w a len cap l0) :
    Calls Try.prog 6 #[.slice a len cap] w fun e w' => e = .returned (.bool true) ∧ Below w.heap.size w w' := by
  have H0 := Lib.hid h0
  clear h0
  go_enter Try.func6, Try.ntmps6
  go_wp2_with fail
  refine (shown_any _).mono ?_
  rintro e w1 ⟨rfl, hb1⟩
  have HB1 := Lib.hid hb1
  clear hb1
  go_wp2_with fail
  refine (few_any _ _ _ _ _ (H0.out.below HB1.out)).mono ?_
  rintro e w' ⟨rfl, rfl⟩
  have h := few_bs (H0.out.below HB1.out)
  have hn2 : min len 200 ≤ 200 := Nat.min_le_right _ _
  clear H0
  generalize min len 200 = n at *
  generalize l0.take 200 = l at *
  have hlc := h.lc
  have hcm := h.cm
  unfold maxLen at hcm
  have H := Lib.hid h
  clear h
  go_wp2
  go_loop [5, 6, 7, 8] (fun at' many whole long => ∃ k m : Nat, ∃ wh lo : Bool, at' = .int .i64 k ∧ many = .int .i64 m ∧ whole = .bool wh ∧ long = .bool lo ∧ k ≤ n ∧ m ≤ k ∧
      Hid (m + count (l.drop k) = count l) ∧ Hid ((wh && valid (l.drop k)) = valid l) ∧ Hid (lo = decide (m < k))) (fun at' _ _ _ => n - (intOf at').toNat)
  case atStart => exact ⟨0, 0, true, false, rfl, rfl, rfl, rfl, by omega, by omega, Lib.hid (by simp), Lib.hid (by simp), Lib.hid (by simp)⟩
  case round =>
    obtain ⟨k, m, wh, lo, rfl, rfl, rfl, rfl, hk, hmk, HC, HV, HL⟩ := hrel
    by_cases hlt : k < n
    · have hll := H.out.hl
      obtain ⟨b, off, rfl, hbl, hc⟩ := H.out.at_ (by omega)
      have hne : l.drop k ≠ [] := by intro e; have := congrArg List.length e; simp at this; omega
      have hn1 := takeN_pos hne
      have hn3 : k + takeN (l.drop k) ≤ n := by have := takeN_le (l.drop k); simp at this; omega
      have hn4 := takeN_le4 (l.drop k)
      have HD := Lib.hid (H.out.drop (k := k) (by omega))
      have hck : ¬ cap = k := by omega
      have HC' : Hid (m + 1 + count (l.drop (k + takeN (l.drop k))) = count l) := Lib.hid (by rw [← HC.out, count_step hne, List.drop_drop]; omega)
      have HV' : Hid ((wh && (okSeq (l.drop k) && valid (l.drop (k + takeN (l.drop k))))) = valid l) := Lib.hid (by rw [← HV.out, valid_step hne, List.drop_drop])
      have hbad := fun h => takeN_bad hne h
      have HB := Lib.hid hbad
      clear hll hc hne hbad hbl
      cases hok : okSeq (l.drop k) with
      | false =>
        have HT : Hid (takeN (l.drop k) = 1) := Lib.hid (HB.out hok)
        rw [hok] at HV'
        rw [HT.out] at HC' HV' hn1 hn3 hn4
        cases lo <;> cases wh
        all_goals
          go_wp2_with (first | (go_at_call 10; refine (take_any _ _ _ _ _ HD.out).mono ?_; rintro e w' ⟨rfl, rfl⟩; rw [hok, HT.out]))
          go_round
          case rel => exact ⟨k + 1, m + 1, _, _, by go_num, by go_num, rfl, rfl, by omega, by omega, HC', Lib.hid (by have := HV'.out; simpa using this), Lib.hid (by have := HL.out; simp at this ⊢; omega)⟩
          case measure => simp [intOf]; omega
      | true =>
        rw [hok] at HV'
        by_cases hone : takeN (l.drop k) = 1
        · have HT := Lib.hid hone
          rw [hone] at HC' HV' hn1 hn3 hn4
          clear hone
          cases lo <;> cases wh
          all_goals
            go_wp2_with (first | (go_at_call 10; refine (take_any _ _ _ _ _ HD.out).mono ?_; rintro e w' ⟨rfl, rfl⟩; rw [hok, HT.out]))
            go_round
            case rel => exact ⟨k + 1, m + 1, _, _, by go_num, by go_num, rfl, rfl, by omega, by omega, HC', Lib.hid (by have := HV'.out; simpa using this), Lib.hid (by have := HL.out; simp at this ⊢; omega)⟩
            case measure => simp [intOf]; omega
        · have h2 : 2 ≤ takeN (l.drop k) := by omega
          clear hone
          cases lo <;> cases wh
          all_goals
            go_wp2_with (first | (go_at_call 10; refine (take_any _ _ _ _ _ HD.out).mono ?_; rintro e w' ⟨rfl, rfl⟩; rw [hok]))
            go_round
            case rel => exact ⟨k + takeN (l.drop k), m + 1, _, _, by go_num, by go_num, rfl, rfl, by omega, by omega, HC', Lib.hid (by have := HV'.out; simpa using this), Lib.hid (by have := HL.out; simp at this ⊢; omega)⟩
            case measure => simp [intOf]; omega
    · have hkn : k = n := by omega
      subst hkn
      have hd : l.drop k = [] := List.drop_eq_nil_iff.2 (by have := H.out.hl; omega)
      have HCC : Hid (count l = m) := Lib.hid (by rw [← HC.out, hd, count_nil]; rfl)
      have HVV : Hid (valid l = wh) := Lib.hid (by rw [← HV.out, hd, valid_nil]; simp)
      clear hd hlt
      have HF : Hid (Below w.heap.size w w1) := HB1
      cases hlo : lo with
      | false =>
        have hmk2 : k = m := by have := HL.out; rw [hlo] at this; simp at this; omega
        subst hmk2
        cases wh
        all_goals
          go_wp2_with (first | (go_at_call 12; refine (valid_any _ _ _ _ _ H.out).mono ?_; rintro e w' ⟨rfl, rfl⟩; rw [HVV.out]) | (go_at_call 14; refine (count_any _ _ _ _ _ H.out).mono ?_; rintro e w' ⟨rfl, rfl⟩; rw [HCC.out]))
          go_ret
          exact ⟨rfl, HF.out⟩
      | true =>
        have hmk2 : m < k := by have := HL.out; rw [hlo] at this; simpa using this
        have hmk3 : ((m : Int) == (k : Int)) = false := by simp; omega
        cases wh
        all_goals
          go_wp2_with (first | (go_at_call 12; refine (valid_any _ _ _ _ _ H.out).mono ?_; rintro e w' ⟨rfl, rfl⟩; rw [HVV.out]) | (go_at_call 14; refine (count_any _ _ _ _ _ H.out).mono ?_; rintro e w' ⟨rfl, rfl⟩; rw [HCC.out]))
          go_ret
          exact ⟨rfl, HF.out⟩

end Go.Proofs.Ytbcphmjlifmeiaa
