/- Contracts of the document's own answers of layer 1: the same functions of the bytes as package utf's. -/
import Derived.Test.YtecabgmkoknbgaaDoorUa
import Derived.Deep.QuietTactic
import Derived.BigQuiet
namespace Go.Proofs.YtecabgmkoknbgaaDoor
open Go.RowKit

/-- Only the tape has been asked. -/
def Dr (w w' : World) : Prop := ∃ n, w' = w.drewN n
theorem Dr.refl (w : World) : Dr w w := ⟨0, rfl⟩
theorem Dr.trans {a b c : World} (h : Dr a b) (k : Dr b c) : Dr a c := by
  obtain ⟨n, rfl⟩ := h; obtain ⟨m, rfl⟩ := k; exact ⟨n + m, World.drewN_drewN _ _ _⟩
theorem Dr.below {B : Nat} {a w w' : World} (h : Below B a w) (k : Dr w w') : Below B a w' := by obtain ⟨n, rfl⟩ := k; exact below_drewN h n
theorem Bs.dr {w w' : World} {a : Option Addr} {len cap : Nat} {l : List Int} (h : Bs w a len cap l) (k : Dr w w') : Bs w' a len cap l := h.below (Dr.below (Below.refl _ _) k)

set_option maxHeartbeats 400000 in
theorem long_any (c : Int) (w : World) :
    Calls Tryd.prog 53 #[.int .u8 c] w fun e w' => e = .returned (.int .i64 (lenOf c)) ∧ w = w' := by
  go_enter Tryd.func53, Tryd.ntmps53
  go_wp2
  all_goals
    go_ret
    refine ⟨ret_int ?_, rfl⟩
    unfold lenOf
    (repeat' split) <;> omega

def mayB (c d : Int) : Bool := decide (loOf c ≤ d ∧ d ≤ hiOf c)

set_option maxHeartbeats 400000 in
theorem may_any (c d : Int) (w : World) :
    Calls Tryd.prog 54 #[.int .u8 c, .int .u8 d] w fun e w' => e = .returned (.bool (mayB c d)) ∧ w = w' := by
  go_enter Tryd.func54, Tryd.ntmps54
  go_wp2
  all_goals
    go_ret
    refine ⟨ret_bool ?_, rfl⟩
    simp only [beq_iff_eq, beq_eq_false_iff_ne, ne_eq] at *
    unfold mayB loOf hiOf
    rw [Bool.eq_iff_iff]
    simp
    try (repeat' split)
    all_goals omega

set_option maxHeartbeats 1000000 in
theorem rtake_any (a : Option Addr) (len cap : Nat) (l : List Int) (w : World) (h : Bs w a len cap l) :
    Calls Tryd.prog 37 #[.slice a len cap] w fun e w' => e = .returned (.tuple #[.int .i64 (takeN l), .bool (okSeq l)]) ∧ Dr w w' := by
  have hm := h.lt
  unfold maxLen at hm
  by_cases h0 : len = 0
  · subst h0
    have hl : l = [] := List.eq_nil_of_length_eq_zero h.hl
    subst hl
    clear h
    go_enter Tryd.func37, Tryd.ntmps37
    go_wp2
    go_ret2
    exact ⟨ret_ib rfl rfl, Dr.refl _⟩
  · obtain ⟨b, off, rfl, hbl, hc⟩ := h.at_ (by omega)
    have hll := h.hl
    have hne : l ≠ [] := by intro e; subst e; simp at hll; omega
    have hc0 : w.cell? ⟨b, off, none⟩ = some (.int .u8 (bt l 0)) := hc 0 (by omega)
    have hpos : 0 < len := by omega
    have hz : ((len : Int) == 0) = false := by simp; omega
    have HC := Lib.hid hc
    have HL := Lib.hid hll
    have HN := Lib.hid hne
    have h4 := lenOf_le (bt l 0)
    clear h hc hll hbl h0 hne
    by_cases hn0 : lenOf (bt l 0) = 0
    · have hf := okSeq_no (Or.inl hn0)
      have HT : Hid (takeN l = 1 ∧ okSeq l = false) := Lib.hid ⟨by unfold takeN; simp [HN.out, hf], hf⟩
      have hn : (((lenOf (bt l 0) : Nat) : Int) == 0) = true := by simp [hn0]
      clear hf hn0
      go_enter Tryd.func37, Tryd.ntmps37
      go_wp2_with (first | (go_at_call 53; refine (long_any _ _).mono ?_; rintro e w' ⟨rfl, rfl⟩))
      go_quiet (fail)
      go_wp2
      go_ret2
      exact ⟨by rw [HT.out.1, HT.out.2]; rfl, ⟨_, rfl⟩⟩
    · have hn : (((lenOf (bt l 0) : Nat) : Int) == 0) = false := by simp [hn0]
      by_cases hn1 : len < lenOf (bt l 0)
      · have hf : okSeq l = false := okSeq_no (Or.inr (by rw [HL.out]; exact hn1))
        have HT : Hid (takeN l = 1 ∧ okSeq l = false) := Lib.hid ⟨by unfold takeN; simp [HN.out, hf], hf⟩
        clear hf hn0
        have hd : decide (len < lenOf (bt l 0)) = true := by simpa using hn1
        go_enter Tryd.func37, Tryd.ntmps37
        go_wp2_with (first | (go_at_call 53; refine (long_any _ _).mono ?_; rintro e w' ⟨rfl, rfl⟩))
        go_quiet (fail)
        go_wp2
        go_ret2
        exact ⟨by rw [HT.out.1, HT.out.2]; rfl, ⟨_, rfl⟩⟩
      · have hp : 0 < lenOf (bt l 0) := by omega
        have hd : decide (len < lenOf (bt l 0)) = false := by simpa using hn1
        clear hn0
        by_cases hone : lenOf (bt l 0) = 1
        · have hf : okSeq l = true := (okSeq_iff l).2 ⟨HN.out, hp, by rw [HL.out]; omega, fun j hj => by omega⟩
          have HT : Hid (takeN l = 1 ∧ okSeq l = true) := Lib.hid ⟨by unfold takeN; simp [HN.out, hf, hone], hf⟩
          have hd2 : decide ((len : Int) < 1) = false := by simp; omega
          have HONE := Lib.hid hone
          clear hone hf hn hn1 hp hd h4
          go_enter Tryd.func37, Tryd.ntmps37
          go_wp2_with (first | (go_at_call 53; refine (long_any _ _).mono ?_; rintro e w' ⟨rfl, rfl⟩; rw [HONE.out]))
          go_quiet (fail)
          go_wp2
          refine wp_loop_rounds 1 ?_
          rw [rounds_succ]
          go_wp2
          go_ret2
          exact ⟨by rw [HT.out.1, HT.out.2]; rfl, ⟨_, rfl⟩⟩
        · have h2 : 2 ≤ lenOf (bt l 0) := by omega
          have hd1 : decide ((1 : Int) < ((lenOf (bt l 0) : Nat) : Int)) = true := by simp; omega
          have hlen1 : (1 : Int) < (len : Int) := by omega
          have hc1 : w.cell? ⟨b, off + 1, none⟩ = some (.int .u8 (bt l 1)) := HC.out 1 (by omega)
          clear hone
          cases hs : mayB (bt l 0) (bt l 1) with
          | false =>
            have HT : Hid (takeN l = 1 ∧ okSeq l = false) := Lib.hid (by
              have hf : okSeq l = false := okSeq_bad (k := 0) (by omega) (fun hh => by
                have : mayB (bt l 0) (bt l 1) = true := by unfold mayB; simpa [lowAt, highAt] using hh
                rw [hs] at this; cases this)
              exact ⟨by unfold takeN; simp [HN.out, hf], hf⟩)
            go_enter Tryd.func37, Tryd.ntmps37
            go_wp2_with (first | (go_at_call 53; refine (long_any _ _).mono ?_; rintro e w' ⟨rfl, rfl⟩))
            go_quiet ((go_at_call 54; exact Calls.quiet_of_same ((may_any _ _ _).mono fun _ _ ⟨h1, h2⟩ => ⟨by rw [h1, hs], h2.symm⟩)))
            go_wp2
            go_ret2
            exact ⟨by rw [HT.out.1, HT.out.2]; rfl, ⟨_, rfl⟩⟩
          | true =>
            have HS : Hid (loOf (bt l 0) ≤ bt l 1 ∧ bt l 1 ≤ hiOf (bt l 0)) := Lib.hid (by simpa [mayB] using hs)
            go_enter Tryd.func37, Tryd.ntmps37
            go_wp2_with (first | (go_at_call 53; refine (long_any _ _).mono ?_; rintro e w' ⟨rfl, rfl⟩))
            go_quiet ((go_at_call 54; exact Calls.quiet_of_same ((may_any _ _ _).mono fun _ _ ⟨h1, h2⟩ => ⟨by rw [h1, hs], h2.symm⟩)))
            go_wp2
            go_loop [5] (fun i => ∃ k : Nat, 2 ≤ k ∧ k ≤ lenOf (bt l 0) ∧ i = .int .i64 k ∧ Hid (goodTo l (k - 1))) (fun i => lenOf (bt l 0) - (intOf i).toNat)
            case atStart => exact ⟨2, by omega, h2, rfl, Lib.hid (fun j hj => by
              obtain rfl : j = 0 := by omega
              exact HS.out)⟩
            case round =>
              obtain ⟨k, hk2, hk, rfl, HG⟩ := hrel
              by_cases hlt : k < lenOf (bt l 0)
              · have hck : w.cell? ⟨b, off + k, none⟩ = some (.int .u8 (bt l k)) := HC.out _ (by omega)
                have hkl : k < len := by omega
                have hlow : lowAt (bt l 0) (k - 1) = 128 ∧ highAt (bt l 0) (k - 1) = 191 := by simp [lowAt, highAt, show ¬ k - 1 = 0 from by omega]
                have HLO := Lib.hid hlow
                clear hlow
                by_cases hg1 : (128 : Int) ≤ bt l k
                · by_cases hg2 : bt l k ≤ 191
                  · go_wp2
                    go_round
                    case rel => exact ⟨k + 1, by omega, by omega, by go_num, Lib.hid (fun j hj => by
                      by_cases hjk : j = k - 1
                      · subst hjk
                        rw [HLO.out.1, HLO.out.2, show k - 1 + 1 = k from by omega]
                        exact ⟨hg1, hg2⟩
                      · exact HG.out j (by omega))⟩
                    case measure => simp [intOf]; omega
                  · have HT : Hid (takeN l = 1 ∧ okSeq l = false) := Lib.hid (by
                      have hf : okSeq l = false := okSeq_bad (k := k - 1) (by omega) (fun hh => by
                        rw [HLO.out.2, show k - 1 + 1 = k from by omega] at hh; exact hg2 hh.2)
                      exact ⟨by unfold takeN; simp [HN.out, hf], hf⟩)
                    go_wp2
                    go_ret2
                    exact ⟨by rw [HT.out.1, HT.out.2]; rfl, ⟨_, rfl⟩⟩
                · have HT : Hid (takeN l = 1 ∧ okSeq l = false) := Lib.hid (by
                      have hf : okSeq l = false := okSeq_bad (k := k - 1) (by omega) (fun hh => by
                        rw [HLO.out.1, show k - 1 + 1 = k from by omega] at hh; exact hg1 hh.1)
                      exact ⟨by unfold takeN; simp [HN.out, hf], hf⟩)
                  go_wp2
                  all_goals
                    go_ret2
                    exact ⟨by rw [HT.out.1, HT.out.2]; rfl, ⟨_, rfl⟩⟩
              · have HT : Hid (takeN l = lenOf (bt l 0) ∧ okSeq l = true) := Lib.hid (by
                  have hf : okSeq l = true := (okSeq_iff l).2 ⟨HN.out, hp, by rw [HL.out]; omega, fun j hj => HG.out j (by omega)⟩
                  exact ⟨by unfold takeN; simp [HN.out, hf], hf⟩)
                go_wp2
                go_ret2
                exact ⟨by rw [HT.out.1, HT.out.2]; rfl, ⟨_, rfl⟩⟩

end Go.Proofs.YtecabgmkoknbgaaDoor
