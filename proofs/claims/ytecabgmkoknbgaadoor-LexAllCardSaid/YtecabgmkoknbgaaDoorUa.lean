/- Contracts of package utf: how long a sequence with a first byte is, which bytes may stand second, and Take. -/
import Derived.Test.YtecabgmkoknbgaaDoorRows
import Derived.Test.YtecabgmkoknbgaaDoorM1
import Derived.Lib.Hide
namespace Go.Proofs.YtecabgmkoknbgaaDoor
open Go.RowKit


set_option maxHeartbeats 400000 in
theorem length_any (c : Int) (w : World) :
    Calls Tryd.prog 65 #[.int .u8 c] w fun e w' => e = .returned (.int .i64 (lenOf c)) ∧ w = w' := by
  go_enter Tryd.func65, Tryd.ntmps65
  go_wp2
  all_goals
    go_ret
    refine ⟨ret_int ?_, rfl⟩
    unfold lenOf
    (repeat' split) <;> omega

set_option maxHeartbeats 400000 in
theorem second_any (c : Int) (w : World) :
    Calls Tryd.prog 66 #[.int .u8 c] w fun e w' => e = .returned (.tuple #[.int .u8 (loOf c), .int .u8 (hiOf c)]) ∧ w = w' := by
  go_enter Tryd.func66, Tryd.ntmps66
  go_wp2
  all_goals
    go_ret2
    refine ⟨ret_int2 ?_ ?_, rfl⟩ <;> simp only [beq_iff_eq, beq_eq_false_iff_ne, ne_eq] at * <;> (first | unfold loOf | unfold hiOf) <;> (repeat' split) <;> omega

theorem okSeq_no {l : List Int} (h : lenOf (bt l 0) = 0 ∨ l.length < lenOf (bt l 0)) : okSeq l = false := by
  unfold okSeq; simp; intro _ h1 h2; omega

theorem okSeq_bad {l : List Int} {k : Nat} (hk : k < lenOf (bt l 0) - 1) (h : ¬ (lowAt (bt l 0) k ≤ bt l (k + 1) ∧ bt l (k + 1) ≤ highAt (bt l 0) k)) : okSeq l = false := by
  cases hs : okSeq l with
  | false => rfl
  | true => exact absurd (((okSeq_iff l).1 hs).2.2.2 k hk) h

set_option maxHeartbeats 400000 in
theorem take_any (a : Option Addr) (len cap : Nat) (l : List Int) (w : World) (h : Bs w a len cap l) :
    Calls Tryd.prog 52 #[.slice a len cap] w fun e w' => e = .returned (.tuple #[.int .i64 (takeN l), .bool (okSeq l)]) ∧ w = w' := by
  have hm := h.lt
  unfold maxLen at hm
  by_cases h0 : len = 0
  · subst h0
    have hl : l = [] := List.eq_nil_of_length_eq_zero h.hl
    subst hl
    clear h
    go_enter Tryd.func52, Tryd.ntmps52
    go_wp2
    go_ret2
    exact ⟨ret_ib rfl rfl, rfl⟩
  · obtain ⟨b, off, rfl, hbl, hc⟩ := h.at_ (by omega)
    have hll := h.hl
    have hne : l ≠ [] := by intro e; subst e; simp at hll; omega
    have hc0 : w.cell? ⟨b, off, none⟩ = some (.int .u8 (bt l 0)) := hc 0 (by omega)
    have hpos : 0 < len := by omega
    have hz : ((len : Int) == 0) = false := by simp; omega
    have HR := Lib.hid h.rng
    have HC := Lib.hid hc
    have HL := Lib.hid hll
    have h4 := lenOf_le (bt l 0)
    clear h hc hll hbl h0
    by_cases hn0 : lenOf (bt l 0) = 0
    · have hf := okSeq_no (Or.inl hn0)
      have HT : Hid (takeN l = 1 ∧ okSeq l = false) := Lib.hid ⟨by unfold takeN; simp [hne, hf], hf⟩
      have hn : (((lenOf (bt l 0) : Nat) : Int) == 0) = true := by simp [hn0]
      clear hf hn0 hne
      go_enter Tryd.func52, Tryd.ntmps52
      go_wp2_with (first | (go_at_call 65; refine (length_any _ _).mono ?_; rintro e w' ⟨rfl, rfl⟩))
      go_ret2
      exact ⟨by rw [HT.out.1, HT.out.2]; rfl, rfl⟩
    · by_cases hn1 : len < lenOf (bt l 0)
      · have hf : okSeq l = false := okSeq_no (Or.inr (by rw [HL.out]; exact hn1))
        have HT : Hid (takeN l = 1 ∧ okSeq l = false) := Lib.hid ⟨by unfold takeN; simp [hne, hf], hf⟩
        have hn : (((lenOf (bt l 0) : Nat) : Int) == 0) = false := by simp [hn0]
        clear hf hn0 hne
        go_enter Tryd.func52, Tryd.ntmps52
        go_wp2_with (first | (go_at_call 65; refine (length_any _ _).mono ?_; rintro e w' ⟨rfl, rfl⟩))
        go_ret2
        exact ⟨by rw [HT.out.1, HT.out.2]; rfl, rfl⟩
      · have hn : (((lenOf (bt l 0) : Nat) : Int) == 0) = false := by simp [hn0]
        have hp : 0 < lenOf (bt l 0) := by omega
        have HN := Lib.hid hne
        clear hn0 hne
        go_enter Tryd.func52, Tryd.ntmps52
        go_wp2_with (first | (go_at_call 65; refine (length_any _ _).mono ?_; rintro e w' ⟨rfl, rfl⟩) | (go_at_call 66; refine (second_any _ _).mono ?_; rintro e w' ⟨rfl, rfl⟩))
        go_loop [33, 5, 6] (fun i f t => ∃ k : Nat, k + 1 ≤ lenOf (bt l 0) ∧ i = .int .i64 k ∧ f = .int .u8 (lowAt (bt l 0) k) ∧ t = .int .u8 (highAt (bt l 0) k) ∧ Hid (goodTo l k)) (fun i _ _ => lenOf (bt l 0) - (intOf i).toNat)
        case atStart => exact ⟨0, by omega, rfl, rfl, rfl, Lib.hid (fun j hj => by omega)⟩
        case round =>
          obtain ⟨k, hk, rfl, rfl, rfl, HG⟩ := hrel
          by_cases hlt : k + 1 < lenOf (bt l 0)
          · have hck : w.cell? ⟨b, off + (k + 1), none⟩ = some (.int .u8 (bt l (k + 1))) := HC.out _ (by omega)
            have hkl : k + 1 < len := by omega
            by_cases h1 : lowAt (bt l 0) k ≤ bt l (k + 1)
            · by_cases h2 : bt l (k + 1) ≤ highAt (bt l 0) k
              · go_wp2
                go_round
                case rel => exact ⟨k + 1, by omega, by go_num, rfl, rfl, Lib.hid (fun j hj => by
                  by_cases hjk : j = k
                  · subst hjk; exact ⟨h1, h2⟩
                  · exact HG.out j (by omega))⟩
                case measure => simp [intOf]; omega
              · have HT : Hid (takeN l = 1 ∧ okSeq l = false) := Lib.hid (by
                  have hf : okSeq l = false := okSeq_bad (k := k) (by omega) (fun hh => h2 hh.2)
                  exact ⟨by unfold takeN; simp [HN.out, hf], hf⟩)
                go_wp2
                go_ret2
                exact ⟨by rw [HT.out.1, HT.out.2]; rfl, rfl⟩
            · have HT : Hid (takeN l = 1 ∧ okSeq l = false) := Lib.hid (by
                  have hf : okSeq l = false := okSeq_bad (k := k) (by omega) (fun hh => h1 hh.1)
                  exact ⟨by unfold takeN; simp [HN.out, hf], hf⟩)
              go_wp2
              all_goals
                go_ret2
                exact ⟨by rw [HT.out.1, HT.out.2]; rfl, rfl⟩
          · have HT : Hid (takeN l = lenOf (bt l 0) ∧ okSeq l = true) := Lib.hid (by
              have hf : okSeq l = true := (okSeq_iff l).2 ⟨HN.out, hp, by rw [HL.out]; omega, fun j hj => HG.out j (by omega)⟩
              exact ⟨by unfold takeN; simp [HN.out, hf], hf⟩)
            have hge : ¬ ((k : Int) < (lenOf (bt l 0) : Int) - 1) := by omega
            go_wp2
            go_ret2
            exact ⟨by rw [HT.out.1, HT.out.2]; rfl, rfl⟩

end Go.Proofs.YtecabgmkoknbgaaDoor
