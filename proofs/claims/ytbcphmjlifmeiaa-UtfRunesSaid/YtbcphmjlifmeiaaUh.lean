/- UtfRunes: each number's bytes are one sequence, but those from D800 to DFFF; and none of its beginnings is one. -/
import Derived.Test.YtbcphmjlifmeiaaUg
namespace Go.Proofs.Ytbcphmjlifmeiaa
open Go.RowKit

def runeL (m : Int) : List Int :=
  if m < 128 then [m] else if m < 2048 then [192 + m / 64, 128 + m % 64] else if m < 65536 then [224 + m / 4096, 128 + m / 64 % 64, 128 + m % 64]
  else [240 + m / 262144, 128 + m / 4096 % 64, 128 + m / 64 % 64, 128 + m % 64]

theorem runeL_rng {m : Int} (h0 : 0 ≤ m) (h1 : m < 1114112) : ∀ x ∈ runeL m, 0 ≤ x ∧ x ≤ 255 := by
  intro x hx
  unfold runeL at hx
  (repeat' split at hx) <;> simp at hx
  · omega
  · rcases hx with rfl | rfl <;> omega
  · rcases hx with rfl | rfl | rfl <;> omega
  · rcases hx with rfl | rfl | rfl | rfl <;> omega

theorem runeL_len (m : Int) : 1 ≤ (runeL m).length ∧ (runeL m).length ≤ 4 := by
  unfold runeL; (repeat' split) <;> simp

theorem goodTo_of {l : List Int} {k : Nat} (h0 : 0 < k → loOf (bt l 0) ≤ bt l 1 ∧ bt l 1 ≤ hiOf (bt l 0)) (h : ∀ j, 0 < j → j < k → 128 ≤ bt l (j + 1) ∧ bt l (j + 1) ≤ 191) : goodTo l k := by
  intro j hj
  by_cases h1 : j = 0
  · subst h1; exact h0 hj
  · simp only [lowAt, highAt, h1, if_false]; exact h j (by omega) hj

theorem runeL_ok {m : Int} (h0 : 0 ≤ m) (h1 : m < 1114112) (hs : ¬ (55296 ≤ m ∧ m ≤ 57343)) : okSeq (runeL m) = true ∧ lenOf (bt (runeL m) 0) = (runeL m).length := by
  have key : lenOf (bt (runeL m) 0) = (runeL m).length ∧ goodTo (runeL m) ((runeL m).length - 1) := by
    unfold runeL
    by_cases c1 : m < 128
    · simp only [c1, if_true]
      refine ⟨?_, fun j hj => by simp at hj⟩
      show lenOf m = 1
      unfold lenOf; (repeat' split) <;> omega
    · by_cases c2 : m < 2048
      · simp only [c1, c2, if_true, if_false]
        refine ⟨?_, goodTo_of (fun _ => ?_) (fun j hj hj2 => by simp at hj2; omega)⟩
        · show lenOf (192 + m / 64) = 2
          unfold lenOf; (repeat' split) <;> omega
        · show loOf (192 + m / 64) ≤ 128 + m % 64 ∧ 128 + m % 64 ≤ hiOf (192 + m / 64)
          unfold loOf hiOf; (repeat' split) <;> omega
      · by_cases c3 : m < 65536
        · simp only [c1, c2, c3, if_true, if_false]
          refine ⟨?_, goodTo_of (fun _ => ?_) (fun j hj hj2 => ?_)⟩
          · show lenOf (224 + m / 4096) = 3
            unfold lenOf; (repeat' split) <;> omega
          · show loOf (224 + m / 4096) ≤ 128 + m / 64 % 64 ∧ 128 + m / 64 % 64 ≤ hiOf (224 + m / 4096)
            unfold loOf hiOf; (repeat' split) <;> omega
          · simp at hj2
            obtain rfl : j = 1 := by omega
            show 128 ≤ 128 + m % 64 ∧ 128 + m % 64 ≤ 191
            omega
        · simp only [c1, c2, c3, if_false]
          refine ⟨?_, goodTo_of (fun _ => ?_) (fun j hj hj2 => ?_)⟩
          · show lenOf (240 + m / 262144) = 4
            unfold lenOf; (repeat' split) <;> omega
          · show loOf (240 + m / 262144) ≤ 128 + m / 4096 % 64 ∧ 128 + m / 4096 % 64 ≤ hiOf (240 + m / 262144)
            unfold loOf hiOf; (repeat' split) <;> omega
          · simp at hj2
            rcases (show j = 1 ∨ j = 2 by omega) with rfl | rfl
            · show 128 ≤ 128 + m / 64 % 64 ∧ 128 + m / 64 % 64 ≤ 191
              omega
            · show 128 ≤ 128 + m % 64 ∧ 128 + m % 64 ≤ 191
              omega
  have hl := runeL_len m
  refine ⟨(okSeq_iff _).2 ⟨?_, by omega, by omega, by rw [key.1]; exact key.2⟩, key.1⟩
  intro e; rw [e] at hl; simp at hl

/-- A number that is no surrogate. -/
theorem rune_even {m : Int} (h0 : 0 ≤ m) (h1 : m < 1114112) (hs : ¬ (55296 ≤ m ∧ m ≤ 57343)) (y : List Int) :
    okSeq (runeL m ++ y) = true ∧ takeN (runeL m ++ y) = (runeL m).length ∧ valid (runeL m) = true ∧ count (runeL m) = 1 ∧
      ∀ i, 1 ≤ i → i < (runeL m).length → takeN ((runeL m).take i) = 1 ∧ okSeq ((runeL m).take i) = false := by
  obtain ⟨ho, hl⟩ := runeL_ok h0 h1 hs
  have hb := runeL_len m
  have hne : runeL m ≠ [] := by intro e; rw [e] at hb; simp at hb
  have ht : takeN (runeL m) = (runeL m).length := by unfold takeN; simp [hne, ho, hl]
  obtain ⟨ha, hb2⟩ := okSeq_append y ho
  have hd : (runeL m).drop (runeL m).length = [] := List.drop_eq_nil_iff.2 (Nat.le_refl _)
  refine ⟨ha, hb2.trans ht, ?_, ?_, fun i hi1 hi2 => ?_⟩
  · rw [valid_step hne, ho, ht, hd, valid_nil]; rfl
  · rw [count_step hne, ht, hd, count_nil]
  · have hne2 : (runeL m).take i ≠ [] := by intro e; have := congrArg List.length e; rw [List.length_take, List.length_nil] at this; omega
    have hf : okSeq ((runeL m).take i) = false := okSeq_no (Or.inr (by rw [bt_take _ _ _ (by omega), hl, List.length_take]; omega))
    exact ⟨by unfold takeN; simp only [hne2, hf, if_false]; rfl, hf⟩

/-- A surrogate. -/
theorem rune_odd {m : Int} (h0 : 55296 ≤ m) (h1 : m ≤ 57343) (y : List Int) :
    okSeq (runeL m ++ y) = false ∧ takeN (runeL m ++ y) = 1 ∧ valid (runeL m) = false := by
  have hr : runeL m = [224 + m / 4096, 128 + m / 64 % 64, 128 + m % 64] := by
    unfold runeL; rw [if_neg (by omega), if_neg (by omega), if_pos (by omega)]
  have hc : 224 + m / 4096 = 237 := by omega
  have key : ∀ z, okSeq (runeL m ++ z) = false := by
    intro z
    rw [hr]
    refine okSeq_bad (k := 0) ?_ ?_
    · show 0 < lenOf (224 + m / 4096) - 1
      rw [hc]; decide
    · intro hh
      have : 128 + m / 64 % 64 ≤ hiOf (224 + m / 4096) := hh.2
      rw [hc, show hiOf 237 = 159 from by decide] at this
      omega
  have hne : runeL m ++ y ≠ [] := by rw [hr]; simp
  refine ⟨key y, by unfold takeN; simp only [hne, key y, if_false]; rfl, ?_⟩
  have h2 := key []
  rw [List.append_nil] at h2
  rw [valid_step (by rw [hr]; simp), h2]
  rfl

theorem ret_slice {a : Option Addr} {l l' c c' : Nat} (h : l = l') (h' : c = c') : Ending.returned (.slice a l c) = .returned (.slice a l' c') := by rw [h, h']

set_option maxHeartbeats 1000000 in
theorem rune_any (m : Int) (w : World) (h0 : 0 ≤ m) (h1 : m < 1114112) :
    Calls Try.prog 16 #[.int .u32 m] w fun e w' => e = .returned (.slice (some ⟨w.heap.size, 0, none⟩) (runeL m).length (runeL m).length) ∧ w' = w.alloc (.cells ((runeL m).map (Value.int .u8)).toArray 5) := by
  by_cases c1 : m < 128
  · have HR : Hid (runeL m = [m]) := Lib.hid (by unfold runeL; simp [c1])
    go_enter Try.func16, Try.ntmps16
    go_wp2
    go_ret
    exact ⟨by rw [HR.out]; rfl, by rw [HR.out]; rfl⟩
  · by_cases c2 : m < 2048
    · have HR : Hid (runeL m = [192 + m / 64, 128 + m % 64]) := Lib.hid (by unfold runeL; simp [c1, c2])
      go_enter Try.func16, Try.ntmps16
      go_wp2
      go_ret
      exact ⟨by rw [HR.out]; rfl, by rw [HR.out]; rfl⟩
    · by_cases c3 : m < 65536
      · have HR : Hid (runeL m = [224 + m / 4096, 128 + m / 64 % 64, 128 + m % 64]) := Lib.hid (by unfold runeL; simp [c1, c2, c3])
        go_enter Try.func16, Try.ntmps16
        go_wp2
        go_ret
        exact ⟨by rw [HR.out]; rfl, by rw [HR.out]; rfl⟩
      · have HR : Hid (runeL m = [240 + m / 262144, 128 + m / 4096 % 64, 128 + m / 64 % 64, 128 + m % 64]) := Lib.hid (by unfold runeL; simp [c1, c2, c3])
        go_enter Try.func16, Try.ntmps16
        go_wp2
        go_ret
        exact ⟨by rw [HR.out]; rfl, by rw [HR.out]; rfl⟩

set_option maxHeartbeats 1000000 in
theorem runes_any (m : Int) (a : Option Addr) (len cap : Nat) (l0 : List Int) (w : World) (hm0 : 0 ≤ m) (hm1 : m ≤ 4294967295) (h0 : Bs w a len cap l0) :
    Calls Try.prog 4 #[.int .u32 m, .slice a len cap] w fun e w' => e = .returned (.bool true) ∧ Below w.heap.size w w' := by
  have H0 := Lib.hid h0
  clear h0
  have hr0 : 0 ≤ m % 1114112 := by omega
  have hr1 : m % 1114112 < 1114112 := by omega
  have HR := Lib.hid (runeL_rng hr0 hr1)
  have hbl := runeL_len (m % 1114112)
  by_cases hodd : 55296 ≤ m % 1114112 ∧ m % 1114112 ≤ 57343
  · obtain ⟨ho1, ho2⟩ := hodd
    have HF := Lib.hid (rune_odd ho1 ho2 (l0.take 200))
    go_enter Try.func4, Try.ntmps4
    go_wp2_with fail
    refine (shown_any _).mono ?_
    rintro e w1 ⟨rfl, hb1⟩
    have HB1 := Lib.hid hb1
    clear hb1
    go_wp2_with fail
    refine (rune_any _ _ hr0 hr1).mono ?_
    rintro e w2 ⟨rfl, hw2⟩
    have HB2 : Hid (Below w.heap.size w w2) := Lib.hid (by rw [hw2]; exact HB1.out.alloc HB1.out.size _)
    have HN : Hid (Bs w2 (some ⟨w1.heap.size, 0, none⟩) (runeL (m % 1114112)).length (runeL (m % 1114112)).length (runeL (m % 1114112))) := Lib.hid (by
      rw [hw2]; exact Bs.lit _ 5 rfl HR.out rfl rfl (by unfold maxLen; omega))
    have HNL : Hid (0 < (runeL (m % 1114112)).length → w1.heap.size < w2.heap.size) := Lib.hid (by intro _; rw [hw2]; simp)
    have H2 := Lib.hid (H0.out.below HB2.out)
    have HY := Lib.hid (few_bs (H0.out.below HB2.out))
    clear hw2 H0
    generalize runeL (m % 1114112) = bl at *
    generalize w1.heap.size = g1 at *
    generalize bl.length = nb at *
    obtain ⟨hb1, hb2⟩ := hbl
    have hr2 : min len 200 ≤ 200 := Nat.min_le_right _ _
    go_wp2_with (first
      | (at_builtin; refine wpList_app rfl (.tmp 18) (.tmp 19) 22 rfl 5 w2.heap.size Try.underlying22 info5 _ _ _ [] rfl (OwnB.made (Nat.le_refl _)) _ _ _ bl rfl (HN.out.alloc _) (by omega) (by simp) ?_; intro a1 c1 w3 ho1 hb1; simp only [Nat.zero_add, List.nil_append] at ho1; have HO1 := Lib.hid ho1; have HB3 := Lib.hid (((Below.refl w2.heap.size w2).alloc (Nat.le_refl _) _).trans hb1); clear ho1 hb1)
      | (go_at_call 9; with_reducible refine (few_any _ _ _ l0 _ (H2.out.below HB3.out)).mono ?_; rintro e w' ⟨rfl, rfl⟩)
      | (at_builtin; refine wpList_app rfl (.tmp 20) (.tmp 22) 22 rfl 5 w2.heap.size Try.underlying22 info5 _ _ _ bl rfl HO1.out _ _ _ (l0.take 200) rfl (HY.out.below HB3.out) (by omega) HB3.out.size ?_; intro a2 c2 w4 ho2 hb2; have HO2 := Lib.hid ho2; have HB4 := Lib.hid (HB3.out.trans hb2); clear ho2 hb2)
      | (go_at_call 10; with_reducible refine (take_any _ _ _ (bl ++ l0.take 200) _ HO2.out.bs).mono ?_; rintro e w' ⟨rfl, rfl⟩; rw [HF.out.1, HF.out.2.1])
      | (go_at_call 12; with_reducible refine (valid_any _ _ _ bl _ (HN.out.below HB4.out)).mono ?_; rintro e w' ⟨rfl, rfl⟩; rw [HF.out.2.2]))
    go_ret
    exact ⟨rfl, HB2.out.trans (HB4.out.mono HB2.out.size)⟩
  · have HF := Lib.hid (rune_even hr0 hr1 hodd (l0.take 200))
    go_enter Try.func4, Try.ntmps4
    go_wp2_with fail
    refine (shown_any _).mono ?_
    rintro e w1 ⟨rfl, hb1⟩
    have HB1 := Lib.hid hb1
    clear hb1
    go_wp2_with fail
    refine (rune_any _ _ hr0 hr1).mono ?_
    rintro e w2 ⟨rfl, hw2⟩
    have HB2 : Hid (Below w.heap.size w w2) := Lib.hid (by rw [hw2]; exact HB1.out.alloc HB1.out.size _)
    have HN : Hid (Bs w2 (some ⟨w1.heap.size, 0, none⟩) (runeL (m % 1114112)).length (runeL (m % 1114112)).length (runeL (m % 1114112))) := Lib.hid (by
      rw [hw2]; exact Bs.lit _ 5 rfl HR.out rfl rfl (by unfold maxLen; omega))
    have HNL : Hid (0 < (runeL (m % 1114112)).length → w1.heap.size < w2.heap.size) := Lib.hid (by intro _; rw [hw2]; simp)
    have H2 := Lib.hid (H0.out.below HB2.out)
    have HY := Lib.hid (few_bs (H0.out.below HB2.out))
    clear hw2 H0
    generalize runeL (m % 1114112) = bl at *
    generalize w1.heap.size = g1 at *
    generalize bl.length = nb at *
    obtain ⟨hb1, hb2⟩ := hbl
    have hr2 : min len 200 ≤ 200 := Nat.min_le_right _ _
    by_cases hlo : 55296 ≤ m % 1114112
    all_goals
      have hhi : 55296 ≤ m % 1114112 → 57343 < m % 1114112 := fun h => by omega
      go_wp2_with (first
      | (at_builtin; refine wpList_app rfl (.tmp 18) (.tmp 19) 22 rfl 5 w2.heap.size Try.underlying22 info5 _ _ _ [] rfl (OwnB.made (Nat.le_refl _)) _ _ _ bl rfl (HN.out.alloc _) (by omega) (by simp) ?_; intro a1 c1 w3 ho1 hb1; simp only [Nat.zero_add, List.nil_append] at ho1; have HO1 := Lib.hid ho1; have HB3 := Lib.hid (((Below.refl w2.heap.size w2).alloc (Nat.le_refl _) _).trans hb1); clear ho1 hb1)
      | (go_at_call 9; with_reducible refine (few_any _ _ _ l0 _ (H2.out.below HB3.out)).mono ?_; rintro e w' ⟨rfl, rfl⟩)
      | (at_builtin; refine wpList_app rfl (.tmp 20) (.tmp 22) 22 rfl 5 w2.heap.size Try.underlying22 info5 _ _ _ bl rfl HO1.out _ _ _ (l0.take 200) rfl (HY.out.below HB3.out) (by omega) HB3.out.size ?_; intro a2 c2 w4 ho2 hb2; have HO2 := Lib.hid ho2; have HB4 := Lib.hid (HB3.out.trans hb2); clear ho2 hb2)
      | (go_at_call 10; with_reducible refine (take_any _ _ _ (bl ++ l0.take 200) _ HO2.out.bs).mono ?_; rintro e w' ⟨rfl, rfl⟩; rw [HF.out.1, HF.out.2.1])
        )
      have HN4 := Lib.hid (HN.out.below HB4.out)
      go_loop [10] (fun i => ∃ k : Nat, 1 ≤ k ∧ k ≤ nb ∧ i = .int .i64 k) (fun i => nb - (intOf i).toNat)
      case atStart => exact ⟨1, by omega, by omega, rfl⟩
      case round =>
        obtain ⟨k, hk1, hk2, rfl⟩ := hrel
        by_cases hlt : k < nb
        · have HT := Lib.hid (HF.out.2.2.2.2 k hk1 hlt)
          have HK := Lib.hid (HN4.out.take (k := k) (c' := nb) (by omega) (by omega) (by unfold maxLen; omega))
          go_wp2_with (first
            | (go_at_call 10; with_reducible refine (take_any _ _ _ (bl.take k) _ HK.out).mono ?_; rintro e w' ⟨rfl, rfl⟩; rw [HT.out.1, HT.out.2]))
          go_round
          case rel => exact ⟨k + 1, by omega, by omega, by go_num⟩
          case measure => simp [intOf]; omega
        · have hkn : k = nb := by omega
          subst hkn
          go_wp2_with (first
            | (go_at_call 12; with_reducible refine (valid_any _ _ _ bl _ HN4.out).mono ?_; rintro e w' ⟨rfl, rfl⟩; rw [HF.out.2.2.1])
            | (go_at_call 14; with_reducible refine (count_any _ _ _ bl _ HN4.out).mono ?_; rintro e w' ⟨rfl, rfl⟩; rw [HF.out.2.2.2.1]))
          go_ret
          exact ⟨rfl, HB2.out.trans (HB4.out.mono HB2.out.size)⟩

end Go.Proofs.Ytbcphmjlifmeiaa
