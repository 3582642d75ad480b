/- QuoteBack's walk. -/
import Derived.Test.YtfbhokigeneinaaDoorQw
import Derived.Test.YtfbhokigeneinaaDoorQn
import Derived.Test.YtfbhokigeneinaaDoorUv
namespace Go.Proofs.YtfbhokigeneinaaDoor
open Go.RowKit

theorem may_step {l : List Int} {k : Nat} {V : Prop} (hk : k < l.length) : (V ∧ ∀ c ∈ l.take (k + 1), good c) ↔ (V ∧ ∀ c ∈ l.take k, good c) ∧ good (bt l k) := by
  rw [take_snoc l k hk]
  constructor
  · exact fun ⟨a, b⟩ => ⟨⟨a, fun c hc => b c (List.mem_append_left _ hc)⟩, b _ (by simp)⟩
  · exact fun ⟨⟨a, b⟩, c⟩ => ⟨a, fun x hx => by rcases List.mem_append.1 hx with h | h; exact b x h; rw [List.mem_singleton.1 h]; exact c⟩

set_option maxRecDepth 20000 in
set_option maxHeartbeats 2000000 in
theorem quoteBack_any (a : Option Addr) (len cap : Nat) (l : List Int) (a' : Option Addr) (len' cap' : Nat) (l' : List Int) (w : World) (h : Bs w a len cap l) (h' : Bs w a' len' cap' l') (ht : Tab w) :
    Calls Tryd.prog 4 #[.slice a len cap, .slice a' len' cap'] w fun e w' => e = .returned (.bool true) ∧ Below w.heap.size w w' := by
  obtain ⟨M, hM⟩ : ∃ M, min len 100 = M := ⟨_, rfl⟩
  obtain ⟨F, hF⟩ : ∃ F, l.take 100 = F := ⟨_, rfl⟩
  have hM100 : M ≤ 100 := by omega
  have HT := Lib.hid ht
  have H := Lib.hid h
  have HF : Hid (Bs w a M cap F) := Lib.hid (by rw [← hM, ← hF]; exact few_bs h)
  have H' := Lib.hid h'
  have HM := Lib.hid hM
  have HLF := Lib.hid HF.out.hl
  have HRG := Lib.hid HF.out.rng
  have hcm := HF.out.cm
  unfold maxLen at hcm
  have hlc := HF.out.lc
  clear ht h hM hF h'
  go_enter Tryd.func4, Tryd.ntmps4
  go_wp2_with fail
  refine (shown_any _ HT.out).mono ?_
  rintro e w1 ⟨rfl, hb1⟩
  have HW1 := Lib.hid hb1
  have HF1 := Lib.hid (HF.out.below hb1)
  clear hb1
  go_wp2_with fail
  refine (few_any _ _ _ _ _ (H.out.below HW1.out)).mono ?_
  rintro e w' ⟨rfl, rfl⟩
  rw [HM.out]
  go_wp2_with fail
  refine (valid_any _ _ _ _ _ HF1.out).mono ?_
  rintro e w' ⟨rfl, rfl⟩
  go_wp2
  go_loop [7, 8] (fun v i => ∃ m : Bool, ∃ k : Nat, v = .bool m ∧ i = .int .i64 k ∧ k ≤ M ∧ Hid (m = true ↔ valid F = true ∧ ∀ c ∈ F.take k, good c)) (fun _ i => M - (intOf i).toNat)
  case atStart => exact ⟨valid F, 0, rfl, rfl, by omega, Lib.hid (by simp)⟩
  case round =>
    obtain ⟨m, k, rfl, rfl, hk, HMK⟩ := hrel
    by_cases hlt : k < M
    · obtain ⟨b, off, rfl, _, hc⟩ := HF1.out.at_ (by omega)
      have hcs := hc k hlt
      have HS := Lib.hid (may_step (l := F) (k := k) (V := valid F = true) (by rw [HLF.out]; exact hlt))
      have hrng := bt_rng HRG.out k
      have hr0 := hrng.1
      have hr1 := hrng.2
      clear hc hrng
      cases m with
      | false =>
        have HN : Hid (false = true ↔ valid F = true ∧ ∀ c ∈ F.take (k + 1), good c) := Lib.hid (by rw [HS.out, ← HMK.out]; simp)
        go_wp2
        go_round
        case rel => exact ⟨false, k + 1, rfl, by go_num, by omega, HN⟩
        case measure => simp [intOf]; omega
      | true =>
        by_cases h32 : 32 ≤ bt F k
        · by_cases h127 : bt F k = 127
          · have HN : Hid (false = true ↔ valid F = true ∧ ∀ c ∈ F.take (k + 1), good c) := Lib.hid (by rw [HS.out]; unfold good; simp [h127])
            go_wp2
            go_round
            case rel => exact ⟨false, k + 1, rfl, by go_num, by omega, HN⟩
            case measure => simp [intOf]; omega
          · have HN : Hid (true = true ↔ valid F = true ∧ ∀ c ∈ F.take (k + 1), good c) := Lib.hid (by rw [HS.out, ← HMK.out]; unfold good; simp [h32, h127])
            have e7 : (bt F k != 127) = true := by simpa using h127
            clear h127
            go_wp2
            go_round
            case rel => exact ⟨true, k + 1, rfl, by go_num, by omega, HN⟩
            case measure => simp [intOf]; omega
        · by_cases h10 : bt F k = 10
          · have HN : Hid (true = true ↔ valid F = true ∧ ∀ c ∈ F.take (k + 1), good c) := Lib.hid (by rw [HS.out, ← HMK.out]; unfold good; simp [h10])
            go_wp2
            go_round
            case rel => exact ⟨true, k + 1, rfl, by go_num, by omega, HN⟩
            case measure => simp [intOf]; omega
          · have HN : Hid (false = true ↔ valid F = true ∧ ∀ c ∈ F.take (k + 1), good c) := Lib.hid (by rw [HS.out]; unfold good; simp [h32, h10])
            have e10 : (bt F k == 10) = false := by simpa using h10
            clear h10
            go_wp2
            go_round
            case rel => exact ⟨false, k + 1, rfl, by go_num, by omega, HN⟩
            case measure => simp [intOf]; omega
    · have HOK : Hid (m = true ↔ okT F) := Lib.hid (by have := HMK.out; rwa [List.take_of_length_le (by rw [HLF.out]; omega)] at this)
      clear HMK
      go_wp2_with fail
      refine (qput_any _ _ _ _ _ HF1.out (HT.out.keep HW1.out) (by omega)).mono ?_
      rintro e w2 ⟨a2, c2, rfl, ho2, hb2⟩
      have HW2 : Hid (Below w.heap.size w w2) := Lib.hid (HW1.out.trans (hb2.mono HW1.out.size))
      by_cases hok : okT F
      · obtain rfl : m = true := HOK.out.2 hok
        have HTP := Lib.hid (ptOk_yes hok)
        rw [HTP.out.1] at ho2
        rw [HTP.out.1, HTP.out.2]
        obtain ⟨E, hE⟩ : ∃ E, (putL F).length = E := ⟨_, rfl⟩
        have hE2 : M + 2 ≤ E ∧ E ≤ 2 * M + 2 := by have h1 := escL_len F; have h2 := putL_len F; have := HLF.out; omega
        have HTKA := Lib.hid (fun r (hr : bt r 0 ≠ 39) => by have := tk_put hok r hr; rw [← putL_len, hE] at this; exact this)
        rw [hE] at ho2 ⊢
        have HP := Lib.hid ho2
        obtain ⟨hE3, hE4⟩ := hE2
        clear hE ho2 hb2 hok
        have H2 := Lib.hid (H'.out.below HW2.out)
        go_wp2_with fail
        refine (few_any _ _ _ _ _ H2.out).mono ?_
        rintro e w' ⟨rfl, rfl⟩
        have HR0 := Lib.hid (few_bs H2.out)
        have hR100 : min len' 100 ≤ 100 := Nat.min_le_right _ _
        generalize min len' 100 = n' at *
        generalize l'.take 100 = R at *
        by_cases h0 : n' = 0
        · subst h0
          obtain rfl : R = [] := List.eq_nil_of_length_eq_zero HR0.out.hl
          have HR := HR0
          have HTK := Lib.hid (HTKA.out [] (by decide))
          go_wp2_with (at_builtin; refine Hid.out ?_)
          refine Lib.hid ?_
          refine wpList_app rfl (.tmp 77) (.tmp 78) 22 rfl 5 w2.heap.size Tryd.underlying22 info5 _ _ _ [] rfl (OwnB.made (Nat.le_refl _)) _ _ _ (putL F) rfl (HP.out.bs.alloc _) (by omega) (by simp) ?_
          intro a3 c3 w3 ho3 hb3
          have HO3 : Hid (OwnB w2.heap.size 5 w3 a3 E c3 (putL F)) := Lib.hid (by simpa using ho3)
          have HB3 : Hid (Below w2.heap.size w2 w3) := Lib.hid (((Below.refl _ _).alloc (Nat.le_refl _) _).trans hb3)
          clear ho3 hb3
          go_wp2_with (at_builtin; refine Hid.out ?_)
          refine Lib.hid ?_
          refine wpList_app rfl (.tmp 79) (.tmp 80) 22 rfl 5 w2.heap.size Tryd.underlying22 info5 _ _ _ (putL F) rfl HO3.out _ _ _ [] rfl (HR.out.below HB3.out) (by omega) (by have := HB3.out.size; omega) ?_
          intro a4 c4 w4 ho4 hb4
          have HO4 := Lib.hid ho4
          have HB4 : Hid (Below w2.heap.size w2 w4) := Lib.hid (HB3.out.trans hb4)
          clear ho4 hb4
          go_wp2_with fail
          refine (qtake_any _ _ _ _ _ HO4.out.bs ((HT.out.keep HW2.out).keep HB4.out) (by omega)).mono ?_
          rintro e w5 ⟨a5, c5, rfl, ho5, hb5⟩
          have HB5 : Hid (Below w2.heap.size w2 w5) := Lib.hid (HB4.out.trans (hb5.mono HB4.out.size))
          have HW5 : Hid (Below w.heap.size w w5) := Lib.hid (HW2.out.trans (HB5.out.mono HW2.out.size))
          have HT1 : Hid ((tk (putL F ++ [])).t = F ∧ (tk (putL F ++ [])).t.length = M ∧ (tk (putL F ++ [])).n = E ∧ (tk (putL F ++ [])).e = 0) := Lib.hid (by rw [HTK.out]; exact ⟨rfl, HLF.out, rfl, rfl⟩)
          rw [HT1.out.2.2.1, HT1.out.2.2.2, HT1.out.2.1]
          rw [HT1.out.2.1, HT1.out.1] at ho5
          have k1 := ho5.bs.str (P := Tryd.prog) 22 9 5 Tryd.underlying22 Tryd.underlying5 Tryd.underlying9
          have k2 := (HF.out.below HW5.out).str (P := Tryd.prog) 22 9 5 Tryd.underlying22 Tryd.underlying5 Tryd.underlying9
          clear ho5 hb5
          go_wp2
          go_ret
          exact ⟨ret_bool (by simp; omega), HW5.out⟩
        · obtain ⟨b', off', rfl, _, hc⟩ := HR0.out.at_ (by omega)
          have hc0 : w2.cell? ⟨b', off', none⟩ = some (.int .u8 (bt R 0)) := hc 0 (by omega)
          have hn0 : 0 < n' := by omega
          clear hc h0
          by_cases h39 : bt R 0 = 39
          · have HTK := Lib.hid (HTKA.out [] (by decide))
            have HR : Hid (Bs w2 none 0 0 []) := Lib.hid (Bs.nil _ _ _ (Nat.zero_le _))
            go_wp2_with (at_builtin; refine Hid.out ?_)
            refine Lib.hid ?_
            refine wpList_app rfl (.tmp 77) (.tmp 78) 22 rfl 5 w2.heap.size Tryd.underlying22 info5 _ _ _ [] rfl (OwnB.made (Nat.le_refl _)) _ _ _ (putL F) rfl (HP.out.bs.alloc _) (by omega) (by simp) ?_
            intro a3 c3 w3 ho3 hb3
            have HO3 : Hid (OwnB w2.heap.size 5 w3 a3 E c3 (putL F)) := Lib.hid (by simpa using ho3)
            have HB3 : Hid (Below w2.heap.size w2 w3) := Lib.hid (((Below.refl _ _).alloc (Nat.le_refl _) _).trans hb3)
            clear ho3 hb3
            go_wp2_with (at_builtin; refine Hid.out ?_)
            refine Lib.hid ?_
            refine wpList_app rfl (.tmp 79) (.tmp 80) 22 rfl 5 w2.heap.size Tryd.underlying22 info5 _ _ _ (putL F) rfl HO3.out _ _ _ [] rfl (HR.out.below HB3.out) (by omega) (by have := HB3.out.size; omega) ?_
            intro a4 c4 w4 ho4 hb4
            have HO4 := Lib.hid ho4
            have HB4 : Hid (Below w2.heap.size w2 w4) := Lib.hid (HB3.out.trans hb4)
            clear ho4 hb4
            go_wp2_with fail
            refine (qtake_any _ _ _ _ _ HO4.out.bs ((HT.out.keep HW2.out).keep HB4.out) (by omega)).mono ?_
            rintro e w5 ⟨a5, c5, rfl, ho5, hb5⟩
            have HB5 : Hid (Below w2.heap.size w2 w5) := Lib.hid (HB4.out.trans (hb5.mono HB4.out.size))
            have HW5 : Hid (Below w.heap.size w w5) := Lib.hid (HW2.out.trans (HB5.out.mono HW2.out.size))
            have HT1 : Hid ((tk (putL F ++ [])).t = F ∧ (tk (putL F ++ [])).t.length = M ∧ (tk (putL F ++ [])).n = E ∧ (tk (putL F ++ [])).e = 0) := Lib.hid (by rw [HTK.out]; exact ⟨rfl, HLF.out, rfl, rfl⟩)
            rw [HT1.out.2.2.1, HT1.out.2.2.2, HT1.out.2.1]
            rw [HT1.out.2.1, HT1.out.1] at ho5
            have k1 := ho5.bs.str (P := Tryd.prog) 22 9 5 Tryd.underlying22 Tryd.underlying5 Tryd.underlying9
            have k2 := (HF.out.below HW5.out).str (P := Tryd.prog) 22 9 5 Tryd.underlying22 Tryd.underlying5 Tryd.underlying9
            clear ho5 hb5
            go_wp2
            go_ret
            exact ⟨ret_bool (by simp; omega), HW5.out⟩
          · have HTK := Lib.hid (HTKA.out R h39)
            have HR := HR0
            have e39 : (bt R 0 == 39) = false := by simpa using h39
            clear h39
            go_wp2_with (at_builtin; refine Hid.out ?_)
            refine Lib.hid ?_
            refine wpList_app rfl (.tmp 77) (.tmp 78) 22 rfl 5 w2.heap.size Tryd.underlying22 info5 _ _ _ [] rfl (OwnB.made (Nat.le_refl _)) _ _ _ (putL F) rfl (HP.out.bs.alloc _) (by omega) (by simp) ?_
            intro a3 c3 w3 ho3 hb3
            have HO3 : Hid (OwnB w2.heap.size 5 w3 a3 E c3 (putL F)) := Lib.hid (by simpa using ho3)
            have HB3 : Hid (Below w2.heap.size w2 w3) := Lib.hid (((Below.refl _ _).alloc (Nat.le_refl _) _).trans hb3)
            clear ho3 hb3
            go_wp2_with (at_builtin; refine Hid.out ?_)
            refine Lib.hid ?_
            refine wpList_app rfl (.tmp 79) (.tmp 80) 22 rfl 5 w2.heap.size Tryd.underlying22 info5 _ _ _ (putL F) rfl HO3.out _ _ _ R rfl (HR.out.below HB3.out) (by omega) (by have := HB3.out.size; omega) ?_
            intro a4 c4 w4 ho4 hb4
            have HO4 := Lib.hid ho4
            have HB4 : Hid (Below w2.heap.size w2 w4) := Lib.hid (HB3.out.trans hb4)
            clear ho4 hb4
            go_wp2_with fail
            refine (qtake_any _ _ _ _ _ HO4.out.bs ((HT.out.keep HW2.out).keep HB4.out) (by omega)).mono ?_
            rintro e w5 ⟨a5, c5, rfl, ho5, hb5⟩
            have HB5 : Hid (Below w2.heap.size w2 w5) := Lib.hid (HB4.out.trans (hb5.mono HB4.out.size))
            have HW5 : Hid (Below w.heap.size w w5) := Lib.hid (HW2.out.trans (HB5.out.mono HW2.out.size))
            have HT1 : Hid ((tk (putL F ++ R)).t = F ∧ (tk (putL F ++ R)).t.length = M ∧ (tk (putL F ++ R)).n = E ∧ (tk (putL F ++ R)).e = 0) := Lib.hid (by rw [HTK.out]; exact ⟨rfl, HLF.out, rfl, rfl⟩)
            rw [HT1.out.2.2.1, HT1.out.2.2.2, HT1.out.2.1]
            rw [HT1.out.2.1, HT1.out.1] at ho5
            have k1 := ho5.bs.str (P := Tryd.prog) 22 9 5 Tryd.underlying22 Tryd.underlying5 Tryd.underlying9
            have k2 := (HF.out.below HW5.out).str (P := Tryd.prog) 22 9 5 Tryd.underlying22 Tryd.underlying5 Tryd.underlying9
            clear ho5 hb5
            go_wp2
            go_ret
            exact ⟨ret_bool (by simp; omega), HW5.out⟩
      · obtain rfl : m = false := by cases m with | false => rfl | true => exact absurd (HOK.out.1 rfl) hok
        have HTP := Lib.hid (ptOk_no hok)
        rw [HTP.out.1, HTP.out.2]
        clear hok ho2 hb2
        go_wp2
        go_ret
        exact ⟨rfl, HW2.out⟩

end Go.Proofs.YtfbhokigeneinaaDoor
