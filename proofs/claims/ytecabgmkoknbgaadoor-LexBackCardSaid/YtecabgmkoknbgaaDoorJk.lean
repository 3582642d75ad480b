/- LexBack's walk. -/
import Derived.Test.YtecabgmkoknbgaaDoorJj
import Derived.Test.YtecabgmkoknbgaaDoorJf
namespace Go.Proofs.YtecabgmkoknbgaaDoor
open Go.RowKit

/-- Neither bad, nor a dot that ends nothing. -/
def gd (t : TK) : Bool := t.k != 8 && !(t.k == 2 && t.s.toList == [46])

theorem gd_sg {t : TK} (h : FL t) (hg : gd t = true) : Sg t := by
  unfold gd at hg
  simp only [Bool.and_eq_true, bne_iff_ne, Bool.not_eq_true', Bool.and_eq_false_iff, beq_eq_false_iff_ne] at hg
  rcases h with h | ⟨h1, h2⟩ | h
  · exact absurd h hg.1
  · rcases hg.2 with h3 | h3
    · exact absurd h1 h3
    · refine absurd ?_ h3
      have h4 := bstr_sb t.s
      rw [h2] at h4
      rw [← h4]
      rw [bstr_toList]; rfl
  · exact h

theorem all_snoc {L : List TK} {k : Nat} (h : k < L.length) : (L.take (k + 1)).all gd = ((L.take k).all gd && gd (tat L k)) := by
  rw [tat_take h, List.all_append]; simp

/-- The same once more. -/
theorem back_same {T : List TK} (h : ∀ t ∈ T, Sg t) : jOk T = true ∧ jOk (toks (jb T)) = true ∧ jb (toks (jb T)) = jb T ∧ wsz (toks (jb T)) = wsz T ∧ alike T (toks (jb T)) = true := by
  have h1 := jOk_good T h
  have h2 := kt_jb T h
  refine ⟨h1, by rw [jOk_same h2]; exact h1, (jb_same h2).1, wsz_same h2, (alike_iff _ _).2 ⟨h2.symm, fun t ht => (h t ht).k8⟩⟩

set_option maxRecDepth 100000 in
set_option maxHeartbeats 4000000 in
theorem lexBack_any (a : Option Addr) (len cap : Nat) (l : List Int) (w : World) (h : Bs w a len cap l) (ht : Tab w) :
    Calls Tryd.prog 5 #[.slice a len cap] w fun e w' => e = .returned (.bool true) ∧ Below w.heap.size w w' := by
  have hb := few_bs h
  have H := Lib.hid h
  have HT := Lib.hid ht
  obtain ⟨L, hL⟩ : ∃ L, L = l.take 200 := ⟨_, rfl⟩
  obtain ⟨m, hm⟩ : ∃ m, m = min len 200 := ⟨_, rfl⟩
  rw [← hL, ← hm] at hb
  have hm1 : m ≤ 200 := by omega
  have HM := Lib.hid hm
  have HB := Lib.hid hb
  obtain ⟨T, hT⟩ : ∃ T, T = toks (L ++ [32]) := ⟨_, rfl⟩
  obtain ⟨n, hn⟩ : ∃ n, n = T.length := ⟨_, rfl⟩
  have hrr : ∀ x ∈ L ++ [32], 0 ≤ x ∧ x ≤ 255 := rng_app hb.rng (by decide)
  have hs := toks_small hrr (m := m + 1) (by rw [List.length_append, hb.hl]; rfl) (by omega)
  rw [← hT, ← hn] at hs
  have hn1 := hs.2
  have hf := (toks_fl hrr).1
  rw [← hT] at hf
  have HS : Hid (wsz T ≤ 400000) := Lib.hid (by omega)
  have HTN := Lib.hid (And.intro hT hn)
  have HF : Hid (∀ t ∈ T, FL t) := Lib.hid fun t ht => (hf t ht).1
  clear h ht hL hm hb hT hn hs hrr hf
  go_enter Tryd.func5, Tryd.ntmps5
  go_wp2_with fail
  refine (shown_any _ HT.out).mono ?_
  rintro e w1 ⟨rfl, hb1⟩
  have HW1 := Lib.hid hb1
  clear hb1
  go_wp2_with fail
  refine (few_any _ _ _ _ _ (H.out.below (HW1.out.alloc HW1.out.size _))).mono ?_
  rintro e w' ⟨rfl, rfl⟩
  rw [← HM.out]
  go_wp2_with (at_builtin; refine Hid.out ?_)
  refine Lib.hid ?_
  refine wpList_app rfl (.tmp 14) (.tmp 16) 22 rfl 5 w1.heap.size Tryd.underlying22 info5 _ _ _ [] rfl (OwnB.made (Nat.le_refl _)) _ _ _ L rfl ((HB.out.below HW1.out).alloc _) (by omega) (by simp) ?_
  intro a2 c2 w2 ho2 hb2
  rw [Nat.zero_add, List.nil_append] at ho2
  rw [Nat.zero_add]
  have hb2' : Below w1.heap.size w1 w2 := ((Below.refl _ w1).alloc (Nat.le_refl _) _).trans hb2
  have HO2 := Lib.hid ho2
  have HW2 : Hid (Below w1.heap.size w1 w2) := Lib.hid hb2'
  clear ho2 hb2 hb2'
  go_wp2_with (at_builtin; refine Hid.out ?_)
  refine Lib.hid ?_
  refine wpList_app rfl (.tmp 17) (.tmp 18) 22 rfl 5 w1.heap.size Tryd.underlying22 info5 _ _ _ L rfl (HO2.out.alloc _) _ _ _ [32] rfl (Bs.lit _ 5 (by simp) (by simp) rfl rfl (by decide)) (by omega) (by have := HW2.out.size; simp; omega) ?_
  intro a3 c3 w3 ho3 hb3
  have HO3 := Lib.hid ho3
  have HW3 : Hid (Below w.heap.size w w3) := Lib.hid (HW1.out.trans (((HW2.out.alloc HW2.out.size _).trans hb3).mono HW1.out.size))
  clear ho3 hb3
  go_wp2_with fail
  refine (all_any _ _ _ (L ++ [32]) _ HO3.out.bs (HT.out.keep HW3.out) (by omega)).mono ?_
  rintro e w4 ⟨a4, rfl, hr4, hb4⟩
  rw [← HTN.out.1, ← HTN.out.2] at hr4 ⊢
  have HR4 := Lib.hid hr4.ts
  have HW4 : Hid (Below w.heap.size w w4) := Lib.hid (HW3.out.trans (hb4.mono HW3.out.size))
  clear hr4 hb4
  go_wp2
  go_loopw [5, 6] (fun v i wr => ∃ k : Nat, ∃ g : Bool, v = .bool g ∧ i = .int .i64 k ∧ k ≤ n ∧ Hid (g = (T.take k).all gd) ∧ Hid (Below w4.heap.size w4 wr)) (fun _ i _ => n - (intOf i).toNat)
  case atStart => exact ⟨0, true, rfl, rfl, by omega, Lib.hid rfl, Lib.hid (Below.refl _ _)⟩
  case round =>
    obtain ⟨k, g, rfl, rfl, hk, HG, HB5⟩ := hrel
    by_cases hlt : k < n
    · have hb := HR4.out.below HB5.out
      obtain ⟨b, off, rfl, _, _⟩ := hb.at_ (by omega)
      obtain ⟨d0, d1, d2, d3, d4⟩ := hb.at5 hlt
      have hS := all_snoc (L := T) (k := k) (by rw [← HTN.out.2]; exact hlt)
      rw [← HG.out] at hS
      obtain ⟨U, hU⟩ : ∃ U, U = tat T k := ⟨_, rfl⟩
      rw [← hU] at d0 d1 d2 d3 d4 hS
      clear hb hU
      obtain ⟨K, F, T', S, E⟩ := U
      simp only at d0 d3
      clear d1 d2 d4
      rw [show gd ⟨K, F, T', S, E⟩ = (K != 8 && !(K == 2 && S.toList == [46])) from rfl] at hS
      have HSS := Lib.hid hS
      clear hS
      cases g with
      | false =>
        have HG2 : Hid (false = (T.take (k + 1)).all gd) := Lib.hid HSS.out.symm
        cases h1 : K == 2 with
        | false =>
          go_wp2
          go_roundw
          case rel => exact ⟨k + 1, false, rfl, by go_num, by omega, HG2, HB5⟩
          case measure => simp [intOf]; omega
        | true =>
          go_wp2
          go_roundw
          case rel => exact ⟨k + 1, false, rfl, by go_num, by omega, HG2, HB5⟩
          case measure => simp [intOf]; omega
      | true =>
        cases h1 : K == 2 with
        | false =>
          cases h2 : K != 8 with
          | false =>
            have HG2 : Hid (false = (T.take (k + 1)).all gd) := Lib.hid (by rw [HSS.out, h2]; rfl)
            go_wp2
            go_roundw
            case rel => exact ⟨k + 1, false, rfl, by go_num, by omega, HG2, HB5⟩
            case measure => simp [intOf]; omega
          | true =>
            have HG2 : Hid (true = (T.take (k + 1)).all gd) := Lib.hid (by rw [HSS.out, h2, h1]; rfl)
            go_wp2
            go_roundw
            case rel => exact ⟨k + 1, true, rfl, by go_num, by omega, HG2, HB5⟩
            case measure => simp [intOf]; omega
        | true =>
          have h2 : (K != 8) = true := by have : K = 2 := by simpa using h1
                                          rw [this]; rfl
          cases h3 : S.toList == [46] with
          | false =>
            have HG2 : Hid (true = (T.take (k + 1)).all gd) := Lib.hid (by rw [HSS.out, h2, h1, h3]; rfl)
            go_wp2
            go_roundw
            case rel => exact ⟨k + 1, true, rfl, by go_num, by omega, HG2, HB5⟩
            case measure => simp [intOf]; omega
          | true =>
            have HG2 : Hid (false = (T.take (k + 1)).all gd) := Lib.hid (by rw [HSS.out, h2, h1, h3]; rfl)
            go_wp2
            go_roundw
            case rel => exact ⟨k + 1, false, rfl, by go_num, by omega, HG2, HB5⟩
            case measure => simp [intOf]; omega
    · have hkl : k = n := by omega
      have HV5 : Hid (Below w.heap.size w wr) := Lib.hid (HW4.out.trans (HB5.out.mono HW4.out.size))
      cases g with
      | false =>
        go_wp2
        go_ret
        exact ⟨rfl, HV5.out⟩
      | true =>
        have hall : T.all gd = true := by
          have := HG.out
          rw [hkl, HTN.out.2, List.take_length] at this
          exact this.symm
        have hsg : ∀ t ∈ T, Sg t := fun t ht => gd_sg (HF.out t ht) (List.all_eq_true.1 hall t ht)
        obtain ⟨j1, j2, j3, j4, j5⟩ := back_same hsg
        have HJ := Lib.hid (And.intro (jn_yes j1) (And.intro j2 (And.intro j3 (And.intro j4 j5))))
        have HTS := Lib.hid (HR4.out.below HB5.out)
        clear hall hsg j1 j2 j3 j4 j5
        obtain ⟨P, hP⟩ : ∃ P, P = jb T := ⟨_, rfl⟩
        obtain ⟨p, hp⟩ : ∃ p, p = P.length := ⟨_, rfl⟩
        obtain ⟨M, hM⟩ : ∃ M, M = toks P := ⟨_, rfl⟩
        obtain ⟨q, hq⟩ : ∃ q, q = M.length := ⟨_, rfl⟩
        have HPM := Lib.hid (And.intro hP (And.intro hp (And.intro hM hq)))
        have hpz : p ≤ 400000 := by rw [hp, hP]; exact Nat.le_trans (jb_len T) HS.out
        have HJM : Hid (jnT M = P ∧ jnE M = 0 ∧ wsz M ≤ 400000 ∧ alike T M = true) := Lib.hid (by
          rw [hM, hP]
          have h1 := jn_yes HJ.out.2.1
          exact ⟨by rw [h1.1, HJ.out.2.2.1], h1.2, by rw [HJ.out.2.2.2.1]; exact HS.out, HJ.out.2.2.2.2⟩)
        have HJT : Hid (jnT T = P ∧ jnE T = 0) := Lib.hid (by rw [hP]; exact HJ.out.1)
        clear hP hp hM hq
        go_wp2_with fail
        refine (join_any _ _ _ T _ HTS.out (HT.out.keep HV5.out) HS.out).mono ?_
        rw [HJT.out.1, HJT.out.2, ← HPM.out.2.1]
        rintro e w6 ⟨a6, c6, rfl, hx6, hb6⟩
        have HP6 := Lib.hid hx6
        have HT6 := Lib.hid (HTS.out.below hb6)
        have HW6 : Hid (Below w.heap.size w w6) := Lib.hid (HV5.out.trans (hb6.mono HV5.out.size))
        clear hx6 hb6
        go_wp2_with fail
        refine (all_any _ _ _ P _ HP6.out (HT.out.keep HW6.out) (by omega)).mono ?_
        rw [← HPM.out.2.2.1, ← HPM.out.2.2.2]
        rintro e w7 ⟨a7, rfl, hr7, hb7⟩
        have HM7 := Lib.hid hr7.ts
        have HP7 := Lib.hid (HP6.out.below hb7)
        have HT7 := Lib.hid (HT6.out.below hb7)
        have HW7 : Hid (Below w.heap.size w w7) := Lib.hid (HW6.out.trans (hb7.mono HW6.out.size))
        clear hr7 hb7
        go_wp2_with fail
        refine (join_any _ _ _ M _ HM7.out (HT.out.keep HW7.out) HJM.out.2.2.1).mono ?_
        rw [HJM.out.1, HJM.out.2.1, ← HPM.out.2.1]
        rintro e w8 ⟨a8, c8, rfl, hx8, hb8⟩
        have HM8 := Lib.hid (HM7.out.below hb8)
        have HT8 := Lib.hid (HT7.out.below hb8)
        have HW8 : Hid (Below w.heap.size w w8) := Lib.hid (HW7.out.trans (hb8.mono HW7.out.size))
        have k1 := (HP7.out.below hb8).str (P := Tryd.prog) 22 9 5 Tryd.underlying22 Tryd.underlying5 Tryd.underlying9
        have k2 := hx8.str (P := Tryd.prog) 22 9 5 Tryd.underlying22 Tryd.underlying5 Tryd.underlying9
        clear hx8 hb8
        go_wp2_with fail
        refine (alike_any _ _ _ T _ _ _ M _ HT8.out HM8.out).mono ?_
        rw [HJM.out.2.2.2]
        rintro e w9 ⟨rfl, hb9⟩
        have HW9 : Hid (Below w.heap.size w w9) := Lib.hid (HW8.out.trans (hb9.mono HW8.out.size))
        clear hb9 k1 k2
        go_wp2
        go_ret
        exact ⟨rfl, HW9.out⟩

end Go.Proofs.YtecabgmkoknbgaaDoor
