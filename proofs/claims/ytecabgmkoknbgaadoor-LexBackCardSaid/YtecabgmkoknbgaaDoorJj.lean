/- LexJoins' walk. -/
import Derived.Test.YtecabgmkoknbgaaDoorJh
namespace Go.Proofs.YtecabgmkoknbgaaDoor
open Go.RowKit

theorem joins_ok {X Y : List TK} (hX : ∀ t ∈ X, FL t) (hY : ∀ t ∈ Y, FL t) : jOk (X ++ Y) = (jOk X && jOk Y) := by
  rcases first_bad X hX with h | ⟨G, b, R, rfl, h1, h2⟩
  · rcases first_bad Y hY with h' | ⟨G, b, R, rfl, h1, h2⟩
    · rw [jOk_good X h, jOk_good Y h', jOk_good (X ++ Y) fun t ht => by
        rcases List.mem_append.1 ht with ht | ht
        · exact h t ht
        · exact h' t ht]
      rfl
    · rw [jOk_bad G R b h1 h2, Bool.and_false, ← List.append_assoc]
      refine jOk_bad (X ++ G) R b (fun t ht => ?_) h2
      rcases List.mem_append.1 ht with ht | ht
      · exact h t ht
      · exact h1 t ht
  · rw [jOk_bad G R b h1 h2, Bool.false_and, List.append_assoc, List.cons_append]
    exact jOk_bad G (R ++ Y) b h1 h2

theorem jn_yes {L : List TK} (h : jOk L = true) : jnT L = jb L ∧ jnE L = 0 := by unfold jnT jnE; rw [h]; exact ⟨rfl, rfl⟩
theorem jn_no {L : List TK} (h : jOk L = false) : jnT L = [] ∧ jnE L = 1 := by unfold jnT jnE; rw [h]; exact ⟨rfl, rfl⟩

theorem toks_small {l : List Int} {m : Nat} (hr : ∀ x ∈ l, 0 ≤ x ∧ x ≤ 255) (hl : l.length = m) (hm : m ≤ 201) : wsz (toks l) ≤ 81405 ∧ (toks l).length ≤ 201 := by
  have h1 := toks_wsz hr
  have h2 := (toks_fl hr).2
  rw [hl] at h1 h2
  exact ⟨Nat.le_trans h1 (Nat.le_trans (Nat.mul_le_mul hm (by omega : 2 * m + 3 ≤ 405)) (by decide)), by omega⟩

set_option maxRecDepth 100000 in
set_option maxHeartbeats 2000000 in
theorem lexJoins_any (a a' : Option Addr) (len cap len' cap' : Nat) (l l' : List Int) (w : World) (h : Bs w a len cap l) (h' : Bs w a' len' cap' l') (ht : Tab w) :
    Calls Tryd.prog 8 #[.slice a len cap, .slice a' len' cap'] w fun e w' => e = .returned (.bool true) ∧ Below w.heap.size w w' := by
  have hb := few_bs h
  have hb' := few_bs h'
  have H := Lib.hid h
  have H' := Lib.hid h'
  have HT := Lib.hid ht
  obtain ⟨L, hL⟩ : ∃ L, L = l.take 200 := ⟨_, rfl⟩
  obtain ⟨m, hm⟩ : ∃ m, m = min len 200 := ⟨_, rfl⟩
  rw [← hL, ← hm] at hb
  have hm1 : m ≤ 200 := by omega
  obtain ⟨L', hL'⟩ : ∃ L', L' = l'.take 200 := ⟨_, rfl⟩
  obtain ⟨m', hm'⟩ : ∃ m', m' = min len' 200 := ⟨_, rfl⟩
  rw [← hL', ← hm'] at hb'
  have hm1' : m' ≤ 200 := by omega
  have HM := Lib.hid hm
  have HM' := Lib.hid hm'
  have HB := Lib.hid hb
  have HB' := Lib.hid hb'
  obtain ⟨X, hX⟩ : ∃ X, X = toks L := ⟨_, rfl⟩
  obtain ⟨Y, hY⟩ : ∃ Y, Y = toks L' := ⟨_, rfl⟩
  obtain ⟨n, hn⟩ : ∃ n, n = X.length := ⟨_, rfl⟩
  obtain ⟨n', hn'⟩ : ∃ n', n' = Y.length := ⟨_, rfl⟩
  have hs := toks_small hb.rng hb.hl (by omega)
  have hs' := toks_small hb'.rng hb'.hl (by omega)
  rw [← hX, ← hn] at hs
  rw [← hY, ← hn'] at hs'
  have hn1 := hs.2
  have hn1' := hs'.2
  have HS : Hid (wsz X ≤ 400000 ∧ wsz Y ≤ 400000 ∧ wsz (X ++ Y) ≤ 400000) := Lib.hid ⟨by omega, by omega, by rw [wsz_append]; omega⟩
  have HXY := Lib.hid (And.intro hX (And.intro hY (And.intro hn hn')))
  have hJ : jOk (X ++ Y) = (jOk X && jOk Y) := joins_ok (by rw [hX]; exact fun t ht => ((toks_fl hb.rng).1 t ht).1) (by rw [hY]; exact fun t ht => ((toks_fl hb'.rng).1 t ht).1)
  clear h h' ht hL hm hb hL' hm' hb' hX hY hn hn' hs hs'
  have main : ∀ (P Q R : List Int) (e f g : Int), jnT X = P → jnE X = e → jnT Y = Q → jnE Y = f → jnT (X ++ Y) = R → jnE (X ++ Y) = g → (e = 0 ∧ f = 0 ∧ g = 0 ∧ R = P ++ Q) ∨ (e = 1 ∧ f = 0 ∧ g = 1 ∧ R = []) ∨ (e = 0 ∧ f = 1 ∧ g = 1 ∧ R = []) ∨ (e = 1 ∧ f = 1 ∧ g = 1 ∧ R = []) →
      Calls Tryd.prog 8 #[.slice a len cap, .slice a' len' cap'] w fun e w' => e = .returned (.bool true) ∧ Below w.heap.size w w' := by
    intro P Q R e f g h1 h2 h3 h4 h5 h6 hway
    have HJX := Lib.hid (And.intro h1 h2)
    have HJY := Lib.hid (And.intro h3 h4)
    have HJZ := Lib.hid (And.intro h5 h6)
    have HPL : Hid (P.length ≤ 400000) := Lib.hid (by rw [← h1]; unfold jnT; split; exact Nat.le_trans (jb_len X) HS.out.1; exact Nat.zero_le _)
    have HQL : Hid (Q.length ≤ 400000) := Lib.hid (by rw [← h3]; unfold jnT; split; exact Nat.le_trans (jb_len Y) HS.out.2.1; exact Nat.zero_le _)
    obtain ⟨p, hp⟩ : ∃ p, p = P.length := ⟨_, rfl⟩
    obtain ⟨q, hq⟩ : ∃ q, q = Q.length := ⟨_, rfl⟩
    obtain ⟨r, hr⟩ : ∃ r, r = R.length := ⟨_, rfl⟩
    have HPQR := Lib.hid (And.intro hp (And.intro hq hr))
    have HWAY := Lib.hid hway
    clear h1 h2 h3 h4 h5 h6 hp hq hr hway hJ
    go_enter Tryd.func8, Tryd.ntmps8
    go_wp2_with fail
    refine (shown_any _ HT.out).mono ?_
    rintro e w1 ⟨rfl, hb1⟩
    have HW1 := Lib.hid hb1
    clear hb1
    go_wp2_with fail
    refine (few_any _ _ _ _ _ (H.out.below HW1.out)).mono ?_
    rintro e w' ⟨rfl, rfl⟩
    rw [← HM.out]
    go_wp2_with fail
    refine (all_any _ _ _ L _ (HB.out.below HW1.out) (HT.out.keep HW1.out) (by omega)).mono ?_
    rintro e w2 ⟨a2, rfl, hr2, hb2⟩
    rw [← HXY.out.1, ← HXY.out.2.2.1] at hr2 ⊢
    have HW2 : Hid (Below w.heap.size w w2) := Lib.hid (HW1.out.trans (hb2.mono HW1.out.size))
    have HX2 := Lib.hid hr2.ts
    clear hr2 hb2
    go_wp2_with fail
    refine (few_any _ _ _ _ _ (H'.out.below HW2.out)).mono ?_
    rintro e w' ⟨rfl, rfl⟩
    rw [← HM'.out]
    go_wp2_with fail
    refine (all_any _ _ _ L' _ (HB'.out.below HW2.out) (HT.out.keep HW2.out) (by omega)).mono ?_
    rintro e w3 ⟨a3, rfl, hr3, hb3⟩
    rw [← HXY.out.2.1, ← HXY.out.2.2.2] at hr3 ⊢
    have HW3 : Hid (Below w.heap.size w w3) := Lib.hid (HW2.out.trans (hb3.mono HW2.out.size))
    have HX3 := Lib.hid (HX2.out.below hb3)
    have HY3 := Lib.hid hr3.ts
    clear hr3 hb3 HX2
    go_wp2_with fail
    refine (join_any _ _ _ X _ HX3.out (HT.out.keep HW3.out) HS.out.1).mono ?_
    rw [HJX.out.1, HJX.out.2, ← HPQR.out.1]
    rintro e w4 ⟨a4, c4, rfl, hx4, hb4⟩
    have HW4 : Hid (Below w.heap.size w w4) := Lib.hid (HW3.out.trans (hb4.mono HW3.out.size))
    have HX4 := Lib.hid (HX3.out.below hb4)
    have HY4 := Lib.hid (HY3.out.below hb4)
    have HP4 := Lib.hid hx4
    clear hx4 hb4 HX3 HY3
    go_wp2_with fail
    refine (join_any _ _ _ Y _ HY4.out (HT.out.keep HW4.out) HS.out.2.1).mono ?_
    rw [HJY.out.1, HJY.out.2, ← HPQR.out.2.1]
    rintro e w5 ⟨a5, c5, rfl, hx5, hb5⟩
    have HW5 : Hid (Below w.heap.size w w5) := Lib.hid (HW4.out.trans (hb5.mono HW4.out.size))
    have HX5 := Lib.hid (HX4.out.below hb5)
    have HY5 := Lib.hid (HY4.out.below hb5)
    have HP5 := Lib.hid (HP4.out.below hb5)
    have HQ5 := Lib.hid hx5
    clear hx5 hb5 HX4 HY4 HP4
    go_wp2_with (at_builtin; refine Hid.out ?_)
    refine Lib.hid ?_
    refine wpList_appT rfl (.tmp 32) (.tmp 33) rfl w5.heap.size _ _ _ [] rfl (OwnT.emptyAt (heap_alloc_new w5 _) (Nat.le_refl _)) _ _ _ X rfl (HX5.out.alloc _) (by omega) (by simp) ?_
    intro a6 c6 w6 ho6 hg6 hb6
    rw [Nat.zero_add, List.nil_append] at ho6
    rw [Nat.zero_add]
    have hb6' : Below w5.heap.size w5 w6 := ((Below.refl _ w5).alloc (Nat.le_refl _) _).trans hb6
    have HO6 := Lib.hid ho6
    have HW6 : Hid (Below w5.heap.size w5 w6) := Lib.hid hb6'
    have HY6 := Lib.hid (HY5.out.below hb6')
    have hs6 : w5.heap.size ≤ w6.heap.size := hb6'.size
    clear ho6 hg6 hb6 hb6' HX5 HY5
    go_wp2_with (at_builtin; refine Hid.out ?_)
    refine Lib.hid ?_
    refine wpList_appT rfl (.tmp 34) (.tmp 35) rfl w5.heap.size _ _ _ X rfl HO6.out _ _ _ Y rfl HY6.out (by omega) hs6 ?_
    intro a7 c7 w7 ho7 hg7 hb7
    have HO7 := Lib.hid ho7.ts
    have HW7 : Hid (Below w5.heap.size w5 w7) := Lib.hid (HW6.out.trans hb7)
    have HV7 : Hid (Below w.heap.size w w7) := Lib.hid (HW5.out.trans (HW7.out.mono HW5.out.size))
    clear ho7 hg7 hb7 HY6 HO6
    go_wp2_with fail
    refine (join_any _ _ _ (X ++ Y) _ HO7.out (HT.out.keep HV7.out) HS.out.2.2).mono ?_
    rw [HJZ.out.1, HJZ.out.2, ← HPQR.out.2.2]
    rintro e w8 ⟨a8, c8, rfl, hx8, hb8⟩
    have HV8 : Hid (Below w.heap.size w w8) := Lib.hid (HV7.out.trans (hb8.mono HV7.out.size))
    have hb58 : Below w5.heap.size w5 w8 := HW7.out.trans (hb8.mono HW7.out.size)
    have k1 := (HP5.out.below hb58).str (P := Tryd.prog) 22 9 5 Tryd.underlying22 Tryd.underlying5 Tryd.underlying9
    have k2 := (HQ5.out.below hb58).str (P := Tryd.prog) 22 9 5 Tryd.underlying22 Tryd.underlying5 Tryd.underlying9
    have k3 := hx8.str (P := Tryd.prog) 22 9 5 Tryd.underlying22 Tryd.underlying5 Tryd.underlying9
    have hrl : r = R.length := HPQR.out.2.2
    clear hx8 hb8 hb58
    rcases HWAY.out with ⟨rfl, rfl, rfl, rfl⟩ | ⟨rfl, rfl, rfl, rfl⟩ | ⟨rfl, rfl, rfl, rfl⟩ | ⟨rfl, rfl, rfl, rfl⟩
    · have hz : (bstr P).size + (bstr Q).size ≤ 800000 := by rw [bstr_size, bstr_size]; have := HPL.out; have := HQL.out; omega
      have hc : (bstr (P ++ Q)).toList = (bstr P ++ bstr Q).toList := by rw [bstr_append]
      clear hrl
      go_wp2
      go_ret
      exact ⟨ret_bool (by simp), HV8.out⟩
    · have hr0 : r = 0 := hrl
      subst hr0
      clear k1 k2 k3 hrl
      go_wp2
      go_ret
      exact ⟨rfl, HV8.out⟩
    · have hr0 : r = 0 := hrl
      subst hr0
      clear k1 k2 k3 hrl
      go_wp2
      go_ret
      exact ⟨rfl, HV8.out⟩
    · have hr0 : r = 0 := hrl
      subst hr0
      clear k1 k2 k3 hrl
      go_wp2
      go_ret
      exact ⟨rfl, HV8.out⟩
  cases hx : jOk X with
  | false =>
    cases hy : jOk Y with
    | false =>
      rw [hx, hy] at hJ
      exact main _ _ _ _ _ _ (jn_no hx).1 (jn_no hx).2 (jn_no hy).1 (jn_no hy).2 (jn_no hJ).1 (jn_no hJ).2 (Or.inr (Or.inr (Or.inr ⟨rfl, rfl, rfl, rfl⟩)))
    | true =>
      rw [hx, hy] at hJ
      exact main _ _ _ _ _ _ (jn_no hx).1 (jn_no hx).2 (jn_yes hy).1 (jn_yes hy).2 (jn_no hJ).1 (jn_no hJ).2 (Or.inr (Or.inl ⟨rfl, rfl, rfl, rfl⟩))
  | true =>
    cases hy : jOk Y with
    | false =>
      rw [hx, hy] at hJ
      exact main _ _ _ _ _ _ (jn_yes hx).1 (jn_yes hx).2 (jn_no hy).1 (jn_no hy).2 (jn_no hJ).1 (jn_no hJ).2 (Or.inr (Or.inr (Or.inl ⟨rfl, rfl, rfl, rfl⟩)))
    | true =>
      rw [hx, hy] at hJ
      exact main _ _ _ _ _ _ (jn_yes hx).1 (jn_yes hx).2 (jn_yes hy).1 (jn_yes hy).2 (jn_yes hJ).1 (jn_yes hJ).2 (Or.inl ⟨rfl, rfl, rfl, jb_append X Y⟩)

end Go.Proofs.YtecabgmkoknbgaaDoor
