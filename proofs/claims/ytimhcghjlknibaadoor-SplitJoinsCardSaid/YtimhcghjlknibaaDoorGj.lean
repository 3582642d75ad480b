/- The plain mathematics of layer 10: behind an end, and a newline, tokens are for themselves, whatever stands ahead (quotes and comments, too). No walk here. -/
import Derived.Test.YtimhcghjlknibaaDoorMB
namespace Go.Proofs.YtimhcghjlknibaaDoor
open Go.RowKit

/-- Two texts are the same up to a dot. -/
structure Ag (u v : List Int) (m : Nat) : Prop where
  pos : 1 ≤ m
  lu : m ≤ u.length
  lv : m ≤ v.length
  at_ : ∀ j, j < m → bt u j = bt v j
  dot : bt u (m - 1) = 46

theorem Ag.drop {u v : List Int} {m k : Nat} (h : Ag u v m) (hk : k < m) : Ag (u.drop k) (v.drop k) (m - k) := by
  have h1 := h.lu
  have h2 := h.lv
  refine ⟨by omega, by rw [List.length_drop]; omega, by rw [List.length_drop]; omega, fun j hj => ?_, ?_⟩
  · rw [bt_drop, bt_drop]; exact h.at_ _ (by omega)
  · rw [bt_drop, show k + (m - k - 1) = m - 1 by omega]; exact h.dot
theorem Ag.take {u v : List Int} {m : Nat} (h : Ag u v m) : ∀ k, k ≤ m → u.take k = v.take k
  | 0, _ => by rw [List.take_zero, List.take_zero]
  | k + 1, hk => by
    have h1 := h.lu
    have h2 := h.lv
    rw [List.take_succ_eq_append_getElem (show k < u.length by omega), List.take_succ_eq_append_getElem (show k < v.length by omega), h.take k (by omega)]
    have := h.at_ k (by omega)
    rw [show bt u k = u[k]'(by omega) from by simp [bt, List.getD, show k < u.length by omega], show bt v k = v[k]'(by omega) from by simp [bt, List.getD, show k < v.length by omega]] at this
    rw [this]
theorem Ag.ne {u v : List Int} {m : Nat} (h : Ag u v m) : u ≠ [] ∧ v ≠ [] := by
  have h1 := h.lu
  have h2 := h.lv
  have h3 := h.pos
  exact ⟨List.length_pos_iff.1 (by omega), List.length_pos_iff.1 (by omega)⟩
theorem Ag.symm {u v : List Int} {m : Nat} (h : Ag u v m) : Ag v u m :=
  ⟨h.pos, h.lv, h.lu, fun j hj => (h.at_ j hj).symm, by rw [← h.at_ _ (by have := h.pos; omega)]; exact h.dot⟩
theorem Ag.zero {u v : List Int} {m : Nat} (h : Ag u v m) : bt u 0 = bt v 0 := h.at_ 0 h.pos
/-- A first byte that is no dot has another one behind it. -/
theorem Ag.two {u v : List Int} {m : Nat} (h : Ag u v m) (h0 : bt u 0 ≠ 46) : 2 ≤ m := by
  have h1 := h.pos
  apply Decidable.byContradiction
  intro hn
  have : m = 1 := by omega
  subst this
  exact h0 h.dot

theorem okSeq_ag {u v : List Int} {m : Nat} (h : Ag u v m) (ho : okSeq u = true) : takeN u ≤ m ∧ okSeq v = true ∧ takeN v = takeN u := by
  have hp := h.pos
  have hle : takeN u ≤ m := by
    apply Decidable.byContradiction
    intro hn
    by_cases h0 : 0 < m - 1
    · have := okSeq_high ho (j := m - 1) h0 (by omega)
      rw [h.dot] at this
      omega
    · have : m = 1 := by omega
      subst this
      have := (okSeq_low h.ne.1 (by rw [show bt u 0 = 46 from h.dot]; decide)).2
      omega
  have h2 := okSeq_same (l' := v) ho (by have := h.lv; omega) (fun j hj => (h.at_ j (by omega)).symm)
  exact ⟨hle, h2.1, h2.2⟩
theorem okSeq_agno {u v : List Int} {m : Nat} (h : Ag u v m) (ho : okSeq u = false) : okSeq v = false := by
  cases hv : okSeq v with
  | false => rfl
  | true => have := (okSeq_ag h.symm hv).2.1; rw [ho] at this; cases this

theorem nmB_ag {u v : List Int} {m : Nat} (h : Ag u v m) (hb : nmB u = true) : takeN u ≤ m - 1 ∧ nmB v = true ∧ takeN v = takeN u := by
  have hp := h.pos
  obtain ⟨h1, h2, h3⟩ := okSeq_ag h (nmB_ok hb).1
  refine ⟨?_, ?_, h3⟩
  · apply Decidable.byContradiction
    intro hn
    have hm : takeN u = m := by omega
    by_cases h0 : 0 < m - 1
    · have := okSeq_high (nmB_ok hb).1 (j := m - 1) h0 (by omega)
      rw [h.dot] at this
      omega
    · have : m = 1 := by omega
      subst this
      rw [nmB_one hm (by rw [show bt u 0 = 46 from h.dot]; decide)] at hb
      cases hb
  · have ho := (nmB_ok hb).1
    unfold nmB at hb ⊢
    rw [h2, h3, ← h.zero]
    rw [ho] at hb
    exact hb
theorem nmB_agno {u v : List Int} {m : Nat} (h : Ag u v m) (hb : nmB u = false) : nmB v = false := by
  cases hv : nmB v with
  | false => rfl
  | true => have := (nmB_ag h.symm hv).2.1; rw [hb] at this; cases this

theorem nmL_ag : ∀ (n : Nat) (u v : List Int) (m : Nat), u.length ≤ n → Ag u v m → nmL u = nmL v ∧ nmL u ≤ m - 1
  | 0, u, v, m, hn, h => by have := h.lu; have := h.pos; omega
  | n + 1, u, v, m, hn, h => by
    cases hb : nmB u with
    | false => rw [nmL_no hb, nmL_no (nmB_agno h hb)]; exact ⟨rfl, Nat.zero_le _⟩
    | true =>
      obtain ⟨h1, h2, h3⟩ := nmB_ag h hb
      have h4 := takeN_pos (nmB_ok hb).2
      have hl := h.lu
      have hp := h.pos
      have ih := nmL_ag n _ _ _ (by rw [List.length_drop]; omega) (h.drop (k := takeN u) (by omega))
      rw [nmL_yes hb, nmL_yes h2, h3]
      omega

theorem runL_ag (n : Int) : ∀ (u v : List Int) (m : Nat), m ≤ u.length → m ≤ v.length → (∀ j, j < m → bt u j = bt v j) → runL n u < m → runL n v = runL n u
  | [], v, m, h1, _, _, h => by simp at h1; omega
  | c :: r, [], m, _, h2, _, h => by simp at h2; omega
  | c :: r, d :: s, m, h1, h2, h3, h => by
    rw [runL] at h ⊢
    rw [runL]
    have h0 := h3 0 (by omega)
    rw [bt_cons0, bt_cons0] at h0
    subst h0
    by_cases hc : cls c = n
    · rw [if_pos hc] at h ⊢
      rw [if_pos hc, runL_ag n r s (m - 1) (by simp at h1; omega) (by simp at h2; omega) (fun j hj => by have := h3 (j + 1) (by omega); rwa [bt_consS, bt_consS] at this) (by omega)]
    · rw [if_neg hc, if_neg hc]
theorem lineL_ag : ∀ (u v : List Int) (m : Nat), m ≤ u.length → m ≤ v.length → (∀ j, j < m → bt u j = bt v j) → lineL u < m → lineL v = lineL u
  | [], v, m, h1, _, _, h => by simp at h1; omega
  | c :: r, [], m, _, h2, _, h => by simp at h2; omega
  | c :: r, d :: s, m, h1, h2, h3, h => by
    rw [lineL] at h ⊢
    rw [lineL]
    have h0 := h3 0 (by omega)
    rw [bt_cons0, bt_cons0] at h0
    subst h0
    by_cases hc : c = 10
    · rw [if_pos hc, if_pos hc]
    · rw [if_neg hc] at h ⊢
      rw [if_neg hc, lineL_ag r s (m - 1) (by simp at h1; omega) (by simp at h2; omega) (fun j hj => by have := h3 (j + 1) (by omega); rwa [bt_consS, bt_consS] at this) (by omega)]

theorem pre2_ag {x y : Int} {u v : List Int} {m : Nat} (h1 : m ≤ u.length) (h2 : m ≤ v.length) (h3 : ∀ j, j < m → bt u j = bt v j) (hm : 2 ≤ m) : pre2 x y v = pre2 x y u := by
  unfold pre2
  rw [h3 0 (by omega), h3 1 (by omega), decide_eq_true (by omega : 2 ≤ v.length), decide_eq_true (by omega : 2 ≤ u.length)]

theorem cm_ag : ∀ (f : Nat) (u v : List Int) (d : Int) (n m : Nat), u.length ≤ f → m ≤ u.length → m ≤ v.length → (∀ j, j < m → bt u j = bt v j) → cm u d = some n → n ≤ m → cm v d = some n
  | 0, u, v, d, n, m, hf, _, _, _, h, _ => by have : u = [] := List.eq_nil_of_length_eq_zero (by omega); subst this; simp [cm] at h
  | f + 1, u, v, d, n, m, hf, hu, hv, ha, h, hn => by
    have hd : ∀ k, k ≤ m → ∀ j, j < m - k → bt (u.drop k) j = bt (v.drop k) j := fun k hk j hj => by rw [bt_drop, bt_drop]; exact ha _ (by omega)
    by_cases h0 : 0 < u.length
    · by_cases h1 : pre2 47 42 u = true
      · rw [cm_open h1] at h
        obtain ⟨k, hk, rfl⟩ := Option.map_eq_some_iff.1 h
        rw [cm_open (by rw [pre2_ag hu hv ha (by omega)]; exact h1), cm_ag f _ (v.drop 2) _ k (m - 2) (by rw [List.length_drop]; omega) (by rw [List.length_drop]; omega) (by rw [List.length_drop]; omega) (hd 2 (by omega)) hk (by omega)]
        rfl
      · by_cases h2 : pre2 42 47 u = true
        · by_cases hd1 : d = 1
          · subst hd1
            rw [cm_last h2] at h
            simp only [Option.some.injEq] at h
            subst h
            exact cm_last (by rw [pre2_ag hu hv ha (by omega)]; exact h2)
          · rw [cm_close h2 hd1] at h
            obtain ⟨k, hk, rfl⟩ := Option.map_eq_some_iff.1 h
            rw [cm_close (by rw [pre2_ag hu hv ha (by omega)]; exact h2) hd1, cm_ag f _ (v.drop 2) _ k (m - 2) (by rw [List.length_drop]; omega) (by rw [List.length_drop]; omega) (by rw [List.length_drop]; omega) (hd 2 (by omega)) hk (by omega)]
            rfl
        · have h1' : pre2 47 42 u = false := by simpa using h1
          have h2' : pre2 42 47 u = false := by simpa using h2
          rw [cm_else h0 h1' h2'] at h
          obtain ⟨k, hk, rfl⟩ := Option.map_eq_some_iff.1 h
          have := (cm_le _ _ _ _ (Nat.le_refl _) hk).1
          rw [cm_else (by omega) (by rw [pre2_ag hu hv ha (by omega)]; exact h1') (by rw [pre2_ag hu hv ha (by omega)]; exact h2'),
            cm_ag f _ (v.drop 1) _ k (m - 1) (by rw [List.length_drop]; omega) (by rw [List.length_drop]; omega) (by rw [List.length_drop]; omega) (hd 1 (by omega)) hk (by omega)]
          rfl
    · have : u = [] := List.eq_nil_of_length_eq_zero (by omega)
      subst this; simp [cm] at h

theorem sk_ag : ∀ (f : Nat) (u v : List Int) (m : Nat), u.length ≤ f → Ag u v m → (sk u).2 = 0 → (sk u).1 < m → sk v = sk u
  | 0, u, v, m, hf, h, _, _ => by have := h.lu; have := h.pos; omega
  | f + 1, u, v, m, hf, h, h2, h1 => by
    have hu := h.lu
    have hv := h.lv
    have hp := h.pos
    have hU := sk_unfold u (by omega)
    have hV := sk_unfold v (by omega)
    rw [← h.zero] at hV
    by_cases c1 : cls (bt u 0) = 1
    · rw [if_pos c1] at hU hV
      rw [hU] at h1 h2
      simp only [addN] at h1 h2
      rw [hU, hV, sk_ag f _ _ _ (by rw [List.length_drop]; omega) (h.drop (k := 1) (by omega)) h2 (by omega)]
    rw [if_neg c1] at hU hV
    by_cases c2 : bt u 0 = 37
    · rw [if_pos c2] at hU hV
      rw [hU] at h1 h2
      simp only [addN] at h1 h2
      have hl := lineL_ag u v m hu hv h.at_ (by omega)
      have hpos := lineL_pos c2
      rw [hl] at hV
      rw [hU, hV, sk_ag f _ _ _ (by rw [List.length_drop]; omega) (h.drop (k := lineL u) (by omega)) h2 (by omega)]
    rw [if_neg c2] at hU hV
    have hpre : pre2 47 42 v = pre2 47 42 u := by
      by_cases hm : 2 ≤ m
      · exact pre2_ag hu hv h.at_ hm
      · have : m = 1 := by omega
        subst this
        have e1 : bt u 0 = 46 := h.dot
        have e2 : bt v 0 = 46 := by rw [← h.zero]; exact e1
        unfold pre2
        rw [e1, e2]
        simp
    rw [hpre] at hV
    by_cases c3 : pre2 47 42 u = true
    · rw [if_pos c3] at hU hV
      cases hc : cm u 0 with
      | none => rw [hc] at hU; rw [hU] at h2; simp at h2
      | some n =>
        rw [hc] at hU
        simp only at hU
        rw [hU] at h1 h2
        simp only [addN] at h1 h2
        have hn := (cm_le _ _ _ _ (Nat.le_refl _) hc).1
        rw [cm_ag _ u v 0 n m (Nat.le_refl _) hu hv h.at_ hc (by omega)] at hV
        simp only at hV
        rw [hU, hV, sk_ag f _ _ _ (by rw [List.length_drop]; omega) (h.drop (k := n) (by omega)) h2 (by omega)]
    · rw [if_neg c3] at hU hV
      rw [hU, hV]

theorem qE_ag {u v : List Int} {m : Nat} (h : Ag u v m) : qE v = qE u := by
  unfold qE
  rw [if_neg h.ne.1, if_neg h.ne.2, ← h.zero]
  by_cases c1 : bt u 0 = 39
  · have hm := h.two (by omega)
    rw [if_pos c1, if_pos c1, h.at_ 1 (by omega)]
  rw [if_neg c1, if_neg c1]
  by_cases c2 : bt u 0 = 92
  · have hm := h.two (by omega)
    rw [if_pos c2, if_pos c2, h.at_ 1 (by omega)]
  rw [if_neg c2, if_neg c2]
  cases ho : okSeq u with
  | true => rw [(okSeq_ag h ho).2.1]
  | false => rw [okSeq_agno h ho]
theorem qNT_ag {u v : List Int} {m : Nat} (h : Ag u v m) (hq : qE u = -1) : qN u ≤ m ∧ qN v = qN u ∧ qT v = qT u := by
  unfold qE at hq
  rw [if_neg h.ne.1] at hq
  unfold qN qT
  rw [← h.zero]
  by_cases c1 : bt u 0 = 39
  · have hm := h.two (by omega)
    simp only [if_pos c1]
    exact ⟨hm, trivial, trivial⟩
  rw [if_neg c1] at hq
  simp only [if_neg c1]
  by_cases c2 : bt u 0 = 92
  · have hm := h.two (by omega)
    simp only [if_pos c2, h.at_ 1 (by omega)]
    exact ⟨hm, trivial, trivial⟩
  rw [if_neg c2] at hq
  simp only [if_neg c2]
  have ho : okSeq u = true := by
    cases ho : okSeq u with
    | true => rfl
    | false =>
      rw [ho] at hq
      by_cases c3 : bt u 0 = 10
      · rw [if_pos c3] at hq; omega
      rw [if_neg c3] at hq
      by_cases c4 : bt u 0 < 32 ∨ bt u 0 = 127
      · rw [if_pos c4] at hq; omega
      · rw [if_neg c4] at hq; simp at hq
  obtain ⟨h1, _, h3⟩ := okSeq_ag h ho
  rw [h3, h.take _ h1]
  exact ⟨h1, rfl, rfl⟩

theorem qs_ag : ∀ (f : Nat) (u v : List Int) (m : Nat), u.length ≤ f → Ag u v m → (qs u).n ≤ m - 1 → qs v = qs u
  | 0, u, v, m, hf, h, _ => by have := h.lu; have := h.pos; omega
  | f + 1, u, v, m, hf, h, hn => by
    have hu := h.lu
    have hp := h.pos
    have hE := qE_ag h
    by_cases hq : qE u = -1
    · obtain ⟨h1, h2, h3⟩ := qNT_ag h hq
      have h4 := qN_pos hq
      rw [qs_go hq] at hn
      simp only at hn
      rw [qs_go hq, qs_go (hE.trans hq), h2, h3, qs_ag f _ _ _ (by rw [List.length_drop]; omega) (h.drop (k := qN u) (by omega)) (by omega)]
    · by_cases h0 : qE u = 0
      · rw [qs_ok h0, qs_ok (hE.trans h0)]
      · rw [qs_err rfl hq h0, qs_err hE hq h0]

theorem firstT_ag {u v : List Int} {m : Nat} (h : Ag u v m) (hr : ∀ x ∈ u, 0 ≤ x ∧ x ≤ 255) (hn : (firstT u).n ≤ m - 1) : firstT v = firstT u := by
  have hu := h.lu
  have hv := h.lv
  have hp := h.pos
  have hb := bt_rng hr 0
  have hc := cls_rng hb.1 hb.2
  have h0 := h.zero
  obtain ⟨hN1, hN2⟩ := nmL_ag _ u v m (Nat.le_refl _) h
  have e0 : 0 < u.length := by omega
  obtain hk | hk | hk | hk | hk | hk | hk | hk : cls (bt u 0) = 2 ∨ cls (bt u 0) = 3 ∨ cls (bt u 0) = 9 ∨ cls (bt u 0) = 5 ∨ cls (bt u 0) = 4 ∨ cls (bt u 0) = 7 ∨ cls (bt u 0) = 6 ∨ (cls (bt u 0) = 0 ∨ cls (bt u 0) = 1 ∨ cls (bt u 0) = 8) := by omega
  · rw [firstT2 hk, firstT2 (by rw [← h0]; exact hk)]
    unfold nameT
    rw [← hN1, h.take _ (by omega)]
  · rw [firstT3 hk, firstT3 (by rw [← h0]; exact hk)]
    unfold nameT
    rw [← hN1, h.take _ (by omega)]
  · rw [firstT9 hk, firstT9 (by rw [← h0]; exact hk)]
    unfold highT nameT
    rw [← hN1, h.take _ (by omega)]
  · rw [firstT5 hk] at hn
    have hn : runL 5 u ≤ m - 1 := hn
    have hR := runL_ag 5 u v m hu hv h.at_ (by omega)
    have h1 : runL 5 u ≠ 0 := fun hz => (runL_zero e0).1 hz hk
    have hE : endT v = endT u := by
      unfold endT
      rw [hR, ← h0, ← h.at_ 1 (by omega), decide_eq_false (by omega : ¬ v.length = 1), decide_eq_false (by omega : ¬ u.length = 1)]
    rw [firstT5 hk, firstT5 (by rw [← h0]; exact hk)]
    unfold symT
    rw [hE, hR, h.take _ (by omega)]
  · rw [firstT4 hk] at hn
    have hle : runL 4 u < m := by
      apply Decidable.byContradiction
      intro hh
      have := runL_cls 4 u (m - 1) (by omega)
      rw [h.dot] at this
      exact absurd this (by decide)
    have hR := runL_ag 4 u v m hu hv h.at_ hle
    rw [firstT4 hk, firstT4 (by rw [← h0]; exact hk)]
    have hE : dkE v = dkE u := by
      unfold dkE dkBig
      rw [hR, h.take _ (by omega)]
    unfold numT dkK
    rw [hE, hR, h.take _ (by omega)]
  · have h39 := (cls7' hb.1 hb.2).1 hk
    rw [firstT7 hk] at hn
    have hq : tk u = ⟨(qs (u.drop 1)).e, 1 + (qs (u.drop 1)).n, if (qs (u.drop 1)).e = 0 then (qs (u.drop 1)).t else []⟩ := by unfold tk; rw [if_pos h39]
    have hm : 1 < m := by have := h.two (by omega); omega
    have hn' : 1 + (qs (u.drop 1)).n ≤ m - 1 := by
      unfold quoT at hn
      rw [hq] at hn
      simp only at hn
      split at hn <;> simpa using hn
    have := qs_ag _ (u.drop 1) (v.drop 1) (m - 1) (Nat.le_refl _) (h.drop hm) (by omega)
    rw [firstT7 hk, firstT7 (by rw [← h0]; exact hk)]
    unfold quoT
    have ht : tk v = tk u := by
      unfold tk
      rw [← h0, this]
    rw [ht]
  · rw [firstT6 hk, firstT6 (by rw [← h0]; exact hk), h.take 1 hp]
  · rw [firstT0 hk, firstT0 (by rw [← h0]; exact hk)]

/-- A token that ends ahead of the dot is the same one. -/
theorem nx_ag {l X : List Int} {k f e : Nat} {t : TR} (hr : ∀ x ∈ l, 0 ≤ x ∧ x ≤ 255) (h : Ag l X e) (hk : k < e) (hn : nx l k = some (f, t)) (he : f + t.n < e) : nx X k = some (f, t) := by
  have hl := h.lu
  have hX := h.lv
  obtain ⟨n, z, hs, hkn, hz⟩ := sk_ways l k (by omega)
  have hA := h.drop hk
  by_cases h0 : z = 0
  · subst h0
    by_cases hend : k + n = l.length
    · rw [nx_none hs hend] at hn; cases hn
    · rw [nx_some hs hend] at hn
      simp only [Option.some.injEq, Prod.mk.injEq] at hn
      obtain ⟨rfl, rfl⟩ := hn
      have hsX := sk_ag _ _ _ _ (Nat.le_refl _) hA (by rw [hs]) (by rw [hs]; show n < e - k; omega)
      rw [hs] at hsX
      have hA2 := h.drop (k := k + n) (by omega)
      rw [nx_some hsX (by omega), firstT_ag hA2 (fun x hx => hr x (List.drop_subset _ _ hx)) (by omega)]
  · rw [nx_err hs h0] at hn
    simp only [Option.some.injEq, Prod.mk.injEq] at hn
    obtain ⟨rfl, rfl⟩ := hn
    simp only at he
    omega

theorem end_form {l : List Int} (h0 : 0 < l.length) (hr : ∀ x ∈ l, 0 ≤ x ∧ x ≤ 255) (h : (firstT l).k = 7) : bt l 0 = 46 ∧ firstT l = ⟨7, 1, [46], 0⟩ := by
  have hb := bt_rng hr 0
  have hc := cls_rng hb.1 hb.2
  obtain hk | hk | hk | hk | hk | hk | hk | hk : cls (bt l 0) = 2 ∨ cls (bt l 0) = 3 ∨ cls (bt l 0) = 9 ∨ cls (bt l 0) = 5 ∨ cls (bt l 0) = 4 ∨ cls (bt l 0) = 7 ∨ cls (bt l 0) = 6 ∨ (cls (bt l 0) = 0 ∨ cls (bt l 0) = 1 ∨ cls (bt l 0) = 8) := by omega
  · rw [firstT2 hk] at h; exact absurd (show (1 : Int) = 7 from h) (by decide)
  · rw [firstT3 hk] at h; exact absurd (show (3 : Int) = 7 from h) (by decide)
  · rw [firstT9 hk] at h
    unfold highT nameT at h
    split at h
    · exact absurd (show (8 : Int) = 7 from h) (by decide)
    · exact absurd (show (1 : Int) = 7 from h) (by decide)
  · rw [firstT5 hk] at h ⊢
    unfold symT at h ⊢
    cases hE : endT l with
    | false => rw [hE] at h; exact absurd (show (2 : Int) = 7 from h) (by decide)
    | true =>
      unfold endT at hE
      simp only [Bool.and_eq_true, decide_eq_true_eq] at hE
      refine ⟨hE.2.1, ?_⟩
      rw [hE.1]
      match l, h0 with
      | c :: r, _ => rw [bt_cons0] at hE; rw [hE.2.1]; rfl
  · rw [firstT4 hk] at h
    unfold numT at h
    split at h
    · exact absurd (show (4 : Int) = 7 from h) (by decide)
    · exact absurd (show (8 : Int) = 7 from h) (by decide)
  · rw [firstT7 hk] at h
    unfold quoT at h
    split at h
    · exact absurd (show (5 : Int) = 7 from h) (by decide)
    · exact absurd (show (8 : Int) = 7 from h) (by decide)
  · rw [firstT6 hk] at h; exact absurd (show (6 : Int) = 7 from h) (by decide)
  · rw [firstT0 hk] at h; exact absurd (show (8 : Int) = 7 from h) (by decide)

theorem end_line (Y : List Int) : firstT (46 :: 10 :: Y) = ⟨7, 1, [46], 0⟩ := by
  have h5 : cls 46 = 5 := by decide
  have h1 : cls 10 = 1 := by decide
  have hR : runL 5 (46 :: 10 :: Y) = 1 := by
    rw [runL, if_pos h5, runL, if_neg (by rw [h1]; decide)]
  have hE : endT (46 :: 10 :: Y) = true := by
    unfold endT
    rw [hR, bt_cons0, bt_consS, bt_cons0, decide_eq_true h1]
    simp
  rw [firstT5 (by rw [bt_cons0]; exact h5)]
  unfold symT
  rw [hE, hR]
  rfl

/-- The end itself. -/
theorem nx_end {l : List Int} {k f : Nat} {t : TR} (hk : k ≤ l.length) (hr : ∀ x ∈ l, 0 ≤ x ∧ x ≤ 255) (hn : nx l k = some (f, t)) (h7 : t.k = 7) :
    t = ⟨7, 1, [46], 0⟩ ∧ bt l f = 46 ∧ k ≤ f ∧ f + 1 ≤ l.length ∧ ∀ Y, nx (l.take (f + 1) ++ 10 :: Y) k = some (f, t) := by
  obtain ⟨n, z, hs, hkn, hz⟩ := sk_ways l k hk
  by_cases h0 : z = 0
  · subst h0
    by_cases hend : k + n = l.length
    · rw [nx_none hs hend] at hn; cases hn
    · rw [nx_some hs hend] at hn
      simp only [Option.some.injEq, Prod.mk.injEq] at hn
      obtain ⟨rfl, rfl⟩ := hn
      obtain ⟨h1, h2⟩ := end_form (l := l.drop (k + n)) (by rw [List.length_drop]; omega) (fun x hx => hr x (List.drop_subset _ _ hx)) h7
      rw [bt_drop, Nat.add_zero] at h1
      refine ⟨h2, h1, by omega, by omega, fun Y => ?_⟩
      have hlt : (l.take (k + n + 1)).length = k + n + 1 := by rw [List.length_take]; omega
      have hA : Ag l (l.take (k + n + 1) ++ 10 :: Y) (k + n + 1) :=
        ⟨by omega, by omega, by rw [List.length_append, hlt]; omega, fun j hj => (bt_take_app (by omega) hj).symm, h1⟩
      have hsX := sk_ag _ _ _ _ (Nat.le_refl _) (hA.drop (k := k) (by omega)) (by rw [hs]) (by rw [hs]; show n < k + n + 1 - k; omega)
      rw [hs] at hsX
      rw [nx_some hsX (by rw [List.length_append, hlt]; omega), h2]
      have hdr : (l.take (k + n + 1) ++ 10 :: Y).drop (k + n) = 46 :: 10 :: Y := by
        rw [List.drop_append_of_le_length (by omega), List.take_succ_eq_append_getElem (show k + n < l.length by omega), List.drop_left' (by rw [List.length_take]; omega)]
        rw [show bt l (k + n) = l[k + n]'(by omega) from by simp [bt, List.getD, show k + n < l.length by omega]] at h1
        rw [h1]; rfl
      rw [hdr, end_line]
  · rw [nx_err hs h0] at hn
    simp only [Option.some.injEq, Prod.mk.injEq] at hn
    obtain ⟨rfl, rfl⟩ := hn
    exact absurd (show (8 : Int) = 7 from h7) (by decide)

theorem lx_ge {l : List Int} (hr : ∀ x ∈ l, 0 ≤ x ∧ x ≤ 255) : ∀ k, k ≤ l.length → ∀ p ∈ lx l k, k ≤ p.1 ∧ 1 ≤ p.2.n ∧ p.1 + p.2.n ≤ l.length := by
  refine by_end fun k hk ih => ?_
  cases hn : nx l k with
  | none => rw [lx_none hn]; simp
  | some q =>
    obtain ⟨f, t⟩ := q
    obtain ⟨h1, h2, h3⟩ := nx_lim hk hr hn
    rw [lx_some hk hr hn]
    intro p hp
    rcases List.mem_cons.1 hp with rfl | hp
    · exact ⟨h1, h2, h3⟩
    · have := ih (f + t.n) (by omega) h3 p hp
      omega

/-- Cut behind an end, with a newline, and whatever, behind it. -/
theorem lx_cut {l : List Int} (hr : ∀ x ∈ l, 0 ≤ x ∧ x ≤ 255) {f : Nat} {t : TR} (h7 : t.k = 7) (Y : List Int) (hy : ∀ x ∈ Y, 0 ≤ x ∧ x ≤ 255) (B : List (Nat × TR)) :
    ∀ (A : List (Nat × TR)) (k : Nat), k ≤ l.length → lx l k = A ++ (f, t) :: B → f + t.n = f + 1 ∧ f + 1 ≤ l.length ∧ lx (l.take (f + 1) ++ 10 :: Y) k = A ++ (f, t) :: (lx (10 :: Y) 0).map (shf (f + 1))
  | [], k, hk, h => by
    cases hn : nx l k with
    | none => rw [lx_none hn] at h; cases h
    | some q =>
      obtain ⟨f', t'⟩ := q
      rw [lx_some hk hr hn, List.nil_append] at h
      simp only [List.cons.injEq, Prod.mk.injEq] at h
      obtain ⟨⟨rfl, rfl⟩, _⟩ := h
      obtain ⟨h1, h2, h3, h4, h5⟩ := nx_end hk hr hn h7
      have hlt : (l.take (f' + 1)).length = f' + 1 := by rw [List.length_take]; omega
      have hX : ∀ x ∈ l.take (f' + 1) ++ 10 :: Y, 0 ≤ x ∧ x ≤ 255 := rng_app (fun x hx => hr x (List.take_subset _ _ hx)) (fun x hx => by
        rcases List.mem_cons.1 hx with rfl | hx
        · decide
        · exact hy x hx)
      have hn1 : t'.n = 1 := by rw [h1]
      refine ⟨by rw [hn1], h4, ?_⟩
      rw [lx_some (by rw [List.length_append, hlt]; omega) hX (h5 Y), List.nil_append, hn1]
      have := lx_app (l.take (f' + 1)) (10 :: Y) hX 0 (Nat.zero_le _)
      rw [hlt, Nat.add_zero] at this
      rw [this]
  | (f0, t0) :: A, k, hk, h => by
    cases hn : nx l k with
    | none => rw [lx_none hn] at h; cases h
    | some q =>
      obtain ⟨f', t'⟩ := q
      rw [lx_some hk hr hn, List.cons_append] at h
      simp only [List.cons.injEq, Prod.mk.injEq] at h
      obtain ⟨⟨rfl, rfl⟩, h⟩ := h
      obtain ⟨g1, g2, g3⟩ := nx_lim hk hr hn
      obtain ⟨i1, i2, i3⟩ := lx_cut hr h7 Y hy B A (f' + t'.n) g3 h
      have hge := lx_ge hr (f' + t'.n) g3 (f, t) (by rw [h]; simp)
      simp only at hge
      have hlt : (l.take (f + 1)).length = f + 1 := by rw [List.length_take]; omega
      have hX : ∀ x ∈ l.take (f + 1) ++ 10 :: Y, 0 ≤ x ∧ x ≤ 255 := rng_app (fun x hx => hr x (List.take_subset _ _ hx)) (fun x hx => by
        rcases List.mem_cons.1 hx with rfl | hx
        · decide
        · exact hy x hx)
      have hdot : bt l f = 46 := by
        obtain ⟨k', hk', hn'⟩ : ∃ k', k' ≤ l.length ∧ nx l k' = some (f, t) := by
          clear i3 i2 i1 hge hX hlt
          have key : ∀ (A : List (Nat × TR)) (k : Nat), k ≤ l.length → lx l k = A ++ (f, t) :: B → ∃ k', k' ≤ l.length ∧ nx l k' = some (f, t) := by
            intro A
            induction A with
            | nil =>
              intro k hk h
              cases hn : nx l k with
              | none => rw [lx_none hn] at h; cases h
              | some q =>
                obtain ⟨f1, t1⟩ := q
                rw [lx_some hk hr hn, List.nil_append] at h
                simp only [List.cons.injEq] at h
                exact ⟨k, hk, by rw [hn, h.1]⟩
            | cons a A ih =>
              intro k hk h
              cases hn : nx l k with
              | none => rw [lx_none hn] at h; cases h
              | some q =>
                obtain ⟨f1, t1⟩ := q
                obtain ⟨_, _, g3⟩ := nx_lim hk hr hn
                rw [lx_some hk hr hn, List.cons_append] at h
                simp only [List.cons.injEq] at h
                exact ih _ g3 h.2
          exact key A _ g3 h
        exact (nx_end hk' hr hn' h7).2.1
      have hA : Ag l (l.take (f + 1) ++ 10 :: Y) (f + 1) :=
        ⟨by omega, by omega, by rw [List.length_append, hlt]; omega, fun j hj => (bt_take_app (by omega) hj).symm, hdot⟩
      have hnX := nx_ag hr hA (k := k) (by omega) hn (by omega)
      refine ⟨i1, i2, ?_⟩
      rw [lx_some (by rw [List.length_append, hlt]; omega) hX hnX, i3]
      rfl

end Go.Proofs.YtimhcghjlknibaaDoor
