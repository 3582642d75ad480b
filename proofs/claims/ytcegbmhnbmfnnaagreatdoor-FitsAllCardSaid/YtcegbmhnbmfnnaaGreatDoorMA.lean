/- Texts laid one behind the other. -/
import Derived.Test.YtcegbmhnbmfnnaaGreatDoorM9
import Derived.Test.YtcegbmhnbmfnnaaGreatDoorM5

/- The plain mathematics of layer 7: the tokens of any bytes, and how they move. No walk here. -/
namespace Go.Proofs.YtcegbmhnbmfnnaaGreatDoor
open Go.RowKit

/-- A token as it is told: kind, from, to, text, code. -/
structure TK where
  k : Int
  f : Int
  t : Int
  s : ByteArray
  e : Int

def tkOf (p : Nat × TR) : TK := ⟨p.2.k, p.1, (p.1 + p.2.n : Nat), bstr p.2.t, p.2.e⟩

/-- The tokens behind k, with so much fuel. -/
def lxF : Nat → List Int → Nat → List (Nat × TR)
  | 0, _, _ => []
  | f + 1, l, k => match nx l k with
    | none => []
    | some (p, t) => (p, t) :: lxF f l (p + t.n)
/-- The tokens behind k. -/
def lx (l : List Int) (k : Nat) : List (Nat × TR) := lxF (l.length - k) l k

theorem nx_lim {l : List Int} {k f : Nat} {t : TR} (hk : k ≤ l.length) (hr : ∀ x ∈ l, 0 ≤ x ∧ x ≤ 255) (h : nx l k = some (f, t)) :
    k ≤ f ∧ 1 ≤ t.n ∧ f + t.n ≤ l.length := by
  obtain ⟨h1, h2, h3⟩ := nx_good hk hr h
  have h4 := h3.n1
  have h5 := h3.nl
  rw [List.length_drop] at h5
  exact ⟨by omega, h4, by omega⟩

theorem nx_last {l : List Int} : nx l l.length = none := by
  refine nx_none (n := 0) ?_ (by omega)
  rw [List.drop_length]; rfl

theorem lxF_same {l : List Int} (hr : ∀ x ∈ l, 0 ≤ x ∧ x ≤ 255) : ∀ (f g : Nat) (k : Nat), k ≤ l.length → l.length - k ≤ f → l.length - k ≤ g → lxF f l k = lxF g l k
  | 0, 0, _, _, _, _ => rfl
  | 0, g + 1, k, hk, h, _ => by
    have : k = l.length := by omega
    subst this
    rw [lxF, lxF, nx_last]
  | f + 1, 0, k, hk, _, h => by
    have : k = l.length := by omega
    subst this
    rw [lxF, lxF, nx_last]
  | f + 1, g + 1, k, hk, h, h' => by
    rw [lxF, lxF]
    cases hn : nx l k with
    | none => rfl
    | some p =>
      obtain ⟨q, t⟩ := p
      obtain ⟨h1, h2, h3⟩ := nx_lim hk hr hn
      show (q, t) :: _ = (q, t) :: _
      rw [lxF_same hr f g (q + t.n) h3 (by omega) (by omega)]

theorem lx_none {l : List Int} {k : Nat} (h : nx l k = none) : lx l k = [] := by
  unfold lx
  cases hf : l.length - k with
  | zero => rfl
  | succ f => rw [lxF, h]
theorem lx_some {l : List Int} {k f : Nat} {t : TR} (hk : k ≤ l.length) (hr : ∀ x ∈ l, 0 ≤ x ∧ x ≤ 255) (h : nx l k = some (f, t)) : lx l k = (f, t) :: lx l (f + t.n) := by
  obtain ⟨h1, h2, h3⟩ := nx_lim hk hr h
  unfold lx
  obtain ⟨g, hg⟩ : ∃ g, l.length - k = g + 1 := ⟨l.length - k - 1, by omega⟩
  rw [hg, lxF, h]
  show (f, t) :: _ = (f, t) :: _
  rw [lxF_same hr g (l.length - (f + t.n)) (f + t.n) h3 (by omega) (Nat.le_refl _)]
theorem lx_last {l : List Int} : lx l l.length = [] := lx_none nx_last
/-- The tokens hang on the first one and what is behind it. -/
theorem lx_same {l : List Int} {k j : Nat} (hk : k ≤ l.length) (hj : j ≤ l.length) (hr : ∀ x ∈ l, 0 ≤ x ∧ x ≤ 255) (h : nx l k = nx l j) : lx l k = lx l j := by
  cases hn : nx l j with
  | none => rw [lx_none hn, lx_none (h.trans hn)]
  | some p => obtain ⟨f, t⟩ := p; rw [lx_some hj hr hn, lx_some hk hr (h.trans hn)]

def shf (n : Nat) (p : Nat × TR) : Nat × TR := (n + p.1, p.2)

/-- By induction from the end on. -/
theorem by_end {N : Nat} {P : Nat → Prop} (h : ∀ k, k ≤ N → (∀ j, k < j → j ≤ N → P j) → P k) : ∀ k, k ≤ N → P k := by
  have : ∀ m k, k ≤ N → N - k ≤ m → P k := by
    intro m
    induction m with
    | zero => intro k hk hm; exact h k hk fun j h1 h2 => by omega
    | succ m ih => intro k hk hm; exact h k hk fun j h1 h2 => ih j h2 (by omega)
  exact fun k hk => this (N - k) k hk (Nat.le_refl _)

theorem nx_appk (X Y : List Int) (k : Nat) (hk : k ≤ Y.length) : nx (X ++ Y) (X.length + k) = (nx Y k).map (shf X.length) := by
  have hd : (X ++ Y).drop (X.length + k) = Y.drop k := by rw [← List.drop_drop, List.drop_left]
  obtain ⟨n, z, hs, hn, hz⟩ := sk_ways Y k hk
  have hs' : sk ((X ++ Y).drop (X.length + k)) = (n, z) := by rw [hd]; exact hs
  have hd2 : (X ++ Y).drop (X.length + k + n) = Y.drop (k + n) := by rw [Nat.add_assoc, ← List.drop_drop, List.drop_left]
  by_cases h0 : z = 0
  · subst h0
    by_cases he : k + n = Y.length
    · rw [nx_none hs' (by rw [List.length_append]; omega), nx_none hs he]; rfl
    · rw [nx_some hs' (by rw [List.length_append]; omega), nx_some hs he, hd2]
      simp [shf, Nat.add_assoc]
  · rw [nx_err hs' h0, nx_err hs h0, List.length_append]
    simp [shf, Nat.add_assoc]
    omega

theorem rng_app {X Y : List Int} (hx : ∀ x ∈ X, 0 ≤ x ∧ x ≤ 255) (hy : ∀ x ∈ Y, 0 ≤ x ∧ x ≤ 255) : ∀ x ∈ X ++ Y, 0 ≤ x ∧ x ≤ 255 := by
  intro x h
  rcases List.mem_append.1 h with h | h
  · exact hx x h
  · exact hy x h

theorem lx_app (X Y : List Int) (hr : ∀ x ∈ X ++ Y, 0 ≤ x ∧ x ≤ 255) : ∀ k, k ≤ Y.length → lx (X ++ Y) (X.length + k) = (lx Y k).map (shf X.length) := by
  refine by_end fun k hk ih => ?_
  have hy : ∀ x ∈ Y, 0 ≤ x ∧ x ≤ 255 := fun x hx => hr x (List.mem_append_right _ hx)
  have h := nx_appk X Y k hk
  cases hn : nx Y k with
  | none => rw [hn] at h; rw [lx_none h, lx_none hn]; rfl
  | some p =>
    obtain ⟨f, t⟩ := p
    obtain ⟨h1, h2, h3⟩ := nx_lim hk hy hn
    rw [hn] at h
    rw [lx_some (by rw [List.length_append]; omega) hr h, lx_some hk hy hn, List.map_cons]
    show _ = (X.length + f, t) :: _
    show (X.length + f, t) :: lx (X ++ Y) (X.length + f + t.n) = _
    rw [Nat.add_assoc, ih (f + t.n) (by omega) h3]

/-- What stands at k is layout: it may be left out. -/
theorem nx_lay {l : List Int} {k : Nat} (hk : k < l.length) (h : cls (bt l k) = 1) : nx l k = nx l (k + 1) := by
  have h1 := skAt_one hk h
  unfold skAt addN at h1
  rw [Prod.mk.injEq] at h1
  unfold nx
  rw [h1.1, h1.2]

/-- A byte that begins no layout: the token begins there. -/
theorem nx_here {l : List Int} {k : Nat} (hk : k < l.length) (h1 : cls (bt l k) ≠ 1) (h2 : bt l k ≠ 37) (h3 : pre2 47 42 (l.drop k) = false) : nx l k = some (k, firstT (l.drop k)) := by
  have h := skAt_else hk h1 h2 h3
  unfold skAt addN at h
  rw [Prod.mk.injEq] at h
  have : sk (l.drop k) = (0, 0) := by
    rw [Prod.ext_iff]; exact ⟨by have := h.1; simp only at this ⊢; omega, h.2⟩
  exact nx_some this (by omega)

/-- And the other way about. -/
theorem nx_where {l : List Int} {k f : Nat} {t : TR} (hk : k ≤ l.length) (h : nx l k = some (f, t)) (h8 : t.k ≠ 8) :
    f < l.length ∧ t = firstT (l.drop f) ∧ cls (bt l f) ≠ 1 ∧ bt l f ≠ 37 ∧ pre2 47 42 (l.drop f) = false := by
  obtain ⟨n, z, hs, hn, hz⟩ := sk_ways l k hk
  by_cases h0 : z = 0
  · subst h0
    by_cases he : k + n = l.length
    · rw [nx_none hs he] at h; cases h
    · rw [nx_some hs he] at h
      simp only [Option.some.injEq, Prod.mk.injEq] at h
      obtain ⟨rfl, rfl⟩ := h
      have h2 := (sk_ends (l.drop k)).2.2
      rw [hs] at h2
      simp only at h2
      rcases h2 with h2 | ⟨_, h2 | h2⟩
      · exact absurd h2.1 (by decide)
      · rw [List.length_drop] at h2; omega
      · obtain ⟨_, c1, c2, c3⟩ := h2
        rw [bt_drop] at c1 c2
        rw [List.drop_drop] at c3
        exact ⟨by omega, rfl, c1, c2, c3⟩
  · rw [nx_err hs h0] at h
    simp only [Option.some.injEq, Prod.mk.injEq] at h
    obtain ⟨rfl, rfl⟩ := h
    exact absurd rfl h8

/-! ### Names and runs, cut off, and with a blank behind them -/

theorem bt_take_app {l Z : List Int} {n j : Nat} (hn : n ≤ l.length) (hj : j < n) : bt (l.take n ++ Z) j = bt l j := by
  rw [bt_append_left _ _ _ (by rw [List.length_take]; omega), bt_take _ _ _ hj]

theorem seq_cut {l : List Int} (Z : List Int) (h : okSeq l = true) : okSeq (l.take (takeN l) ++ Z) = true ∧ takeN (l.take (takeN l) ++ Z) = takeN l :=
  okSeq_same h (by rw [List.length_append, List.length_take]; have := takeN_le l; omega) (fun j hj => bt_take_app (takeN_le l) hj)

theorem nmB_cut {l : List Int} (Z : List Int) (h : nmB l = true) : nmB (l.take (takeN l) ++ Z) = true ∧ takeN (l.take (takeN l) ++ Z) = takeN l := by
  obtain ⟨ho, hne⟩ := nmB_ok h
  have h1 := seq_cut Z ho
  have h3 := bt_take_app (l := l) (Z := Z) (takeN_le l) (takeN_pos hne)
  refine ⟨?_, h1.2⟩
  unfold nmB at h ⊢
  rw [h1.1, h1.2, h3]
  rw [ho] at h
  exact h

theorem nmL_cut (Z : List Int) (hz : nmB Z = false) (l : List Int) : nmL (l.take (nmL l) ++ Z) = nmL l := by
  induction hn : l.length using Nat.strongRecOn generalizing l with
  | _ n ih =>
    cases hb : nmB l with
    | false => rw [nmL_no hb, List.take_zero, List.nil_append, nmL_no hz]
    | true =>
      have h1 := takeN_pos (nmB_ok hb).2
      have h2 := takeN_le l
      have h3 := ih (l.drop (takeN l)).length (by rw [List.length_drop]; omega) _ rfl
      have h4 : l.take (nmL l) = l.take (takeN l) ++ (l.drop (takeN l)).take (nmL (l.drop (takeN l))) := by
        rw [nmL_yes hb, List.take_add]
      obtain ⟨h5, h6⟩ := nmB_cut ((l.drop (takeN l)).take (nmL (l.drop (takeN l))) ++ Z) hb
      rw [h4, List.append_assoc, nmL_yes h5, h6, List.drop_left' (by rw [List.length_take]; omega), h3]
      exact (nmL_yes hb).symm

theorem nmB_sp {d : Int} (hd : d = 32 ∨ d = 10) (Y : List Int) : nmB (d :: Y) = false := by
  have h := okSeq_low (l := d :: Y) (by simp) (by rw [bt_cons0]; omega)
  refine nmB_one h.2 ?_
  rw [bt_cons0]
  rcases hd with rfl | rfl <;> decide

theorem runL_sp {n d : Int} (hd : d = 32 ∨ d = 10) (hn : n ≠ 1) (Y : List Int) : runL n (d :: Y) = 0 := by
  rw [runL_zero (by simp), bt_cons0]
  have : cls d = 1 := by rcases hd with rfl | rfl <;> decide
  rw [this]; exact fun h => hn h.symm

theorem runL_cut {n d : Int} (hd : d = 32 ∨ d = 10) (hn : n ≠ 1) (l Y : List Int) : runL n (l.take (runL n l) ++ d :: Y) = runL n l := by
  have h1 := runL_le n l
  rw [runL_all n _ _ (fun x hx => by
    obtain ⟨j, hj, rfl⟩ := mem_bt hx
    rw [List.length_take] at hj
    rw [bt_take _ _ _ (by omega)]
    exact runL_cls n l j (by omega)) (runL_sp hd hn Y), List.length_take]
  omega

/-! ### What a blank stands behind hangs on nothing behind the blank -/

theorem bt_loc (v y y' : List Int) {j : Nat} (hj : j ≤ v.length) : bt (v ++ 32 :: y) j = bt (v ++ 32 :: y') j := by
  by_cases h : j < v.length
  · rw [bt_append_left _ _ _ h, bt_append_left _ _ _ h]
  · have : j = v.length := by omega
    subst this
    rw [bt_append_right _ _ _ (Nat.le_refl _), bt_append_right _ _ _ (Nat.le_refl _), Nat.sub_self]; rfl

theorem okSeq_loc (v y y' : List Int) (hv : v ≠ []) (h : okSeq (v ++ 32 :: y) = true) :
    takeN (v ++ 32 :: y) ≤ v.length ∧ okSeq (v ++ 32 :: y') = true ∧ takeN (v ++ 32 :: y') = takeN (v ++ 32 :: y) := by
  have h0 := List.length_pos_iff.2 hv
  have hle : takeN (v ++ 32 :: y) ≤ v.length := by
    apply Decidable.byContradiction
    intro hn
    have h1 := okSeq_high h (j := v.length) h0 (by omega)
    rw [bt_append_right _ _ _ (Nat.le_refl _), Nat.sub_self, bt_cons0] at h1
    omega
  have h2 := okSeq_same (l' := v ++ 32 :: y') h (by rw [List.length_append]; omega) (fun j hj => bt_loc v y' y (by omega))
  exact ⟨hle, h2.1, h2.2⟩

theorem nmB_loc (v y y' : List Int) (hv : v ≠ []) (h : nmB (v ++ 32 :: y) = true) :
    takeN (v ++ 32 :: y) ≤ v.length ∧ nmB (v ++ 32 :: y') = true ∧ takeN (v ++ 32 :: y') = takeN (v ++ 32 :: y) := by
  have ho := (nmB_ok h).1
  obtain ⟨h1, h2, h3⟩ := okSeq_loc v y y' hv ho
  refine ⟨h1, ?_, h3⟩
  unfold nmB at h ⊢
  rw [ho, bt_loc v y y' (Nat.zero_le _)] at h
  rw [h2, h3]
  exact h

theorem nmL_loc (y y' : List Int) (v : List Int) : nmL (v ++ 32 :: y) = nmL (v ++ 32 :: y') ∧ nmL (v ++ 32 :: y) ≤ v.length := by
  induction hn : v.length using Nat.strongRecOn generalizing v with
  | _ n ih =>
    by_cases hv : v = []
    · subst hv
      rw [List.nil_append, List.nil_append, nmL_no (nmB_sp (Or.inl rfl) y), nmL_no (nmB_sp (Or.inl rfl) y')]
      exact ⟨rfl, Nat.zero_le _⟩
    · cases hb : nmB (v ++ 32 :: y) with
      | false =>
        have hb' : nmB (v ++ 32 :: y') = false := by
          cases hc : nmB (v ++ 32 :: y') with
          | false => rfl
          | true => have := (nmB_loc v y' y hv hc).2.1; rw [hb] at this; cases this
        rw [nmL_no hb, nmL_no hb']
        exact ⟨rfl, Nat.zero_le _⟩
      | true =>
        obtain ⟨h1, h2, h3⟩ := nmB_loc v y y' hv hb
        have h4 := takeN_pos (nmB_ok hb).2
        have h5 := ih (v.drop (takeN (v ++ 32 :: y))).length (by rw [List.length_drop]; omega) _ rfl
        rw [List.length_drop] at h5
        rw [nmL_yes hb, nmL_yes h2, h3, List.drop_append_of_le_length h1, List.drop_append_of_le_length h1]
        omega

theorem runL_loc {n : Int} (hn : n ≠ 1) (y y' : List Int) : ∀ v : List Int, runL n (v ++ 32 :: y) = runL n (v ++ 32 :: y') ∧ runL n (v ++ 32 :: y) ≤ v.length
  | [] => by rw [List.nil_append, List.nil_append, runL_sp (Or.inl rfl) hn, runL_sp (Or.inl rfl) hn]; exact ⟨rfl, Nat.zero_le _⟩
  | c :: r => by
    have h := runL_loc hn y y' r
    rw [List.cons_append, List.cons_append, runL, runL, List.length_cons]
    split <;> omega

theorem firstT_loc (v y y' : List Int) (hv : v ≠ []) (h39 : bt v 0 ≠ 39) (hr : ∀ x ∈ v, 0 ≤ x ∧ x ≤ 255) : firstT (v ++ 32 :: y) = firstT (v ++ 32 :: y') ∧ (firstT (v ++ 32 :: y)).n ≤ v.length := by
  have h0 := List.length_pos_iff.2 hv
  have b0 : ∀ z : List Int, bt (v ++ 32 :: z) 0 = bt v 0 := fun z => bt_append_left _ _ _ h0
  have ht : ∀ (z : List Int) (n : Nat), n ≤ v.length → (v ++ 32 :: z).take n = v.take n := fun z n h => List.take_append_of_le_length h
  have hb := bt_rng hr 0
  have hc := cls_rng hb.1 hb.2
  have hN := nmL_loc y y' v
  obtain hk | hk | hk | hk | hk | hk | hk | hk : cls (bt v 0) = 2 ∨ cls (bt v 0) = 3 ∨ cls (bt v 0) = 9 ∨ cls (bt v 0) = 5 ∨ cls (bt v 0) = 4 ∨ cls (bt v 0) = 7 ∨ cls (bt v 0) = 6 ∨ (cls (bt v 0) = 0 ∨ cls (bt v 0) = 1 ∨ cls (bt v 0) = 8) := by omega
  · rw [firstT2 (by rw [b0]; exact hk), firstT2 (by rw [b0]; exact hk)]
    unfold nameT
    rw [← hN.1, ht y _ hN.2, ht y' _ hN.2]
    exact ⟨rfl, hN.2⟩
  · rw [firstT3 (by rw [b0]; exact hk), firstT3 (by rw [b0]; exact hk)]
    unfold nameT
    rw [← hN.1, ht y _ hN.2, ht y' _ hN.2]
    exact ⟨rfl, hN.2⟩
  · rw [firstT9 (by rw [b0]; exact hk), firstT9 (by rw [b0]; exact hk)]
    unfold highT nameT
    rw [← hN.1, ht y _ hN.2, ht y' _ hN.2]
    refine ⟨rfl, ?_⟩
    split
    · exact h0
    · exact hN.2
  · have hR := runL_loc (n := 5) (by decide) y y' v
    rw [firstT5 (by rw [b0]; exact hk), firstT5 (by rw [b0]; exact hk)]
    have hE : endT (v ++ 32 :: y) = endT (v ++ 32 :: y') := by
      unfold endT
      rw [← hR.1, b0, b0, bt_loc v y y' h0, List.length_append, List.length_append, List.length_cons, List.length_cons,
        decide_eq_false (by omega : ¬ v.length + (y.length + 1) = 1), decide_eq_false (by omega : ¬ v.length + (y'.length + 1) = 1)]
    unfold symT
    rw [hE, ← hR.1, ht y _ hR.2, ht y' _ hR.2]
    exact ⟨rfl, hR.2⟩
  · have hR := runL_loc (n := 4) (by decide) y y' v
    rw [firstT4 (by rw [b0]; exact hk), firstT4 (by rw [b0]; exact hk)]
    have hE : dkE (v ++ 32 :: y) = dkE (v ++ 32 :: y') := by
      unfold dkE dkBig
      rw [← hR.1, ht y _ hR.2, ht y' _ hR.2]
    unfold numT dkK
    rw [hE, ← hR.1, ht y _ hR.2, ht y' _ hR.2]
    refine ⟨rfl, ?_⟩
    split <;> exact hR.2
  · exact absurd ((cls7' hb.1 hb.2).1 hk) h39
  · rw [firstT6 (by rw [b0]; exact hk), firstT6 (by rw [b0]; exact hk), ht y 1 h0, ht y' 1 h0]
    exact ⟨rfl, h0⟩
  · rw [firstT0 (by rw [b0]; exact hk), firstT0 (by rw [b0]; exact hk)]
    exact ⟨rfl, h0⟩

/-- What stands behind a blank is lexed for itself, if no quote, percent or slash is ahead of it. -/
theorem lx_parts (u Y : List Int) (hu : ∀ c ∈ u, (0 ≤ c ∧ c ≤ 255) ∧ c ≠ 39 ∧ c ≠ 37 ∧ c ≠ 47) (hy : ∀ x ∈ Y, 0 ≤ x ∧ x ≤ 255) :
    ∀ k, k ≤ (u ++ [32]).length → lx (u ++ [32] ++ Y) k = lx (u ++ [32]) k ++ (lx Y 0).map (shf (u ++ [32]).length) := by
  have hX : ∀ x ∈ u ++ [32], 0 ≤ x ∧ x ≤ 255 := rng_app (fun x hx => (hu x hx).1) (by simp)
  have hA : ∀ x ∈ u ++ [32] ++ Y, 0 ≤ x ∧ x ≤ 255 := rng_app hX hy
  refine by_end fun k hk ih => ?_
  have hl1 : (u ++ [32]).length = u.length + 1 := by simp
  have hl2 : (u ++ [32] ++ Y).length = u.length + 1 + Y.length := by simp; omega
  by_cases hkl : k = (u ++ [32]).length
  · subst hkl
    have := lx_app (u ++ [32]) Y hA 0 (Nat.zero_le _)
    rw [Nat.add_zero] at this
    rw [this, lx_last, List.nil_append]
  have hlt : k < (u ++ [32]).length := by omega
  have hb : bt (u ++ [32] ++ Y) k = bt (u ++ [32]) k := bt_append_left _ _ _ hlt
  by_cases hc : cls (bt (u ++ [32]) k) = 1
  · rw [lx_same (j := k + 1) (by omega) (by omega) hA (nx_lay (by omega) (by rw [hb]; exact hc)), lx_same (j := k + 1) (by omega) (by omega) hX (nx_lay hlt hc)]
    exact ih (k + 1) (by omega) (by omega)
  · have hku : k < u.length := by
      apply Decidable.byContradiction
      intro hn
      have : k = u.length := by omega
      subst this
      rw [bt_append_right _ _ _ (Nat.le_refl _), Nat.sub_self, bt_cons0] at hc
      exact hc (by decide)
    have hbu : bt (u ++ [32]) k = bt u k := bt_append_left _ _ _ hku
    have hm := hu (bt u k) (bt_mem hku)
    have hd1 : (u ++ [32]).drop k = u.drop k ++ [32] := List.drop_append_of_le_length (by omega)
    have hd2 : (u ++ [32] ++ Y).drop k = u.drop k ++ 32 :: Y := by rw [List.append_assoc, List.drop_append_of_le_length (by omega)]; rfl
    have hp : ∀ l : List Int, bt l k = bt u k → pre2 47 42 (l.drop k) = false := by
      intro l hl
      cases hq : pre2 47 42 (l.drop k) with
      | false => rfl
      | true => have := (pre2_head hq).2.1; rw [hl] at this; exact absurd this hm.2.2.2
    have h1 := nx_here (l := u ++ [32]) hlt hc (by rw [hbu]; exact hm.2.2.1) (hp _ hbu)
    have h2 := nx_here (l := u ++ [32] ++ Y) (k := k) (by omega) (by rw [hb]; exact hc) (by rw [hb, hbu]; exact hm.2.2.1) (hp _ (hb.trans hbu))
    have hv : u.drop k ≠ [] := fun hn => by have := List.drop_eq_nil_iff.1 hn; omega
    obtain ⟨h3, h4⟩ := firstT_loc (u.drop k) Y [] hv (by rw [bt_drop, Nat.add_zero]; exact hm.2.1) (fun x hx => (hu x (List.drop_subset _ _ hx)).1)
    rw [List.length_drop] at h4
    rw [hd1, ← h3] at h1
    rw [hd2] at h2
    have h5 := (nx_lim (by omega) hX h1).2.1
    rw [lx_some (by omega) hA h2, lx_some (by omega) hX h1, ih _ (by omega) (by omega)]
    rfl

end Go.Proofs.YtcegbmhnbmfnnaaGreatDoor

/- More plain mathematics of layer 7: what a token is written as, and that it is lexed as it was. No walk here. -/
namespace Go.Proofs.YtcegbmhnbmfnnaaGreatDoor
open Go.RowKit

/-- What is told of a text within quotes may be put. -/
theorem qs_text (r : List Int) (hr : ∀ x ∈ r, 0 ≤ x ∧ x ≤ 255) (he : (qs r).e = 0) : okT (qs r).t ∧ (∀ x ∈ (qs r).t, 0 ≤ x ∧ x ≤ 255) ∧ (qs r).t.length ≤ (qs r).n := by
  induction hn : r.length using Nat.strongRecOn generalizing r with
  | _ n ih =>
    by_cases hg : qE r = -1
    · have hq := qs_go hg
      have hp := qN_pos hg
      have hl := qN_le hg
      rw [hq] at he ⊢
      simp only at he ⊢
      obtain ⟨i1, i2, i3⟩ := ih (r.drop (qN r)).length (by rw [List.length_drop]; omega) (r.drop (qN r)) (fun x hx => hr x (List.drop_subset _ _ hx)) he rfl
      have hne : r ≠ [] := by intro h; subst h; rw [qE_nil] at hg; omega
      have one : ∀ c : Int, 0 ≤ c → c ≤ 127 → good c → 1 ≤ qN r → qT r = [c] → okT (qT r ++ (qs (r.drop (qN r))).t) ∧ (∀ x ∈ qT r ++ (qs (r.drop (qN r))).t, 0 ≤ x ∧ x ≤ 255) ∧ (qT r ++ (qs (r.drop (qN r))).t).length ≤ qN r + (qs (r.drop (qN r))).n := by
        intro c c0 c1 c2 c3 c4
        rw [c4]
        exact ⟨(okT_low c1 c2).2 i1, rng_app (by simp; omega) i2, by rw [List.length_append]; simp; omega⟩
      by_cases h0 : bt r 0 = 39
      · refine one 39 (by decide) (by decide) ⟨Or.inl (by decide), by decide⟩ hp ?_
        unfold qT; rw [if_pos h0]
      by_cases h1 : bt r 0 = 92
      · by_cases h2 : bt r 1 = 110 ∨ bt r 1 = 92 ∨ bt r 1 = 39
        · have h3 := (qE_esc h1 h2).2.2
          rcases h2 with h2 | h2 | h2 <;> rw [h2] at h3
          · exact one 10 (by decide) (by decide) ⟨Or.inr rfl, by decide⟩ hp h3
          · exact one 92 (by decide) (by decide) ⟨Or.inl (by decide), by decide⟩ hp h3
          · exact one 39 (by decide) (by decide) ⟨Or.inl (by decide), by decide⟩ hp h3
        · rw [qE_noesc h1 h2] at hg; omega
      by_cases h2 : bt r 0 = 10
      · rw [qE_line h2] at hg; omega
      by_cases h3 : bt r 0 < 32 ∨ bt r 0 = 127
      · rw [qE_byte hne h2 h3] at hg; omega
      cases h4 : okSeq r with
      | false => rw [qE_bad (by omega) h0 h1 (by omega) h4] at hg; omega
      | true =>
        obtain ⟨_, h5, h6⟩ := qE_seq (by omega) h0 h1 (by omega) h4
        rw [h5] at i1 i2 i3
        rw [h6, h5]
        obtain ⟨h7, h8⟩ := seq_cut (qs (r.drop (takeN r))).t h4
        have h9 := bt_take_app (l := r) (Z := (qs (r.drop (takeN r))).t) (takeN_le r) (takeN_pos hne)
        refine ⟨(okT_seq h7 (by rw [h9]; omega) (by rw [h9]; omega)).2 ?_, rng_app (fun x hx => hr x (List.take_subset _ _ hx)) i2, by rw [List.length_append, List.length_take]; omega⟩
        rw [h8, List.drop_left' (by rw [List.length_take]; omega)]
        exact i1
    · by_cases h0 : qE r = 0
      · rw [qs_ok h0]
        exact ⟨okT_nil, by simp, by simp⟩
      · rw [qs_err rfl hg h0] at he
        exact absurd he h0

theorem tk_text (r : List Int) (hr : ∀ x ∈ r, 0 ≤ x ∧ x ≤ 255) (he : (tk r).e = 0) : okT (tk r).t ∧ (∀ x ∈ (tk r).t, 0 ≤ x ∧ x ≤ 255) ∧ (tk r).t.length ≤ (tk r).n := by
  by_cases h : bt r 0 = 39
  · unfold tk at he ⊢
    rw [if_pos h] at he ⊢
    simp only at he ⊢
    rw [if_pos he]
    obtain ⟨h1, h2, h3⟩ := qs_text (r.drop 1) (fun x hx => hr x (List.drop_subset _ _ hx)) he
    exact ⟨h1, h2, by omega⟩
  · rw [tk_none h] at he
    cases he

/-- A token's bytes; why there are none; what stands behind it. -/
def wrT (k : Int) (s : List Int) : List Int := if k = 5 then ptT s else s
def wrE (k : Int) (s : List Int) : Int := if k = 5 then ptE s else 0
def sepT (k : Int) : Int := if k = 7 then 10 else 32

theorem sepT_or (k : Int) : sepT k = 32 ∨ sepT k = 10 := by unfold sepT; split; exact Or.inr rfl; exact Or.inl rfl
theorem sepT_rng (k : Int) : 0 ≤ sepT k ∧ sepT k ≤ 255 := by rcases sepT_or k with h | h <;> rw [h] <;> decide
theorem sepT_lay (k : Int) : cls (sepT k) = 1 := by rcases sepT_or k with h | h <;> rw [h] <;> decide

/-- A token that is lexed as it was, if it is written with what stands behind it. -/
structure St (k : Int) (s : List Int) : Prop where
  e : wrE k s = 0
  k8 : k ≠ 8
  dot : ¬ (k = 2 ∧ s = [46])
  rng : ∀ x ∈ s, 0 ≤ x ∧ x ≤ 255
  nx : ∀ Y, nx (wrT k s ++ sepT k :: Y) 0 = some (0, ⟨k, (wrT k s).length, s, 0⟩)

theorem here0 {W Y : List Int} {d : Int} (hW : W ≠ []) (h1 : cls (bt W 0) ≠ 1) (h2 : bt W 0 ≠ 37) (h3 : bt W 0 = 47 → bt (W ++ d :: Y) 1 ≠ 42) : nx (W ++ d :: Y) 0 = some (0, firstT (W ++ d :: Y)) := by
  have h0 := List.length_pos_iff.2 hW
  have hb : bt (W ++ d :: Y) 0 = bt W 0 := bt_append_left _ _ _ h0
  have := nx_here (l := W ++ d :: Y) (k := 0) (by rw [List.length_append]; omega) (by rw [hb]; exact h1) (by rw [hb]; exact h2) (by
    rw [List.drop_zero]
    cases hq : pre2 47 42 (W ++ d :: Y) with
    | false => rfl
    | true =>
      have h4 := pre2_iff.1 hq
      exact absurd h4.2.2 (h3 (hb.symm.trans h4.2.1)))
  rwa [List.drop_zero] at this

/-- A name, and what stands behind it. -/
theorem st_name {r : List Int} {k : Int} (hk : k = 1 ∨ k = 3) (hr : ∀ x ∈ r, 0 ≤ x ∧ x ≤ 255) (hp : 0 < nmL r) (hc : (k = 3 ∧ cls (bt r 0) = 3) ∨ (k = 1 ∧ (cls (bt r 0) = 2 ∨ cls (bt r 0) = 9))) : St k (r.take (nmL r)) := by
  have hl := nmL_le r
  have hW : r.take (nmL r) ≠ [] := fun h => by have := congrArg List.length h; rw [List.length_take, List.length_nil] at this; omega
  have hb : bt (r.take (nmL r)) 0 = bt r 0 := bt_take _ _ _ hp
  have hwr : wrT k (r.take (nmL r)) = r.take (nmL r) := by unfold wrT; rw [if_neg (by omega)]
  have hsp : sepT k = 32 := by unfold sepT; rw [if_neg (by omega)]
  have hrb := bt_rng hr 0
  have hcc : cls (bt r 0) = 2 ∨ cls (bt r 0) = 3 ∨ cls (bt r 0) = 9 := by omega
  have h37 : bt r 0 ≠ 37 := fun h => by have := (cls37' hrb.1 hrb.2).2 h; omega
  have h47 : bt r 0 ≠ 47 := fun h => by rw [h, show cls 47 = 5 by decide] at hcc; omega
  refine ⟨by unfold wrE; rw [if_neg (by omega)], by omega, by omega, fun x hx => hr x (List.take_subset _ _ hx), fun Y => ?_⟩
  rw [hwr, hsp, here0 hW (by rw [hb]; omega) (by rw [hb]; exact h37) (fun h => absurd (hb.symm.trans h) h47)]
  have hn := nmL_cut (32 :: Y) (nmB_sp (Or.inl rfl) Y) r
  have hb' : bt (r.take (nmL r) ++ 32 :: Y) 0 = bt r 0 := bt_take_app hl hp
  have hlen : (r.take (nmL r)).length = nmL r := by rw [List.length_take]; omega
  have ht : (r.take (nmL r) ++ 32 :: Y).take (nmL r) = r.take (nmL r) := List.take_left' hlen
  rcases hc with ⟨rfl, hc⟩ | ⟨rfl, hc | hc⟩
  · rw [firstT3 (by rw [hb']; exact hc), nameT, hn, ht, hlen]
  · rw [firstT2 (by rw [hb']; exact hc), nameT, hn, ht, hlen]
  · rw [firstT9 (by rw [hb']; exact hc), highT, hn, if_neg (by omega), nameT, hn, ht, hlen]

theorem st_sym {r : List Int} (hr : ∀ x ∈ r, 0 ≤ x ∧ x ≤ 255) (h0 : 0 < r.length) (hc : cls (bt r 0) = 5) (hd : r.take (runL 5 r) ≠ [46]) (hpre : pre2 47 42 r = false) : St 2 (r.take (runL 5 r)) := by
  have hp := runL_pos h0 hc
  have hl := runL_le 5 r
  have hlen : (r.take (runL 5 r)).length = runL 5 r := by rw [List.length_take]; omega
  have hW : r.take (runL 5 r) ≠ [] := fun h => by rw [h, List.length_nil] at hlen; omega
  have hb : bt (r.take (runL 5 r)) 0 = bt r 0 := bt_take _ _ _ hp
  have hrb := bt_rng hr 0
  have h37 : bt r 0 ≠ 37 := fun h => by have := (cls37' hrb.1 hrb.2).2 h; omega
  refine ⟨rfl, by decide, fun h => hd h.2, fun x hx => hr x (List.take_subset _ _ hx), fun Y => ?_⟩
  rw [show wrT 2 (r.take (runL 5 r)) = r.take (runL 5 r) from rfl, show sepT 2 = 32 from rfl]
  rw [here0 hW (by rw [hb]; omega) (by rw [hb]; exact h37) (fun h => by
    rw [hb] at h
    by_cases h2 : 2 ≤ runL 5 r
    · rw [bt_take_app hl (by omega)]
      intro h3
      rw [pre2_iff.2 ⟨by omega, h, h3⟩] at hpre
      cases hpre
    · rw [bt_append_right _ _ _ (by omega), hlen, show 1 - runL 5 r = 0 by omega, bt_cons0]
      decide)]
  have hn := runL_cut (n := 5) (Or.inl rfl) (by decide) r Y
  have hb' : bt (r.take (runL 5 r) ++ 32 :: Y) 0 = bt r 0 := bt_take_app hl hp
  have ht : (r.take (runL 5 r) ++ 32 :: Y).take (runL 5 r) = r.take (runL 5 r) := List.take_left' hlen
  have he : endT (r.take (runL 5 r) ++ 32 :: Y) = false := endT_no (fun h => by
    rw [hn, hb'] at h
    exact hd ((take_dot hp hl).2 h))
  rw [firstT5 (by rw [hb']; exact hc), symT, he, hn, ht, hlen]
  rfl

theorem st_end : St 7 [46] := by
  refine ⟨rfl, by decide, by decide, by decide, fun Y => ?_⟩
  have hn : runL 5 ([46] ++ 10 :: Y) = 1 := by
    have := runL_all 5 [46] (10 :: Y) (by decide) (runL_sp (Or.inr rfl) (by decide) Y)
    exact this
  rw [show wrT 7 [46] = [46] from rfl, show sepT 7 = 10 from rfl, here0 (by decide) (by decide) (by decide) (fun h => absurd h (by decide)), firstT5 (l := [46] ++ 10 :: Y) (by rw [show bt ([46] ++ 10 :: Y) 0 = 46 from rfl]; decide)]
  have he : endT ([46] ++ 10 :: Y) = true := by
    unfold endT
    rw [hn]
    simp only [Bool.and_eq_true, Bool.or_eq_true, decide_eq_true_eq]
    exact ⟨trivial, rfl, Or.inr (Or.inl (by rw [show bt ([46] ++ 10 :: Y) 1 = 10 from rfl]; decide))⟩
  rw [symT, he, hn]
  rfl

theorem st_num {r : List Int} (hr : ∀ x ∈ r, 0 ≤ x ∧ x ≤ 255) (h0 : 0 < r.length) (hc : cls (bt r 0) = 4) (he : dkE r = 0) : St 4 (r.take (dkK r)) := by
  unfold dkK
  have hp := runL_pos h0 hc
  have hl := runL_le 4 r
  have hlen : (r.take (runL 4 r)).length = runL 4 r := by rw [List.length_take]; omega
  have hW : r.take (runL 4 r) ≠ [] := fun h => by rw [h, List.length_nil] at hlen; omega
  have hb : bt (r.take (runL 4 r)) 0 = bt r 0 := bt_take _ _ _ hp
  have hrb := bt_rng hr 0
  have h37 : bt r 0 ≠ 37 := fun h => by have := (cls37' hrb.1 hrb.2).2 h; omega
  have h47 : bt r 0 ≠ 47 := fun h => by rw [h, show cls 47 = 5 by decide] at hc; omega
  refine ⟨rfl, by decide, fun h => absurd h.1 (by decide), fun x hx => hr x (List.take_subset _ _ hx), fun Y => ?_⟩
  rw [show wrT 4 (r.take (runL 4 r)) = r.take (runL 4 r) from rfl, show sepT 4 = 32 from rfl]
  rw [here0 hW (by rw [hb]; omega) (by rw [hb]; exact h37) (fun h => absurd (hb.symm.trans h) h47)]
  have hn := runL_cut (n := 4) (Or.inl rfl) (by decide) r Y
  have hb' : bt (r.take (runL 4 r) ++ 32 :: Y) 0 = bt r 0 := bt_take_app hl hp
  have ht : (r.take (runL 4 r) ++ 32 :: Y).take (runL 4 r) = r.take (runL 4 r) := List.take_left' hlen
  have he' : dkE (r.take (runL 4 r) ++ 32 :: Y) = 0 := by
    unfold dkE dkBig at he ⊢
    rw [hn, ht]
    exact he
  rw [firstT4 (by rw [hb']; exact hc), numT, he', if_pos rfl, dkK, hn, ht, hlen]

theorem st_solo {r : List Int} (hr : ∀ x ∈ r, 0 ≤ x ∧ x ≤ 255) (h0 : 0 < r.length) (hc : cls (bt r 0) = 6) : St 6 (r.take 1) := by
  have hlen : (r.take 1).length = 1 := by rw [List.length_take]; omega
  have hW : r.take 1 ≠ [] := fun h => by rw [h, List.length_nil] at hlen; omega
  have hb : bt (r.take 1) 0 = bt r 0 := bt_take _ _ _ (by decide)
  have hrb := bt_rng hr 0
  have h37 : bt r 0 ≠ 37 := fun h => by have := (cls37' hrb.1 hrb.2).2 h; omega
  have h47 : bt r 0 ≠ 47 := fun h => by rw [h, show cls 47 = 5 by decide] at hc; omega
  refine ⟨rfl, by decide, fun h => absurd h.1 (by decide), fun x hx => hr x (List.take_subset _ _ hx), fun Y => ?_⟩
  rw [show wrT 6 (r.take 1) = r.take 1 from rfl, show sepT 6 = 32 from rfl]
  rw [here0 hW (by rw [hb]; omega) (by rw [hb]; exact h37) (fun h => absurd (hb.symm.trans h) h47)]
  have hb' : bt (r.take 1 ++ 32 :: Y) 0 = bt r 0 := bt_take_app (by omega) (by decide)
  rw [firstT6 (by rw [hb']; exact hc), List.take_left' hlen, hlen]

theorem st_quo {r : List Int} (hr : ∀ x ∈ r, 0 ≤ x ∧ x ≤ 255) (he : (tk r).e = 0) : St 5 (tk r).t := by
  obtain ⟨h1, h2, h3⟩ := tk_text r hr he
  obtain ⟨p1, p2⟩ := ptOk_yes h1
  refine ⟨by unfold wrE; rw [if_pos rfl]; exact p2, by decide, fun h => absurd h.1 (by decide), h2, fun Y => ?_⟩
  have hwr : wrT 5 (tk r).t = putL (tk r).t := by unfold wrT; rw [if_pos rfl]; exact p1
  rw [hwr, show sepT 5 = 32 from rfl]
  have hb : bt (putL (tk r).t) 0 = 39 := bt_cons0 _ _
  have hb' : bt (putL (tk r).t ++ 32 :: Y) 0 = 39 := bt_cons0 _ _
  rw [here0 (by unfold putL; simp) (by rw [hb]; decide) (by rw [hb]; decide) (fun h => by rw [hb] at h; exact absurd h (by decide))]
  have hp := tk_put h1 (32 :: Y) (by rw [bt_cons0]; decide)
  rw [firstT7 (by rw [hb']; decide), quoT, hp, if_pos rfl, putL_len]

/-- Each token that is not bad, and no dot that would come to be an end, is lexed as it was. -/
theorem st_of {l : List Int} {k f : Nat} {t : TR} (hk : k ≤ l.length) (hr : ∀ x ∈ l, 0 ≤ x ∧ x ≤ 255) (h : nx l k = some (f, t)) (h8 : t.k ≠ 8) (hd : ¬ (t.k = 2 ∧ t.t = [46])) : St t.k t.t := by
  obtain ⟨hf, h1, c1, c2, c3⟩ := nx_where hk h h8
  have hrr : ∀ x ∈ l.drop f, 0 ≤ x ∧ x ≤ 255 := fun x hx => hr x (List.drop_subset _ _ hx)
  have hb : bt (l.drop f) 0 = bt l f := by rw [bt_drop, Nat.add_zero]
  rw [← hb] at c1 c2
  have h0 : 0 < (l.drop f).length := by rw [List.length_drop]; omega
  clear h hb
  generalize l.drop f = r at *
  have hrb := bt_rng hrr 0
  have hc := cls_rng hrb.1 hrb.2
  have hne : r ≠ [] := List.length_pos_iff.1 h0
  obtain hk | hk | hk | hk | hk | hk | hk | hk : cls (bt r 0) = 2 ∨ cls (bt r 0) = 3 ∨ cls (bt r 0) = 9 ∨ cls (bt r 0) = 5 ∨ cls (bt r 0) = 4 ∨ cls (bt r 0) = 7 ∨ cls (bt r 0) = 6 ∨ (cls (bt r 0) = 0 ∨ cls (bt r 0) = 1 ∨ cls (bt r 0) = 8) := by omega
  · rw [firstT2 hk] at h1
    subst h1
    exact st_name (Or.inl rfl) hrr (nmL_pos (nmB_name hne hrr (nameB_of (Or.inl hk))).1) (Or.inr ⟨rfl, Or.inl hk⟩)
  · rw [firstT3 hk] at h1
    subst h1
    exact st_name (Or.inr rfl) hrr (nmL_pos (nmB_name hne hrr (nameB_of (Or.inr (Or.inl hk)))).1) (Or.inl ⟨rfl, hk⟩)
  · rw [firstT9 hk] at h1
    unfold highT at h1
    split at h1
    · subst h1; exact absurd rfl h8
    · subst h1
      exact st_name (Or.inl rfl) hrr (by omega) (Or.inr ⟨rfl, Or.inr hk⟩)
  · rw [firstT5 hk] at h1
    have hp := runL_pos h0 hk
    have hl := runL_le 5 r
    cases he : endT r with
    | true =>
      rw [symT, he, if_pos rfl] at h1
      subst h1
      unfold endT at he
      simp only [Bool.and_eq_true, Bool.or_eq_true, decide_eq_true_eq] at he
      show St 7 (r.take (runL 5 r))
      rw [(take_dot hp hl).2 ⟨he.1, he.2.1⟩]
      exact st_end
    | false =>
      rw [symT, he, if_neg (by decide)] at h1
      subst h1
      exact st_sym hrr h0 hk (fun h => hd ⟨rfl, h⟩) c3
  · rw [firstT4 hk] at h1
    unfold numT at h1
    split at h1
    · rename_i he
      subst h1
      exact st_num hrr h0 hk he
    · subst h1; exact absurd rfl h8
  · rw [firstT7 hk] at h1
    unfold quoT at h1
    split at h1
    · rename_i he
      subst h1
      exact st_quo hrr he
    · subst h1; exact absurd rfl h8
  · rw [firstT6 hk] at h1
    subst h1
    exact st_solo hrr h0 hk
  · rw [firstT0 hk] at h1
    subst h1; exact absurd rfl h8

/-- A bad token says nothing; how long a text is, at most. -/
theorem nx_text {l : List Int} {k f : Nat} {t : TR} (hk : k ≤ l.length) (hr : ∀ x ∈ l, 0 ≤ x ∧ x ≤ 255) (h : nx l k = some (f, t)) : (∀ x ∈ t.t, 0 ≤ x ∧ x ≤ 255) ∧ t.t.length ≤ t.n := by
  obtain ⟨_, _, hg⟩ := nx_good hk hr h
  by_cases h8 : t.k = 8
  · rw [hg.bad h8]; exact ⟨by simp, Nat.zero_le _⟩
  · obtain ⟨hf, h1, c1, c2, c3⟩ := nx_where hk h h8
    have hrr : ∀ x ∈ l.drop f, 0 ≤ x ∧ x ≤ 255 := fun x hx => hr x (List.drop_subset _ _ hx)
    by_cases h5 : t.k = 5
    · have h7 : cls (bt (l.drop f) 0) = 7 := (nx_runs hk hr h).k5 h5 |>.1
      rw [firstT7 h7] at h1
      unfold quoT at h1
      split at h1
      · rename_i he
        subst h1
        exact (tk_text _ hrr he).2
      · subst h1; exact absurd rfl h8
    · rw [hg.says h8 h5]
      exact ⟨fun x hx => hrr x (List.take_subset _ _ hx), by rw [List.length_take]; omega⟩

end Go.Proofs.YtcegbmhnbmfnnaaGreatDoor

/- Tokens joined: the bytes, and what they are lexed to; no walk here. -/
namespace Go.Proofs.YtcegbmhnbmfnnaaGreatDoor
open Go.RowKit

/-- The numbers of a string's bytes. -/
def sb (s : ByteArray) : List Int := s.toList.map fun b => (b.toNat : Int)

theorem sb_rng (s : ByteArray) : ∀ x ∈ sb s, 0 ≤ x ∧ x ≤ 255 := by
  intro x hx
  obtain ⟨b, _, rfl⟩ := List.mem_map.1 hx
  have := b.toNat_lt
  omega
theorem toList_inj {s t : ByteArray} (h : s.toList = t.toList) : s = t := by
  rw [ByteArray.toList_eq, ByteArray.toList_eq] at h
  apply ByteArray.ext
  exact Array.toList_inj.1 h
theorem bstr_sb (s : ByteArray) : bstr (sb s) = s := by
  apply toList_inj
  rw [bstr_toList, sb, List.map_map]
  have : (fun b : UInt8 => UInt8.ofNat ((b.toNat : Int)).toNat) = id := by funext b; simp
  show s.toList.map (fun b : UInt8 => UInt8.ofNat ((b.toNat : Int)).toNat) = _
  rw [this, List.map_id]
theorem sb_bstr {l : List Int} (h : ∀ x ∈ l, 0 ≤ x ∧ x ≤ 255) : sb (bstr l) = l := by
  unfold sb
  rw [bstr_toList, List.map_map]
  have : l.map (fun x => x) = l := List.map_id' l
  conv => rhs; rw [← this]
  exact List.map_congr_left fun x hx => u8_back (h x hx)

/-- The tokens' bytes. -/
def jb : List TK → List Int
  | [] => []
  | t :: L => wrT t.k (sb t.s) ++ sepT t.k :: jb L
/-- All of them may be written. -/
def jp : List TK → Bool
  | [] => true
  | t :: L => decide (wrE t.k (sb t.s) = 0) && jp L
/-- Of the same kinds and texts, and none bad. -/
def alike : List TK → List TK → Bool
  | [], [] => true
  | a :: A, b :: B => (a.k == b.k && (a.s.toList == b.s.toList && a.k != 8)) && alike A B
  | _, _ => false
/-- All tokens. -/
def toks (l : List Int) : List TK := (lx l 0).map tkOf
def jOk (L : List TK) : Bool := jp L && alike (toks (jb L)) L
/-- What Join tells. -/
def jnT (L : List TK) : List Int := if jOk L then jb L else []
def jnE (L : List TK) : Int := if jOk L then 0 else 1

def kt (t : TK) : Int × List UInt8 := (t.k, t.s.toList)

theorem alike_iff : ∀ A B : List TK, alike A B = true ↔ A.map kt = B.map kt ∧ ∀ a ∈ A, a.k ≠ 8
  | [], [] => by simp [alike]
  | [], b :: B => by simp [alike]
  | a :: A, [] => by simp [alike]
  | a :: A, b :: B => by
    simp only [alike, Bool.and_eq_true, alike_iff A B, List.map_cons, List.cons.injEq, List.mem_cons, beq_iff_eq, bne_iff_ne, kt, Prod.mk.injEq]
    constructor
    · rintro ⟨⟨h1, h2, h3⟩, h4, h5⟩
      exact ⟨⟨⟨h1, h2⟩, h4⟩, fun x hx => by rcases hx with rfl | hx; exact h3; exact h5 x hx⟩
    · rintro ⟨⟨⟨h1, h2⟩, h4⟩, h5⟩
      exact ⟨⟨h1, h2, h5 a (Or.inl rfl)⟩, h4, fun x hx => h5 x (Or.inr hx)⟩

theorem kt_s {t u : TK} (h : kt t = kt u) : t.k = u.k ∧ sb t.s = sb u.s := by
  unfold kt at h
  rw [Prod.mk.injEq] at h
  exact ⟨h.1, by unfold sb; rw [h.2]⟩

/-- The bytes hang on kinds and texts alone. -/
theorem jb_same : ∀ {A B : List TK}, A.map kt = B.map kt → jb A = jb B ∧ jp A = jp B
  | [], [], _ => ⟨rfl, rfl⟩
  | [], _ :: _, h => by simp at h
  | _ :: _, [], h => by simp at h
  | a :: A, b :: B, h => by
    rw [List.map_cons, List.map_cons, List.cons.injEq] at h
    obtain ⟨h1, h2⟩ := kt_s h.1
    obtain ⟨h3, h4⟩ := jb_same h.2
    unfold jb jp
    rw [h1, h2, h3, h4]
    exact ⟨rfl, rfl⟩
theorem jOk_same {A B : List TK} (h : A.map kt = B.map kt) : jOk A = jOk B := by
  obtain ⟨h1, h2⟩ := jb_same h
  unfold jOk
  rw [h1, h2]
  congr 1
  rw [Bool.eq_iff_iff, alike_iff, alike_iff, h]

theorem jb_append : ∀ A B : List TK, jb (A ++ B) = jb A ++ jb B
  | [], B => rfl
  | a :: A, B => by rw [List.cons_append, jb, jb, jb_append A B]; simp
theorem jp_append : ∀ A B : List TK, jp (A ++ B) = (jp A && jp B)
  | [], B => by simp [jp]
  | a :: A, B => by rw [List.cons_append, jp, jp, jp_append A B, Bool.and_assoc]

theorem wrT_rng (k : Int) {s : List Int} (h : ∀ x ∈ s, 0 ≤ x ∧ x ≤ 255) : ∀ x ∈ wrT k s, 0 ≤ x ∧ x ≤ 255 := by
  unfold wrT
  split
  · by_cases ho : okT s
    · rw [(ptOk_yes ho).1]
      unfold putL
      exact rng_app (X := [39]) (by decide) (rng_app (escL_rng h) (by decide))
    · rw [(ptOk_no ho).1]; simp
  · exact h
theorem wrT_len (k : Int) (s : List Int) : (wrT k s).length ≤ 2 * s.length + 2 := by
  unfold wrT
  split
  · by_cases ho : okT s
    · rw [(ptOk_yes ho).1, putL_len]
      have := escL_len s
      omega
    · rw [(ptOk_no ho).1]; simp
  · omega
theorem jb_rng : ∀ L : List TK, ∀ x ∈ jb L, 0 ≤ x ∧ x ≤ 255
  | [] => by simp [jb]
  | t :: L => by
    rw [jb]
    exact rng_app (wrT_rng _ (sb_rng _)) (rng_app (X := [sepT t.k]) (by simpa using sepT_rng t.k) (jb_rng L))

/-- How many bytes that may be, at most. -/
def wsz : List TK → Nat
  | [] => 0
  | t :: L => (2 * (sb t.s).length + 3) + wsz L
theorem jb_len : ∀ L : List TK, (jb L).length ≤ wsz L
  | [] => Nat.le_refl _
  | t :: L => by
    have h1 := wrT_len t.k (sb t.s)
    have h2 := jb_len L
    rw [jb, wsz, List.length_append, List.length_cons]
    omega
theorem wsz_append : ∀ A B : List TK, wsz (A ++ B) = wsz A + wsz B
  | [], B => by simp [wsz]
  | a :: A, B => by rw [List.cons_append, wsz, wsz, wsz_append A B]; omega
theorem wsz_len : ∀ L : List TK, L.length ≤ wsz L
  | [] => Nat.le_refl _
  | t :: L => by have := wsz_len L; rw [wsz, List.length_cons]; omega
theorem wsz_le (n : Nat) : ∀ L : List TK, (∀ t ∈ L, (sb t.s).length ≤ n) → wsz L ≤ L.length * (2 * n + 3)
  | [], _ => by simp [wsz]
  | t :: L, h => by
    have h1 := wsz_le n L fun x hx => h x (List.mem_cons_of_mem _ hx)
    have h2 := h t (List.mem_cons_self ..)
    rw [wsz, List.length_cons, Nat.add_mul]
    omega
theorem wsz_mem : ∀ (L : List TK) (t : TK), t ∈ L → 2 * (sb t.s).length + 3 ≤ wsz L
  | [], _, h => by cases h
  | u :: L, t, h => by
    rw [wsz]
    rcases List.mem_cons.1 h with rfl | h
    · omega
    · have := wsz_mem L t h; omega
theorem wsz_same : ∀ {A B : List TK}, A.map kt = B.map kt → wsz A = wsz B
  | [], [], _ => rfl
  | [], _ :: _, h => by simp at h
  | _ :: _, [], h => by simp at h
  | a :: A, b :: B, h => by
    rw [List.map_cons, List.map_cons, List.cons.injEq] at h
    rw [wsz, wsz, (kt_s h.1).2, wsz_same h.2]

/-- What a token is, that any bytes are lexed to. -/
structure LT (l : List Int) (p : Nat × TR) : Prop where
  lim : p.1 + p.2.n ≤ l.length
  n1 : 1 ≤ p.2.n
  rng : ∀ x ∈ p.2.t, 0 ≤ x ∧ x ≤ 255
  len : p.2.t.length ≤ p.2.n
  st : p.2.k ≠ 8 → ¬ (p.2.k = 2 ∧ p.2.t = [46]) → St p.2.k p.2.t

theorem lx_all {l : List Int} (hr : ∀ x ∈ l, 0 ≤ x ∧ x ≤ 255) : ∀ k, k ≤ l.length → (∀ p ∈ lx l k, LT l p) ∧ (lx l k).length ≤ l.length - k := by
  refine by_end fun k hk ih => ?_
  cases hn : nx l k with
  | none => rw [lx_none hn]; exact ⟨by simp, Nat.zero_le _⟩
  | some p =>
    obtain ⟨f, t⟩ := p
    obtain ⟨h1, h2, h3⟩ := nx_lim hk hr hn
    obtain ⟨i1, i2⟩ := ih (f + t.n) (by omega) h3
    obtain ⟨t1, t2⟩ := nx_text hk hr hn
    rw [lx_some hk hr hn]
    refine ⟨fun q hq => ?_, by rw [List.length_cons]; omega⟩
    rcases List.mem_cons.1 hq with rfl | hq
    · exact ⟨h3, h2, t1, t2, st_of hk hr hn⟩
    · exact i1 q hq

/-- A token of a row that is lexed as it was. -/
def Sg (t : TK) : Prop := St t.k (sb t.s)
/-- Or it is bad, or a dot that would come to be an end. -/
def FL (t : TK) : Prop := t.k = 8 ∨ (t.k = 2 ∧ sb t.s = [46]) ∨ Sg t

theorem toks_fl {l : List Int} (hr : ∀ x ∈ l, 0 ≤ x ∧ x ≤ 255) : (∀ t ∈ toks l, FL t ∧ (sb t.s).length ≤ l.length) ∧ (toks l).length ≤ l.length := by
  obtain ⟨h1, h2⟩ := lx_all hr 0 (Nat.zero_le _)
  refine ⟨fun t ht => ?_, by unfold toks; rw [List.length_map]; omega⟩
  obtain ⟨p, hp, rfl⟩ := List.mem_map.1 ht
  have h := h1 p hp
  have hs : sb (tkOf p).s = p.2.t := sb_bstr h.rng
  refine ⟨?_, by rw [hs]; have := h.len; have := h.lim; omega⟩
  unfold FL Sg
  rw [hs]
  by_cases h8 : p.2.k = 8
  · exact Or.inl h8
  · by_cases hd : p.2.k = 2 ∧ p.2.t = [46]
    · exact Or.inr (Or.inl hd)
    · exact Or.inr (Or.inr (h.st h8 hd))

theorem toks_wsz {l : List Int} (hr : ∀ x ∈ l, 0 ≤ x ∧ x ≤ 255) : wsz (toks l) ≤ l.length * (2 * l.length + 3) := by
  obtain ⟨h1, h2⟩ := toks_fl hr
  exact Nat.le_trans (wsz_le l.length _ fun t ht => (h1 t ht).2) (Nat.mul_le_mul_right _ h2)

def ktP (p : Nat × TR) : Int × List UInt8 := kt (tkOf p)
theorem kt_toks (l : List Int) : (toks l).map kt = (lx l 0).map ktP := by unfold toks; rw [List.map_map]; rfl
theorem ktP_shf (n : Nat) (L : List (Nat × TR)) : (L.map (shf n)).map ktP = L.map ktP := by rw [List.map_map]; rfl

/-- A blank ahead matters to nothing. -/
theorem lx_lay {d : Int} (hd : 0 ≤ d ∧ d ≤ 255) (hc : cls d = 1) {R : List Int} (hr : ∀ x ∈ R, 0 ≤ x ∧ x ≤ 255) : (lx (d :: R) 0).map ktP = (lx R 0).map ktP := by
  have hA : ∀ x ∈ d :: R, 0 ≤ x ∧ x ≤ 255 := rng_app (X := [d]) (by simpa using hd) hr
  rw [lx_same (l := d :: R) (k := 0) (j := 1) (Nat.zero_le _) (by simp) hA (nx_lay (by simp) (by rw [bt_cons0]; exact hc))]
  have := lx_app [d] R hA 0 (Nat.zero_le _)
  rw [show lx (d :: R) 1 = _ from this, ktP_shf]

/-- What was joined is lexed as it was. -/
theorem lx_jb : ∀ (L : List TK) (Y : List Int), (∀ x ∈ Y, 0 ≤ x ∧ x ≤ 255) → (∀ t ∈ L, Sg t) → (lx (jb L ++ Y) 0).map ktP = L.map kt ++ (lx Y 0).map ktP
  | [], Y, _, _ => rfl
  | t :: L, Y, hy, h => by
    have hs := h t (List.mem_cons_self ..)
    have ih := lx_jb L Y hy fun x hx => h x (List.mem_cons_of_mem _ hx)
    have hR : ∀ x ∈ jb L ++ Y, 0 ≤ x ∧ x ≤ 255 := rng_app (jb_rng L) hy
    have hS : ∀ x ∈ sepT t.k :: (jb L ++ Y), 0 ≤ x ∧ x ≤ 255 := rng_app (X := [sepT t.k]) (by simpa using sepT_rng t.k) hR
    have hA : ∀ x ∈ wrT t.k (sb t.s) ++ sepT t.k :: (jb L ++ Y), 0 ≤ x ∧ x ≤ 255 := rng_app (wrT_rng _ (sb_rng _)) hS
    rw [jb, show wrT t.k (sb t.s) ++ sepT t.k :: jb L ++ Y = wrT t.k (sb t.s) ++ sepT t.k :: (jb L ++ Y) by simp]
    rw [lx_some (Nat.zero_le _) hA (hs.nx _), List.map_cons, List.map_cons]
    have h1 := lx_app (wrT t.k (sb t.s)) (sepT t.k :: (jb L ++ Y)) hA 0 (Nat.zero_le _)
    rw [Nat.add_zero] at h1
    show _ :: (lx _ (0 + (wrT t.k (sb t.s)).length)).map ktP = _
    rw [Nat.zero_add, h1, ktP_shf, lx_lay (sepT_rng _) (sepT_lay _) hR, ih]
    rw [show ktP (0, ⟨t.k, (wrT t.k (sb t.s)).length, sb t.s, 0⟩) = kt t by unfold ktP kt tkOf; rw [bstr_sb]]
    rfl

theorem jp_good : ∀ L : List TK, (∀ t ∈ L, Sg t) → jp L = true
  | [], _ => rfl
  | t :: L, h => by
    rw [jp, jp_good L fun x hx => h x (List.mem_cons_of_mem _ hx), decide_eq_true (h t (List.mem_cons_self ..)).e]; rfl

theorem kt_jb (L : List TK) (h : ∀ t ∈ L, Sg t) : (toks (jb L)).map kt = L.map kt := by
  have := lx_jb L [] (by simp) h
  rw [List.append_nil, show lx [] 0 = [] from rfl, List.map_nil, List.append_nil] at this
  rw [kt_toks, this]

theorem kt_k8 {A B : List TK} (h : A.map kt = B.map kt) (hb : ∀ b ∈ B, b.k ≠ 8) : ∀ a ∈ A, a.k ≠ 8 := by
  intro a ha
  have : kt a ∈ B.map kt := h ▸ List.mem_map_of_mem ha
  obtain ⟨b, hb', he⟩ := List.mem_map.1 this
  rw [← (kt_s he).1]; exact hb b hb'

theorem jOk_good (L : List TK) (h : ∀ t ∈ L, Sg t) : jOk L = true := by
  unfold jOk
  rw [jp_good L h, Bool.true_and, alike_iff]
  exact ⟨kt_jb L h, kt_k8 (kt_jb L h) fun b hb => (h b hb).k8⟩

/-- The first one that is not lexed as it was. -/
theorem first_bad : ∀ L : List TK, (∀ t ∈ L, FL t) → (∀ t ∈ L, Sg t) ∨ ∃ G b R, L = G ++ b :: R ∧ (∀ t ∈ G, Sg t) ∧ (b.k = 8 ∨ (b.k = 2 ∧ sb b.s = [46]))
  | [], _ => Or.inl (by simp)
  | t :: L, h => by
    have ht := h t (List.mem_cons_self ..)
    rcases ht with ht | ht | ht
    · exact Or.inr ⟨[], t, L, rfl, by simp, Or.inl ht⟩
    · exact Or.inr ⟨[], t, L, rfl, by simp, Or.inr ht⟩
    · rcases first_bad L fun x hx => h x (List.mem_cons_of_mem _ hx) with h1 | ⟨G, b, R, rfl, h2, h3⟩
      · exact Or.inl fun x hx => by rcases List.mem_cons.1 hx with rfl | hx; exact ht; exact h1 x hx
      · exact Or.inr ⟨t :: G, b, R, rfl, fun x hx => by rcases List.mem_cons.1 hx with rfl | hx; exact ht; exact h2 x hx, h3⟩

theorem jOk_bad (G R : List TK) (b : TK) (h : ∀ t ∈ G, Sg t) (hb : b.k = 8 ∨ (b.k = 2 ∧ sb b.s = [46])) : jOk (G ++ b :: R) = false := by
  unfold jOk
  cases ha : alike (toks (jb (G ++ b :: R))) (G ++ b :: R) with
  | false => rw [Bool.and_false]
  | true =>
    exfalso
    obtain ⟨h1, h2⟩ := (alike_iff _ _).1 ha
    rcases hb with hb | ⟨hb, hs⟩
    · have : ∃ a ∈ toks (jb (G ++ b :: R)), kt a = kt b := by
        have hm : kt b ∈ (toks (jb (G ++ b :: R))).map kt := by rw [h1]; exact List.mem_map_of_mem (by simp)
        obtain ⟨a, h3, h4⟩ := List.mem_map.1 hm
        exact ⟨a, h3, h4⟩
      obtain ⟨a, h3, h4⟩ := this
      exact h2 a h3 ((kt_s h4).1.trans hb)
    · have hY : jb (G ++ b :: R) = jb G ++ ([46] ++ 32 :: jb R) := by
        rw [jb_append, jb, hb, hs]; rfl
      have hr : ∀ x ∈ [46] ++ 32 :: jb R, 0 ≤ x ∧ x ≤ 255 := rng_app (by decide) (rng_app (X := [32]) (by decide) (jb_rng R))
      rw [kt_toks, hY, lx_jb G _ hr h, List.map_append, List.map_cons] at h1
      have h3 := List.append_cancel_left h1
      have hn : runL 5 ([46] ++ 32 :: jb R) = 1 := runL_all 5 [46] (32 :: jb R) (by decide) (runL_sp (Or.inl rfl) (by decide) _)
      have he : endT ([46] ++ 32 :: jb R) = true := by
        unfold endT
        rw [hn]
        simp only [Bool.and_eq_true, Bool.or_eq_true, decide_eq_true_eq]
        exact ⟨trivial, rfl, Or.inr (Or.inl (by rw [show bt ([46] ++ 32 :: jb R) 1 = 32 from rfl]; decide))⟩
      have h4 := here0 (W := [46]) (d := 32) (Y := jb R) (by decide) (by decide) (by decide) (fun h => absurd h (by decide))
      rw [firstT5 (l := [46] ++ 32 :: jb R) (by rw [show bt ([46] ++ 32 :: jb R) 0 = 46 from rfl]; decide), symT, he, hn] at h4
      rw [lx_some (Nat.zero_le _) hr h4, List.map_cons, List.cons.injEq] at h3
      have h5 := congrArg Prod.fst h3.1
      rw [show (kt b).1 = b.k from rfl, hb] at h5
      exact absurd (show (7 : Int) = 2 from h5) (by decide)

end Go.Proofs.YtcegbmhnbmfnnaaGreatDoor

/- Rows of tokens: what the walks are told of a slice of tokens, and what an append onto a row of the call's own makes. -/
namespace Go.Proofs.YtcegbmhnbmfnnaaGreatDoor
open Go.RowKit

def cellsT (t : TK) : List Value := [.int .i64 t.k, .int .i64 t.f, .int .i64 t.t, .string t.s, .int .i64 t.e]
def rowT : List TK → List Value
  | [] => []
  | t :: L => cellsT t ++ rowT L
/-- The token at j. -/
def tat (L : List TK) (j : Nat) : TK := L.getD j ⟨0, 0, 0, ⟨#[]⟩, 0⟩

theorem rowT_len : ∀ L : List TK, (rowT L).length = L.length * 5
  | [] => rfl
  | t :: L => by rw [rowT, List.length_append, rowT_len L, List.length_cons]; simp [cellsT]; omega
theorem rowT_append : ∀ A B : List TK, rowT (A ++ B) = rowT A ++ rowT B
  | [], B => rfl
  | a :: A, B => by rw [List.cons_append, rowT, rowT, rowT_append A B, List.append_assoc]
theorem rowT_at : ∀ (L : List TK) (j i : Nat), i < 5 → j < L.length → (rowT L)[j * 5 + i]? = (cellsT (tat L j))[i]?
  | [], j, i, _, h => by simp at h
  | t :: L, 0, i, hi, _ => by
    rw [rowT, Nat.zero_mul, Nat.zero_add, List.getElem?_append_left (by simpa [cellsT] using hi)]; rfl
  | t :: L, j + 1, i, hi, h => by
    rw [rowT, List.getElem?_append_right (by simp [cellsT]; omega), show (j + 1) * 5 + i - (cellsT t).length = j * 5 + i by simp [cellsT]; omega,
      rowT_at L j i hi (by simpa using h)]
    rfl
theorem rowT_one (L : List TK) : ∀ u ∈ rowT L, u.oneCell' = true := by
  induction L with
  | nil => simp [rowT]
  | cons t L ih =>
    intro u hu
    rw [rowT] at hu
    rcases List.mem_append.1 hu with hu | hu
    · simp only [cellsT, List.mem_cons, List.not_mem_nil, or_false] at hu
      rcases hu with rfl | rfl | rfl | rfl | rfl <;> rfl
    · exact ih u hu
theorem tat_append_left {A B : List TK} {j : Nat} (h : j < A.length) : tat (A ++ B) j = tat A j := by
  unfold tat; simp [List.getD, List.getElem?_append_left h]
theorem tat_mem {L : List TK} {j : Nat} (h : j < L.length) : tat L j ∈ L := by
  unfold tat; rw [show L.getD j _ = L[j] by simp [List.getD, h]]; exact List.getElem_mem h
theorem tat_drop {L : List TK} {j : Nat} (h : j < L.length) : L.drop j = tat L j :: L.drop (j + 1) := by
  rw [List.drop_eq_getElem_cons h]; unfold tat; simp [List.getD, h]
theorem tat_take {L : List TK} {j : Nat} (h : j < L.length) : L.take (j + 1) = L.take j ++ [tat L j] := by
  rw [List.take_add_one]; unfold tat; simp [List.getD, h]

/-- The slice value (a, len, cap) reads, in the world w, as the tokens L. -/
structure Ts (w : World) (a : Option Addr) (len cap : Nat) (L : List TK) : Prop where
  hl : L.length = len
  lc : len ≤ cap
  cm : cap ≤ maxLen
  at_ : 0 < len → ∃ b off, a = some ⟨b, off, none⟩ ∧ b < w.heap.size ∧ ∀ j, j < len → ∀ i, i < 5 → w.cell? ⟨b, off + (j * 5 + i), none⟩ = (cellsT (tat L j))[i]?

theorem Ts.keep {w w' : World} {a : Option Addr} {len cap : Nat} {L : List TK} (h : Ts w a len cap L) (hs : w.heap.size ≤ w'.heap.size)
    (hk : ∀ x, x.block < w.heap.size → w'.cell? x = w.cell? x) : Ts w' a len cap L :=
  ⟨h.hl, h.lc, h.cm, fun h0 => by
    obtain ⟨b, off, ha, hb, hc⟩ := h.at_ h0
    exact ⟨b, off, ha, by omega, fun j hj i hi => (hk _ hb).trans (hc j hj i hi)⟩⟩
theorem Ts.below {w w' : World} {a : Option Addr} {len cap : Nat} {L : List TK} (h : Ts w a len cap L) (hb : Below w.heap.size w w') : Ts w' a len cap L :=
  h.keep hb.size fun _ hx => hb.cell hx
theorem Ts.alloc {w : World} {a : Option Addr} {len cap : Nat} {L : List TK} (h : Ts w a len cap L) (o : Obj) : Ts (w.alloc o) a len cap L := h.below ((Below.refl _ _).alloc (Nat.le_refl _) o)
theorem Ts.nil (w : World) (a : Option Addr) (cap : Nat) (h : cap ≤ maxLen) : Ts w a 0 cap [] := ⟨rfl, Nat.zero_le _, h, fun h => by omega⟩
theorem Ts.cells {w : World} {b off len cap : Nat} {L : List TK} (h : Ts w (some ⟨b, off, none⟩) len cap L) {j : Nat} (hj : j < len) (i : Nat) (hi : i < 5) :
    w.cell? ⟨b, off + (j * 5 + i), none⟩ = (cellsT (tat L j))[i]? := by
  obtain ⟨b', off', ha, _, hc⟩ := h.at_ (by omega)
  simp only [Option.some.injEq, Addr.mk.injEq] at ha
  obtain ⟨rfl, rfl, _⟩ := ha
  exact hc j hj i hi

/-- The five cells of the token at k, as a walk spells them. -/
theorem Ts.at5 {w : World} {b off len cap : Nat} {L : List TK} (h : Ts w (some ⟨b, off, none⟩) len cap L) {k : Nat} (hk : k < len) :
    w.cell? ⟨b, off + k * 5, none⟩ = some (.int .i64 (tat L k).k) ∧ w.cell? ⟨b, off + k * 5 + 1, none⟩ = some (.int .i64 (tat L k).f) ∧ w.cell? ⟨b, off + k * 5 + 2, none⟩ = some (.int .i64 (tat L k).t) ∧
    w.cell? ⟨b, off + k * 5 + 3, none⟩ = some (.string (tat L k).s) ∧ w.cell? ⟨b, off + k * 5 + 4, none⟩ = some (.int .i64 (tat L k).e) :=
  ⟨h.cells hk 0 (by omega), h.cells hk 1 (by omega), h.cells hk 2 (by omega), h.cells hk 3 (by omega), h.cells hk 4 (by omega)⟩

/-- A row of tokens that the call itself has made, from block 'base' on; its room may be cut off. -/
structure RowT (base : Nat) (e : TypeId) (w : World) (a : Option Addr) (len cap : Nat) (L : List TK) : Prop where
  hl : L.length = len
  lc : len ≤ cap
  cm : cap ≤ maxLen
  own : 0 < len → ∃ g cur, a = some ⟨g, 0, none⟩ ∧ base ≤ g ∧ w.heap[g]? = some (.cells cur e (0, 0)) ∧ cur.toList.take (len * 5) = rowT L

def OwnT (base : Nat) (e : TypeId) (w : World) (a : Option Addr) (len cap : Nat) (L : List TK) : Prop := w.ownsRow base e 5 (.slice a len cap) len (rowT L)

theorem OwnT.row {base : Nat} {e : TypeId} {w : World} {a : Option Addr} {len cap : Nat} {L : List TK} (h : OwnT base e w a len cap L) : RowT base e w a len cap L := by
  obtain ⟨hl, h1⟩ := h
  rw [rowT_len] at hl
  rcases h1 with ⟨hv, hn⟩ | ⟨g, cp, cur, hv, hb, hg, hnc, hcm, hcs, htake⟩
  · simp only [Value.slice.injEq] at hv
    obtain ⟨rfl, rfl, rfl⟩ := hv
    exact ⟨by omega, Nat.le_refl _, Nat.zero_le _, fun h => by omega⟩
  · simp only [Value.slice.injEq, true_and] at hv
    obtain ⟨rfl, rfl⟩ := hv
    exact ⟨by omega, hnc, hcm, fun _ => ⟨g, cur, rfl, hb, hg, htake⟩⟩

theorem RowT.ts {base : Nat} {e : TypeId} {w : World} {a : Option Addr} {len cap : Nat} {L : List TK} (h : RowT base e w a len cap L) : Ts w a len cap L :=
  ⟨h.hl, h.lc, h.cm, fun h0 => by
    obtain ⟨g, cur, ha, hb, hg, ht⟩ := h.own h0
    refine ⟨g, 0, ha, (Array.getElem?_eq_some_iff.1 hg).1, fun j hj i hi => ?_⟩
    rw [cell_of_row w g (0 + (j * 5 + i)) cur e (0, 0) hg, Nat.zero_add, ← rowT_at L j i hi (by rw [h.hl]; exact hj), ← ht, List.getElem?_take, if_pos (by omega)]
    simp⟩
theorem OwnT.ts {base : Nat} {e : TypeId} {w : World} {a : Option Addr} {len cap : Nat} {L : List TK} (h : OwnT base e w a len cap L) : Ts w a len cap L := h.row.ts
theorem OwnT.none0 {base : Nat} {e : TypeId} {w : World} : OwnT base e w none 0 0 [] := ⟨rfl, .inl ⟨rfl, rfl⟩⟩
theorem OwnT.keep {base B : Nat} {e : TypeId} {w w' : World} {a : Option Addr} {len cap : Nat} {L : List TK} (h : OwnT base e w a len cap L) (hb : Below B w w') (hB : w.heap.size ≤ B) : OwnT base e w' a len cap L :=
  World.ownsRow.kept h (row := none) ⟨hb.os, hb.tape, hb.output, hb.size, fun j hj _ => hb.block j (by omega)⟩ (by cases hv : (Value.slice a len cap).ownBlock <;> simp)
theorem OwnT.alloc {base : Nat} {e : TypeId} {w : World} {a : Option Addr} {len cap : Nat} {L : List TK} (h : OwnT base e w a len cap L) (o : Obj) : OwnT base e (w.alloc o) a len cap L := World.ownsRow.alloc h o
theorem RowT.keep {base B : Nat} {e : TypeId} {w w' : World} {a : Option Addr} {len cap : Nat} {L : List TK} (h : RowT base e w a len cap L) (hb : Below B w w') (hB : w.heap.size ≤ B) : RowT base e w' a len cap L :=
  ⟨h.hl, h.lc, h.cm, fun h0 => by
    obtain ⟨g, cur, ha, hg0, hg, ht⟩ := h.own h0
    exact ⟨g, cur, ha, hg0, (hb.block g (by have := (Array.getElem?_eq_some_iff.1 hg).1; omega)).trans hg, ht⟩⟩
/-- The same row, with the room behind it cut off. -/
theorem RowT.cut {base : Nat} {e : TypeId} {w : World} {a : Option Addr} {len cap : Nat} {L : List TK} (h : RowT base e w a len cap L) : RowT base e w a len len L :=
  ⟨h.hl, Nat.le_refl _, Nat.le_trans h.lc h.cm, h.own⟩
/-- An empty row that a literal has laid, by its block. -/
theorem OwnT.emptyAt {base X : Nat} {e : TypeId} {w : World} (h : w.heap[X]? = some (.cells #[] e (0, 0))) (hb : base ≤ X) : OwnT base e w (some ⟨X, 0, none⟩) 0 0 [] :=
  ⟨by simp [rowT], .inr ⟨X, 0, #[], rfl, hb, h, Nat.le_refl _, Nat.zero_le _, rfl, by simp [rowT]⟩⟩
/-- One token that a literal has laid. -/
theorem Ts.one (w : World) (e : TypeId) {mk : Nat × Nat} (t : TK) {cs : Array Value} (hc : cs = (cellsT t).toArray) {g : Nat} (hg : g = w.heap.size) : Ts (w.alloc (.cells cs e mk)) (some ⟨g, 0, none⟩) 1 1 [t] := by
  subst hc; subst hg
  refine ⟨rfl, Nat.le_refl _, by decide, fun _ => ⟨w.heap.size, 0, rfl, by simp, fun j hj i hi => ?_⟩⟩
  obtain rfl : j = 0 := by omega
  rw [cell_of_row (w.alloc (.cells (cellsT t).toArray e mk)) w.heap.size (0 + (0 * 5 + i)) _ e mk (heap_alloc_new w _)]
  simp [tat]

theorem tok_info : (Tryz.prog.info? 33).map (fun i => (i.zero, i.size, i.bytes)) = some (some (.agg #[.int .i64 0, .int .i64 0, .int .i64 0, .string { data := #[] }, .int .i64 0]), 5, 48) := by kernel_rfl

theorem Ts.news {w : World} {a : Option Addr} {len cap : Nat} {L : List TK} (h : Ts w a len cap L) : ∀ b off, a = some ⟨b, off, none⟩ → 0 < len → ∀ j u, (rowT L)[j]? = some u → w.cell? ((⟨b, off, none⟩ : Addr).add j) = some u := by
  intro b off ha h0 j u hj
  subst ha
  have hjl : j < L.length * 5 := by
    rw [← rowT_len]
    exact (List.getElem?_eq_some_iff.1 hj).1
  have := h.hl
  have h1 := h.cells (j := j / 5) (by omega) (j % 5) (by omega)
  rw [show j / 5 * 5 + j % 5 = j by omega, ← rowT_at L (j / 5) (j % 5) (by omega) (by omega), show j / 5 * 5 + j % 5 = j by omega, hj] at h1
  rw [addr_add]
  exact h1

/-- 'append(s, x...)', s a row of tokens of the call's own, x whatever slice of tokens. -/
theorem wp_appT {w : World} {o : Oper} {a : Act} {K : Act → World → Prop} {Q : Exit → Act → World → Prop} (s x : Operand)
    (ho : o.op = .call { callee := .builtin .append, args := #[s, x], argTypes := #[92, 92] })
    (base : Nat) (sa : Option Addr) (n c : Nat) (L : List TK) (hs : a.eval s = .slice sa n c) (hown : OwnT base 33 w sa n c L)
    (xa : Option Addr) (m d : Nat) (M : List TK) (hx : a.eval x = .slice xa m d) (hb : Ts w xa m d M)
    (hbig : n + m ≤ 1000000000000) (hbase : base ≤ w.heap.size)
    (h : ∀ a' c' w', OwnT base 33 w' a' (n + m) c' (L ++ M) → w.grownBy w' (Value.ownBlock (.slice sa n c)) → Below base w w' → K (a.put o.dst (.slice a' (n + m) c')) w') : o.wp Tryz.prog a w K Q := by
  obtain ⟨i, hi, hz, hsz, hby⟩ := info_parts tok_info
  have ht := Tryz.underlying92
  have hlt : n + m ≤ maxLen := by unfold maxLen; omega
  have fin : ∀ v' w', w'.ownsRow base 33 5 v' (n + m) (rowT L ++ rowT M) → w.grownBy w' (Value.ownBlock (.slice sa n c)) → K (a.put o.dst v') w' := by
    intro v' w' ho' hg
    rw [← rowT_append] at ho'
    have hbe : Below base w w' := (Below.refl base w).grown hg hbase fun k hk => (World.ownsRow.lt hown k hk).1
    rcases ho'.2 with ⟨rfl, hn0⟩ | ⟨g, cp, cur, rfl, r⟩
    · have hh := h none 0 w' (by rw [hn0]; rw [hn0] at ho'; exact ho') hg hbe
      rw [hn0] at hh; exact hh
    · exact h _ _ w' ho' hg hbe
  by_cases h0 : 0 < m
  · obtain ⟨b, off, rfl, _, _⟩ := hb.at_ h0
    exact wp_append_own w s x 92 ho base 33 i _ 5 48 ht hi hz hsz hby rfl (by omega) _ _ _ hs hown ⟨b, off, none⟩ m d (rowT M) hx (by rw [rowT_len, hb.hl])
      (hb.news b off rfl h0) (rowT_one M) hlt (by omega) hbase (fun v' w' h1 h2 _ => fin v' w' h1 h2)
  · have hm0 : m = 0 := by omega
    subst hm0
    have hk0 : M = [] := List.eq_nil_of_length_eq_zero hb.hl
    subst hk0
    cases xa with
    | some ad => exact wp_append_own w s x 92 ho base 33 i _ 5 48 ht hi hz hsz hby rfl (by omega) _ _ _ hs hown ad 0 d [] hx rfl (by simp) (by simp) hlt (by omega) hbase (fun v' w' h1 h2 _ => fin v' w' (by simpa [rowT] using h1) h2)
    | none =>
      have hr : (Builtin.append_ #[92, 92] o.type #[.slice sa n c, .slice none 0 d]).run Tryz.prog w = .ok (.slice sa n c) w := by
        rcases hown.2 with ⟨hv, hn⟩ | ⟨g, cp, cur, hv, _, _, hnc, _⟩
        · simp only [Value.slice.injEq] at hv
          obtain ⟨rfl, rfl, rfl⟩ := hv
          simp [Builtin.append_, run_underlying ht, sizeOf, typeInfo, hi, Builtin.lenOf, Builtin.firstCells]
        · simp only [Value.slice.injEq, true_and] at hv
          obtain ⟨rfl, rfl⟩ := hv
          simp [Builtin.append_, run_underlying ht, sizeOf, typeInfo, hi, Builtin.lenOf, Builtin.firstCells, hnc, storeCells]
      unfold Oper.wp execOp
      simp only [ho, resolve, invoke, builtin, Sem.run_bind, Sem.run_pure, Result.andThen_ok, List.map_toArray, List.map_cons, List.map_nil, hs, hx, hr]
      exact fin _ w (by rw [show rowT [] = [] from rfl, List.append_nil]; exact hown) ⟨rfl, rfl, rfl, Nat.le_refl _, fun _ _ _ => rfl⟩

theorem wpList_appT {ops : Array Oper} {rest : List Oper} {w : World} {o : Oper} {a : Act} {Q : Exit → Act → World → Prop} (hw : Region.wanted o (yielded ops a.tmps) = true) (s x : Operand)
    (ho : o.op = .call { callee := .builtin .append, args := #[s, x], argTypes := #[92, 92] })
    (base : Nat) (sa : Option Addr) (n c : Nat) (L : List TK) (hs : a.eval s = .slice sa n c) (hown : OwnT base 33 w sa n c L)
    (xa : Option Addr) (m d : Nat) (M : List TK) (hx : a.eval x = .slice xa m d) (hb : Ts w xa m d M)
    (hbig : n + m ≤ 1000000000000) (hbase : base ≤ w.heap.size)
    (h : ∀ a' c' w', OwnT base 33 w' a' (n + m) c' (L ++ M) → w.grownBy w' (Value.ownBlock (.slice sa n c)) → Below base w w' → wpList Tryz.prog ops Q rest (a.put o.dst (.slice a' (n + m) c')) w') : wpList Tryz.prog ops Q (o :: rest) a w :=
  wpList_step fun K hK => by
    rw [if_pos hw]
    exact wp_appT s x ho base sa n c L hs hown xa m d M hx hb hbig hbase fun a' c' w' h1 h2 h3 => hK _ _ (h a' c' w' h1 h2 h3)

end Go.Proofs.YtcegbmhnbmfnnaaGreatDoor
