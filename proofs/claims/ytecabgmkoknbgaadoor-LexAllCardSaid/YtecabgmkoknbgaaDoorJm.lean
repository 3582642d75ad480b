/- The plain mathematics of layer 7: the tokens of any bytes, and how they move. No walk here. -/
import Derived.Test.YtecabgmkoknbgaaDoorM4
import Derived.Test.YtecabgmkoknbgaaDoorTu
import Derived.Test.YtecabgmkoknbgaaDoorQn
namespace Go.Proofs.YtecabgmkoknbgaaDoor
open Go.RowKit

/-- A token as it is told: kind, from, to, text, code. -/
structure TK where
  k : Int
  f : Int
  t : Int
  s : ByteArray
  e : Int

def tkOf (p : Nat × TR) : TK := ⟨p.2.k, p.1, (p.1 + p.2.n : Nat), bstr p.2.t, p.2.e⟩

/-- The tokens behind k, with so much fuel. -/
def lxF : Nat → List Int → Nat → List (Nat × TR)
  | 0, _, _ => []
  | f + 1, l, k => match nx l k with
    | none => []
    | some (p, t) => (p, t) :: lxF f l (p + t.n)
/-- The tokens behind k. -/
def lx (l : List Int) (k : Nat) : List (Nat × TR) := lxF (l.length - k) l k

theorem nx_lim {l : List Int} {k f : Nat} {t : TR} (hk : k ≤ l.length) (hr : ∀ x ∈ l, 0 ≤ x ∧ x ≤ 255) (h : nx l k = some (f, t)) :
    k ≤ f ∧ 1 ≤ t.n ∧ f + t.n ≤ l.length := by
  obtain ⟨h1, h2, h3⟩ := nx_good hk hr h
  have h4 := h3.n1
  have h5 := h3.nl
  rw [List.length_drop] at h5
  exact ⟨by omega, h4, by omega⟩

theorem nx_last {l : List Int} : nx l l.length = none := by
  refine nx_none (n := 0) ?_ (by omega)
  rw [List.drop_length]; rfl

theorem lxF_same {l : List Int} (hr : ∀ x ∈ l, 0 ≤ x ∧ x ≤ 255) : ∀ (f g : Nat) (k : Nat), k ≤ l.length → l.length - k ≤ f → l.length - k ≤ g → lxF f l k = lxF g l k
  | 0, 0, _, _, _, _ => rfl
  | 0, g + 1, k, hk, h, _ => by
    have : k = l.length := by omega
    subst this
    rw [lxF, lxF, nx_last]
  | f + 1, 0, k, hk, _, h => by
    have : k = l.length := by omega
    subst this
    rw [lxF, lxF, nx_last]
  | f + 1, g + 1, k, hk, h, h' => by
    rw [lxF, lxF]
    cases hn : nx l k with
    | none => rfl
    | some p =>
      obtain ⟨q, t⟩ := p
      obtain ⟨h1, h2, h3⟩ := nx_lim hk hr hn
      show (q, t) :: _ = (q, t) :: _
      rw [lxF_same hr f g (q + t.n) h3 (by omega) (by omega)]

theorem lx_none {l : List Int} {k : Nat} (h : nx l k = none) : lx l k = [] := by
  unfold lx
  cases hf : l.length - k with
  | zero => rfl
  | succ f => rw [lxF, h]
theorem lx_some {l : List Int} {k f : Nat} {t : TR} (hk : k ≤ l.length) (hr : ∀ x ∈ l, 0 ≤ x ∧ x ≤ 255) (h : nx l k = some (f, t)) : lx l k = (f, t) :: lx l (f + t.n) := by
  obtain ⟨h1, h2, h3⟩ := nx_lim hk hr h
  unfold lx
  obtain ⟨g, hg⟩ : ∃ g, l.length - k = g + 1 := ⟨l.length - k - 1, by omega⟩
  rw [hg, lxF, h]
  show (f, t) :: _ = (f, t) :: _
  rw [lxF_same hr g (l.length - (f + t.n)) (f + t.n) h3 (by omega) (Nat.le_refl _)]
theorem lx_last {l : List Int} : lx l l.length = [] := lx_none nx_last
/-- The tokens hang on the first one and what is behind it. -/
theorem lx_same {l : List Int} {k j : Nat} (hk : k ≤ l.length) (hj : j ≤ l.length) (hr : ∀ x ∈ l, 0 ≤ x ∧ x ≤ 255) (h : nx l k = nx l j) : lx l k = lx l j := by
  cases hn : nx l j with
  | none => rw [lx_none hn, lx_none (h.trans hn)]
  | some p => obtain ⟨f, t⟩ := p; rw [lx_some hj hr hn, lx_some hk hr (h.trans hn)]

def shf (n : Nat) (p : Nat × TR) : Nat × TR := (n + p.1, p.2)

/-- By induction from the end on. -/
theorem by_end {N : Nat} {P : Nat → Prop} (h : ∀ k, k ≤ N → (∀ j, k < j → j ≤ N → P j) → P k) : ∀ k, k ≤ N → P k := by
  have : ∀ m k, k ≤ N → N - k ≤ m → P k := by
    intro m
    induction m with
    | zero => intro k hk hm; exact h k hk fun j h1 h2 => by omega
    | succ m ih => intro k hk hm; exact h k hk fun j h1 h2 => ih j h2 (by omega)
  exact fun k hk => this (N - k) k hk (Nat.le_refl _)

theorem nx_appk (X Y : List Int) (k : Nat) (hk : k ≤ Y.length) : nx (X ++ Y) (X.length + k) = (nx Y k).map (shf X.length) := by
  have hd : (X ++ Y).drop (X.length + k) = Y.drop k := by rw [← List.drop_drop, List.drop_left]
  obtain ⟨n, z, hs, hn, hz⟩ := sk_ways Y k hk
  have hs' : sk ((X ++ Y).drop (X.length + k)) = (n, z) := by rw [hd]; exact hs
  have hd2 : (X ++ Y).drop (X.length + k + n) = Y.drop (k + n) := by rw [Nat.add_assoc, ← List.drop_drop, List.drop_left]
  by_cases h0 : z = 0
  · subst h0
    by_cases he : k + n = Y.length
    · rw [nx_none hs' (by rw [List.length_append]; omega), nx_none hs he]; rfl
    · rw [nx_some hs' (by rw [List.length_append]; omega), nx_some hs he, hd2]
      simp [shf, Nat.add_assoc]
  · rw [nx_err hs' h0, nx_err hs h0, List.length_append]
    simp [shf, Nat.add_assoc]
    omega

theorem rng_app {X Y : List Int} (hx : ∀ x ∈ X, 0 ≤ x ∧ x ≤ 255) (hy : ∀ x ∈ Y, 0 ≤ x ∧ x ≤ 255) : ∀ x ∈ X ++ Y, 0 ≤ x ∧ x ≤ 255 := by
  intro x h
  rcases List.mem_append.1 h with h | h
  · exact hx x h
  · exact hy x h

theorem lx_app (X Y : List Int) (hr : ∀ x ∈ X ++ Y, 0 ≤ x ∧ x ≤ 255) : ∀ k, k ≤ Y.length → lx (X ++ Y) (X.length + k) = (lx Y k).map (shf X.length) := by
  refine by_end fun k hk ih => ?_
  have hy : ∀ x ∈ Y, 0 ≤ x ∧ x ≤ 255 := fun x hx => hr x (List.mem_append_right _ hx)
  have h := nx_appk X Y k hk
  cases hn : nx Y k with
  | none => rw [hn] at h; rw [lx_none h, lx_none hn]; rfl
  | some p =>
    obtain ⟨f, t⟩ := p
    obtain ⟨h1, h2, h3⟩ := nx_lim hk hy hn
    rw [hn] at h
    rw [lx_some (by rw [List.length_append]; omega) hr h, lx_some hk hy hn, List.map_cons]
    show _ = (X.length + f, t) :: _
    show (X.length + f, t) :: lx (X ++ Y) (X.length + f + t.n) = _
    rw [Nat.add_assoc, ih (f + t.n) (by omega) h3]

/-- What stands at k is layout: it may be left out. -/
theorem nx_lay {l : List Int} {k : Nat} (hk : k < l.length) (h : cls (bt l k) = 1) : nx l k = nx l (k + 1) := by
  have h1 := skAt_one hk h
  unfold skAt addN at h1
  rw [Prod.mk.injEq] at h1
  unfold nx
  rw [h1.1, h1.2]

/-- A byte that begins no layout: the token begins there. -/
theorem nx_here {l : List Int} {k : Nat} (hk : k < l.length) (h1 : cls (bt l k) ≠ 1) (h2 : bt l k ≠ 37) (h3 : pre2 47 42 (l.drop k) = false) : nx l k = some (k, firstT (l.drop k)) := by
  have h := skAt_else hk h1 h2 h3
  unfold skAt addN at h
  rw [Prod.mk.injEq] at h
  have : sk (l.drop k) = (0, 0) := by
    rw [Prod.ext_iff]; exact ⟨by have := h.1; simp only at this ⊢; omega, h.2⟩
  exact nx_some this (by omega)

/-- And the other way about. -/
theorem nx_where {l : List Int} {k f : Nat} {t : TR} (hk : k ≤ l.length) (h : nx l k = some (f, t)) (h8 : t.k ≠ 8) :
    f < l.length ∧ t = firstT (l.drop f) ∧ cls (bt l f) ≠ 1 ∧ bt l f ≠ 37 ∧ pre2 47 42 (l.drop f) = false := by
  obtain ⟨n, z, hs, hn, hz⟩ := sk_ways l k hk
  by_cases h0 : z = 0
  · subst h0
    by_cases he : k + n = l.length
    · rw [nx_none hs he] at h; cases h
    · rw [nx_some hs he] at h
      simp only [Option.some.injEq, Prod.mk.injEq] at h
      obtain ⟨rfl, rfl⟩ := h
      have h2 := (sk_ends (l.drop k)).2.2
      rw [hs] at h2
      simp only at h2
      rcases h2 with h2 | ⟨_, h2 | h2⟩
      · exact absurd h2.1 (by decide)
      · rw [List.length_drop] at h2; omega
      · obtain ⟨_, c1, c2, c3⟩ := h2
        rw [bt_drop] at c1 c2
        rw [List.drop_drop] at c3
        exact ⟨by omega, rfl, c1, c2, c3⟩
  · rw [nx_err hs h0] at h
    simp only [Option.some.injEq, Prod.mk.injEq] at h
    obtain ⟨rfl, rfl⟩ := h
    exact absurd rfl h8

/-! ### Names and runs, cut off, and with a blank behind them -/

theorem bt_take_app {l Z : List Int} {n j : Nat} (hn : n ≤ l.length) (hj : j < n) : bt (l.take n ++ Z) j = bt l j := by
  rw [bt_append_left _ _ _ (by rw [List.length_take]; omega), bt_take _ _ _ hj]

theorem seq_cut {l : List Int} (Z : List Int) (h : okSeq l = true) : okSeq (l.take (takeN l) ++ Z) = true ∧ takeN (l.take (takeN l) ++ Z) = takeN l :=
  okSeq_same h (by rw [List.length_append, List.length_take]; have := takeN_le l; omega) (fun j hj => bt_take_app (takeN_le l) hj)

theorem nmB_cut {l : List Int} (Z : List Int) (h : nmB l = true) : nmB (l.take (takeN l) ++ Z) = true ∧ takeN (l.take (takeN l) ++ Z) = takeN l := by
  obtain ⟨ho, hne⟩ := nmB_ok h
  have h1 := seq_cut Z ho
  have h3 := bt_take_app (l := l) (Z := Z) (takeN_le l) (takeN_pos hne)
  refine ⟨?_, h1.2⟩
  unfold nmB at h ⊢
  rw [h1.1, h1.2, h3]
  rw [ho] at h
  exact h

theorem nmL_cut (Z : List Int) (hz : nmB Z = false) (l : List Int) : nmL (l.take (nmL l) ++ Z) = nmL l := by
  induction hn : l.length using Nat.strongRecOn generalizing l with
  | _ n ih =>
    cases hb : nmB l with
    | false => rw [nmL_no hb, List.take_zero, List.nil_append, nmL_no hz]
    | true =>
      have h1 := takeN_pos (nmB_ok hb).2
      have h2 := takeN_le l
      have h3 := ih (l.drop (takeN l)).length (by rw [List.length_drop]; omega) _ rfl
      have h4 : l.take (nmL l) = l.take (takeN l) ++ (l.drop (takeN l)).take (nmL (l.drop (takeN l))) := by
        rw [nmL_yes hb, List.take_add]
      obtain ⟨h5, h6⟩ := nmB_cut ((l.drop (takeN l)).take (nmL (l.drop (takeN l))) ++ Z) hb
      rw [h4, List.append_assoc, nmL_yes h5, h6, List.drop_left' (by rw [List.length_take]; omega), h3]
      exact (nmL_yes hb).symm

theorem nmB_sp {d : Int} (hd : d = 32 ∨ d = 10) (Y : List Int) : nmB (d :: Y) = false := by
  have h := okSeq_low (l := d :: Y) (by simp) (by rw [bt_cons0]; omega)
  refine nmB_one h.2 ?_
  rw [bt_cons0]
  rcases hd with rfl | rfl <;> decide

theorem runL_sp {n d : Int} (hd : d = 32 ∨ d = 10) (hn : n ≠ 1) (Y : List Int) : runL n (d :: Y) = 0 := by
  rw [runL_zero (by simp), bt_cons0]
  have : cls d = 1 := by rcases hd with rfl | rfl <;> decide
  rw [this]; exact fun h => hn h.symm

theorem runL_cut {n d : Int} (hd : d = 32 ∨ d = 10) (hn : n ≠ 1) (l Y : List Int) : runL n (l.take (runL n l) ++ d :: Y) = runL n l := by
  have h1 := runL_le n l
  rw [runL_all n _ _ (fun x hx => by
    obtain ⟨j, hj, rfl⟩ := mem_bt hx
    rw [List.length_take] at hj
    rw [bt_take _ _ _ (by omega)]
    exact runL_cls n l j (by omega)) (runL_sp hd hn Y), List.length_take]
  omega

/-! ### What a blank stands behind hangs on nothing behind the blank -/

theorem bt_loc (v y y' : List Int) {j : Nat} (hj : j ≤ v.length) : bt (v ++ 32 :: y) j = bt (v ++ 32 :: y') j := by
  by_cases h : j < v.length
  · rw [bt_append_left _ _ _ h, bt_append_left _ _ _ h]
  · have : j = v.length := by omega
    subst this
    rw [bt_append_right _ _ _ (Nat.le_refl _), bt_append_right _ _ _ (Nat.le_refl _), Nat.sub_self]; rfl

theorem okSeq_loc (v y y' : List Int) (hv : v ≠ []) (h : okSeq (v ++ 32 :: y) = true) :
    takeN (v ++ 32 :: y) ≤ v.length ∧ okSeq (v ++ 32 :: y') = true ∧ takeN (v ++ 32 :: y') = takeN (v ++ 32 :: y) := by
  have h0 := List.length_pos_iff.2 hv
  have hle : takeN (v ++ 32 :: y) ≤ v.length := by
    apply Decidable.byContradiction
    intro hn
    have h1 := okSeq_high h (j := v.length) h0 (by omega)
    rw [bt_append_right _ _ _ (Nat.le_refl _), Nat.sub_self, bt_cons0] at h1
    omega
  have h2 := okSeq_same (l' := v ++ 32 :: y') h (by rw [List.length_append]; omega) (fun j hj => bt_loc v y' y (by omega))
  exact ⟨hle, h2.1, h2.2⟩

theorem nmB_loc (v y y' : List Int) (hv : v ≠ []) (h : nmB (v ++ 32 :: y) = true) :
    takeN (v ++ 32 :: y) ≤ v.length ∧ nmB (v ++ 32 :: y') = true ∧ takeN (v ++ 32 :: y') = takeN (v ++ 32 :: y) := by
  have ho := (nmB_ok h).1
  obtain ⟨h1, h2, h3⟩ := okSeq_loc v y y' hv ho
  refine ⟨h1, ?_, h3⟩
  unfold nmB at h ⊢
  rw [ho, bt_loc v y y' (Nat.zero_le _)] at h
  rw [h2, h3]
  exact h

theorem nmL_loc (y y' : List Int) (v : List Int) : nmL (v ++ 32 :: y) = nmL (v ++ 32 :: y') ∧ nmL (v ++ 32 :: y) ≤ v.length := by
  induction hn : v.length using Nat.strongRecOn generalizing v with
  | _ n ih =>
    by_cases hv : v = []
    · subst hv
      rw [List.nil_append, List.nil_append, nmL_no (nmB_sp (Or.inl rfl) y), nmL_no (nmB_sp (Or.inl rfl) y')]
      exact ⟨rfl, Nat.zero_le _⟩
    · cases hb : nmB (v ++ 32 :: y) with
      | false =>
        have hb' : nmB (v ++ 32 :: y') = false := by
          cases hc : nmB (v ++ 32 :: y') with
          | false => rfl
          | true => have := (nmB_loc v y' y hv hc).2.1; rw [hb] at this; cases this
        rw [nmL_no hb, nmL_no hb']
        exact ⟨rfl, Nat.zero_le _⟩
      | true =>
        obtain ⟨h1, h2, h3⟩ := nmB_loc v y y' hv hb
        have h4 := takeN_pos (nmB_ok hb).2
        have h5 := ih (v.drop (takeN (v ++ 32 :: y))).length (by rw [List.length_drop]; omega) _ rfl
        rw [List.length_drop] at h5
        rw [nmL_yes hb, nmL_yes h2, h3, List.drop_append_of_le_length h1, List.drop_append_of_le_length h1]
        omega

theorem runL_loc {n : Int} (hn : n ≠ 1) (y y' : List Int) : ∀ v : List Int, runL n (v ++ 32 :: y) = runL n (v ++ 32 :: y') ∧ runL n (v ++ 32 :: y) ≤ v.length
  | [] => by rw [List.nil_append, List.nil_append, runL_sp (Or.inl rfl) hn, runL_sp (Or.inl rfl) hn]; exact ⟨rfl, Nat.zero_le _⟩
  | c :: r => by
    have h := runL_loc hn y y' r
    rw [List.cons_append, List.cons_append, runL, runL, List.length_cons]
    split <;> omega

theorem firstT_loc (v y y' : List Int) (hv : v ≠ []) (h39 : bt v 0 ≠ 39) (hr : ∀ x ∈ v, 0 ≤ x ∧ x ≤ 255) : firstT (v ++ 32 :: y) = firstT (v ++ 32 :: y') ∧ (firstT (v ++ 32 :: y)).n ≤ v.length := by
  have h0 := List.length_pos_iff.2 hv
  have b0 : ∀ z : List Int, bt (v ++ 32 :: z) 0 = bt v 0 := fun z => bt_append_left _ _ _ h0
  have ht : ∀ (z : List Int) (n : Nat), n ≤ v.length → (v ++ 32 :: z).take n = v.take n := fun z n h => List.take_append_of_le_length h
  have hb := bt_rng hr 0
  have hc := cls_rng hb.1 hb.2
  have hN := nmL_loc y y' v
  obtain hk | hk | hk | hk | hk | hk | hk | hk : cls (bt v 0) = 2 ∨ cls (bt v 0) = 3 ∨ cls (bt v 0) = 9 ∨ cls (bt v 0) = 5 ∨ cls (bt v 0) = 4 ∨ cls (bt v 0) = 7 ∨ cls (bt v 0) = 6 ∨ (cls (bt v 0) = 0 ∨ cls (bt v 0) = 1 ∨ cls (bt v 0) = 8) := by omega
  · rw [firstT2 (by rw [b0]; exact hk), firstT2 (by rw [b0]; exact hk)]
    unfold nameT
    rw [← hN.1, ht y _ hN.2, ht y' _ hN.2]
    exact ⟨rfl, hN.2⟩
  · rw [firstT3 (by rw [b0]; exact hk), firstT3 (by rw [b0]; exact hk)]
    unfold nameT
    rw [← hN.1, ht y _ hN.2, ht y' _ hN.2]
    exact ⟨rfl, hN.2⟩
  · rw [firstT9 (by rw [b0]; exact hk), firstT9 (by rw [b0]; exact hk)]
    unfold highT nameT
    rw [← hN.1, ht y _ hN.2, ht y' _ hN.2]
    refine ⟨rfl, ?_⟩
    split
    · exact h0
    · exact hN.2
  · have hR := runL_loc (n := 5) (by decide) y y' v
    rw [firstT5 (by rw [b0]; exact hk), firstT5 (by rw [b0]; exact hk)]
    have hE : endT (v ++ 32 :: y) = endT (v ++ 32 :: y') := by
      unfold endT
      rw [← hR.1, b0, b0, bt_loc v y y' h0, List.length_append, List.length_append, List.length_cons, List.length_cons,
        decide_eq_false (by omega : ¬ v.length + (y.length + 1) = 1), decide_eq_false (by omega : ¬ v.length + (y'.length + 1) = 1)]
    unfold symT
    rw [hE, ← hR.1, ht y _ hR.2, ht y' _ hR.2]
    exact ⟨rfl, hR.2⟩
  · have hR := runL_loc (n := 4) (by decide) y y' v
    rw [firstT4 (by rw [b0]; exact hk), firstT4 (by rw [b0]; exact hk)]
    have hE : dkE (v ++ 32 :: y) = dkE (v ++ 32 :: y') := by
      unfold dkE dkBig
      rw [← hR.1, ht y _ hR.2, ht y' _ hR.2]
    unfold numT dkK
    rw [hE, ← hR.1, ht y _ hR.2, ht y' _ hR.2]
    refine ⟨rfl, ?_⟩
    split <;> exact hR.2
  · exact absurd ((cls7' hb.1 hb.2).1 hk) h39
  · rw [firstT6 (by rw [b0]; exact hk), firstT6 (by rw [b0]; exact hk), ht y 1 h0, ht y' 1 h0]
    exact ⟨rfl, h0⟩
  · rw [firstT0 (by rw [b0]; exact hk), firstT0 (by rw [b0]; exact hk)]
    exact ⟨rfl, h0⟩

/-- What stands behind a blank is lexed for itself, if no quote, percent or slash is ahead of it. -/
theorem lx_parts (u Y : List Int) (hu : ∀ c ∈ u, (0 ≤ c ∧ c ≤ 255) ∧ c ≠ 39 ∧ c ≠ 37 ∧ c ≠ 47) (hy : ∀ x ∈ Y, 0 ≤ x ∧ x ≤ 255) :
    ∀ k, k ≤ (u ++ [32]).length → lx (u ++ [32] ++ Y) k = lx (u ++ [32]) k ++ (lx Y 0).map (shf (u ++ [32]).length) := by
  have hX : ∀ x ∈ u ++ [32], 0 ≤ x ∧ x ≤ 255 := rng_app (fun x hx => (hu x hx).1) (by simp)
  have hA : ∀ x ∈ u ++ [32] ++ Y, 0 ≤ x ∧ x ≤ 255 := rng_app hX hy
  refine by_end fun k hk ih => ?_
  have hl1 : (u ++ [32]).length = u.length + 1 := by simp
  have hl2 : (u ++ [32] ++ Y).length = u.length + 1 + Y.length := by simp; omega
  by_cases hkl : k = (u ++ [32]).length
  · subst hkl
    have := lx_app (u ++ [32]) Y hA 0 (Nat.zero_le _)
    rw [Nat.add_zero] at this
    rw [this, lx_last, List.nil_append]
  have hlt : k < (u ++ [32]).length := by omega
  have hb : bt (u ++ [32] ++ Y) k = bt (u ++ [32]) k := bt_append_left _ _ _ hlt
  by_cases hc : cls (bt (u ++ [32]) k) = 1
  · rw [lx_same (j := k + 1) (by omega) (by omega) hA (nx_lay (by omega) (by rw [hb]; exact hc)), lx_same (j := k + 1) (by omega) (by omega) hX (nx_lay hlt hc)]
    exact ih (k + 1) (by omega) (by omega)
  · have hku : k < u.length := by
      apply Decidable.byContradiction
      intro hn
      have : k = u.length := by omega
      subst this
      rw [bt_append_right _ _ _ (Nat.le_refl _), Nat.sub_self, bt_cons0] at hc
      exact hc (by decide)
    have hbu : bt (u ++ [32]) k = bt u k := bt_append_left _ _ _ hku
    have hm := hu (bt u k) (bt_mem hku)
    have hd1 : (u ++ [32]).drop k = u.drop k ++ [32] := List.drop_append_of_le_length (by omega)
    have hd2 : (u ++ [32] ++ Y).drop k = u.drop k ++ 32 :: Y := by rw [List.append_assoc, List.drop_append_of_le_length (by omega)]; rfl
    have hp : ∀ l : List Int, bt l k = bt u k → pre2 47 42 (l.drop k) = false := by
      intro l hl
      cases hq : pre2 47 42 (l.drop k) with
      | false => rfl
      | true => have := (pre2_head hq).2.1; rw [hl] at this; exact absurd this hm.2.2.2
    have h1 := nx_here (l := u ++ [32]) hlt hc (by rw [hbu]; exact hm.2.2.1) (hp _ hbu)
    have h2 := nx_here (l := u ++ [32] ++ Y) (k := k) (by omega) (by rw [hb]; exact hc) (by rw [hb, hbu]; exact hm.2.2.1) (hp _ (hb.trans hbu))
    have hv : u.drop k ≠ [] := fun hn => by have := List.drop_eq_nil_iff.1 hn; omega
    obtain ⟨h3, h4⟩ := firstT_loc (u.drop k) Y [] hv (by rw [bt_drop, Nat.add_zero]; exact hm.2.1) (fun x hx => (hu x (List.drop_subset _ _ hx)).1)
    rw [List.length_drop] at h4
    rw [hd1, ← h3] at h1
    rw [hd2] at h2
    have h5 := (nx_lim (by omega) hX h1).2.1
    rw [lx_some (by omega) hA h2, lx_some (by omega) hX h1, ih _ (by omega) (by omega)]
    rfl

end Go.Proofs.YtecabgmkoknbgaaDoor
