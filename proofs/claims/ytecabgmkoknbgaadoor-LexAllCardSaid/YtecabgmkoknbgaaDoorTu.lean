/- Names, digits, runs of symbols and brackets alone: each is one token. And a string turned to bytes. No walk here. -/
import Derived.Test.YtecabgmkoknbgaaDoorM4
namespace Go.Proofs.YtecabgmkoknbgaaDoor
open Go.RowKit

def sgn (k : Nat) : Int := ([43, 45, 42, 92, 94, 60, 62, 61, 126, 63, 64, 35, 38, 36, 33] : List Int).getD k 43
def slo (k : Nat) : Int := ([40, 41, 44, 124, 59, 91, 93, 123, 125] : List Int).getD k 40

/-- A byte that one of the five kinds of rows is made of. -/
def okB (q : Nat) (c : Int) : Bool :=
  if q = 0 then decide (97 ≤ c ∧ c ≤ 122) else if q = 1 then decide (65 ≤ c ∧ c ≤ 90) else if q = 2 then decide (48 ≤ c ∧ c ≤ 57)
  else if q = 3 then (cls c == 5 && (c != 46 && (c != 47 && decide (c < 128)))) else (cls c == 6 && decide (c < 128))

theorem okB_any : ∀ n : Nat, n < 256 → ∀ q : Nat, q < 5 → okB q n = true → cls n ≠ 1 ∧ n ≠ 37 ∧ n ≠ 47 := by decide +kernel
theorem okB_0 : ∀ n : Nat, n < 256 → okB 0 n = true → cls n = 2 := by decide +kernel
theorem okB_1 : ∀ n : Nat, n < 256 → okB 1 n = true → cls n = 3 := by decide +kernel
theorem okB_2 : ∀ n : Nat, n < 256 → okB 2 n = true → cls n = 4 := by decide +kernel
theorem okB_3 : ∀ n : Nat, n < 256 → okB 3 n = true → cls n = 5 ∧ n ≠ 46 := by decide +kernel
theorem okB_4 : ∀ n : Nat, n < 256 → okB 4 n = true → cls n = 6 := by decide +kernel
theorem okB_cls {q : Nat} {c : Int} (h0 : 0 ≤ c) (h1 : c ≤ 255) (hq : q < 5) (h : okB q c = true) :
    (cls c ≠ 1 ∧ c ≠ 37 ∧ c ≠ 47 ∧ (q = 0 → cls c = 2) ∧ (q = 1 → cls c = 3) ∧ (q = 2 → cls c = 4) ∧ (q = 3 → cls c = 5 ∧ c ≠ 46) ∧ (q = 4 → cls c = 6)) := by
  obtain ⟨n, rfl⟩ := Int.eq_ofNat_of_zero_le h0
  have a := okB_any n (by omega) q hq h
  refine ⟨a.1, by omega, by omega, ?_, ?_, ?_, ?_, ?_⟩
  · rintro rfl; exact okB_0 n (by omega) h
  · rintro rfl; exact okB_1 n (by omega) h
  · rintro rfl; exact okB_2 n (by omega) h
  · rintro rfl; have := okB_3 n (by omega) h; exact ⟨this.1, by omega⟩
  · rintro rfl; exact okB_4 n (by omega) h

theorem sgn_ok : ∀ k, k < 15 → okB 3 (sgn k) = true ∧ 0 ≤ sgn k ∧ sgn k ≤ 255 := by decide +kernel
theorem slo_ok : ∀ k, k < 9 → okB 4 (slo k) = true ∧ 0 ≤ slo k ∧ slo k ≤ 255 := by decide +kernel

def allB (q : Nat) (s : List Int) : Prop := ∀ x ∈ s, (0 ≤ x ∧ x ≤ 255) ∧ okB q x = true

theorem runL_all (n : Int) : ∀ (s t : List Int), (∀ x ∈ s, cls x = n) → runL n t = 0 → runL n (s ++ t) = s.length
  | [], t, _, h => h
  | c :: r, t, h, ht => by
    rw [List.cons_append, runL, if_pos (h c (by simp)), runL_all n r t (fun x hx => h x (by simp [hx])) ht, List.length_cons]; omega

theorem nmL_all : ∀ (s t : List Int), (∀ x ∈ s, (0 ≤ x ∧ x ≤ 255) ∧ nameB x = true) → (∀ x ∈ t, 0 ≤ x ∧ x ≤ 255) → nmB t = false → nmL (s ++ t) = s.length
  | [], t, _, _, h => nmL_no h
  | c :: r, t, h, hr, ht => by
    have h1 := nmB_name (l := c :: (r ++ t)) (by simp) (by
      intro x hx
      simp only [List.mem_cons, List.mem_append] at hx
      rcases hx with rfl | hx | hx
      · exact (h x (by simp)).1
      · exact (h x (by simp [hx])).1
      · exact hr x hx) (h c (by simp)).2
    rw [List.cons_append, nmL_yes h1.1, h1.2, List.drop_succ_cons, List.drop_zero, nmL_all r t (fun x hx => h x (by simp [hx])) hr ht, List.length_cons]
    omega

theorem numL_lt : ∀ (s : List Int) (a : Int), 0 ≤ a → digs s → s.foldl (fun n c => n * 10 + (c - 48)) a < (a + 1) * 10 ^ s.length
  | [], a, _, _ => by simp; omega
  | c :: r, a, ha, h => by
    have hc := h c (by simp)
    have := numL_lt r (a * 10 + (c - 48)) (by omega) (fun x hx => h x (by simp [hx]))
    rw [List.foldl_cons, List.length_cons, Int.pow_succ]
    refine Int.lt_of_lt_of_le this ?_
    rw [show (a + 1) * (10 ^ r.length * 10) = ((a + 1) * 10) * 10 ^ r.length from by rw [Int.mul_comm (10 ^ r.length) 10, Int.mul_assoc]]
    refine Int.mul_le_mul_of_nonneg_right (by omega) (by exact_mod_cast Nat.zero_le _)

theorem pow_le9 (n : Nat) (h : n ≤ 9) : (10 : Int) ^ n ≤ 1000000000 := by
  obtain rfl | rfl | rfl | rfl | rfl | rfl | rfl | rfl | rfl | rfl : n = 0 ∨ n = 1 ∨ n = 2 ∨ n = 3 ∨ n = 4 ∨ n = 5 ∨ n = 6 ∨ n = 7 ∨ n = 8 ∨ n = 9 := by omega
  all_goals decide

def kdOf (q : Nat) : Int := ([1, 3, 4, 2, 6] : List Int).getD q 0

/-- What a row of one kind begins with. -/
theorem firstT_alone (q : Nat) (hq : q < 5) (s t : List Int) (h : allB q s) (h0 : 0 < s.length) (h9 : s.length ≤ 9) (h4 : q = 4 → s.length = 1) (ht : t = [] ∨ t = [32]) :
    firstT (s ++ t) = ⟨kdOf q, s.length, s, 0⟩ := by
  cases s with
  | nil => simp at h0
  | cons c r =>
    have hc := h c (by simp)
    have hcl := okB_cls hc.1.1 hc.1.2 hq hc.2
    have hb : bt (c :: r ++ t) 0 = c := rfl
    have htr : ∀ x ∈ t, 0 ≤ x ∧ x ≤ 255 := by rcases ht with rfl | rfl <;> simp
    have htn : nmB t = false := by rcases ht with rfl | rfl <;> decide
    have htake : (c :: r ++ t).take (c :: r).length = c :: r := List.take_left
    have hrun : ∀ n, n ≠ 1 → (∀ x ∈ c :: r, cls x = n) → runL n (c :: r ++ t) = (c :: r).length := fun n hn hx => runL_all n _ _ hx (by
      rcases ht with rfl | rfl
      · rfl
      · have : cls 32 = 1 := by decide
        simp only [runL, this]
        rw [if_neg (fun hh => hn hh.symm)])
    obtain rfl | rfl | rfl | rfl | rfl : q = 0 ∨ q = 1 ∨ q = 2 ∨ q = 3 ∨ q = 4 := by omega
    · have hn := nmL_all (c :: r) t (fun x hx => ⟨(h x hx).1, nameB_of (Or.inl ((okB_cls (h x hx).1.1 (h x hx).1.2 hq (h x hx).2).2.2.2.1 rfl))⟩) htr htn
      rw [firstT2 (by rw [hb]; exact hcl.2.2.2.1 rfl), nameT, hn, htake]; rfl
    · have hn := nmL_all (c :: r) t (fun x hx => ⟨(h x hx).1, nameB_of (Or.inr (Or.inl ((okB_cls (h x hx).1.1 (h x hx).1.2 hq (h x hx).2).2.2.2.2.1 rfl)))⟩) htr htn
      rw [firstT3 (by rw [hb]; exact hcl.2.2.2.2.1 rfl), nameT, hn, htake]; rfl
    · have hn := hrun 4 (by decide) (fun x hx => (okB_cls (h x hx).1.1 (h x hx).1.2 hq (h x hx).2).2.2.2.2.2.1 rfl)
      have hd : digs (c :: r) := fun x hx => (dig_cls (h x hx).1.1 (h x hx).1.2).1 ((okB_cls (h x hx).1.1 (h x hx).1.2 hq (h x hx).2).2.2.2.2.2.1 rfl)
      have hlt := numL_lt (c :: r) 0 (Int.le_refl _) hd
      have hp := pow_le9 _ h9
      have hbig : dkBig (c :: r ++ t) = false := by
        unfold dkBig
        rw [hn, htake]
        have : numL (c :: r) < (0 + 1) * 10 ^ (c :: r).length := hlt
        exact decide_eq_false (by omega)
      rw [firstT4 (by rw [hb]; exact hcl.2.2.2.2.2.1 rfl), numT, dkE, hn, hbig, dkK, hn, htake]
      simp [kdOf]
    · have hn := hrun 5 (by decide) (fun x hx => ((okB_cls (h x hx).1.1 (h x hx).1.2 hq (h x hx).2).2.2.2.2.2.2.1 rfl).1)
      have he : endT (c :: r ++ t) = false := endT_no (fun hx => (hcl.2.2.2.2.2.2.1 rfl).2 hx.2)
      rw [firstT5 (by rw [hb]; exact (hcl.2.2.2.2.2.2.1 rfl).1), symT, he, hn, htake]; rfl
    · have hr : r = [] := by
        have := h4 rfl
        rw [List.length_cons] at this
        exact List.eq_nil_of_length_eq_zero (by omega)
      subst hr
      rw [firstT6 (by rw [hb]; exact hcl.2.2.2.2.2.2.2 rfl)]
      rfl

theorem sk_alone (q : Nat) (hq : q < 5) (s t : List Int) (h : allB q s) (h0 : 0 < s.length) : sk (s ++ t) = (0, 0) := by
  cases s with
  | nil => simp at h0
  | cons c r =>
    have hc := h c (by simp)
    have hcl := okB_cls hc.1.1 hc.1.2 hq hc.2
    have := skAt_else (l := c :: r ++ t) (k := 0) (by simp) (by exact hcl.1) (by exact hcl.2.1) (by
      rw [List.drop_zero]
      cases hp : pre2 47 42 (c :: r ++ t) with
      | false => rfl
      | true =>
        have h3 := (pre2_iff.1 hp).2.1
        exact absurd h3 hcl.2.2.1)
    rwa [skAt_zero] at this

theorem nx_bare (q : Nat) (hq : q < 5) (s : List Int) (h : allB q s) (h0 : 0 < s.length) (h9 : s.length ≤ 9) (h4 : q = 4 → s.length = 1) : nx s 0 = some (0, ⟨kdOf q, s.length, s, 0⟩) := by
  have h1 := sk_alone q hq s [] h h0
  have h2 := firstT_alone q hq s [] h h0 h9 h4 (Or.inl rfl)
  rw [List.append_nil] at h1 h2
  rw [nx_some (n := 0) (by rw [List.drop_zero]; exact h1) (by omega)]
  simp only [Nat.add_zero, List.drop_zero]
  rw [h2]

theorem nx_blank (q : Nat) (hq : q < 5) (s : List Int) (h : allB q s) (h0 : 0 < s.length) (h9 : s.length ≤ 9) (h4 : q = 4 → s.length = 1) : nx (32 :: (s ++ [32])) 0 = some (1, ⟨kdOf q, s.length, s, 0⟩) := by
  have h1 := sk_alone q hq s [32] h h0
  have h2 := firstT_alone q hq s [32] h h0 h9 h4 (Or.inr rfl)
  have hs : sk ((32 :: (s ++ [32])).drop 0) = (1, 0) := by
    have := skAt_one (l := 32 :: (s ++ [32])) (k := 0) (by simp) (by show cls 32 = 1; decide)
    rw [skAt_zero] at this
    rw [List.drop_zero, this, skAt, List.drop_succ_cons, List.drop_zero, h1]; rfl
  rw [nx_some hs (by simp)]
  simp only [Nat.zero_add, List.drop_succ_cons, List.drop_zero]
  rw [h2]

theorem bstr_size (l : List Int) : (bstr l).size = l.length := by simp [bstr, ByteArray.size]
theorem bstr_append (l k : List Int) : bstr l ++ bstr k = bstr (l ++ k) := by
  apply ByteArray.ext
  simp [bstr]
theorem bstr_blank (l : List Int) : ({ data := #[32] } : ByteArray) ++ bstr l ++ { data := #[32] } = bstr (32 :: (l ++ [32])) := by
  apply ByteArray.ext
  simp [bstr]

/-- []byte(s). -/
theorem conv_str (w : World) (s : ByteArray) (l : List Int) (hs : s = bstr l) (hr : ∀ x ∈ l, 0 ≤ x ∧ x ≤ 255) (hl : l.length ≤ 1000000) :
    ∃ g C W', (convert 9 22 (.string s)).run Tryd.prog w = .ok (.slice (some ⟨g, 0, none⟩) l.length C) W' ∧ Bs W' (some ⟨g, 0, none⟩) l.length C l ∧ Below w.heap.size w W' := by
  have h := run_bytes_of_string (P := Tryd.prog) w 9 22 5 s Tryd.underlying9 Tryd.underlying22 Tryd.underlying5
  have hz : s.size = l.length := by rw [hs, bstr_size]
  have hc1 := grownCap_ge w s.size 0 5
  have hc2 := grownCap_le_maxLen w s.size 0 5 (by unfold maxLen; omega)
  rw [hz] at hc1 hc2 h
  refine ⟨_, _, _, h, ⟨rfl, hc1, hc2, hr, fun h0 => ⟨_, 0, rfl, by simp, fun j hj => ?_⟩⟩, ((Below.refl _ _).drew).alloc (Nat.le_refl _) _⟩
  have hn := cell_of_row (w.drew.alloc (.cells (bytesRow s (grownCap w l.length 0 5)) 5 ((bytesRow s (grownCap w l.length 0 5)).size, (bytesRow s (grownCap w l.length 0 5)).size + 1))) w.heap.size (0 + j) _ 5 _ (heap_alloc_new w.drew _)
  rw [hn]
  rw [bytesRow_at s _ (0 + j) (show 0 + j < s.size from by omega)]
  subst hs
  simp only [Nat.zero_add, bstr, List.getElem_toArray, List.getElem_map]
  rw [u8_back (hr _ (List.getElem_mem hj))]
  simp [bt, List.getD, hj]

end Go.Proofs.YtecabgmkoknbgaaDoor
