/- Mathematics of lines: ln l k newlines stand ahead of the place k of l, cl l k bytes from the last one of them to k; how they go through two rows, and which place has a line and a column. No program here. -/
import Derived.Test.YtoapfchdmfmdeaaUb
namespace Go.Proofs.Ytoapfchdmfmdeaa
open Go.RowKit

def ln (l : List Int) : Nat → Nat
  | 0 => 0
  | k + 1 => if bt l k = 10 then ln l k + 1 else ln l k
def cl (l : List Int) : Nat → Nat
  | 0 => 0
  | k + 1 => if bt l k = 10 then 0 else cl l k + 1

theorem ln_succ (l : List Int) (k : Nat) : ln l (k + 1) = if bt l k = 10 then ln l k + 1 else ln l k := rfl
theorem cl_succ (l : List Int) (k : Nat) : cl l (k + 1) = if bt l k = 10 then 0 else cl l k + 1 := rfl

theorem cl_le (l : List Int) : ∀ k, cl l k ≤ k
  | 0 => Nat.le_refl _
  | k + 1 => by have := cl_le l k; rw [cl_succ]; split <;> omega
theorem ln_le (l : List Int) : ∀ k, ln l k ≤ k
  | 0 => Nat.le_refl _
  | k + 1 => by have := ln_le l k; rw [ln_succ]; split <;> omega

theorem ln_mono (l : List Int) (j : Nat) : ∀ d, ln l j ≤ ln l (j + d)
  | 0 => Nat.le_refl _
  | d + 1 => by have := ln_mono l j d; rw [show j + (d + 1) = j + d + 1 from rfl, ln_succ]; split <;> omega

/-- No newline between them: the column goes on. -/
theorem cl_on (l : List Int) (j : Nat) : ∀ d, ln l (j + d) = ln l j → cl l (j + d) = cl l j + d
  | 0, _ => rfl
  | d + 1, h => by
    have h1 := ln_mono l j d
    rw [show j + (d + 1) = j + d + 1 from rfl, ln_succ] at h
    rw [show j + (d + 1) = j + d + 1 from rfl, cl_succ]
    by_cases hb : bt l (j + d) = 10
    · rw [if_pos hb] at h; omega
    · rw [if_neg hb] at h
      have := cl_on l j d h
      rw [if_neg hb]; omega

theorem place_one {l : List Int} {j k : Nat} (h1 : ln l j = ln l k) (h2 : cl l j = cl l k) : j = k := by
  rcases Nat.lt_trichotomy j k with h | h | h
  · obtain ⟨d, rfl⟩ := Nat.exists_eq_add_of_le (Nat.le_of_lt h)
    have := cl_on l j d h1.symm; omega
  · exact h
  · obtain ⟨d, rfl⟩ := Nat.exists_eq_add_of_le (Nat.le_of_lt h)
    have := cl_on l k d h1; omega

theorem ln_take (l : List Int) (m : Nat) : ∀ k, k ≤ m → ln (l.take m) k = ln l k
  | 0, _ => rfl
  | k + 1, h => by rw [ln_succ, ln_succ, ln_take l m k (by omega), bt_take l m k (by omega)]
theorem cl_take (l : List Int) (m : Nat) : ∀ k, k ≤ m → cl (l.take m) k = cl l k
  | 0, _ => rfl
  | k + 1, h => by rw [cl_succ, cl_succ, cl_take l m k (by omega), bt_take l m k (by omega)]

theorem bt_inl (x y : List Int) (j : Nat) (h : j < x.length) : bt (x ++ y) j = bt x j := by unfold bt; simp [List.getD, List.getElem?_append_left h]
theorem bt_inr (x y : List Int) (j : Nat) : bt (x ++ y) (x.length + j) = bt y j := by unfold bt; simp [List.getD, List.getElem?_append_right]

theorem ln_inl (x y : List Int) : ∀ k, k ≤ x.length → ln (x ++ y) k = ln x k
  | 0, _ => rfl
  | k + 1, h => by rw [ln_succ, ln_succ, ln_inl x y k (by omega), bt_inl x y k (by omega)]
theorem cl_inl (x y : List Int) : ∀ k, k ≤ x.length → cl (x ++ y) k = cl x k
  | 0, _ => rfl
  | k + 1, h => by rw [cl_succ, cl_succ, cl_inl x y k (by omega), bt_inl x y k (by omega)]
theorem ln_inr (x y : List Int) : ∀ k, ln (x ++ y) (x.length + k) = ln x x.length + ln y k
  | 0 => ln_inl x y _ (Nat.le_refl _)
  | k + 1 => by
    rw [← Nat.add_assoc, ln_succ, ln_succ, ln_inr x y k, bt_inr]
    split <;> omega
theorem cl_inr (x y : List Int) : ∀ k, cl (x ++ y) (x.length + k) = if ln y k = 0 then cl x x.length + cl y k else cl y k
  | 0 => by rw [Nat.add_zero, cl_inl x y _ (Nat.le_refl _), if_pos (show ln y 0 = 0 from rfl)]; rfl
  | k + 1 => by
    rw [← Nat.add_assoc, cl_succ, cl_succ, ln_succ, cl_inr x y k, bt_inr]
    by_cases hb : bt y k = 10
    · simp only [if_pos hb]
      rw [if_neg (by omega)]
    · simp only [if_neg hb]
      split <;> omega

/-- How many bytes stand ahead of the first newline. -/
def lineL : List Int → Nat
  | [] => 0
  | c :: r => if c = 10 then 0 else 1 + lineL r

theorem lineL_le : ∀ l : List Int, lineL l ≤ l.length
  | [] => Nat.le_refl _
  | c :: r => by have := lineL_le r; simp only [lineL, List.length_cons]; split <;> omega

theorem lineL_ne : ∀ (l : List Int) (j : Nat), j < lineL l → bt l j ≠ 10
  | [], _, h => absurd h (Nat.not_lt_zero _)
  | c :: r, j, h => by
    by_cases hc : c = 10
    · rw [lineL, if_pos hc] at h; omega
    · rw [lineL, if_neg hc] at h
      cases j with
      | zero => exact hc
      | succ j => exact lineL_ne r j (by omega)
theorem lineL_at : ∀ (l : List Int), lineL l < l.length → bt l (lineL l) = 10
  | [], h => absurd h (Nat.not_lt_zero _)
  | c :: r, h => by
    by_cases hc : c = 10
    · rw [lineL, if_pos hc]; exact hc
    · rw [lineL, if_neg hc] at h ⊢
      rw [Nat.add_comm]
      exact lineL_at r (by simp only [List.length_cons] at h; omega)

/-- From o on, up to the next newline. -/
theorem ln_line (l : List Int) (o : Nat) : ∀ j, j ≤ lineL (l.drop o) → ln l (o + j) = ln l o ∧ cl l (o + j) = cl l o + j
  | 0, _ => ⟨rfl, rfl⟩
  | j + 1, h => by
    obtain ⟨h1, h2⟩ := ln_line l o j (by omega)
    have hb := lineL_ne (l.drop o) j (by omega)
    rw [bt_drop] at hb
    rw [← Nat.add_assoc, ln_succ, cl_succ, if_neg hb, if_neg hb, h1, h2]
    exact ⟨rfl, rfl⟩
theorem ln_next {l : List Int} {o : Nat} (h : lineL (l.drop o) < (l.drop o).length) : ln l (o + lineL (l.drop o) + 1) = ln l o + 1 ∧ cl l (o + lineL (l.drop o) + 1) = 0 := by
  have hb := lineL_at _ h
  rw [bt_drop] at hb
  rw [ln_succ, cl_succ, if_pos hb, if_pos hb, (ln_line l o _ (Nat.le_refl _)).1]
  exact ⟨rfl, rfl⟩

/-- The place that has this line and this column. -/
def offO (l : List Int) (x y : Int) : Option Nat := (List.range (l.length + 1)).find? fun k => decide ((ln l k : Int) = x) && decide ((cl l k : Int) = y)

theorem offO_some {l : List Int} {x y : Int} {k : Nat} (hk : k ≤ l.length) (h1 : (ln l k : Int) = x) (h2 : (cl l k : Int) = y) : offO l x y = some k := by
  cases h : offO l x y with
  | none =>
    exfalso
    have := List.find?_eq_none.1 h k (by rw [List.mem_range]; omega)
    simp [h1, h2] at this
  | some j =>
    have hj := List.find?_some h
    simp only [Bool.and_eq_true, decide_eq_true_eq] at hj
    rw [place_one (l := l) (j := j) (k := k) (by omega) (by omega)]
theorem offO_none {l : List Int} {x y : Int} (h : ∀ k, k ≤ l.length → (ln l k : Int) = x → (cl l k : Int) = y → False) : offO l x y = none := by
  refine List.find?_eq_none.2 fun k hk => ?_
  rw [List.mem_range] at hk
  simp only [Bool.and_eq_true, decide_eq_true_eq]
  exact fun hh => h k (by omega) hh.1 hh.2

def offV (l : List Int) (x y : Int) : Int := match offO l x y with | some k => k | none => 0
def offE (l : List Int) (x y : Int) : Int := match offO l x y with | some _ => 0 | none => 3

theorem offV_some {l : List Int} {x y : Int} {k : Nat} (hk : k ≤ l.length) (h1 : (ln l k : Int) = x) (h2 : (cl l k : Int) = y) : offV l x y = k ∧ offE l x y = 0 := by
  unfold offV offE; rw [offO_some hk h1 h2]; exact ⟨rfl, rfl⟩
theorem offV_none {l : List Int} {x y : Int} (h : ∀ k, k ≤ l.length → (ln l k : Int) = x → (cl l k : Int) = y → False) : offV l x y = 0 ∧ offE l x y = 3 := by
  unfold offV offE; rw [offO_none h]; exact ⟨rfl, rfl⟩

end Go.Proofs.Ytoapfchdmfmdeaa
