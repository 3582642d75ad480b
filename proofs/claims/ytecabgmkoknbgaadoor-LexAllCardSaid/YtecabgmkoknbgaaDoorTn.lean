/- What is true of the first token: how long it is, what it says. No walk here. -/
import Derived.Test.YtecabgmkoknbgaaDoorTm
namespace Go.Proofs.YtecabgmkoknbgaaDoor
open Go.RowKit

theorem qs_len (r : List Int) : (qs r).n ≤ r.length ∧ ((qs r).e = 0 → 1 ≤ (qs r).n ∧ bt r ((qs r).n - 1) = 39) := by
  induction hn : r.length using Nat.strongRecOn generalizing r with
  | _ n ih =>
    by_cases h : qE r = -1
    · have h1 := qN_pos h
      have h2 := qN_le h
      have h3 := ih (r.drop (qN r)).length (by rw [List.length_drop]; omega) _ rfl
      rw [qs_go h]
      rw [List.length_drop] at h3
      simp only
      refine ⟨by omega, fun h0 => ?_⟩
      have h4 := h3.2 h0
      refine ⟨by omega, ?_⟩
      have h5 := h4.2
      rw [bt_drop] at h5
      rw [← h5]; congr 1; omega
    · by_cases h0 : qE r = 0
      · rw [qs_ok h0]
        have hne : r ≠ [] := by intro hn'; subst hn'; rw [qE_nil] at h0; omega
        have hp : 1 ≤ r.length := List.length_pos_iff.2 hne
        refine ⟨by simp only; omega, fun _ => ⟨Nat.le_refl _, ?_⟩⟩
        show bt r 0 = 39
        unfold qE at h0
        by_cases h39 : bt r 0 = 39
        · exact h39
        · exfalso
          revert h0
          repeat' split
          all_goals first | omega | (intro h; omega) | contradiction
      · rw [qs_err rfl h h0]
        exact ⟨Nat.zero_le _, fun hh => absurd hh h0⟩

theorem tk_len {l : List Int} : (tk l).n ≤ l.length := by
  unfold tk
  split
  · rename_i h
    have h1 := bt_ne (l := l) (j := 0) (by omega)
    have := (qs_len (l.drop 1)).1
    rw [List.length_drop] at this
    simp only
    omega
  · simp

theorem tk_ok {l : List Int} (h : (tk l).e = 0) : 2 ≤ (tk l).n ∧ bt l ((tk l).n - 1) = 39 := by
  unfold tk at h ⊢
  split
  · rename_i h39
    rw [if_pos h39] at h
    have := (qs_len (l.drop 1)).2 h
    simp only
    refine ⟨by omega, ?_⟩
    have h5 := this.2
    rw [bt_drop] at h5
    rw [← h5]; congr 1; omega
  · rename_i h39
    rw [if_neg h39] at h
    simp at h

theorem cls7 : ∀ n : Nat, n < 256 → (cls n = 7 ↔ n = 39) := by decide +kernel
theorem cls7' {c : Int} (h0 : 0 ≤ c) (h1 : c ≤ 255) : cls c = 7 ↔ c = 39 := by
  have := cls7 c.toNat (by omega)
  rw [Int.toNat_of_nonneg h0] at this
  rw [this]; omega

theorem runL_pos {n : Int} {l : List Int} (h0 : 0 < l.length) (h : cls (bt l 0) = n) : 1 ≤ runL n l := by
  have := runL_zero (n := n) h0
  apply Nat.pos_of_ne_zero
  intro hz
  exact absurd h (this.1 hz)

/-- What a token is like, of bytes l. -/
structure TG (l : List Int) (t : TR) : Prop where
  n1 : 1 ≤ t.n
  nl : t.n ≤ l.length
  k1 : 1 ≤ t.k
  k8 : t.k ≤ 8
  e0 : t.e = 0 ↔ t.k ≠ 8
  bad : t.k = 8 → t.t = []
  says : t.k ≠ 8 → t.k ≠ 5 → t.t = l.take t.n

theorem nameT_good {l : List Int} (k : Int) (hk : k = 1 ∨ k = 3) (h : 0 < nmL l) : TG l (nameT k l) := by
  refine ⟨h, nmL_le l, ?_, ?_, ?_, ?_, fun _ _ => rfl⟩
  all_goals simp [nameT]; omega

theorem firstT_good {l : List Int} (h0 : 0 < l.length) (hr : ∀ x ∈ l, 0 ≤ x ∧ x ≤ 255) : TG l (firstT l) := by
  have hb := bt_rng hr 0
  have hc := cls_rng hb.1 hb.2
  have hne : l ≠ [] := by intro hn; subst hn; simp at h0
  obtain hk | hk | hk | hk | hk | hk | hk | hk : cls (bt l 0) = 2 ∨ cls (bt l 0) = 3 ∨ cls (bt l 0) = 9 ∨ cls (bt l 0) = 5 ∨ cls (bt l 0) = 4 ∨ cls (bt l 0) = 7 ∨ cls (bt l 0) = 6 ∨ (cls (bt l 0) = 0 ∨ cls (bt l 0) = 1 ∨ cls (bt l 0) = 8) := by omega
  · rw [firstT2 hk]
    exact nameT_good 1 (Or.inl rfl) (nmL_pos (nmB_name hne hr (nameB_of (Or.inl hk))).1)
  · rw [firstT3 hk]
    exact nameT_good 3 (Or.inr rfl) (nmL_pos (nmB_name hne hr (nameB_of (Or.inr (Or.inl hk)))).1)
  · rw [firstT9 hk]
    unfold highT
    split
    · exact ⟨Nat.le_refl _, h0, by simp, by simp, by simp, fun _ => rfl, fun h => absurd rfl h⟩
    · exact nameT_good 1 (Or.inl rfl) (by omega)
  · rw [firstT5 hk]
    refine ⟨runL_pos h0 hk, runL_le 5 l, ?_, ?_, ?_, ?_, fun _ _ => rfl⟩
    all_goals simp only [symT]; split <;> simp
  · rw [firstT4 hk]
    have hp := runL_pos h0 hk
    have hl := runL_le 4 l
    unfold numT
    split
    · exact ⟨hp, hl, by simp, by simp, by simp, by simp, fun _ _ => rfl⟩
    · rename_i he
      exact ⟨hp, hl, by simp, by simp, by simpa using he, fun _ => rfl, fun h => absurd rfl h⟩
  · rw [firstT7 hk]
    have h39 := (cls7' hb.1 hb.2).1 hk
    have hp : 1 ≤ (tk l).n := by unfold tk; rw [if_pos h39]; simp only; omega
    have hl := tk_len (l := l)
    unfold quoT
    split
    · exact ⟨hp, hl, by simp, by simp, by simp, by simp, fun _ h => absurd rfl h⟩
    · rename_i he
      exact ⟨hp, hl, by simp, by simp, by simpa using he, fun _ => rfl, fun h => absurd rfl h⟩
  · rw [firstT6 hk]
    exact ⟨Nat.le_refl _, h0, by simp, by simp, by simp, by simp, fun _ _ => rfl⟩
  · rw [firstT0 hk]
    exact ⟨Nat.le_refl _, h0, by simp, by simp, by simp, fun _ => rfl, fun h => absurd rfl h⟩

theorem nx_err {l : List Int} {k n : Nat} {z : Int} (h : sk (l.drop k) = (n, z)) (hz : z ≠ 0) : nx l k = some (k + n, ⟨8, l.length - (k + n), [], z⟩) := by
  unfold nx; rw [h, if_pos hz]
theorem nx_none {l : List Int} {k n : Nat} (h : sk (l.drop k) = (n, 0)) (hn : k + n = l.length) : nx l k = none := by
  unfold nx; rw [h, if_neg (by simp), if_pos hn]
theorem nx_some {l : List Int} {k n : Nat} (h : sk (l.drop k) = (n, 0)) (hn : k + n ≠ l.length) : nx l k = some (k + n, firstT (l.drop (k + n))) := by
  unfold nx; rw [h, if_neg (by simp), if_neg hn]

/-- How layout ends: with a comment that does not end, with the bytes, or ahead of a token. -/
theorem sk_ways (l : List Int) (k : Nat) (hk : k ≤ l.length) : ∃ n z, sk (l.drop k) = (n, z) ∧ k + n ≤ l.length ∧ (z ≠ 0 → k + n < l.length ∧ z = 14) := by
  obtain ⟨h1, _, h3⟩ := sk_ends (l.drop k)
  refine ⟨(sk (l.drop k)).1, (sk (l.drop k)).2, rfl, by rw [List.length_drop] at h1; omega, fun hz => ?_⟩
  rcases h3 with ⟨h, p⟩ | ⟨h, _⟩
  · have := (pre2_head p).1
    simp only [List.length_drop] at this
    exact ⟨by omega, h⟩
  · exact absurd h hz

end Go.Proofs.YtecabgmkoknbgaaDoor
