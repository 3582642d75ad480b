/- How far the first token goes: what stands at its beginning, and behind it. No walk here. -/
import Derived.Test.YtecabgmkoknbgaaDoorTi
namespace Go.Proofs.YtecabgmkoknbgaaDoor
open Go.RowKit

theorem nmL_end (l : List Int) : nmB (l.drop (nmL l)) = false := by
  induction hn : l.length using Nat.strongRecOn generalizing l with
  | _ n ih =>
    cases hb : nmB l with
    | false => rw [nmL_no hb, List.drop_zero]; exact hb
    | true =>
      have h1 := takeN_pos (nmB_ok hb).2
      have h2 : 0 < l.length := List.length_pos_iff.2 (nmB_ok hb).2
      have := ih (l.drop (takeN l)).length (by rw [List.length_drop]; omega) _ rfl
      rw [List.drop_drop] at this
      rw [nmL_yes hb]
      exact this

theorem nmL_stop {l : List Int} (hr : ∀ x ∈ l, 0 ≤ x ∧ x ≤ 255) (h : nmL l < l.length) : nameB (bt l (nmL l)) = false := by
  cases hb : nameB (bt l (nmL l)) with
  | false => rfl
  | true =>
    have h1 := nmB_name (l := l.drop (nmL l)) (fun hn => by have := List.drop_eq_nil_iff.1 hn; omega) (fun x hx => hr x (List.drop_subset _ _ hx)) (by rw [bt_drop, Nat.add_zero]; exact hb)
    rw [nmL_end] at h1
    exact absurd h1.1 (by simp)

theorem runL_stop {n : Int} {l : List Int} (h : runL n l < l.length) : cls (bt l (runL n l)) ≠ n := by
  have h1 := runL_again n l
  have h2 := (runL_zero (n := n) (l := l.drop (runL n l)) (by rw [List.length_drop]; omega)).1 h1
  rwa [bt_drop, Nat.add_zero] at h2

structure TRn (l : List Int) (t : TR) : Prop where
  k1 : t.k = 1 → (cls (bt l 0) = 2 ∨ cls (bt l 0) = 9) ∧ (t.n < l.length → nameB (bt l t.n) = false)
  k3 : t.k = 3 → cls (bt l 0) = 3 ∧ (t.n < l.length → nameB (bt l t.n) = false)
  k4 : t.k = 4 → cls (bt l 0) = 4 ∧ (t.n < l.length → cls (bt l t.n) ≠ 4)
  k2 : t.k = 2 → cls (bt l 0) = 5 ∧ (t.n < l.length → cls (bt l t.n) ≠ 5) ∧ (t.t = [46] → t.n < l.length ∧ cls (bt l t.n) ≠ 1 ∧ cls (bt l t.n) ≠ 8)
  k7 : t.k = 7 → t.t = [46] ∧ (t.n < l.length → cls (bt l t.n) = 1 ∨ cls (bt l t.n) = 8)
  k6 : t.k = 6 → cls (bt l 0) = 6 ∧ t.n = 1
  k5 : t.k = 5 → cls (bt l 0) = 7 ∧ bt l (t.n - 1) = 39 ∧ 2 ≤ t.n

theorem trn_bad {l : List Int} {t : TR} (h : t.k = 8) : TRn l t := by
  constructor <;> intro h' <;> omega

theorem firstT_runs {l : List Int} (h0 : 0 < l.length) (hr : ∀ x ∈ l, 0 ≤ x ∧ x ≤ 255) : TRn l (firstT l) := by
  have hb := bt_rng hr 0
  have hc := cls_rng hb.1 hb.2
  have hne : l ≠ [] := by intro hn; subst hn; simp at h0
  obtain hk | hk | hk | hk | hk | hk | hk | hk : cls (bt l 0) = 2 ∨ cls (bt l 0) = 3 ∨ cls (bt l 0) = 9 ∨ cls (bt l 0) = 5 ∨ cls (bt l 0) = 4 ∨ cls (bt l 0) = 7 ∨ cls (bt l 0) = 6 ∨ (cls (bt l 0) = 0 ∨ cls (bt l 0) = 1 ∨ cls (bt l 0) = 8) := by omega
  · rw [firstT2 hk]
    constructor <;> intro h' <;> simp only [nameT] at h' ⊢
    · exact ⟨Or.inl hk, nmL_stop hr⟩
    all_goals omega
  · rw [firstT3 hk]
    constructor <;> intro h' <;> simp only [nameT] at h' ⊢
    · omega
    · exact ⟨hk, nmL_stop hr⟩
    all_goals omega
  · rw [firstT9 hk]
    unfold highT
    split
    · exact trn_bad rfl
    · constructor <;> intro h' <;> simp only [nameT] at h' ⊢
      · exact ⟨Or.inr hk, nmL_stop hr⟩
      all_goals omega
  · rw [firstT5 hk]
    have hp := runL_pos h0 hk
    have hl := runL_le 5 l
    cases he : endT l with
    | true =>
      constructor <;> intro h' <;> simp only [symT, he, if_true] at h' ⊢
      case k7 =>
        unfold endT at he
        simp only [Bool.and_eq_true, Bool.or_eq_true, decide_eq_true_eq] at he
        refine ⟨(take_dot hp hl).2 ⟨he.1, he.2.1⟩, fun hlt => ?_⟩
        rw [he.1] at hlt ⊢
        omega
      all_goals omega
    | false =>
      constructor <;> intro h' <;> simp only [symT, he, Bool.false_eq_true, if_false] at h' ⊢
      case k2 =>
        refine ⟨hk, runL_stop, fun ht => ?_⟩
        obtain ⟨e1, e2⟩ := (take_dot hp hl).1 ht
        have hE : ¬ (l.length = 1 ∨ cls (bt l 1) = 1 ∨ cls (bt l 1) = 8) := by
          intro hh
          have : endT l = true := by
            unfold endT
            simp only [Bool.and_eq_true, Bool.or_eq_true, decide_eq_true_eq]
            exact ⟨e1, e2, hh⟩
          rw [he] at this; cases this
        rw [e1]
        refine ⟨by omega, fun hh => hE (Or.inr (Or.inl hh)), fun hh => hE (Or.inr (Or.inr hh))⟩
      all_goals omega
  · rw [firstT4 hk]
    unfold numT
    split
    · constructor <;> intro h' <;> simp only at h' ⊢
      case k4 => exact ⟨hk, runL_stop⟩
      all_goals omega
    · exact trn_bad rfl
  · rw [firstT7 hk]
    unfold quoT
    split
    · rename_i he
      constructor <;> intro h' <;> simp only at h' ⊢
      case k5 => have := tk_ok he; exact ⟨hk, this.2, this.1⟩
      all_goals omega
    · exact trn_bad rfl
  · rw [firstT6 hk]
    constructor <;> intro h' <;> simp only at h' ⊢
    case k6 => exact ⟨hk, trivial⟩
    all_goals omega
  · rw [firstT0 hk]
    exact trn_bad rfl

theorem nx_runs {l : List Int} {k f : Nat} {t : TR} (hk : k ≤ l.length) (hr : ∀ x ∈ l, 0 ≤ x ∧ x ≤ 255) (h : nx l k = some (f, t)) : TRn (l.drop f) t := by
  obtain ⟨n, z, hs, hn, hz⟩ := sk_ways l k hk
  by_cases h0 : z = 0
  · subst h0
    by_cases he : k + n = l.length
    · rw [nx_none hs he] at h; cases h
    · rw [nx_some hs he] at h
      simp only [Option.some.injEq, Prod.mk.injEq] at h
      obtain ⟨rfl, rfl⟩ := h
      exact firstT_runs (by rw [List.length_drop]; omega) fun x hx => hr x (List.drop_subset _ _ hx)
  · rw [nx_err hs h0] at h
    simp only [Option.some.injEq, Prod.mk.injEq] at h
    obtain ⟨rfl, rfl⟩ := h
    exact trn_bad rfl

end Go.Proofs.YtecabgmkoknbgaaDoor
