/- More plain mathematics of layer 4: which texts are put, and what the beginnings of such are. No program here. -/
import Derived.Test.YtecabgmkoknbgaaDoorQp
namespace Go.Proofs.YtecabgmkoknbgaaDoor

/-- A text that may be put. -/
def okT (t : List Int) : Prop := valid t = true ∧ ∀ c ∈ t, good c

theorem okT_nil : okT [] := ⟨valid_nil, by simp⟩
theorem okT_low {c : Int} {r : List Int} (h : c ≤ 127) (hg : good c) : okT (c :: r) ↔ okT r := by
  unfold okT
  rw [valid_low (by simp) (by rw [bt_cons0]; exact h)]
  show valid r = true ∧ _ ↔ _
  constructor
  · exact fun ⟨h1, h2⟩ => ⟨h1, fun x hx => h2 x (by simp [hx])⟩
  · exact fun ⟨h1, h2⟩ => ⟨h1, fun x hx => by rcases List.mem_cons.1 hx with rfl | hx; exact hg; exact h2 x hx⟩

theorem okT_seq {t : List Int} (h : okSeq t = true) (h0 : 32 ≤ bt t 0) (h1 : bt t 0 ≠ 127) : okT t ↔ okT (t.drop (takeN t)) := by
  have hne := ((okSeq_iff t).1 h).1
  unfold okT
  rw [valid_step hne, h, Bool.true_and]
  constructor
  · exact fun ⟨a, b⟩ => ⟨a, fun x hx => b x (List.drop_subset _ _ hx)⟩
  · intro ⟨a, b⟩
    refine ⟨a, fun x hx => ?_⟩
    rw [← List.take_append_drop (takeN t) t] at hx
    rcases List.mem_append.1 hx with hx | hx
    · obtain ⟨j, hj, rfl⟩ := mem_bt hx
      rw [List.length_take] at hj
      rw [bt_take _ _ _ (by omega)]
      by_cases hj0 : j = 0
      · subst hj0; exact ⟨Or.inl h0, h1⟩
      · have := okSeq_high h (j := j) (by omega) (by omega)
        exact ⟨Or.inl (by omega), by omega⟩
    · exact b x hx

/-- High bytes of what was put are those of the text. -/
theorem escL_agree {Y : List Int} (hY : bt Y 0 < 128) : ∀ (k : Nat) (r : List Int), (∀ j, j < k → 128 ≤ bt (escL r ++ Y) j) → k ≤ r.length ∧ ∀ j, j < k → bt r j = bt (escL r ++ Y) j
  | 0, _, _ => ⟨Nat.zero_le _, fun j hj => by omega⟩
  | k + 1, [], h => by
    have := h 0 (by omega)
    rw [escL_nil, List.nil_append] at this; omega
  | k + 1, x :: r, h => by
    have h0 := h 0 (by omega)
    rw [escL_cons] at h0
    by_cases h1 : x = 39 ∨ x = 92
    · unfold esc at h0; rw [if_pos h1] at h0
      have : 128 ≤ x := h0
      omega
    · by_cases h2 : x = 10
      · unfold esc at h0; rw [if_neg h1, if_pos h2] at h0
        have : (128 : Int) ≤ 92 := h0
        omega
      · have he : escL (x :: r) ++ Y = x :: (escL r ++ Y) := by rw [escL_cons, esc_else (by omega) (by omega) h2]; rfl
        rw [he] at h ⊢
        obtain ⟨i1, i2⟩ := escL_agree hY k r fun j hj => by have := h (j + 1) (by omega); rwa [bt_consS] at this
        refine ⟨by simp; omega, fun j hj => ?_⟩
        cases j with
        | zero => rfl
        | succ j => rw [bt_consS, bt_consS]; exact i2 j (by omega)

/-- What may not be put is not taken. -/
theorem qs_bad {Y : List Int} (hY : bt Y 0 < 128) (t : List Int) (h : ¬ okT t) : (qs (escL t ++ Y)).e ≠ 0 := by
  induction hn : t.length using Nat.strongRecOn generalizing t with
  | _ n ih =>
    cases t with
    | nil => exact absurd okT_nil h
    | cons c r =>
      by_cases h1 : c = 39
      · subst h1
        rw [okT_low (by omega) (by decide)] at h
        rw [escL_cons, esc_quote]
        have hq := qE_two (r := [39, 39] ++ escL r ++ Y) rfl rfl
        rw [qs_go hq.1, hq.2.1]
        exact ih r.length (by simp at hn; omega) r h rfl
      · by_cases h2 : c = 92
        · subst h2
          rw [okT_low (by omega) (by decide)] at h
          rw [escL_cons, esc_back]
          have hq := qE_esc (r := [92, 92] ++ escL r ++ Y) rfl (Or.inr (Or.inl rfl))
          rw [qs_go hq.1, hq.2.1]
          exact ih r.length (by simp at hn; omega) r h rfl
        · by_cases h3 : c = 10
          · subst h3
            rw [okT_low (by omega) (by decide)] at h
            rw [escL_cons, esc_line]
            have hq := qE_esc (r := [92, 110] ++ escL r ++ Y) rfl (Or.inl rfl)
            rw [qs_go hq.1, hq.2.1]
            exact ih r.length (by simp at hn; omega) r h rfl
          · have he : escL (c :: r) ++ Y = c :: (escL r ++ Y) := by rw [escL_cons, esc_else h1 h2 h3]; rfl
            by_cases h4 : c < 32 ∨ c = 127
            · rw [he, qs_err (qE_byte (by simp) (by rw [bt_cons0]; exact h3) (by rw [bt_cons0]; exact h4)) (by decide) (by decide)]
              show (11 : Int) ≠ 0
              decide
            · cases hok : okSeq (c :: r) with
              | true =>
                have hne : c :: r ≠ [] := by simp
                have hp := takeN_pos hne
                have hl := takeN_le (c :: r)
                rw [okT_seq hok (by rw [bt_cons0]; omega) (by rw [bt_cons0]; omega)] at h
                have hE := escL_seq hok h1 h2 h3
                have hlt : ((c :: r).take (takeN (c :: r))).length = takeN (c :: r) := by rw [List.length_take]; omega
                have hsame := okSeq_same (l := c :: r) (l' := escL (c :: r) ++ Y) hok (by rw [hE, List.length_append, List.length_append, hlt]; omega) (fun j hj => by
                  rw [hE, List.append_assoc]
                  unfold bt
                  rw [List.getD_eq_getElem?_getD, List.getElem?_append_left (by rw [hlt]; exact hj), ← List.getD_eq_getElem?_getD]
                  exact bt_take _ _ _ hj)
                have hb0 : bt (escL (c :: r) ++ Y) 0 = c := by rw [he]; rfl
                have hq := qE_seq (r := escL (c :: r) ++ Y) (by omega) (by omega) (by omega) (by omega) hsame.1
                have hd : (escL (c :: r) ++ Y).drop (takeN (c :: r)) = escL ((c :: r).drop (takeN (c :: r))) ++ Y := by
                  rw [hE, List.append_assoc, List.drop_append_of_le_length (by rw [hlt]; omega), List.drop_eq_nil_of_le (by rw [hlt]; omega)]; rfl
                rw [qs_go hq.1, hq.2.1, hsame.2, hd]
                exact ih ((c :: r).drop (takeN (c :: r))).length (by rw [List.length_drop]; omega) _ h rfl
              | false =>
                have hno : okSeq (escL (c :: r) ++ Y) = false := by
                  cases hh : okSeq (escL (c :: r) ++ Y) with
                  | false => rfl
                  | true =>
                    rw [he] at hh
                    have hp := takeN_pos (l := c :: (escL r ++ Y)) (by simp)
                    obtain ⟨k, hk⟩ : ∃ k, takeN (c :: (escL r ++ Y)) = k + 1 := ⟨_, (Nat.succ_pred_eq_of_pos hp).symm⟩
                    obtain ⟨i1, i2⟩ := escL_agree hY k r fun j hj => by
                      have := okSeq_high hh (j := j + 1) (by omega) (by omega)
                      rwa [bt_consS] at this
                    have := okSeq_same (l' := c :: r) hh (by rw [hk]; simp; omega) (fun j hj => by
                      cases j with
                      | zero => rfl
                      | succ j => rw [bt_consS, bt_consS]; exact i2 j (by omega))
                    rw [this.1] at hok; exact absurd hok (by decide)
                have hb0 : bt (escL (c :: r) ++ Y) 0 = c := by rw [he]; rfl
                rw [qs_err (qE_bad (by omega) (by omega) (by omega) (by omega) hno) (by decide) (by decide)]
                show (10 : Int) ≠ 0
                decide

theorem tk_put {t : List Int} (h : okT t) (r : List Int) (hr : bt r 0 ≠ 39) : tk (putL t ++ r) = ⟨0, (escL t).length + 2, t⟩ := by
  have hh := tk_pre (39 :: r) t h.1 h.2
  rw [qs_close hr] at hh
  unfold putL
  rw [show (39 :: (escL t ++ [39])) ++ r = 39 :: (escL t ++ 39 :: r) by simp, hh]
  exact QR.ext' rfl (by show 1 + ((escL t).length + 1) = (escL t).length + 2; omega) (by simp)

theorem ptOk_yes {t : List Int} (h : okT t) : ptT t = putL t ∧ ptE t = 0 := by
  have hk := tk_put h [] (by decide)
  rw [List.append_nil] at hk
  unfold ptT ptE ptOk; rw [hk]; exact ⟨rfl, rfl⟩
theorem ptOk_no {t : List Int} (h : ¬ okT t) : ptT t = [] ∧ ptE t = 1 := by
  have hk : (tk (putL t)).e ≠ 0 := by
    unfold tk putL
    rw [if_pos (bt_cons0 _ _)]
    exact qs_bad (Y := [39]) (by decide) t h
  unfold ptT ptE ptOk; simp [hk]

theorem putL_len (t : List Int) : (putL t).length = (escL t).length + 2 := by unfold putL; simp

/-- What a beginning of a text between quotes comes to. -/
def Cut (E : List Int) (m : Nat) (q : QR) : Prop :=
  (q.e = 0 ∧ q.n = m ∧ 1 ≤ m ∧ bt E (m - 1) = 39 ∧ q.t.length + 1 ≤ m) ∨ (q.e = 12 ∧ q.n = m) ∨ (q.e = 13 ∧ q.n + 1 = m ∧ bt E (m - 1) = 92) ∨ (q.e = 10 ∧ q.n < m ∧ 128 ≤ bt E (m - 1))

theorem Cut.pre {E : List Int} {m : Nat} {q : QR} (h : Cut E m q) (p t : List Int) (ht : t.length ≤ p.length) : Cut (p ++ E) (p.length + m) ⟨q.e, p.length + q.n, t ++ q.t⟩ := by
  have hb : 1 ≤ m → bt (p ++ E) (p.length + m - 1) = bt E (m - 1) := fun hm => by
    unfold bt
    rw [List.getD_eq_getElem?_getD, List.getElem?_append_right (by omega), ← List.getD_eq_getElem?_getD, show p.length + m - 1 - p.length = m - 1 by omega]
  rcases h with ⟨h1, h2, h3, h4, h5⟩ | ⟨h1, h2⟩ | ⟨h1, h2, h3⟩ | ⟨h1, h2, h3⟩
  · exact Or.inl ⟨h1, by show p.length + q.n = _; omega, by omega, by rw [hb h3]; exact h4, by show (t ++ q.t).length + 1 ≤ _; rw [List.length_append]; omega⟩
  · exact Or.inr (Or.inl ⟨h1, by show p.length + q.n = _; omega⟩)
  · exact Or.inr (Or.inr (Or.inl ⟨h1, by show p.length + q.n + 1 = _; omega, by rw [hb (by omega)]; exact h3⟩))
  · exact Or.inr (Or.inr (Or.inr ⟨h1, by show p.length + q.n < _; omega, by rw [hb (by omega)]; exact h3⟩))

theorem qs_nil : qs [] = ⟨12, 0, []⟩ := qs_err rfl (by decide) (by decide)

theorem qs_cut (t : List Int) (h : okT t) (m : Nat) (hm : m ≤ (escL t).length) : Cut (escL t) m (qs ((escL t).take m)) := by
  induction hn : t.length using Nat.strongRecOn generalizing t m with
  | _ n ih =>
    cases m with
    | zero => rw [List.take_zero, qs_nil]; exact Or.inr (Or.inl ⟨rfl, rfl⟩)
    | succ m =>
      cases t with
      | nil => rw [escL_nil] at hm; simp at hm
      | cons c r =>
        by_cases h1 : c = 39
        · subst h1
          rw [okT_low (by omega) (by decide)] at h
          rw [escL_cons, esc_quote] at hm ⊢
          cases m with
          | zero =>
            show Cut _ 1 (qs [39])
            rw [qs_close (by decide)]
            exact Or.inl ⟨rfl, rfl, by omega, rfl, by simp⟩
          | succ m =>
            show Cut _ (m + 2) (qs ([39, 39] ++ (escL r).take m))
            have hq := qE_two (r := [39, 39] ++ (escL r).take m) rfl rfl
            rw [qs_go hq.1, hq.2.1, hq.2.2]
            have := (ih r.length (by simp at hn; omega) r h m (by simp at hm; omega) rfl).pre [39, 39] [39] (by simp)
            rw [show ([39, 39] : List Int).length + m = m + 2 by simp; omega] at this
            exact this
        · by_cases h2 : c = 92
          · subst h2
            rw [okT_low (by omega) (by decide)] at h
            rw [escL_cons, esc_back] at hm ⊢
            cases m with
            | zero =>
              show Cut _ 1 (qs [92])
              rw [qs_err (qE_noesc (r := [92]) rfl (by decide)) (by decide) (by decide)]
              exact Or.inr (Or.inr (Or.inl ⟨rfl, rfl, rfl⟩))
            | succ m =>
              show Cut _ (m + 2) (qs ([92, 92] ++ (escL r).take m))
              have hq := qE_esc (r := [92, 92] ++ (escL r).take m) rfl (Or.inr (Or.inl rfl))
              rw [qs_go hq.1, hq.2.1, hq.2.2]
              have := (ih r.length (by simp at hn; omega) r h m (by simp at hm; omega) rfl).pre [92, 92] [92] (by simp)
              rw [show ([92, 92] : List Int).length + m = m + 2 by simp; omega] at this
              exact this
          · by_cases h3 : c = 10
            · subst h3
              rw [okT_low (by omega) (by decide)] at h
              rw [escL_cons, esc_line] at hm ⊢
              cases m with
              | zero =>
                show Cut _ 1 (qs [92])
                rw [qs_err (qE_noesc (r := [92]) rfl (by decide)) (by decide) (by decide)]
                exact Or.inr (Or.inr (Or.inl ⟨rfl, rfl, rfl⟩))
              | succ m =>
                show Cut _ (m + 2) (qs ([92, 110] ++ (escL r).take m))
                have hq := qE_esc (r := [92, 110] ++ (escL r).take m) rfl (Or.inl rfl)
                rw [qs_go hq.1, hq.2.1, hq.2.2]
                have := (ih r.length (by simp at hn; omega) r h m (by simp at hm; omega) rfl).pre [92, 110] [10] (by simp)
                rw [show ([92, 110] : List Int).length + m = m + 2 by simp; omega] at this
                exact this
            · have hne : c :: r ≠ [] := by simp
              have hgc : good c := h.2 c (by simp)
              unfold good at hgc
              have hok : okSeq (c :: r) = true := by
                have := h.1; rw [valid_step hne, Bool.and_eq_true] at this; exact this.1
              have hp := takeN_pos hne
              have hl := takeN_le (c :: r)
              rw [okT_seq hok (by rw [bt_cons0]; omega) (by rw [bt_cons0]; omega)] at h
              have hE := escL_seq hok h1 h2 h3
              have hlt : ((c :: r).take (takeN (c :: r))).length = takeN (c :: r) := by rw [List.length_take]; omega
              have hbE : ∀ j, j < takeN (c :: r) → bt (escL (c :: r)) j = bt (c :: r) j := fun j hj => by
                rw [hE]
                unfold bt
                rw [List.getD_eq_getElem?_getD, List.getElem?_append_left (by rw [hlt]; exact hj), ← List.getD_eq_getElem?_getD]
                exact bt_take _ _ _ hj
              have hb0 : bt ((escL (c :: r)).take (m + 1)) 0 = c := by rw [bt_take _ _ _ (by omega), hbE 0 hp]; rfl
              by_cases hcut : m + 1 < takeN (c :: r)
              · have hno : okSeq ((escL (c :: r)).take (m + 1)) = false := okSeq_no (Or.inr <| by
                  rw [hb0, List.length_take]
                  have := takeN_eq hok
                  rw [bt_cons0] at this
                  omega)
                rw [qs_err (qE_bad (by omega) (by omega) (by omega) (by omega) hno) (by decide) (by decide)]
                refine Or.inr (Or.inr (Or.inr ⟨rfl, by show 0 < m + 1; omega, ?_⟩))
                rw [Nat.add_sub_cancel, hbE m (by omega)]
                by_cases hm0 : m = 0
                · subst hm0
                  have := takeN_two hok (by omega)
                  omega
                · exact okSeq_high hok (by omega) (by omega)
              · have hsame := okSeq_same (l := c :: r) (l' := (escL (c :: r)).take (m + 1)) hok (by rw [List.length_take]; omega) (fun j hj => by rw [bt_take _ _ _ (by omega), hbE j hj])
                have hq := qE_seq (r := (escL (c :: r)).take (m + 1)) (by omega) (by omega) (by omega) (by omega) hsame.1
                obtain ⟨k, hk⟩ : ∃ k, m + 1 = takeN (c :: r) + k := ⟨m + 1 - takeN (c :: r), by omega⟩
                have hEl : (escL (c :: r)).length = takeN (c :: r) + (escL ((c :: r).drop (takeN (c :: r)))).length := by
                  have := congrArg List.length hE
                  rw [List.length_append, hlt] at this
                  exact this
                have hd : ((escL (c :: r)).take (m + 1)).drop (takeN (c :: r)) = (escL ((c :: r).drop (takeN (c :: r)))).take k := by
                  rw [hk, hE, List.drop_take, Nat.add_sub_cancel_left, List.drop_append_of_le_length (by rw [hlt]; omega), List.drop_eq_nil_of_le (by rw [hlt]; omega)]; rfl
                have ht : ((escL (c :: r)).take (m + 1)).take (takeN (c :: r)) = (c :: r).take (takeN (c :: r)) := by
                  rw [List.take_take, Nat.min_eq_left (by omega), hE, List.take_append_of_le_length (by rw [hlt]; omega), List.take_take, Nat.min_self]
                rw [qs_go hq.1, hq.2.1, hq.2.2, hsame.2, hd, ht]
                have := (ih ((c :: r).drop (takeN (c :: r))).length (by rw [List.length_drop]; omega) _ h k (by omega) rfl).pre ((c :: r).take (takeN (c :: r))) ((c :: r).take (takeN (c :: r))) (Nat.le_refl _)
                rw [hlt, ← hE, ← hk] at this
                exact this

end Go.Proofs.YtecabgmkoknbgaaDoor
