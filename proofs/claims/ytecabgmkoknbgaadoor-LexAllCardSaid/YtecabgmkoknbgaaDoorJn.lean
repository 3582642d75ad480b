/- More plain mathematics of layer 7: what a token is written as, and that it is lexed as it was. No walk here. -/
import Derived.Test.YtecabgmkoknbgaaDoorJm
namespace Go.Proofs.YtecabgmkoknbgaaDoor
open Go.RowKit

/-- What is told of a text within quotes may be put. -/
theorem qs_text (r : List Int) (hr : ∀ x ∈ r, 0 ≤ x ∧ x ≤ 255) (he : (qs r).e = 0) : okT (qs r).t ∧ (∀ x ∈ (qs r).t, 0 ≤ x ∧ x ≤ 255) ∧ (qs r).t.length ≤ (qs r).n := by
  induction hn : r.length using Nat.strongRecOn generalizing r with
  | _ n ih =>
    by_cases hg : qE r = -1
    · have hq := qs_go hg
      have hp := qN_pos hg
      have hl := qN_le hg
      rw [hq] at he ⊢
      simp only at he ⊢
      obtain ⟨i1, i2, i3⟩ := ih (r.drop (qN r)).length (by rw [List.length_drop]; omega) (r.drop (qN r)) (fun x hx => hr x (List.drop_subset _ _ hx)) he rfl
      have hne : r ≠ [] := by intro h; subst h; rw [qE_nil] at hg; omega
      have one : ∀ c : Int, 0 ≤ c → c ≤ 127 → good c → 1 ≤ qN r → qT r = [c] → okT (qT r ++ (qs (r.drop (qN r))).t) ∧ (∀ x ∈ qT r ++ (qs (r.drop (qN r))).t, 0 ≤ x ∧ x ≤ 255) ∧ (qT r ++ (qs (r.drop (qN r))).t).length ≤ qN r + (qs (r.drop (qN r))).n := by
        intro c c0 c1 c2 c3 c4
        rw [c4]
        exact ⟨(okT_low c1 c2).2 i1, rng_app (by simp; omega) i2, by rw [List.length_append]; simp; omega⟩
      by_cases h0 : bt r 0 = 39
      · refine one 39 (by decide) (by decide) ⟨Or.inl (by decide), by decide⟩ hp ?_
        unfold qT; rw [if_pos h0]
      by_cases h1 : bt r 0 = 92
      · by_cases h2 : bt r 1 = 110 ∨ bt r 1 = 92 ∨ bt r 1 = 39
        · have h3 := (qE_esc h1 h2).2.2
          rcases h2 with h2 | h2 | h2 <;> rw [h2] at h3
          · exact one 10 (by decide) (by decide) ⟨Or.inr rfl, by decide⟩ hp h3
          · exact one 92 (by decide) (by decide) ⟨Or.inl (by decide), by decide⟩ hp h3
          · exact one 39 (by decide) (by decide) ⟨Or.inl (by decide), by decide⟩ hp h3
        · rw [qE_noesc h1 h2] at hg; omega
      by_cases h2 : bt r 0 = 10
      · rw [qE_line h2] at hg; omega
      by_cases h3 : bt r 0 < 32 ∨ bt r 0 = 127
      · rw [qE_byte hne h2 h3] at hg; omega
      cases h4 : okSeq r with
      | false => rw [qE_bad (by omega) h0 h1 (by omega) h4] at hg; omega
      | true =>
        obtain ⟨_, h5, h6⟩ := qE_seq (by omega) h0 h1 (by omega) h4
        rw [h5] at i1 i2 i3
        rw [h6, h5]
        obtain ⟨h7, h8⟩ := seq_cut (qs (r.drop (takeN r))).t h4
        have h9 := bt_take_app (l := r) (Z := (qs (r.drop (takeN r))).t) (takeN_le r) (takeN_pos hne)
        refine ⟨(okT_seq h7 (by rw [h9]; omega) (by rw [h9]; omega)).2 ?_, rng_app (fun x hx => hr x (List.take_subset _ _ hx)) i2, by rw [List.length_append, List.length_take]; omega⟩
        rw [h8, List.drop_left' (by rw [List.length_take]; omega)]
        exact i1
    · by_cases h0 : qE r = 0
      · rw [qs_ok h0]
        exact ⟨okT_nil, by simp, by simp⟩
      · rw [qs_err rfl hg h0] at he
        exact absurd he h0

theorem tk_text (r : List Int) (hr : ∀ x ∈ r, 0 ≤ x ∧ x ≤ 255) (he : (tk r).e = 0) : okT (tk r).t ∧ (∀ x ∈ (tk r).t, 0 ≤ x ∧ x ≤ 255) ∧ (tk r).t.length ≤ (tk r).n := by
  by_cases h : bt r 0 = 39
  · unfold tk at he ⊢
    rw [if_pos h] at he ⊢
    simp only at he ⊢
    rw [if_pos he]
    obtain ⟨h1, h2, h3⟩ := qs_text (r.drop 1) (fun x hx => hr x (List.drop_subset _ _ hx)) he
    exact ⟨h1, h2, by omega⟩
  · rw [tk_none h] at he
    cases he

/-- A token's bytes; why there are none; what stands behind it. -/
def wrT (k : Int) (s : List Int) : List Int := if k = 5 then ptT s else s
def wrE (k : Int) (s : List Int) : Int := if k = 5 then ptE s else 0
def sepT (k : Int) : Int := if k = 7 then 10 else 32

theorem sepT_or (k : Int) : sepT k = 32 ∨ sepT k = 10 := by unfold sepT; split; exact Or.inr rfl; exact Or.inl rfl
theorem sepT_rng (k : Int) : 0 ≤ sepT k ∧ sepT k ≤ 255 := by rcases sepT_or k with h | h <;> rw [h] <;> decide
theorem sepT_lay (k : Int) : cls (sepT k) = 1 := by rcases sepT_or k with h | h <;> rw [h] <;> decide

/-- A token that is lexed as it was, if it is written with what stands behind it. -/
structure St (k : Int) (s : List Int) : Prop where
  e : wrE k s = 0
  k8 : k ≠ 8
  dot : ¬ (k = 2 ∧ s = [46])
  rng : ∀ x ∈ s, 0 ≤ x ∧ x ≤ 255
  nx : ∀ Y, nx (wrT k s ++ sepT k :: Y) 0 = some (0, ⟨k, (wrT k s).length, s, 0⟩)

theorem here0 {W Y : List Int} {d : Int} (hW : W ≠ []) (h1 : cls (bt W 0) ≠ 1) (h2 : bt W 0 ≠ 37) (h3 : bt W 0 = 47 → bt (W ++ d :: Y) 1 ≠ 42) : nx (W ++ d :: Y) 0 = some (0, firstT (W ++ d :: Y)) := by
  have h0 := List.length_pos_iff.2 hW
  have hb : bt (W ++ d :: Y) 0 = bt W 0 := bt_append_left _ _ _ h0
  have := nx_here (l := W ++ d :: Y) (k := 0) (by rw [List.length_append]; omega) (by rw [hb]; exact h1) (by rw [hb]; exact h2) (by
    rw [List.drop_zero]
    cases hq : pre2 47 42 (W ++ d :: Y) with
    | false => rfl
    | true =>
      have h4 := pre2_iff.1 hq
      exact absurd h4.2.2 (h3 (hb.symm.trans h4.2.1)))
  rwa [List.drop_zero] at this

/-- A name, and what stands behind it. -/
theorem st_name {r : List Int} {k : Int} (hk : k = 1 ∨ k = 3) (hr : ∀ x ∈ r, 0 ≤ x ∧ x ≤ 255) (hp : 0 < nmL r) (hc : (k = 3 ∧ cls (bt r 0) = 3) ∨ (k = 1 ∧ (cls (bt r 0) = 2 ∨ cls (bt r 0) = 9))) : St k (r.take (nmL r)) := by
  have hl := nmL_le r
  have hW : r.take (nmL r) ≠ [] := fun h => by have := congrArg List.length h; rw [List.length_take, List.length_nil] at this; omega
  have hb : bt (r.take (nmL r)) 0 = bt r 0 := bt_take _ _ _ hp
  have hwr : wrT k (r.take (nmL r)) = r.take (nmL r) := by unfold wrT; rw [if_neg (by omega)]
  have hsp : sepT k = 32 := by unfold sepT; rw [if_neg (by omega)]
  have hrb := bt_rng hr 0
  have hcc : cls (bt r 0) = 2 ∨ cls (bt r 0) = 3 ∨ cls (bt r 0) = 9 := by omega
  have h37 : bt r 0 ≠ 37 := fun h => by have := (cls37' hrb.1 hrb.2).2 h; omega
  have h47 : bt r 0 ≠ 47 := fun h => by rw [h, show cls 47 = 5 by decide] at hcc; omega
  refine ⟨by unfold wrE; rw [if_neg (by omega)], by omega, by omega, fun x hx => hr x (List.take_subset _ _ hx), fun Y => ?_⟩
  rw [hwr, hsp, here0 hW (by rw [hb]; omega) (by rw [hb]; exact h37) (fun h => absurd (hb.symm.trans h) h47)]
  have hn := nmL_cut (32 :: Y) (nmB_sp (Or.inl rfl) Y) r
  have hb' : bt (r.take (nmL r) ++ 32 :: Y) 0 = bt r 0 := bt_take_app hl hp
  have hlen : (r.take (nmL r)).length = nmL r := by rw [List.length_take]; omega
  have ht : (r.take (nmL r) ++ 32 :: Y).take (nmL r) = r.take (nmL r) := List.take_left' hlen
  rcases hc with ⟨rfl, hc⟩ | ⟨rfl, hc | hc⟩
  · rw [firstT3 (by rw [hb']; exact hc), nameT, hn, ht, hlen]
  · rw [firstT2 (by rw [hb']; exact hc), nameT, hn, ht, hlen]
  · rw [firstT9 (by rw [hb']; exact hc), highT, hn, if_neg (by omega), nameT, hn, ht, hlen]

theorem st_sym {r : List Int} (hr : ∀ x ∈ r, 0 ≤ x ∧ x ≤ 255) (h0 : 0 < r.length) (hc : cls (bt r 0) = 5) (hd : r.take (runL 5 r) ≠ [46]) (hpre : pre2 47 42 r = false) : St 2 (r.take (runL 5 r)) := by
  have hp := runL_pos h0 hc
  have hl := runL_le 5 r
  have hlen : (r.take (runL 5 r)).length = runL 5 r := by rw [List.length_take]; omega
  have hW : r.take (runL 5 r) ≠ [] := fun h => by rw [h, List.length_nil] at hlen; omega
  have hb : bt (r.take (runL 5 r)) 0 = bt r 0 := bt_take _ _ _ hp
  have hrb := bt_rng hr 0
  have h37 : bt r 0 ≠ 37 := fun h => by have := (cls37' hrb.1 hrb.2).2 h; omega
  refine ⟨rfl, by decide, fun h => hd h.2, fun x hx => hr x (List.take_subset _ _ hx), fun Y => ?_⟩
  rw [show wrT 2 (r.take (runL 5 r)) = r.take (runL 5 r) from rfl, show sepT 2 = 32 from rfl]
  rw [here0 hW (by rw [hb]; omega) (by rw [hb]; exact h37) (fun h => by
    rw [hb] at h
    by_cases h2 : 2 ≤ runL 5 r
    · rw [bt_take_app hl (by omega)]
      intro h3
      rw [pre2_iff.2 ⟨by omega, h, h3⟩] at hpre
      cases hpre
    · rw [bt_append_right _ _ _ (by omega), hlen, show 1 - runL 5 r = 0 by omega, bt_cons0]
      decide)]
  have hn := runL_cut (n := 5) (Or.inl rfl) (by decide) r Y
  have hb' : bt (r.take (runL 5 r) ++ 32 :: Y) 0 = bt r 0 := bt_take_app hl hp
  have ht : (r.take (runL 5 r) ++ 32 :: Y).take (runL 5 r) = r.take (runL 5 r) := List.take_left' hlen
  have he : endT (r.take (runL 5 r) ++ 32 :: Y) = false := endT_no (fun h => by
    rw [hn, hb'] at h
    exact hd ((take_dot hp hl).2 h))
  rw [firstT5 (by rw [hb']; exact hc), symT, he, hn, ht, hlen]
  rfl

theorem st_end : St 7 [46] := by
  refine ⟨rfl, by decide, by decide, by decide, fun Y => ?_⟩
  have hn : runL 5 ([46] ++ 10 :: Y) = 1 := by
    have := runL_all 5 [46] (10 :: Y) (by decide) (runL_sp (Or.inr rfl) (by decide) Y)
    exact this
  rw [show wrT 7 [46] = [46] from rfl, show sepT 7 = 10 from rfl, here0 (by decide) (by decide) (by decide) (fun h => absurd h (by decide)), firstT5 (l := [46] ++ 10 :: Y) (by rw [show bt ([46] ++ 10 :: Y) 0 = 46 from rfl]; decide)]
  have he : endT ([46] ++ 10 :: Y) = true := by
    unfold endT
    rw [hn]
    simp only [Bool.and_eq_true, Bool.or_eq_true, decide_eq_true_eq]
    exact ⟨trivial, rfl, Or.inr (Or.inl (by rw [show bt ([46] ++ 10 :: Y) 1 = 10 from rfl]; decide))⟩
  rw [symT, he, hn]
  rfl

theorem st_num {r : List Int} (hr : ∀ x ∈ r, 0 ≤ x ∧ x ≤ 255) (h0 : 0 < r.length) (hc : cls (bt r 0) = 4) (he : dkE r = 0) : St 4 (r.take (dkK r)) := by
  unfold dkK
  have hp := runL_pos h0 hc
  have hl := runL_le 4 r
  have hlen : (r.take (runL 4 r)).length = runL 4 r := by rw [List.length_take]; omega
  have hW : r.take (runL 4 r) ≠ [] := fun h => by rw [h, List.length_nil] at hlen; omega
  have hb : bt (r.take (runL 4 r)) 0 = bt r 0 := bt_take _ _ _ hp
  have hrb := bt_rng hr 0
  have h37 : bt r 0 ≠ 37 := fun h => by have := (cls37' hrb.1 hrb.2).2 h; omega
  have h47 : bt r 0 ≠ 47 := fun h => by rw [h, show cls 47 = 5 by decide] at hc; omega
  refine ⟨rfl, by decide, fun h => absurd h.1 (by decide), fun x hx => hr x (List.take_subset _ _ hx), fun Y => ?_⟩
  rw [show wrT 4 (r.take (runL 4 r)) = r.take (runL 4 r) from rfl, show sepT 4 = 32 from rfl]
  rw [here0 hW (by rw [hb]; omega) (by rw [hb]; exact h37) (fun h => absurd (hb.symm.trans h) h47)]
  have hn := runL_cut (n := 4) (Or.inl rfl) (by decide) r Y
  have hb' : bt (r.take (runL 4 r) ++ 32 :: Y) 0 = bt r 0 := bt_take_app hl hp
  have ht : (r.take (runL 4 r) ++ 32 :: Y).take (runL 4 r) = r.take (runL 4 r) := List.take_left' hlen
  have he' : dkE (r.take (runL 4 r) ++ 32 :: Y) = 0 := by
    unfold dkE dkBig at he ⊢
    rw [hn, ht]
    exact he
  rw [firstT4 (by rw [hb']; exact hc), numT, he', if_pos rfl, dkK, hn, ht, hlen]

theorem st_solo {r : List Int} (hr : ∀ x ∈ r, 0 ≤ x ∧ x ≤ 255) (h0 : 0 < r.length) (hc : cls (bt r 0) = 6) : St 6 (r.take 1) := by
  have hlen : (r.take 1).length = 1 := by rw [List.length_take]; omega
  have hW : r.take 1 ≠ [] := fun h => by rw [h, List.length_nil] at hlen; omega
  have hb : bt (r.take 1) 0 = bt r 0 := bt_take _ _ _ (by decide)
  have hrb := bt_rng hr 0
  have h37 : bt r 0 ≠ 37 := fun h => by have := (cls37' hrb.1 hrb.2).2 h; omega
  have h47 : bt r 0 ≠ 47 := fun h => by rw [h, show cls 47 = 5 by decide] at hc; omega
  refine ⟨rfl, by decide, fun h => absurd h.1 (by decide), fun x hx => hr x (List.take_subset _ _ hx), fun Y => ?_⟩
  rw [show wrT 6 (r.take 1) = r.take 1 from rfl, show sepT 6 = 32 from rfl]
  rw [here0 hW (by rw [hb]; omega) (by rw [hb]; exact h37) (fun h => absurd (hb.symm.trans h) h47)]
  have hb' : bt (r.take 1 ++ 32 :: Y) 0 = bt r 0 := bt_take_app (by omega) (by decide)
  rw [firstT6 (by rw [hb']; exact hc), List.take_left' hlen, hlen]

theorem st_quo {r : List Int} (hr : ∀ x ∈ r, 0 ≤ x ∧ x ≤ 255) (he : (tk r).e = 0) : St 5 (tk r).t := by
  obtain ⟨h1, h2, h3⟩ := tk_text r hr he
  obtain ⟨p1, p2⟩ := ptOk_yes h1
  refine ⟨by unfold wrE; rw [if_pos rfl]; exact p2, by decide, fun h => absurd h.1 (by decide), h2, fun Y => ?_⟩
  have hwr : wrT 5 (tk r).t = putL (tk r).t := by unfold wrT; rw [if_pos rfl]; exact p1
  rw [hwr, show sepT 5 = 32 from rfl]
  have hb : bt (putL (tk r).t) 0 = 39 := bt_cons0 _ _
  have hb' : bt (putL (tk r).t ++ 32 :: Y) 0 = 39 := bt_cons0 _ _
  rw [here0 (by unfold putL; simp) (by rw [hb]; decide) (by rw [hb]; decide) (fun h => by rw [hb] at h; exact absurd h (by decide))]
  have hp := tk_put h1 (32 :: Y) (by rw [bt_cons0]; decide)
  rw [firstT7 (by rw [hb']; decide), quoT, hp, if_pos rfl, putL_len]

/-- Each token that is not bad, and no dot that would come to be an end, is lexed as it was. -/
theorem st_of {l : List Int} {k f : Nat} {t : TR} (hk : k ≤ l.length) (hr : ∀ x ∈ l, 0 ≤ x ∧ x ≤ 255) (h : nx l k = some (f, t)) (h8 : t.k ≠ 8) (hd : ¬ (t.k = 2 ∧ t.t = [46])) : St t.k t.t := by
  obtain ⟨hf, h1, c1, c2, c3⟩ := nx_where hk h h8
  have hrr : ∀ x ∈ l.drop f, 0 ≤ x ∧ x ≤ 255 := fun x hx => hr x (List.drop_subset _ _ hx)
  have hb : bt (l.drop f) 0 = bt l f := by rw [bt_drop, Nat.add_zero]
  rw [← hb] at c1 c2
  have h0 : 0 < (l.drop f).length := by rw [List.length_drop]; omega
  clear h hb
  generalize l.drop f = r at *
  have hrb := bt_rng hrr 0
  have hc := cls_rng hrb.1 hrb.2
  have hne : r ≠ [] := List.length_pos_iff.1 h0
  obtain hk | hk | hk | hk | hk | hk | hk | hk : cls (bt r 0) = 2 ∨ cls (bt r 0) = 3 ∨ cls (bt r 0) = 9 ∨ cls (bt r 0) = 5 ∨ cls (bt r 0) = 4 ∨ cls (bt r 0) = 7 ∨ cls (bt r 0) = 6 ∨ (cls (bt r 0) = 0 ∨ cls (bt r 0) = 1 ∨ cls (bt r 0) = 8) := by omega
  · rw [firstT2 hk] at h1
    subst h1
    exact st_name (Or.inl rfl) hrr (nmL_pos (nmB_name hne hrr (nameB_of (Or.inl hk))).1) (Or.inr ⟨rfl, Or.inl hk⟩)
  · rw [firstT3 hk] at h1
    subst h1
    exact st_name (Or.inr rfl) hrr (nmL_pos (nmB_name hne hrr (nameB_of (Or.inr (Or.inl hk)))).1) (Or.inl ⟨rfl, hk⟩)
  · rw [firstT9 hk] at h1
    unfold highT at h1
    split at h1
    · subst h1; exact absurd rfl h8
    · subst h1
      exact st_name (Or.inl rfl) hrr (by omega) (Or.inr ⟨rfl, Or.inr hk⟩)
  · rw [firstT5 hk] at h1
    have hp := runL_pos h0 hk
    have hl := runL_le 5 r
    cases he : endT r with
    | true =>
      rw [symT, he, if_pos rfl] at h1
      subst h1
      unfold endT at he
      simp only [Bool.and_eq_true, Bool.or_eq_true, decide_eq_true_eq] at he
      show St 7 (r.take (runL 5 r))
      rw [(take_dot hp hl).2 ⟨he.1, he.2.1⟩]
      exact st_end
    | false =>
      rw [symT, he, if_neg (by decide)] at h1
      subst h1
      exact st_sym hrr h0 hk (fun h => hd ⟨rfl, h⟩) c3
  · rw [firstT4 hk] at h1
    unfold numT at h1
    split at h1
    · rename_i he
      subst h1
      exact st_num hrr h0 hk he
    · subst h1; exact absurd rfl h8
  · rw [firstT7 hk] at h1
    unfold quoT at h1
    split at h1
    · rename_i he
      subst h1
      exact st_quo hrr he
    · subst h1; exact absurd rfl h8
  · rw [firstT6 hk] at h1
    subst h1
    exact st_solo hrr h0 hk
  · rw [firstT0 hk] at h1
    subst h1; exact absurd rfl h8

/-- A bad token says nothing; how long a text is, at most. -/
theorem nx_text {l : List Int} {k f : Nat} {t : TR} (hk : k ≤ l.length) (hr : ∀ x ∈ l, 0 ≤ x ∧ x ≤ 255) (h : nx l k = some (f, t)) : (∀ x ∈ t.t, 0 ≤ x ∧ x ≤ 255) ∧ t.t.length ≤ t.n := by
  obtain ⟨_, _, hg⟩ := nx_good hk hr h
  by_cases h8 : t.k = 8
  · rw [hg.bad h8]; exact ⟨by simp, Nat.zero_le _⟩
  · obtain ⟨hf, h1, c1, c2, c3⟩ := nx_where hk h h8
    have hrr : ∀ x ∈ l.drop f, 0 ≤ x ∧ x ≤ 255 := fun x hx => hr x (List.drop_subset _ _ hx)
    by_cases h5 : t.k = 5
    · have h7 : cls (bt (l.drop f) 0) = 7 := (nx_runs hk hr h).k5 h5 |>.1
      rw [firstT7 h7] at h1
      unfold quoT at h1
      split at h1
      · rename_i he
        subst h1
        exact (tk_text _ hrr he).2
      · subst h1; exact absurd rfl h8
    · rw [hg.says h8 h5]
      exact ⟨fun x hx => hrr x (List.take_subset _ _ hx), by rw [List.length_take]; omega⟩

end Go.Proofs.YtecabgmkoknbgaaDoor
