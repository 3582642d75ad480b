/- The plain mathematics of layer 4: what stands within quotes, step by step; what is put there; and that the one undoes the other. No program here. -/
import Derived.Test.YtecabgmkoknbgaaDoorM1
namespace Go.Proofs.YtecabgmkoknbgaaDoor

structure QR where
  e : Int
  n : Nat
  t : List Int

/-- What the first thing within quotes says: -1 to go on. -/
def qE (r : List Int) : Int :=
  if r = [] then 12 else if bt r 0 = 39 then (if bt r 1 = 39 then -1 else 0)
  else if bt r 0 = 92 then (if bt r 1 = 110 ∨ bt r 1 = 92 ∨ bt r 1 = 39 then -1 else 13)
  else if bt r 0 = 10 then 12 else if bt r 0 < 32 ∨ bt r 0 = 127 then 11 else if okSeq r then -1 else 10
/-- How many bytes it has. -/
def qN (r : List Int) : Nat := if bt r 0 = 39 then 2 else if bt r 0 = 92 then 2 else takeN r
/-- What it means. -/
def qT (r : List Int) : List Int := if bt r 0 = 39 then [39] else if bt r 0 = 92 then [if bt r 1 = 110 then 10 else bt r 1] else r.take (takeN r)

theorem bt_ge {l : List Int} {j : Nat} (h : l.length ≤ j) : bt l j = 0 := by unfold bt; simp [List.getD, List.getElem?_eq_none h]
theorem bt_ne {l : List Int} {j : Nat} (h : bt l j ≠ 0) : j < l.length := by
  apply Decidable.byContradiction; intro hn; exact h (bt_ge (by omega))
theorem bt_cons0 (c : Int) (l : List Int) : bt (c :: l) 0 = c := rfl
theorem bt_consS (c : Int) (l : List Int) (j : Nat) : bt (c :: l) (j + 1) = bt l j := by unfold bt; simp [List.getD]

theorem qE_nil : qE [] = 12 := rfl
theorem qE_end {r : List Int} (h0 : bt r 0 = 39) (h1 : bt r 1 ≠ 39) : qE r = 0 := by
  have hr : r ≠ [] := by intro h; subst h; simp [bt] at h0
  unfold qE; rw [if_neg hr, if_pos h0, if_neg h1]
theorem qE_two {r : List Int} (h0 : bt r 0 = 39) (h1 : bt r 1 = 39) : qE r = -1 ∧ qN r = 2 ∧ qT r = [39] := by
  have hr : r ≠ [] := by intro h; subst h; simp [bt] at h0
  unfold qE qN qT; rw [if_neg hr, if_pos h0, if_pos h1, if_pos h0, if_pos h0]; exact ⟨rfl, rfl, rfl⟩
theorem qE_esc {r : List Int} (h0 : bt r 0 = 92) (h1 : bt r 1 = 110 ∨ bt r 1 = 92 ∨ bt r 1 = 39) : qE r = -1 ∧ qN r = 2 ∧ qT r = [if bt r 1 = 110 then 10 else bt r 1] := by
  have hr : r ≠ [] := by intro h; subst h; simp [bt] at h0
  unfold qE qN qT; rw [if_neg hr, if_neg (by omega), if_pos h0, if_pos h1, if_neg (by omega), if_pos h0, if_neg (by omega), if_pos h0]; exact ⟨rfl, rfl, rfl⟩
theorem qE_noesc {r : List Int} (h0 : bt r 0 = 92) (h1 : ¬ (bt r 1 = 110 ∨ bt r 1 = 92 ∨ bt r 1 = 39)) : qE r = 13 := by
  have hr : r ≠ [] := by intro h; subst h; simp [bt] at h0
  unfold qE; rw [if_neg hr, if_neg (by omega), if_pos h0, if_neg h1]
theorem qE_line {r : List Int} (h0 : bt r 0 = 10) : qE r = 12 := by
  have hr : r ≠ [] := by intro h; subst h; simp [bt] at h0
  unfold qE; rw [if_neg hr, if_neg (by omega), if_neg (by omega), if_pos h0]
theorem qE_byte {r : List Int} (hr : r ≠ []) (h0 : bt r 0 ≠ 10) (h1 : bt r 0 < 32 ∨ bt r 0 = 127) : qE r = 11 := by
  unfold qE; rw [if_neg hr, if_neg (by omega), if_neg (by omega), if_neg h0, if_pos h1]
theorem qE_bad {r : List Int} (h0 : 32 ≤ bt r 0) (h1 : bt r 0 ≠ 39) (h2 : bt r 0 ≠ 92) (h3 : bt r 0 ≠ 127) (h : okSeq r = false) : qE r = 10 := by
  have hr : r ≠ [] := by intro h; subst h; simp [bt] at h0
  unfold qE; rw [if_neg hr, if_neg h1, if_neg h2, if_neg (by omega), if_neg (by omega), if_neg (by rw [h]; decide)]
theorem qE_seq {r : List Int} (h0 : 32 ≤ bt r 0) (h1 : bt r 0 ≠ 39) (h2 : bt r 0 ≠ 92) (h3 : bt r 0 ≠ 127) (h : okSeq r = true) : qE r = -1 ∧ qN r = takeN r ∧ qT r = r.take (takeN r) := by
  have hr : r ≠ [] := by intro h; subst h; simp [bt] at h0
  unfold qE qN qT; rw [if_neg hr, if_neg h1, if_neg h2, if_neg (by omega), if_neg (by omega), if_pos h, if_neg h1, if_neg h2, if_neg h1, if_neg h2]; exact ⟨rfl, rfl, rfl⟩

theorem qN_pos {r : List Int} (h : qE r = -1) : 0 < qN r := by
  have hr : r ≠ [] := by intro hr; subst hr; simp [qE] at h
  unfold qN
  by_cases h1 : bt r 0 = 39
  · rw [if_pos h1]; omega
  · rw [if_neg h1]
    by_cases h2 : bt r 0 = 92
    · rw [if_pos h2]; omega
    · rw [if_neg h2]; exact takeN_pos hr
theorem qN_le {r : List Int} (h : qE r = -1) : qN r ≤ r.length := by
  have hr : r ≠ [] := by intro hr; subst hr; simp [qE] at h
  unfold qE at h
  unfold qN
  rw [if_neg hr] at h
  by_cases h1 : bt r 0 = 39
  · rw [if_pos h1] at h ⊢
    by_cases h2 : bt r 1 = 39
    · exact bt_ne (by omega)
    · rw [if_neg h2] at h; omega
  · rw [if_neg h1] at h ⊢
    by_cases h2 : bt r 0 = 92
    · rw [if_pos h2] at h ⊢
      by_cases h3 : bt r 1 = 110 ∨ bt r 1 = 92 ∨ bt r 1 = 39
      · exact bt_ne (by omega)
      · rw [if_neg h3] at h; omega
    · rw [if_neg h2]; exact takeN_le r

/-- What stands within quotes, up to the end. -/
def qs (r : List Int) : QR :=
  if _h : qE r = -1 then ⟨(qs (r.drop (qN r))).e, qN r + (qs (r.drop (qN r))).n, qT r ++ (qs (r.drop (qN r))).t⟩
  else if qE r = 0 then ⟨0, 1, []⟩ else ⟨qE r, 0, []⟩
termination_by r.length
decreasing_by all_goals (have := qN_pos _h; have := qN_le _h; simp; omega)

theorem qs_go {r : List Int} (h : qE r = -1) : qs r = ⟨(qs (r.drop (qN r))).e, qN r + (qs (r.drop (qN r))).n, qT r ++ (qs (r.drop (qN r))).t⟩ := by
  rw [qs]; simp [h]
theorem qs_ok {r : List Int} (h : qE r = 0) : qs r = ⟨0, 1, []⟩ := by rw [qs]; simp [h]
theorem qs_err {r : List Int} {e : Int} (h : qE r = e) (h1 : e ≠ -1) (h0 : e ≠ 0) : qs r = ⟨e, 0, []⟩ := by rw [qs]; simp [h, h1, h0]

/-- The atom at the beginning. -/
def tk (l : List Int) : QR := if bt l 0 = 39 then ⟨(qs (l.drop 1)).e, 1 + (qs (l.drop 1)).n, if (qs (l.drop 1)).e = 0 then (qs (l.drop 1)).t else []⟩ else ⟨2, 0, []⟩

theorem tk_none {l : List Int} (h : bt l 0 ≠ 39) : tk l = ⟨2, 0, []⟩ := by unfold tk; rw [if_neg h]

/-- How far it is, and what has been taken. -/
def At (l : List Int) (s : Nat) (t : List Int) : Prop := tk l = ⟨(qs (l.drop s)).e, s + (qs (l.drop s)).n, if (qs (l.drop s)).e = 0 then t ++ (qs (l.drop s)).t else []⟩

theorem At.start {l : List Int} (h : bt l 0 = 39) : At l 1 [] := by unfold At tk; rw [if_pos h]; simp
theorem At.go {l t : List Int} {s : Nat} (h : At l s t) (hq : qE (l.drop s) = -1) : At l (s + qN (l.drop s)) (t ++ qT (l.drop s)) := by
  unfold At at *; rw [h, qs_go hq, List.drop_drop, List.append_assoc, Nat.add_assoc]
theorem At.ok {l t : List Int} {s : Nat} (h : At l s t) (hq : qE (l.drop s) = 0) : tk l = ⟨0, s + 1, t⟩ := by
  unfold At at *; rw [h, qs_ok hq]; simp
theorem At.err {l t : List Int} {s : Nat} {e : Int} (h : At l s t) (hq : qE (l.drop s) = e) (h1 : e ≠ -1) (h0 : e ≠ 0) : tk l = ⟨e, s, []⟩ := by
  unfold At at *; rw [h, qs_err hq h1 h0]; simp [h0]

/-- A byte as it is put. -/
def esc (c : Int) : List Int := if c = 39 ∨ c = 92 then [c, c] else if c = 10 then [92, 110] else [c]
def escL (t : List Int) : List Int := (t.map esc).flatten
def putL (t : List Int) : List Int := 39 :: (escL t ++ [39])

theorem escL_nil : escL [] = [] := rfl
theorem escL_cons (c : Int) (t : List Int) : escL (c :: t) = esc c ++ escL t := by unfold escL; simp
theorem escL_append (s t : List Int) : escL (s ++ t) = escL s ++ escL t := by unfold escL; simp
theorem esc_quote : esc 39 = [39, 39] := rfl
theorem esc_back : esc 92 = [92, 92] := rfl
theorem esc_line : esc 10 = [92, 110] := rfl
theorem esc_else {c : Int} (h0 : c ≠ 39) (h1 : c ≠ 92) (h2 : c ≠ 10) : esc c = [c] := by unfold esc; rw [if_neg (by omega), if_neg h2]
theorem esc_high : ∀ {t : List Int}, (∀ c ∈ t, 128 ≤ c) → escL t = t
  | [], _ => rfl
  | c :: r, h => by
    have := h c (by simp)
    rw [escL_cons, esc_else (by omega) (by omega) (by omega), esc_high fun x hx => h x (by simp [hx])]; rfl
theorem esc_rng {c : Int} (h : 0 ≤ c ∧ c ≤ 255) : ∀ x ∈ esc c, 0 ≤ x ∧ x ≤ 255 := by
  unfold esc
  by_cases h1 : c = 39 ∨ c = 92
  · rw [if_pos h1]; simpa using h
  · rw [if_neg h1]
    by_cases h2 : c = 10
    · rw [if_pos h2]; simp
    · rw [if_neg h2]; simpa using h
theorem escL_rng {t : List Int} (h : ∀ x ∈ t, 0 ≤ x ∧ x ≤ 255) : ∀ x ∈ escL t, 0 ≤ x ∧ x ≤ 255 := by
  intro x hx
  unfold escL at hx
  obtain ⟨s, hs, hx⟩ := List.mem_flatten.1 hx
  obtain ⟨c, hc, rfl⟩ := List.mem_map.1 hs
  exact esc_rng (h c hc) x hx
theorem esc_len (c : Int) : (esc c).length ≤ 2 ∧ 1 ≤ (esc c).length := by
  unfold esc
  by_cases h1 : c = 39 ∨ c = 92
  · rw [if_pos h1]; simp
  · rw [if_neg h1]
    by_cases h2 : c = 10
    · rw [if_pos h2]; simp
    · rw [if_neg h2]; simp
theorem escL_len (t : List Int) : (escL t).length ≤ 2 * t.length ∧ t.length ≤ (escL t).length := by
  induction t with
  | nil => simp [escL_nil]
  | cons c r ih => rw [escL_cons, List.length_append, List.length_cons]; have := esc_len c; omega

/-- A byte that may stand in a text. -/
def good (c : Int) : Prop := (32 ≤ c ∨ c = 10) ∧ c ≠ 127
instance (c : Int) : Decidable (good c) := by unfold good; infer_instance

/-- Behind a byte that begins no more than itself. -/
theorem okSeq_low {l : List Int} (h : l ≠ []) (h0 : bt l 0 ≤ 127) : okSeq l = true ∧ takeN l = 1 := by
  have hl : lenOf (bt l 0) = 1 := by unfold lenOf; rw [if_pos h0]
  have hp : 1 ≤ l.length := by cases l with | nil => contradiction | cons => simp
  have ho : okSeq l = true := (okSeq_iff l).2 ⟨h, by omega, by omega, fun j hj => by omega⟩
  exact ⟨ho, by unfold takeN; rw [if_neg h, if_pos ho, hl]⟩

theorem bt_take_lt (l : List Int) (k j : Nat) (h : j < k) : bt (l.take k) j = bt l j := bt_take l k j h

theorem goodTo_congr {l l' : List Int} {k : Nat} (h : ∀ j, j ≤ k → bt l' j = bt l j) (hg : goodTo l k) : goodTo l' k := by
  intro j hj
  rw [h 0 (by omega), h (j + 1) (by omega)]
  exact hg j hj

/-- Whether a sequence stands at the beginning hangs on its bytes alone. -/
theorem okSeq_same {l l' : List Int} (h : okSeq l = true) (hl : takeN l ≤ l'.length) (hb : ∀ j, j < takeN l → bt l' j = bt l j) : okSeq l' = true ∧ takeN l' = takeN l := by
  obtain ⟨h1, h2, h3, h4⟩ := (okSeq_iff l).1 h
  have ht : takeN l = lenOf (bt l 0) := by unfold takeN; rw [if_neg h1, if_pos h]
  rw [ht] at hl hb ⊢
  have h0 := hb 0 h2
  have hn : l' ≠ [] := by intro hn; subst hn; simp at hl; omega
  have ho : okSeq l' = true := (okSeq_iff l').2 ⟨hn, by rw [h0]; exact h2, by rw [h0]; exact hl, by
    rw [h0]; exact goodTo_congr (fun j hj => hb j (by omega)) h4⟩
  exact ⟨ho, by unfold takeN; rw [if_neg hn, if_pos ho, h0]⟩

theorem lowAt_high (c : Int) (j : Nat) : 128 ≤ lowAt c j := by
  unfold lowAt loOf
  by_cases h : j = 0
  · rw [if_pos h]; (repeat' split) <;> omega
  · rw [if_neg h]; omega

/-- The bytes of a sequence behind its first one. -/
theorem okSeq_high {l : List Int} (h : okSeq l = true) {j : Nat} (h0 : 0 < j) (hj : j < takeN l) : 128 ≤ bt l j := by
  obtain ⟨h1, h2, h3, h4⟩ := (okSeq_iff l).1 h
  have ht : takeN l = lenOf (bt l 0) := by unfold takeN; rw [if_neg h1, if_pos h]
  have := h4 (j - 1) (by omega)
  rw [show j - 1 + 1 = j by omega] at this
  have := lowAt_high (bt l 0) (j - 1)
  omega

theorem takeN_eq {l : List Int} (h : okSeq l = true) : takeN l = lenOf (bt l 0) := by
  unfold takeN; rw [if_neg ((okSeq_iff l).1 h).1, if_pos h]
theorem takeN_two {l : List Int} (h : okSeq l = true) (h2 : 1 < takeN l) : 194 ≤ bt l 0 := by
  rw [takeN_eq h] at h2
  unfold lenOf at h2
  by_cases h127 : bt l 0 ≤ 127
  · rw [if_pos h127] at h2; omega
  · rw [if_neg h127] at h2
    by_cases h194 : bt l 0 < 194
    · rw [if_pos h194] at h2; omega
    · omega

theorem mem_bt {l : List Int} {x : Int} (h : x ∈ l) : ∃ j, j < l.length ∧ bt l j = x := by
  obtain ⟨j, hj, rfl⟩ := List.getElem_of_mem h
  exact ⟨j, hj, by simp [bt, List.getD, hj]⟩
theorem bt_mem {l : List Int} {j : Nat} (h : j < l.length) : bt l j ∈ l := by
  rw [show bt l j = l[j] from by simp [bt, List.getD, h]]; exact List.getElem_mem h

/-- A sequence that is no sign of its own is put as it is. -/
theorem escL_seq {t : List Int} (h : okSeq t = true) (h1 : bt t 0 ≠ 39) (h2 : bt t 0 ≠ 92) (h3 : bt t 0 ≠ 10) : escL t = t.take (takeN t) ++ escL (t.drop (takeN t)) := by
  have hne := ((okSeq_iff t).1 h).1
  have hp := takeN_pos hne
  have hl := takeN_le t
  have he : escL (t.take (takeN t)) = t.take (takeN t) := by
    cases t with
    | nil => contradiction
    | cons c r =>
      obtain ⟨m, hm⟩ : ∃ m, takeN (c :: r) = m + 1 := ⟨takeN (c :: r) - 1, by omega⟩
      rw [hm, List.take_succ_cons, escL_cons, esc_else (c := c) h1 h2 h3, esc_high]
      · rfl
      · intro x hx
        obtain ⟨j, hj, rfl⟩ := mem_bt hx
        rw [List.length_take] at hj
        rw [bt_take _ _ _ (by omega), ← bt_consS c r j]
        exact okSeq_high h (by omega) (by omega)
  rw [← he, ← escL_append, List.take_append_drop]

theorem QR.ext' {a b : QR} (h1 : a.e = b.e) (h2 : a.n = b.n) (h3 : a.t = b.t) : a = b := by cases a; cases b; simp_all

theorem valid_low {l : List Int} (h : l ≠ []) (h0 : bt l 0 ≤ 127) : valid l = valid (l.drop 1) := by
  rw [valid_step h, (okSeq_low h h0).1, (okSeq_low h h0).2]; simp

/-- Whatever stands behind what was put. -/
theorem qs_pre (Y : List Int) (t : List Int) (hv : valid t = true) (hg : ∀ c ∈ t, good c) : qs (escL t ++ Y) = ⟨(qs Y).e, (escL t).length + (qs Y).n, t ++ (qs Y).t⟩ := by
  induction hn : t.length using Nat.strongRecOn generalizing t with
  | _ n ih =>
    cases t with
    | nil => simp [escL_nil]
    | cons c r =>
      have hne : c :: r ≠ [] := by simp
      have hgc := hg c (by simp)
      have hgr : ∀ x ∈ r, good x := fun x hx => hg x (by simp [hx])
      unfold good at hgc
      by_cases h1 : c = 39
      · subst h1
        have hvr : valid r = true := by rw [valid_low hne (by rw [bt_cons0]; omega)] at hv; exact hv
        have h := ih r.length (by simp at hn; omega) r hvr hgr rfl
        rw [escL_cons, esc_quote]
        have hq := qE_two (r := [39, 39] ++ escL r ++ Y) rfl rfl
        rw [qs_go hq.1, hq.2.1, hq.2.2]
        rw [show (([39, 39] : List Int) ++ escL r ++ Y).drop 2 = escL r ++ Y from rfl, h]
        exact QR.ext' rfl (by simp; omega) (by simp)
      · by_cases h2 : c = 92
        · subst h2
          have hvr : valid r = true := by rw [valid_low hne (by rw [bt_cons0]; omega)] at hv; exact hv
          have h := ih r.length (by simp at hn; omega) r hvr hgr rfl
          rw [escL_cons, esc_back]
          have hq := qE_esc (r := [92, 92] ++ escL r ++ Y) rfl (Or.inr (Or.inl rfl))
          rw [qs_go hq.1, hq.2.1, hq.2.2]
          rw [show (([92, 92] : List Int) ++ escL r ++ Y).drop 2 = escL r ++ Y from rfl, h]
          exact QR.ext' rfl (by simp; omega) (by simp [bt])
        · by_cases h3 : c = 10
          · subst h3
            have hvr : valid r = true := by rw [valid_low hne (by rw [bt_cons0]; omega)] at hv; exact hv
            have h := ih r.length (by simp at hn; omega) r hvr hgr rfl
            rw [escL_cons, esc_line]
            have hq := qE_esc (r := [92, 110] ++ escL r ++ Y) rfl (Or.inl rfl)
            rw [qs_go hq.1, hq.2.1, hq.2.2]
            rw [show (([92, 110] : List Int) ++ escL r ++ Y).drop 2 = escL r ++ Y from rfl, h]
            exact QR.ext' rfl (by simp; omega) (by simp [bt])
          · rw [valid_step hne, Bool.and_eq_true] at hv
            obtain ⟨hok, hvr⟩ := hv
            have hp := takeN_pos hne
            have hl := takeN_le (c :: r)
            have hlt : ((c :: r).take (takeN (c :: r))).length = takeN (c :: r) := by rw [List.length_take]; omega
            have h := ih ((c :: r).drop (takeN (c :: r))).length (by rw [List.length_drop]; omega) _ hvr (fun x hx => hg x (List.drop_subset _ _ hx)) rfl
            have hE := escL_seq hok h1 h2 h3
            have hsame := okSeq_same (l := c :: r) (l' := escL (c :: r) ++ Y) hok (by rw [hE, List.length_append, List.length_append, hlt]; omega) (fun j hj => by
              rw [hE, List.append_assoc]
              unfold bt
              rw [List.getD_eq_getElem?_getD, List.getElem?_append_left (by rw [hlt]; exact hj), ← List.getD_eq_getElem?_getD]
              exact bt_take _ _ _ hj)
            have hb0 : bt (escL (c :: r) ++ Y) 0 = c := by
              rw [hE, List.append_assoc]
              unfold bt
              rw [List.getD_eq_getElem?_getD, List.getElem?_append_left (by rw [hlt]; exact hp), ← List.getD_eq_getElem?_getD]
              exact bt_take _ _ _ hp
            have hq := qE_seq (r := escL (c :: r) ++ Y) (by omega) (by omega) (by omega) (by omega) hsame.1
            rw [qs_go hq.1, hq.2.1, hq.2.2, hsame.2]
            have hd : (escL (c :: r) ++ Y).drop (takeN (c :: r)) = escL ((c :: r).drop (takeN (c :: r))) ++ Y := by
              rw [hE, List.append_assoc, List.drop_append_of_le_length (by rw [hlt]; omega), List.drop_eq_nil_of_le (by rw [hlt]; omega)]; rfl
            have ht : (escL (c :: r) ++ Y).take (takeN (c :: r)) = (c :: r).take (takeN (c :: r)) := by
              rw [hE, List.append_assoc, List.take_append_of_le_length (by rw [hlt]; omega), List.take_take, Nat.min_self]
            rw [hd, ht, h]
            refine QR.ext' rfl ?_ ?_
            · have hEl : (escL (c :: r)).length = takeN (c :: r) + (escL ((c :: r).drop (takeN (c :: r)))).length := by
                have := congrArg List.length hE
                rw [List.length_append, hlt] at this
                exact this
              show takeN (c :: r) + ((escL ((c :: r).drop (takeN (c :: r)))).length + (qs Y).n) = (escL (c :: r)).length + (qs Y).n
              omega
            · show _ ++ (_ ++ _) = _
              rw [← List.append_assoc, List.take_append_drop]

theorem tk_pre (Y : List Int) (t : List Int) (hv : valid t = true) (hg : ∀ c ∈ t, good c) : tk (39 :: (escL t ++ Y)) = ⟨(qs Y).e, 1 + ((escL t).length + (qs Y).n), if (qs Y).e = 0 then t ++ (qs Y).t else []⟩ := by
  unfold tk
  rw [if_pos (bt_cons0 _ _), show (39 :: (escL t ++ Y)).drop 1 = escL t ++ Y from rfl, qs_pre Y t hv hg]

theorem valid_ascii : ∀ {t : List Int}, (∀ c ∈ t, c ≤ 127) → valid t = true
  | [], _ => valid_nil
  | c :: r, h => by
    rw [valid_low (by simp) (by rw [bt_cons0]; exact h c (by simp))]
    exact valid_ascii (t := r) fun x hx => h x (by simp [hx])

/-- Behind a text as it was put, with no quote behind it. -/
theorem qs_close {Y : List Int} (h : bt Y 0 ≠ 39) : qs (39 :: Y) = ⟨0, 1, []⟩ := qs_ok (qE_end (bt_cons0 _ _) (by rw [bt_consS]; exact h))

theorem lit1 : tk [39, 105, 116, 39, 39, 115, 39, 46] = ⟨0, 7, [105, 116, 39, 115]⟩ := by
  have h := tk_pre [39, 46] [105, 116, 39, 115] (valid_ascii (by decide)) (by decide)
  rw [qs_close (by decide)] at h
  exact h
theorem lit2 : tk [39, 97, 92, 116, 39] = ⟨13, 2, []⟩ := by
  have h := tk_pre [92, 116, 39] [97] (valid_ascii (by decide)) (by decide)
  rw [qs_err (e := 13) (by decide) (by decide) (by decide)] at h
  exact h

end Go.Proofs.YtecabgmkoknbgaaDoor
