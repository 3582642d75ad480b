/- Mathematics: whether nodes derive tokens, told from the last node on (with the kids at hand), and where subtrees begin and end. No walk here. -/
import Derived.Test.YtkaeanaeklilfaaGreatDoorXa
namespace Go.Proofs.YtkaeanaeklilfaaGreatDoor
open Go.RowKit

variable {L : List OP} {z : List Int} {tok : List TK}

/-! ### The items of a shape, as a loop over its parts meets them -/

def alI : Bool → List Nm → Bool → List Nm
  | _, [], r => if r then [[]] else []
  | l, p :: P, r => (if l then [[]] else []) ++ p :: alI true P r
theorem sep_alI : ∀ (P : List Nm) (p : Nm) (r : Bool), sepL (p :: P) ++ (if r then [[]] else []) = p :: alI true P r
  | [], p, r => by cases r <;> rfl
  | q :: P, p, r => by
    show p :: [] :: (sepL (q :: P) ++ (if r then [[]] else [])) = p :: ([[]] ++ q :: alI true P r)
    rw [sep_alI P q r]; rfl
theorem items_alI {s : SH} (h : s.P ≠ []) : itemsL s = alI s.l s.P s.r := by
  cases hP : s.P with
  | nil => exact absurd hP h
  | cons p P =>
    unfold itemsL
    rw [hP, sep_alI]
    rfl
/-- How many holes. -/
def holN (I : List Nm) : Nat := (I.filter fun x => x == []).length
theorem holN_hole (I : List Nm) : holN ([] :: I) = holN I + 1 := by simp [holN]
theorem holN_part {x : Nm} (h : x ≠ []) (I : List Nm) : holN (x :: I) = holN I := by simp [holN, h]

/-- The items from the token a on, whether kids fit their holes aside. -/
def alB (tok : List TK) (to_ : Int) : List Nm → Int → List ND → Bool
  | [], a, K => K.isEmpty && a == to_
  | x :: r, a, K =>
    if x ≠ [] then decide (a < to_) && (partB (tkn tok a).k (txN (tkn tok a)) x && alB tok to_ r (a + 1) K)
    else match K with
      | [] => false
      | c :: K' => c.f == a && alB tok to_ r c.t K'
theorem al_len {to_ : Int} : ∀ (I : List Nm) (a : Int) (K : List ND), alB tok to_ I a K = true → K.length = holN I
  | [], a, K, h => by
    unfold alB at h
    rw [Bool.and_eq_true, List.isEmpty_iff] at h
    rw [h.1]; rfl
  | x :: r, a, K, h => by
    unfold alB at h
    by_cases hx : x = []
    · subst hx
      rw [if_neg (by simp)] at h
      cases K with
      | nil => cases h
      | cons c K' =>
        simp only [Bool.and_eq_true] at h
        rw [holN_hole, List.length_cons, al_len r _ _ h.2]
    · rw [if_pos hx] at h
      simp only [Bool.and_eq_true] at h
      rw [holN_part hx, al_len r _ _ h.2.2]
theorem it_false {o : OP} {to_ : Int} : ∀ (I : List Nm) (a : Int) (K : List ND), 0 ≤ a → (∀ c ∈ K, 0 ≤ c.t) → (itB L z tok o to_ I false a K = true ↔ alB tok to_ I a K = true ∧ (I.getLast? = some [] → ∃ c, K.getLast? = some c ∧ mayH L z o c true = true))
  | [], a, K, _, _ => by
    unfold itB alB
    simp
  | x :: r, a, K, ha, hk => by
    unfold itB alB
    by_cases hx : x = []
    · subst hx
      rw [if_neg (by simp), if_neg (by simp)]
      cases K with
      | nil => simp
      | cons c K' =>
        have ih := it_false (o := o) (to_ := to_) r c.t K' (hk c (List.mem_cons_self ..)) fun y hy => hk y (List.mem_cons_of_mem _ hy)
        simp only [Bool.not_false, Bool.true_or, Bool.true_and, Bool.and_eq_true, beq_iff_eq]
        rw [ih]
        cases r with
        | nil =>
          simp only [List.isEmpty_nil, Bool.not_true, Bool.false_or, List.getLast?_nil, reduceCtorEq, false_implies, and_true, List.getLast?_singleton, forall_const]
          constructor
          · rintro ⟨h1, h2, h3⟩
            have hl := al_len (tok := tok) [] _ _ h3
            have : K' = [] := List.eq_nil_of_length_eq_zero hl
            subst this
            exact ⟨⟨h1, h3⟩, c, rfl, h2⟩
          · rintro ⟨⟨h1, h3⟩, c', hc', h2⟩
            have hl := al_len (tok := tok) [] _ _ h3
            have : K' = [] := List.eq_nil_of_length_eq_zero hl
            subst this
            simp only [List.getLast?_singleton, Option.some.injEq] at hc'
            subst hc'
            exact ⟨h1, h2, h3⟩
        | cons y r =>
          simp only [List.isEmpty_cons, Bool.not_false, Bool.true_or, true_and, List.getLast?_cons_cons]
          constructor
          · rintro ⟨h1, h2, h3⟩
            refine ⟨⟨h1, h2⟩, fun hl => ?_⟩
            obtain ⟨c', hc', hm⟩ := h3 hl
            refine ⟨c', ?_, hm⟩
            cases K' with
            | nil => cases hc'
            | cons d K' => rw [List.getLast?_cons_cons]; exact hc'
          · rintro ⟨⟨h1, h2⟩, h3⟩
            refine ⟨h1, h2, fun hl => ?_⟩
            obtain ⟨c', hc', hm⟩ := h3 hl
            have hlen := al_len (tok := tok) _ _ _ h2
            cases K' with
            | nil =>
              exfalso
              have : [] ∈ (y :: r) := List.mem_of_getLast? hl
              have h0 : holN (y :: r) ≠ 0 := by
                unfold holN
                intro hz
                have := List.eq_nil_of_length_eq_zero hz
                rw [List.filter_eq_nil_iff] at this
                exact this [] ‹_› (by simp)
              exact h0 hlen.symm
            | cons d K' => rw [List.getLast?_cons_cons] at hc'; exact ⟨c', hc', hm⟩
    · rw [if_pos hx, if_pos hx]
      have ih := it_false (o := o) (to_ := to_) r (a + 1) K (by omega) hk
      simp only [Bool.and_eq_true, decide_eq_true_eq]
      rw [ih]
      have hg : (x :: r).getLast? = some [] ↔ r.getLast? = some [] := by
        cases r with
        | nil => simp [hx]
        | cons y r => rw [List.getLast?_cons_cons]
      rw [hg]
      constructor
      · rintro ⟨⟨_, h1⟩, h2, h3, h4⟩; exact ⟨⟨h1, h2, h3⟩, h4⟩
      · rintro ⟨⟨h1, h2, h3⟩, h4⟩; exact ⟨⟨ha, h1⟩, h2, h3, h4⟩
theorem it_true {o : OP} {to_ : Int} (I : List Nm) (a : Int) (K : List ND) (ha : 0 ≤ a) (hk : ∀ c ∈ K, 0 ≤ c.t) : itB L z tok o to_ I true a K = true ↔ alB tok to_ I a K = true ∧ (I.head? = some [] → ∃ c, K.head? = some c ∧ mayH L z o c false = true) ∧ (I.getLast? = some [] → ∃ c, K.getLast? = some c ∧ mayH L z o c true = true) := by
  have h0 := it_false (L := L) (z := z) (tok := tok) (o := o) (to_ := to_) I a K ha hk
  have e : itB L z tok o to_ I true a K = true ↔ itB L z tok o to_ I false a K = true ∧ (I.head? = some [] → ∃ c, K.head? = some c ∧ mayH L z o c false = true) := by
    cases I with
    | nil => simp [itB]
    | cons x r =>
      unfold itB
      by_cases hx : x = []
      · subst hx
        rw [if_neg (by simp), if_neg (by simp)]
        cases K with
        | nil => simp
        | cons c K' =>
          simp only [Bool.not_true, Bool.false_or, Bool.not_false, Bool.true_or, Bool.true_and, Bool.and_eq_true, List.head?_cons, Option.some.injEq, forall_const, exists_eq_left']
          constructor
          · rintro ⟨h1, h2, h3, h4⟩; exact ⟨⟨h1, h3, h4⟩, h2⟩
          · rintro ⟨⟨h1, h3, h4⟩, h2⟩; exact ⟨h1, h2, h3, h4⟩
      · rw [if_pos hx, if_pos hx]
        simp [hx]
  rw [e, h0]
  constructor
  · rintro ⟨⟨h1, h2⟩, h3⟩; exact ⟨h1, h3, h2⟩
  · rintro ⟨h1, h3, h2⟩; exact ⟨⟨h1, h2⟩, h3⟩

theorem alI_last : ∀ (P : List Nm) (l r : Bool), (∀ p ∈ P, p ≠ []) → P ≠ [] → ((alI l P r).getLast? = some [] ↔ r = true)
  | [], l, r, _, h => absurd rfl h
  | [p], l, r, hp, _ => by
    have := hp p (by simp)
    cases l <;> cases r <;> simp [alI, this]
  | p :: q :: P, l, r, hp, _ => by
    have ih := alI_last (q :: P) true r (fun x hx => hp x (List.mem_cons_of_mem _ hx)) (by simp)
    rw [← ih]
    cases l <;> simp [alI, List.getLast?_cons_cons]
theorem alI_head {p : Nm} {P : List Nm} (l r : Bool) (hp : p ≠ []) : (alI l (p :: P) r).head? = some [] ↔ l = true := by
  cases l <;> simp [alI, hp]
theorem alI_hol : ∀ (P : List Nm) (l r : Bool), (∀ p ∈ P, p ≠ []) → P ≠ [] → (l = true → 0 < holN (alI l P r)) ∧ (r = true → 0 < holN (alI l P r))
  | [], l, r, _, h => absurd rfl h
  | p :: P, l, r, hp, _ => by
    have h0 : p ≠ [] := hp p (by simp)
    have hr : ∀ (Q : List Nm), holN (alI true Q true) ≠ 0 := by
      intro Q
      cases Q with
      | nil => simp [alI, holN]
      | cons q Q => simp [alI, holN_hole]
    constructor
    · rintro rfl
      simp [alI, holN_hole]
    · rintro rfl
      have := hr P
      cases l
      · simp [alI, holN_part h0]; omega
      · simp [alI, holN_hole]

/-! ### One node, its kids at hand -/

def opP (L : List OP) (z : List Int) (tok : List TK) (x : ND) (K : List ND) : Bool :=
  match findO L x.n with
  | none => false
  | some o => match ofS x.n with
    | none => false
    | some s => K.length == holN (alI s.l s.P s.r) && ((!s.l || (match K.head? with | some c => mayH L z o c false | none => false)) && ((!s.r || (match K.getLast? with | some c => mayH L z o c true | none => false)) && alB tok x.t (alI s.l s.P s.r) x.f K))
def soloB (y : TK) (c : UInt8) : Bool := y.k == 6 && txN y == [c]
def parP (tok : List TK) (x : ND) : List ND → Bool
  | [c] => x.n == [] && (c.f == x.f + 1 && (c.t == x.t - 1 && (soloB (tkn tok x.f) 40 && soloB (tkn tok (x.t - 1)) 41)))
  | _ => false
def leafP (L : List OP) (z : List Int) (tok : List TK) (x : ND) (K : List ND) : Bool := K.isEmpty && (x.t == x.f + 1 && (txN (tkn tok x.f) == x.n && leafB (tkn tok x.f).k (freeB L z (txN (tkn tok x.f)))))
/-- Whether a node derives its tokens, if these kids, all that it has, derive theirs. -/
def drvB (L : List OP) (z : List Int) (tok : List TK) (x : ND) (K : List ND) : Bool :=
  spanB tok x && (if x.k = 1 then leafP L z tok x K else if x.k = 2 then parP tok x K else if x.k = 3 then opP L z tok x K else false)
/-- All nodes, from the last one on. -/
def backB (L : List OP) (z : List Int) (tok : List TK) : List ND → Bool
  | [] => true
  | x :: l => backB L z tok l && (decide (0 ≤ x.c) && drvB L z tok x ((roots l).take x.c.toNat))
/-- What a node that derives its tokens says of its places. -/
def goodN (tok : List TK) (c : ND) : Prop := 0 ≤ c.f ∧ c.f < c.t ∧ c.t ≤ tok.length
theorem good_span {x : ND} : spanB tok x = true ↔ goodN tok x := by
  unfold spanB goodN
  simp only [Bool.and_eq_true, decide_eq_true_eq]
theorem drv_good {x : ND} {K : List ND} (h : drvB L z tok x K = true) : goodN tok x := by
  unfold drvB at h
  rw [Bool.and_eq_true] at h
  exact good_span.1 h.1
theorem roots_sub : ∀ (l : List ND), ∀ c ∈ roots l, c ∈ l
  | [], c, h => h
  | x :: l, c, h => by
    rw [roots] at h
    rcases List.mem_cons.1 h with h | h
    · rw [h]; exact List.mem_cons_self ..
    · exact List.mem_cons_of_mem _ (roots_sub l c (List.mem_of_mem_drop h))
theorem back_good : ∀ (l : List ND), backB L z tok l = true → ∀ c ∈ l, goodN tok c
  | [], _, c, hc => by cases hc
  | x :: l, h, c, hc => by
    unfold backB at h
    simp only [Bool.and_eq_true] at h
    rcases List.mem_cons.1 hc with rfl | hc
    · exact drv_good h.2.2
    · exact back_good l h.1 c hc

theorem op_same {x : ND} {l : List ND} (h0 : 0 ≤ x.f) (hk : ∀ c ∈ kidN x.c.toNat l, goodN tok c) : operB L z tok x l = opP L z tok x (kidN x.c.toNat l) := by
  unfold operB opP
  cases hf : findO L x.n with
  | none => rfl
  | some o =>
    have ho : o.1 = x.n := by
      have := List.find?_some hf
      simpa using this
    dsimp only
    rw [ho]
    cases hs : ofS x.n with
    | none => rfl
    | some s =>
      dsimp only
      obtain ⟨_, _, _, hw, _⟩ := ofS_some hs
      have hp : ∀ p ∈ s.P, p ≠ [] := fun p hp => (hw.2 p hp).1
      have hi := items_alI hw.1
      simp only [hi]
      rw [Bool.eq_iff_iff, it_true _ _ _ h0 fun c hc => by have := hk c hc; unfold goodN at this; omega]
      obtain ⟨p, P, hP⟩ : ∃ p P, s.P = p :: P := by
        cases hP : s.P with
        | nil => exact absurd hP hw.1
        | cons p P => exact ⟨p, P, rfl⟩
      have e1 : (alI s.l s.P s.r).head? = some [] ↔ s.l = true := by rw [hP]; exact alI_head _ _ (hp p (by rw [hP]; simp))
      have e2 := alI_last s.P s.l s.r hp hw.1
      rw [e1, e2]
      generalize kidN x.c.toNat l = K
      simp only [Bool.and_eq_true, beq_iff_eq, Bool.or_eq_true, Bool.not_eq_true']
      constructor
      · rintro ⟨h1, h2, h3⟩
        refine ⟨al_len _ _ _ h1, ?_, ?_, h1⟩
        · cases hl : s.l
          · exact .inl rfl
          · obtain ⟨c, hc, hm⟩ := h2 hl
            rw [hc]; exact .inr hm
        · cases hl : s.r
          · exact .inl rfl
          · obtain ⟨c, hc, hm⟩ := h3 hl
            rw [hc]; exact .inr hm
      · rintro ⟨_, h2, h3, h1⟩
        refine ⟨h1, fun hl => ?_, fun hl => ?_⟩
        · rw [hl] at h2
          simp only [Bool.true_eq_false, false_or] at h2
          cases hc : K.head? with
          | none => rw [hc] at h2; cases h2
          | some c => rw [hc] at h2; exact ⟨c, rfl, h2⟩
        · rw [hl] at h3
          simp only [Bool.true_eq_false, false_or] at h3
          cases hc : K.getLast? with
          | none => rw [hc] at h3; cases h3
          | some c => rw [hc] at h3; exact ⟨c, rfl, h3⟩

theorem node_same {x : ND} {l : List ND} {n : Nat} (hs : skp l x.c.toNat = some n) (hk : ∀ c ∈ l, goodN tok c) : nodeS L z tok (x :: l) = (decide (0 ≤ x.c) && drvB L z tok x ((roots l).take x.c.toNat)) := by
  obtain ⟨hr, _, _⟩ := roots_kid l _ _ hs
  have hsub : ∀ c ∈ kidN x.c.toNat l, goodN tok c := fun c hc => hk c (by rw [← hr] at hc; exact roots_sub l c (List.mem_of_mem_take hc))
  have hlen := kid_len _ _ _ hs
  rw [hr]
  show (spanB tok x && (if x.k = 1 then leafNB L z tok x else if x.k = 2 then parenB tok x l else if x.k = 3 then decide (0 ≤ x.c) && operB L z tok x l else false)) = (decide (0 ≤ x.c) && (spanB tok x && (if x.k = 1 then leafP L z tok x (kidN x.c.toNat l) else if x.k = 2 then parP tok x (kidN x.c.toNat l) else if x.k = 3 then opP L z tok x (kidN x.c.toNat l) else false)))
  cases hsp : spanB tok x with
  | false => simp
  | true =>
    have hg := good_span.1 hsp
    rw [Bool.true_and, Bool.true_and]
    by_cases k1 : x.k = 1
    · rw [if_pos k1, if_pos k1]
      unfold leafNB leafP
      rw [Bool.eq_iff_iff]
      simp only [Bool.and_eq_true, beq_iff_eq, decide_eq_true_eq, List.isEmpty_iff]
      constructor
      · rintro ⟨h1, h2, h3, h4⟩
        refine ⟨by omega, List.eq_nil_of_length_eq_zero (by rw [hlen, h1]; rfl), h2, h4, h3⟩
      · rintro ⟨h0, h1, h2, h4, h3⟩
        rw [h1] at hlen
        simp only [List.length_nil] at hlen
        exact ⟨by omega, h2, h3, h4⟩
    · rw [if_neg k1, if_neg k1]
      by_cases k2 : x.k = 2
      · rw [if_pos k2, if_pos k2]
        unfold parenB
        rw [Bool.eq_iff_iff]
        simp only [Bool.and_eq_true, beq_iff_eq, decide_eq_true_eq]
        constructor
        · rintro ⟨h1, h2, h3, h4, h5, h6, h7, h8⟩
          rw [h1]
          cases l with
          | nil => cases h8
          | cons y l =>
            simp only [Bool.and_eq_true, beq_iff_eq] at h8
            have hk1 : kidN (1 : Int).toNat (y :: l) = [y] := by
              show kidN (0 + 1) (y :: l) = [y]
              rw [h1] at hs
              rw [kid_succ (show skp (y :: l) 1 = some n from hs)]; rfl
            rw [hk1]
            unfold parP soloB
            simp only [Bool.and_eq_true, beq_iff_eq]
            exact ⟨by omega, h2, h8.1, h8.2, ⟨h4, h5⟩, h6, h7⟩
        · rintro ⟨h0, h1⟩
          generalize hK : kidN x.c.toNat l = K at h1 hlen hsub
          match K, h1, hlen, hsub with
          | [c], h1, hlen, hsub =>
            unfold parP soloB at h1
            simp only [Bool.and_eq_true, beq_iff_eq] at h1
            obtain ⟨h2, h3, h4, ⟨h5, h6⟩, h7, h8⟩ := h1
            have hc := hsub c (by simp)
            unfold goodN at hc
            simp only [List.length_cons, List.length_nil] at hlen
            have hx1 : x.c = 1 := by omega
            refine ⟨hx1, h2, by omega, h5, h6, h7, h8, ?_⟩
            rw [hx1] at hK hs
            cases l with
            | nil => cases hK
            | cons y l =>
              have hk1 : kidN (1 : Int).toNat (y :: l) = [y] := by
                show kidN (0 + 1) (y :: l) = [y]
                rw [kid_succ (show skp (y :: l) 1 = some n from hs)]; rfl
              rw [hk1] at hK
              simp only [List.cons.injEq, and_true] at hK
              subst hK
              simp only [Bool.and_eq_true, beq_iff_eq]
              exact ⟨h3, h4⟩
      · rw [if_neg k2, if_neg k2]
        by_cases k3 : x.k = 3
        · rw [if_pos k3, if_pos k3, op_same hg.1 hsub]
        · rw [if_neg k3, if_neg k3]; simp

theorem back_all : ∀ (l : List ND) (m : Nat), skp l m = some l.length → (backB L z tok l = true ↔ ∀ i, i < l.length → nodeS L z tok (l.drop i) = true)
  | [], m, h => by simp [backB]
  | x :: l, 0, h => by rw [skp_zero, List.length_cons] at h; cases h
  | x :: l, m + 1, h => by
    rw [skp_cons] at h
    obtain ⟨n', h', hn⟩ := Option.map_eq_some_iff.1 h
    rw [List.length_cons] at hn
    have hl : n' = l.length := by omega
    subst hl
    have ih := back_all l _ h'
    obtain ⟨p, hp⟩ : ∃ p, skp l x.c.toNat = some p := by
      rw [skp_add] at h'
      cases hc : skp l x.c.toNat with
      | none => rw [hc] at h'; cases h'
      | some p => exact ⟨p, rfl⟩
    unfold backB
    rw [Bool.and_eq_true, ih]
    constructor
    · rintro ⟨h1, h2⟩ i hi
      cases i with
      | zero => rw [List.drop_zero, node_same hp (back_good l (ih.2 h1))]; exact h2
      | succ i => rw [List.drop_succ_cons]; exact h1 i (by rw [List.length_cons] at hi; omega)
    · intro h1
      have h2 : ∀ i, i < l.length → nodeS L z tok (l.drop i) = true := fun i hi => by
        have := h1 (i + 1) (by rw [List.length_cons]; omega)
        rwa [List.drop_succ_cons] at this
      refine ⟨h2, ?_⟩
      rw [← node_same hp (back_good l (ih.2 h2))]
      exact h1 0 (by simp)
/-- What Right answers, told from the last node on. -/
theorem right_back (L : List OP) (z : List Int) (tok : List TK) (t : List ND) : rightB L z tok t = ((skp t 1 == some t.length) && (headB tok t && backB L z tok t)) := by
  rw [Bool.eq_iff_iff, rightB_iff]
  simp only [Bool.and_eq_true, beq_iff_eq]
  constructor
  · rintro ⟨h1, h2, h3⟩; exact ⟨h1, h2, (back_all t 1 h1).2 h3⟩
  · rintro ⟨h1, h2, h3⟩; exact ⟨h1, h2, (back_all t 1 h1).1 h3⟩
/-- Behind whole trees the rest is whole trees, too. -/
theorem skp_drop : ∀ (l : List ND) (m : Nat), skp l m = some l.length → ∀ i, i ≤ l.length → ∃ m', skp (l.drop i) m' = some (l.drop i).length
  | l, m, h, 0, _ => ⟨m, h⟩
  | [], m, h, i + 1, hi => by cases hi
  | x :: l, 0, h, i + 1, hi => by rw [skp_zero, List.length_cons] at h; cases h
  | x :: l, m + 1, h, i + 1, hi => by
    rw [skp_cons] at h
    obtain ⟨n', h', hn⟩ := Option.map_eq_some_iff.1 h
    rw [List.length_cons] at hn
    have hl : n' = l.length := by omega
    subst hl
    rw [List.drop_succ_cons]
    exact skp_drop l _ h' i (by rw [List.length_cons] at hi; omega)

/-! ### Where a subtree ends, where those below a node begin -/

theorem skp_ge : ∀ (l : List ND) (m n : Nat), skp l m = some n → m ≤ n
  | l, 0, n, h => Nat.zero_le _
  | [], m + 1, n, h => by cases h
  | x :: l, m + 1, n, h => by
    rw [skp_cons] at h
    obtain ⟨n', h', rfl⟩ := Option.map_eq_some_iff.1 h
    have := skp_ge l _ _ h'
    omega
def endV (T : List ND) (i : Int) : Int := if i < 0 then -1 else match skp (T.drop i.toNat) 1 with | some n => i + n | none => -1
/-- Where m trees begin, the first one at `at`. -/
def plN : Nat → List ND → Nat → List Int
  | 0, _, _ => []
  | m + 1, l, p => (p : Int) :: (match skp l 1 with | some n => plN m (l.drop n) (p + n) | none => [])
theorem pl_succ {m n p : Nat} {l : List ND} (h : skp l 1 = some n) : plN (m + 1) l p = (p : Int) :: plN m (l.drop n) (p + n) := by
  show (p : Int) :: (match skp l 1 with | some n => plN m (l.drop n) (p + n) | none => []) = _
  rw [h]
theorem pl_len : ∀ (m : Nat) (l : List ND) (n p : Nat), skp l m = some n → (plN m l p).length = m
  | 0, l, n, p, h => rfl
  | m + 1, l, n, p, h => by
    obtain ⟨n1, n2, h1, h2, rfl⟩ := skp_one h
    rw [pl_succ h1, List.length_cons, pl_len m _ _ _ h2]
def kidV (T : List ND) (i : Int) : List Int :=
  if endV T i < 0 then [] else plN (nA T i.toNat).c.toNat (T.drop (i.toNat + 1)) (i.toNat + 1)

end Go.Proofs.YtkaeanaeklilfaaGreatDoor
