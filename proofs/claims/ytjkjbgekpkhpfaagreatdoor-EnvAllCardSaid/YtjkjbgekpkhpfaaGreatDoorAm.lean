/- The plain mathematics of layer 14: operators in the order of their patterns: what is added, dropped. No program, no walk here; it stands on no other text. -/
import Derived.Sort.Walk0
namespace Go.Proofs.YtjkjbgekpkhpfaaGreatDoor

/-- An operator: its pattern, its group, its associativity. -/
abbrev OP := List UInt8 × Int × Int

theorem slt_of_ne {x y : List UInt8} (h : x ≤ y) (hn : x ≠ y) : x < y := by
  apply Decidable.byContradiction
  intro h1
  exact hn (List.le_antisymm h h1)
theorem sle_of_lt {x y : List UInt8} (h : x < y) : x ≤ y := fun h1 => by
  rcases List.le_total x y with h2 | h2
  · exact h2 h1
  · exact h2 h
theorem slt_irr (x : List UInt8) : ¬ x < x := fun h => sle_of_lt h h
theorem slt_tr {x y z : List UInt8} (h : x < y) (h1 : y < z) : x < z := by
  refine slt_of_ne (List.le_trans (sle_of_lt h) (sle_of_lt h1)) fun e => ?_
  subst e
  exact sle_of_lt h1 h
theorem sne_of_lt {x y : List UInt8} (h : x < y) : x ≠ y := fun e => by subst e; exact slt_irr _ h
theorem slt_three (x y : List UInt8) : x < y ∨ x = y ∨ y < x := by
  by_cases h : x < y
  · exact .inl h
  · by_cases e : x = y
    · exact .inr (.inl e)
    · exact .inr (.inr (slt_of_ne h fun e' => e e'.symm))
theorem less_iff (x y : List UInt8) : Op.bytesLess x y = true ↔ x < y := by rw [bytesLess_eq, decide_eq_true_eq]
theorem less_no (x y : List UInt8) : Op.bytesLess x y = false ↔ ¬ x < y := by rw [bytesLess_eq, decide_eq_false_iff_not]

/-! ### Where a pattern stands -/

def posL (L : List OP) (p : List UInt8) : Nat := (L.takeWhile fun o => Op.bytesLess o.1 p).length
/-- Whether an operator of that pattern stands there. -/
def hitL (L : List OP) (p : List UInt8) : Bool := match L.drop (posL L p) with
  | [] => false
  | x :: _ => x.1 == p
/-- One more operator, or in place of one. -/
def addL (L : List OP) (o : OP) : List OP := L.take (posL L o.1) ++ [o] ++ L.drop (posL L o.1 + if hitL L o.1 = true then 1 else 0)

theorem posL_le (L : List OP) (p : List UInt8) : posL L p ≤ L.length := by
  unfold posL
  induction L with
  | nil => simp
  | cons x L ih => rw [List.takeWhile_cons]; split <;> simp_all
theorem posL_yes {x : OP} {L : List OP} {p : List UInt8} (h : x.1 < p) : posL (x :: L) p = posL L p + 1 := by unfold posL; rw [List.takeWhile_cons, if_pos ((less_iff _ _).2 h)]; rfl
theorem posL_no {x : OP} {L : List OP} {p : List UInt8} (h : ¬ x.1 < p) : posL (x :: L) p = 0 := by unfold posL; rw [List.takeWhile_cons, if_neg (fun e => h ((less_iff _ _).1 e))]; rfl
/-- Ahead of it all are less. -/
theorem posL_lt {p : List UInt8} : ∀ (L : List OP) (k : Nat) (h : k < L.length), k < posL L p → L[k].1 < p
  | x :: L, k, h, hk => by
    by_cases hx : x.1 < p
    · rw [posL_yes hx] at hk
      cases k with
      | zero => exact hx
      | succ k => exact posL_lt L k (by simpa using h) (by omega)
    · rw [posL_no hx] at hk; omega
/-- It itself is not. -/
theorem posL_at {p : List UInt8} : ∀ (L : List OP) (k : Nat) (h : k < L.length), posL L p = k → ¬ L[k].1 < p
  | x :: L, k, h, hk => by
    by_cases hx : x.1 < p
    · rw [posL_yes hx] at hk
      cases k with
      | zero => omega
      | succ k => exact posL_at L k (by simpa using h) (by omega)
    · rw [posL_no hx] at hk
      subst hk
      exact hx
/-- The place is told by these two. -/
theorem posL_eq {L : List OP} {p : List UInt8} {k : Nat} (hk : k ≤ L.length) (h1 : ∀ j (h : j < L.length), j < k → L[j].1 < p) (h2 : ∀ h : k < L.length, ¬ L[k].1 < p) : posL L p = k := by
  have a := posL_le L p
  rcases Nat.lt_trichotomy (posL L p) k with h | h | h
  · exact absurd (h1 _ (by omega) h) (posL_at L _ (by omega) rfl)
  · exact h
  · exact absurd (posL_lt L k (by omega) h) (h2 (by omega))
theorem hitL_end {L : List OP} {p : List UInt8} (h : L.length ≤ posL L p) : hitL L p = false := by
  unfold hitL; rw [List.drop_eq_nil_of_le h]
theorem hitL_at {L : List OP} {p : List UInt8} {k : Nat} (hk : posL L p = k) (h : k < L.length) : hitL L p = (L[k].1 == p) := by
  unfold hitL; rw [hk, List.drop_eq_getElem_cons h]

/-! ### Rising lists -/

def Srt (L : List OP) : Prop := L.Pairwise fun a b => a.1 < b.1

theorem srt_nil : Srt [] := List.Pairwise.nil
theorem srt_ext {A B : List OP} (ha : Srt A) (hb : Srt B) (h : ∀ x, x ∈ A ↔ x ∈ B) : A = B := by
  induction A generalizing B with
  | nil =>
    cases B with
    | nil => rfl
    | cons b B => have := (h b).2 (List.mem_cons_self ..); cases this
  | cons a A ih =>
    cases B with
    | nil => have := (h a).1 (List.mem_cons_self ..); cases this
    | cons b B =>
      have ha' := List.pairwise_cons.1 ha
      have hb' := List.pairwise_cons.1 hb
      have e : a = b := by
        rcases List.mem_cons.1 ((h a).1 (List.mem_cons_self ..)) with e | e
        · exact e
        · rcases List.mem_cons.1 ((h b).2 (List.mem_cons_self ..)) with e' | e'
          · exact e'.symm
          · exact absurd (slt_tr (ha'.1 b e') (hb'.1 a e)) (slt_irr _)
      subst e
      have h2 : ∀ x, x ∈ A ↔ x ∈ B := fun x => by
        constructor
        · intro hx
          rcases List.mem_cons.1 ((h x).1 (List.mem_cons_of_mem _ hx)) with e | e
          · subst e; exact absurd (ha'.1 x hx) (slt_irr _)
          · exact e
        · intro hx
          rcases List.mem_cons.1 ((h x).2 (List.mem_cons_of_mem _ hx)) with e | e
          · subst e; exact absurd (hb'.1 x hx) (slt_irr _)
          · exact e
      rw [ih ha'.2 hb'.2 h2]

/-- Of a pattern there is one. -/
theorem srt_one {L : List OP} (h : Srt L) {x y : OP} (hx : x ∈ L) (hy : y ∈ L) (e : x.1 = y.1) : x = y := by
  induction L with
  | nil => cases hx
  | cons a L ih =>
    have h' := List.pairwise_cons.1 h
    rcases List.mem_cons.1 hx with e1 | h1
    · rcases List.mem_cons.1 hy with e2 | h2
      · rw [e1, e2]
      · have := h'.1 y h2; rw [← e1, e] at this; exact absurd this (slt_irr _)
    · rcases List.mem_cons.1 hy with e2 | h2
      · have := h'.1 x h1; rw [← e2, e] at this; exact absurd this (slt_irr _)
      · exact ih h'.2 h1 h2

theorem addL_nil (o : OP) : addL [] o = [o] := rfl
theorem addL_less {x : OP} {L : List OP} {o : OP} (h : x.1 < o.1) : addL (x :: L) o = x :: addL L o := by
  unfold addL
  rw [posL_yes h, show hitL (x :: L) o.1 = hitL L o.1 by unfold hitL; rw [posL_yes h]; rfl, List.take_succ_cons, Nat.add_right_comm, List.drop_succ_cons]
  rfl
theorem addL_same {x : OP} {L : List OP} {o : OP} (h : x.1 = o.1) : addL (x :: L) o = o :: L := by
  have hn : ¬ x.1 < o.1 := by rw [h]; exact slt_irr _
  have hh : hitL (x :: L) o.1 = true := by unfold hitL; rw [posL_no hn]; show (x.1 == o.1) = true; rw [h]; simp
  unfold addL
  rw [posL_no hn, hh]
  rfl
theorem addL_more {x : OP} {L : List OP} {o : OP} (h : o.1 < x.1) : addL (x :: L) o = o :: x :: L := by
  have hn : ¬ x.1 < o.1 := fun h' => slt_irr _ (slt_tr h h')
  have hh : hitL (x :: L) o.1 = false := by unfold hitL; rw [posL_no hn]; show (x.1 == o.1) = false; exact beq_eq_false_iff_ne.2 (sne_of_lt h).symm
  unfold addL
  rw [posL_no hn, hh]
  rfl

/-- What is there behind an addition. -/
theorem addL_mem {o : OP} : ∀ {L : List OP}, Srt L → ∀ x, x ∈ addL L o ↔ x = o ∨ (x ∈ L ∧ x.1 ≠ o.1)
  | [], _, x => by rw [addL_nil]; simp
  | y :: L, h, x => by
    have h' := List.pairwise_cons.1 h
    rcases slt_three y.1 o.1 with hy | hy | hy
    · rw [addL_less hy, List.mem_cons, addL_mem h'.2, List.mem_cons]
      constructor
      · rintro (rfl | rfl | ⟨h1, h2⟩)
        · exact .inr ⟨.inl rfl, sne_of_lt hy⟩
        · exact .inl rfl
        · exact .inr ⟨.inr h1, h2⟩
      · rintro (rfl | ⟨rfl | h1, h2⟩)
        · exact .inr (.inl rfl)
        · exact .inl rfl
        · exact .inr (.inr ⟨h1, h2⟩)
    · rw [addL_same hy, List.mem_cons, List.mem_cons]
      constructor
      · rintro (rfl | h1)
        · exact .inl rfl
        · exact .inr ⟨.inr h1, fun e => slt_irr x.1 (by have := h'.1 x h1; rw [hy, ← e] at this; exact this)⟩
      · rintro (rfl | ⟨rfl | h1, h2⟩)
        · exact .inl rfl
        · exact absurd hy h2
        · exact .inr h1
    · simp only [addL_more hy, List.mem_cons]
      constructor
      · rintro (rfl | rfl | h1)
        · exact .inl rfl
        · exact .inr ⟨.inl rfl, (sne_of_lt hy).symm⟩
        · exact .inr ⟨.inr h1, (sne_of_lt (slt_tr hy (h'.1 x h1))).symm⟩
      · rintro (rfl | ⟨h1, _⟩)
        · exact .inl rfl
        · exact .inr h1
theorem addL_srt {o : OP} : ∀ {L : List OP}, Srt L → Srt (addL L o)
  | [], _ => by rw [addL_nil]; exact List.pairwise_singleton _ _
  | y :: L, h => by
    have h' := List.pairwise_cons.1 h
    rcases slt_three y.1 o.1 with hy | hy | hy
    · rw [addL_less hy]
      refine List.pairwise_cons.2 ⟨fun x hx => ?_, addL_srt h'.2⟩
      rcases (addL_mem h'.2 x).1 hx with rfl | ⟨h1, _⟩
      · exact hy
      · exact h'.1 x h1
    · rw [addL_same hy]
      exact List.pairwise_cons.2 ⟨fun x hx => by rw [← hy]; exact h'.1 x hx, h'.2⟩
    · rw [addL_more hy]
      refine List.pairwise_cons.2 ⟨fun x hx => ?_, h⟩
      rcases List.mem_cons.1 hx with rfl | hx
      · exact hy
      · exact slt_tr hy (h'.1 x hx)
theorem hitL_iff {p : List UInt8} : ∀ {L : List OP}, Srt L → (hitL L p = true ↔ ∃ x ∈ L, x.1 = p)
  | [], _ => by simp [hitL]
  | y :: L, h => by
    have h' := List.pairwise_cons.1 h
    rcases slt_three y.1 p with hy | hy | hy
    · have e : hitL (y :: L) p = hitL L p := by unfold hitL; rw [posL_yes hy]; rfl
      rw [e, hitL_iff h'.2]
      constructor
      · rintro ⟨x, hx, e⟩; exact ⟨x, List.mem_cons_of_mem _ hx, e⟩
      · rintro ⟨x, hx, e2⟩
        rcases List.mem_cons.1 hx with rfl | hx
        · exact absurd e2 (sne_of_lt hy)
        · exact ⟨x, hx, e2⟩
    · have hn : ¬ y.1 < p := by rw [hy]; exact slt_irr _
      have e : hitL (y :: L) p = true := by unfold hitL; rw [posL_no hn]; show (y.1 == p) = true; rw [hy]; simp
      exact ⟨fun _ => ⟨y, List.mem_cons_self .., hy⟩, fun _ => e⟩
    · have hn : ¬ y.1 < p := fun h2 => slt_irr _ (slt_tr hy h2)
      have e : hitL (y :: L) p = false := by unfold hitL; rw [posL_no hn]; show (y.1 == p) = false; exact beq_eq_false_iff_ne.2 (sne_of_lt hy).symm
      rw [e]
      refine ⟨fun h2 => (by cases h2), ?_⟩
      rintro ⟨x, hx, e2⟩
      rcases List.mem_cons.1 hx with rfl | hx
      · exact absurd e2 (sne_of_lt hy).symm
      · exact absurd e2 (sne_of_lt (slt_tr hy (h'.1 x hx))).symm
theorem addL_len (L : List OP) (o : OP) : (addL L o).length = L.length + (if hitL L o.1 = true then 0 else 1) := by
  have h := posL_le L o.1
  unfold addL
  simp only [List.length_append, List.length_take, List.length_cons, List.length_nil, List.length_drop]
  by_cases hh : hitL L o.1 = true
  · have : posL L o.1 < L.length := by
      apply Decidable.byContradiction
      intro h2
      rw [hitL_end (by omega)] at hh; cases hh
    rw [if_pos hh, if_pos hh]
    omega
  · rw [if_neg hh, if_neg hh]
    omega

/-! ### What is dropped -/

def drpI (L : List OP) (p : List UInt8) : Option Nat := L.findIdx? fun o => o.1 == p
def drpL (L : List OP) (p : List UInt8) : List OP := match drpI L p with
  | none => []
  | some i => L.take i ++ L.drop (i + 1)
theorem drpI_none {L : List OP} {p : List UInt8} : drpI L p = none ↔ ∀ x ∈ L, x.1 ≠ p := by
  unfold drpI; rw [List.findIdx?_eq_none_iff]; simp
/-- Rising, what is dropped is each one of that pattern. -/
theorem drp_filter {p : List UInt8} : ∀ {L : List OP}, Srt L → ∀ i, drpI L p = some i → L.take i ++ L.drop (i + 1) = L.filter fun o => o.1 != p
  | [], _, i, hi => by simp [drpI] at hi
  | y :: L, h, i, hi => by
    have h' := List.pairwise_cons.1 h
    unfold drpI at hi
    rw [List.findIdx?_cons] at hi
    by_cases hy : y.1 = p
    · rw [if_pos (by rw [hy]; simp)] at hi
      obtain rfl := Option.some.inj hi
      rw [List.filter_cons, if_neg (by rw [hy]; simp)]
      show L = _
      exact (List.filter_eq_self.2 fun x hx => by
        have := h'.1 x hx
        rw [hy] at this
        exact bne_iff_ne.2 (sne_of_lt this).symm).symm
    · rw [if_neg (by simpa using hy)] at hi
      obtain ⟨j, hj, rfl⟩ := Option.map_eq_some_iff.1 hi
      rw [List.filter_cons, if_pos (by simpa using hy), ← drp_filter h'.2 j hj]
      rfl
theorem drpL_mem {L : List OP} (h : Srt L) {p : List UInt8} {i : Nat} (hi : drpI L p = some i) (x : OP) : x ∈ drpL L p ↔ x ∈ L ∧ x.1 ≠ p := by
  unfold drpL; rw [hi]
  show x ∈ L.take i ++ L.drop (i + 1) ↔ _
  rw [drp_filter h i hi, List.mem_filter]
  simp
theorem drpL_srt {L : List OP} (h : Srt L) {p : List UInt8} {i : Nat} (hi : drpI L p = some i) : Srt (drpL L p) := by
  unfold drpL; rw [hi]
  show Srt (L.take i ++ L.drop (i + 1))
  rw [drp_filter h i hi]
  exact h.filter _
theorem drpL_len {L : List OP} {p : List UInt8} {i : Nat} (hi : drpI L p = some i) : (drpL L p).length + 1 = L.length := by
  have hlt : i < L.length := by
    have := List.findIdx?_eq_some_iff_getElem.1 hi
    exact this.1
  unfold drpL; rw [hi]
  show (L.take i ++ L.drop (i + 1)).length + 1 = L.length
  rw [List.length_append, List.length_take, List.length_drop]
  omega
/-- What was added last is there, alone of its pattern. -/
theorem drp_add {L : List OP} (h : Srt L) (o : OP) : ∃ i, drpI (addL L o) o.1 = some i := by
  cases hi : drpI (addL L o) o.1 with
  | some i => exact ⟨i, rfl⟩
  | none => exact absurd rfl (drpI_none.1 hi o ((addL_mem h o).2 (.inl rfl)))

/-! ### A name that a change has no part of -/

theorem add_filter (f : OP → Bool) (L : List OP) (o : OP) (ho : f o = false) (hs : ∀ x ∈ L, x.1 = o.1 → f x = false) : (addL L o).filter f = L.filter f := by
  have hk : L.filter f = (L.take (posL L o.1)).filter f ++ (L.drop (posL L o.1)).filter f := by rw [← List.filter_append, List.take_append_drop]
  unfold addL
  rw [List.filter_append, List.filter_append, List.filter_cons, if_neg (by rw [ho]; decide), List.filter_nil, List.append_nil, hk]
  congr 1
  by_cases hh : hitL L o.1 = true
  · have hlt : posL L o.1 < L.length := by
      apply Decidable.byContradiction
      intro h2
      rw [hitL_end (by omega)] at hh; cases hh
    rw [if_pos hh, List.drop_eq_getElem_cons hlt, List.filter_cons, if_neg]
    rw [hitL_at rfl hlt] at hh
    rw [hs _ (List.getElem_mem hlt) (eq_of_beq hh)]
    decide
  · rw [if_neg hh, Nat.add_zero]
theorem drp_filter_f (f : OP → Bool) {L : List OP} {p : List UInt8} {i : Nat} (hi : drpI L p = some i) (hs : ∀ x ∈ L, x.1 = p → f x = false) : (drpL L p).filter f = L.filter f := by
  have hf := List.findIdx?_eq_some_iff_getElem.1 hi
  obtain ⟨hlt, he, _⟩ := hf
  have hk : L.filter f = (L.take i).filter f ++ (L.drop i).filter f := by rw [← List.filter_append, List.take_append_drop]
  unfold drpL; rw [hi]
  show (L.take i ++ L.drop (i + 1)).filter f = _
  rw [List.filter_append, hk, List.drop_eq_getElem_cons hlt, List.filter_cons, if_neg]
  rw [hs _ (List.getElem_mem hlt) (eq_of_beq he)]
  decide

/-! ### Added one by one, in whatever order -/

def addsL (S : List OP) : List OP := S.foldl addL []
theorem addsL_snoc (S : List OP) (o : OP) : addsL (S ++ [o]) = addL (addsL S) o := by unfold addsL; rw [List.foldl_append]; rfl
/-- Of unlike patterns: all are there, rising. -/
theorem adds_ok : ∀ (S M : List OP), Srt M → (S.map (·.1)).Nodup → (∀ x ∈ M, ∀ y ∈ S, x.1 ≠ y.1) → Srt (S.foldl addL M) ∧ (∀ x, x ∈ S.foldl addL M ↔ x ∈ M ∨ x ∈ S) ∧ (S.foldl addL M).length = M.length + S.length
  | [], M, h, _, _ => ⟨h, by simp, rfl⟩
  | o :: S, M, h, hn, hd => by
    have hn' : (∀ x ∈ S, x.1 ≠ o.1) ∧ (S.map (·.1)).Nodup := by
      rw [List.map_cons, List.nodup_cons] at hn
      exact ⟨fun x hx e => hn.1 (List.mem_map.2 ⟨x, hx, e⟩), hn.2⟩
    have hm := addL_mem (o := o) h
    have ho : ∀ x ∈ M, x.1 ≠ o.1 := fun x hx => hd x hx o (List.mem_cons_self ..)
    have ih := adds_ok S (addL M o) (addL_srt h) hn'.2 (fun x hx y hy => by
      rcases (hm x).1 hx with rfl | ⟨h1, _⟩
      · exact (hn'.1 y hy).symm
      · exact hd x h1 y (List.mem_cons_of_mem _ hy))
    have hh : hitL M o.1 = false := by
      cases hh : hitL M o.1 with
      | false => rfl
      | true => obtain ⟨x, hx, e⟩ := (hitL_iff h).1 hh; exact absurd e (ho x hx)
    rw [List.foldl_cons]
    refine ⟨ih.1, fun x => ?_, ?_⟩
    · rw [ih.2.1, hm, List.mem_cons]
      constructor
      · rintro ((rfl | ⟨h1, _⟩) | h1)
        · exact .inr (.inl rfl)
        · exact .inl h1
        · exact .inr (.inr h1)
      · rintro (h1 | rfl | h1)
        · exact .inl (.inr ⟨h1, ho x h1⟩)
        · exact .inl (.inl rfl)
        · exact .inr h1
    · rw [ih.2.2, addL_len, hh, List.length_cons]
      simp; omega
theorem adds_perm {S R : List OP} (hs : (S.map (·.1)).Nodup) (hr : (R.map (·.1)).Nodup) (h : ∀ x, x ∈ S ↔ x ∈ R) : addsL S = addsL R := by
  have a := adds_ok S [] srt_nil hs (by simp)
  have b := adds_ok R [] srt_nil hr (by simp)
  refine srt_ext a.1 b.1 fun x => ?_
  show x ∈ S.foldl addL [] ↔ x ∈ R.foldl addL []
  rw [a.2.1, b.2.1, h]

end Go.Proofs.YtjkjbgekpkhpfaaGreatDoor
