/- Mathematics of trees: subtrees derive theirs; a tree derives no other tokens; without brackets a whole tree is one. No walk here. (Laid ahead of stage 18 in round 17.) -/
import Derived.Test.YtkaeanaeklilfaaGreatDoorRm
namespace Go.Proofs.YtkaeanaeklilfaaGreatDoor
open Go.RowKit

/-! ### No others -/

theorem right_nil (L : List OP) (z : List Int) (tok : List TK) : rightB L z tok [] = false := rfl
theorem right_toks {L : List OP} {z : List Int} {tok tok' : List TK} {t : List ND} (h : rightB L z tok t = true) (hl : tok'.length ≠ tok.length) (L' : List OP) (z' : List Int) : rightB L' z' tok' t = false := by
  rw [Bool.eq_false_iff]
  intro h'
  have h1 := (rightB_iff.1 h).2.1
  have h2 := (rightB_iff.1 h').2.1
  cases t with
  | nil => cases h1
  | cons x l =>
    unfold headB at h1 h2
    simp only [Bool.and_eq_true, beq_iff_eq] at h1 h2
    omega
theorem right_extra {L : List OP} {z : List Int} {tok : List TK} {t : List ND} (h : rightB L z tok t = true) {y : List ND} (hy : y ≠ []) (L' : List OP) (z' : List Int) (tok' : List TK) : rightB L' z' tok' (t ++ y) = false := by
  rw [Bool.eq_false_iff]
  intro h'
  have h1 := (rightB_iff.1 h).1
  have h2 := (rightB_iff.1 h').1
  rw [skp_app _ _ _ h1, List.length_append] at h2
  have h3 := Option.some.inj h2
  exact hy (List.eq_nil_of_length_eq_zero (by omega))
theorem right_less {L : List OP} {z : List Int} {tok : List TK} {t : List ND} (h : rightB L z tok t = true) {m : Nat} (hm : m < t.length) (L' : List OP) (z' : List Int) (tok' : List TK) : rightB L' z' tok' (t.take m) = false := by
  rw [Bool.eq_false_iff]
  intro h'
  have h1 := (rightB_iff.1 h).1
  have h2 := (rightB_iff.1 h').1
  have h3 := skp_app _ _ _ h2 (t.drop m)
  rw [List.take_append_drop, h1, List.length_take] at h3
  have h4 := Option.some.inj h3
  omega
theorem right_noop {x : ND} {l : List ND} (hx : x.k = 3) (z : List Int) (tok : List TK) : rightB [] z tok (x :: l) = false := by
  rw [Bool.eq_false_iff]
  intro h
  have h1 := (rightB_iff.1 h).2.2 0 (by simp)
  rw [List.drop_zero] at h1
  have h2 : (spanB tok x && (if x.k = 1 then leafNB [] z tok x else if x.k = 2 then parenB tok x l else if x.k = 3 then decide (0 ≤ x.c) && operB [] z tok x l else false)) = true := h1
  simp [hx, operB, findO] at h2

/-! ### Without brackets -/

def bareN (x : ND) : ND := ⟨x.k, x.n, 0, 0, x.c⟩
def bareL (t : List ND) : List ND := (t.filter fun x => x.k != 2).map bareN
theorem bare_yes {x : ND} (h : x.k ≠ 2) (l : List ND) : bareL (x :: l) = bareN x :: bareL l := by
  unfold bareL; rw [List.filter_cons_of_pos (by simpa using h), List.map_cons]
theorem bare_no {x : ND} (h : x.k = 2) (l : List ND) : bareL (x :: l) = bareL l := by
  unfold bareL; rw [List.filter_cons_of_neg (by simp [h])]
theorem bare_bare (t : List ND) : bareL (bareL t) = bareL t := by
  induction t with
  | nil => rfl
  | cons x l ih =>
    by_cases h : x.k = 2
    · rw [bare_no h]; exact ih
    · rw [bare_yes h, bare_yes (x := bareN x) h, ih]; rfl
theorem bare_skp : ∀ (l : List ND) (m n : Nat), skp l m = some n → (∀ x ∈ l, x.k = 2 → x.c = 1) → skp (bareL l) m = some (bareL (l.take n)).length
  | l, 0, n, h, hp => by
    rw [skp_zero] at h; cases h
    rw [skp_zero, List.take_zero]; rfl
  | [], m + 1, n, h, hp => by cases h
  | x :: l, m + 1, n, h, hp => by
    rw [skp_cons] at h
    obtain ⟨n', h', rfl⟩ := Option.map_eq_some_iff.1 h
    have ih := bare_skp l _ _ h' fun y hy => hp y (List.mem_cons_of_mem _ hy)
    rw [List.take_succ_cons]
    by_cases hk : x.k = 2
    · have hc := hp x (List.mem_cons_self ..) hk
      rw [bare_no hk, bare_no hk]
      rw [hc, show (1 : Int).toNat + m = m + 1 by show 1 + m = m + 1; omega] at ih
      exact ih
    · rw [bare_yes hk, bare_yes hk, skp_cons]
      show (skp (bareL l) (x.c.toNat + m)).map (· + 1) = _
      rw [ih]; rfl
theorem right_paren {L : List OP} {z : List Int} {tok : List TK} {t : List ND} (h : rightB L z tok t = true) : ∀ x ∈ t, x.k = 2 → x.c = 1 := by
  intro x hx hk
  obtain ⟨i, hi, rfl⟩ := List.mem_iff_getElem.1 hx
  have h1 := (rightB_iff.1 h).2.2 i hi
  rw [List.drop_eq_getElem_cons hi] at h1
  unfold nodeS at h1
  rw [Bool.and_eq_true] at h1
  have h2 := h1.2
  rw [if_neg (by rw [hk]; decide), if_pos hk] at h2
  unfold parenB at h2
  simp only [Bool.and_eq_true, beq_iff_eq] at h2
  exact h2.1
theorem right_bare {L : List OP} {z : List Int} {tok : List TK} {t : List ND} (h : rightB L z tok t = true) : skp (bareL t) 1 = some (bareL t).length := by
  have := bare_skp t 1 _ (rightB_iff.1 h).1 (right_paren h)
  rwa [List.take_length] at this

end Go.Proofs.YtkaeanaeklilfaaGreatDoor
