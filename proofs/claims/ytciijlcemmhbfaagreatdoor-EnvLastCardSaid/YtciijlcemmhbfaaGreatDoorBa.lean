/- Mathematics of EnvOrders. -/
import Derived.Test.YtciijlcemmhbfaaGreatDoorAa
import Derived.Test.YtciijlcemmhbfaaGreatDoorFh
namespace Go.Proofs.YtciijlcemmhbfaaGreatDoor

def fitO (o : OP) : OP := (pat (fitQ o.1), fitG o.2.1, fitA o.1 o.2.1 o.2.2)
/-- Operators that may be, of unlike patterns. -/
def goodL (A : List OP) : Prop := (A.map (·.1)).Nodup ∧ ∀ o ∈ A, mayV o.1 o.2.1 o.2.2 = 0 ∧ o.1.length ≤ 20
theorem fitO_good (o : OP) : mayV (fitO o).1 (fitO o).2.1 (fitO o).2.2 = 0 ∧ (fitO o).1.length ≤ 20 := ⟨fit_may o.1 o.2.1 o.2.2, pat_len _ (fitQ_lt o.1)⟩
theorem good_nil : goodL [] := ⟨List.nodup_nil, fun o h => by cases h⟩
theorem good_snoc {A : List OP} {o : OP} (h : goodL A) (ho : mayV o.1 o.2.1 o.2.2 = 0 ∧ o.1.length ≤ 20) (hn : (A.any fun x => x.1 == o.1) = false) : goodL (A ++ [o]) := by
  refine ⟨?_, fun x hx => ?_⟩
  · rw [List.map_append, List.nodup_append]
    refine ⟨h.1, List.nodup_cons.2 ⟨by simp, List.nodup_nil⟩, fun u hu v hv e => ?_⟩
    obtain ⟨x, hx, rfl⟩ := List.mem_map.1 hu
    have h1 : v = o.1 := by simpa using hv
    have := List.any_eq_false.1 hn x hx
    exact this (by rw [e, h1]; simp)
  · rcases List.mem_append.1 hx with hx | hx
    · exact h.2 x hx
    · rw [List.mem_singleton.1 hx]; exact ho
theorem any_snoc {A : List OP} {k : Nat} (h : k < A.length) (p : Nm) : ((A.take (k + 1)).any fun x => x.1 == p) = (((A.take k).any fun x => x.1 == p) || (opA A k).1 == p) := by rw [opA_take h, List.any_append]; simp

/-- One more of them is added. -/
theorem adds_new {S : List OP} {o : OP} (h : goodL (S ++ [o])) (hl : S.length < 16) : addE (addsL S) o = 0 ∧ addL (addsL S) o = addsL (S ++ [o]) ∧ (addsL S).length = S.length := by
  obtain ⟨hn, hg⟩ := h
  rw [List.map_append, List.nodup_append] at hn
  have a := adds_ok S [] srt_nil hn.1 (by simp)
  have hlen : (addsL S).length = S.length := by have := a.2.2; simpa [addsL] using this
  have hh : hitL (addsL S) o.1 = false := by
    cases hh : hitL (addsL S) o.1 with
    | false => rfl
    | true =>
      obtain ⟨x, hx, e⟩ := (hitL_iff a.1).1 hh
      rcases (a.2.1 x).1 hx with hx | hx
      · cases hx
      · exact absurd e (hn.2.2 _ (List.mem_map.2 ⟨x, hx, rfl⟩) _ (by simp))
  exact ⟨addE_room (hg o (by simp)).1 hh (by omega), (addsL_snoc S o).symm, hlen⟩
theorem good_take {A : List OP} (h : goodL A) (k : Nat) : goodL (A.take k) := by
  refine ⟨?_, fun o ho => h.2 o (List.mem_of_mem_take ho)⟩
  rw [List.map_take]
  exact h.1.sublist (List.take_sublist _ _)

/-- From another place on, round. -/
def rotL (A : List OP) (s : Nat) : List OP := A.drop (s % A.length) ++ A.take (s % A.length)
theorem rotL_len (A : List OP) (s : Nat) : (rotL A s).length = A.length := by
  unfold rotL
  rw [List.length_append, List.length_drop, List.length_take]
  cases A with
  | nil => simp
  | cons x A => have := Nat.mod_lt s (show 0 < (x :: A).length by simp); omega
theorem rotL_perm (A : List OP) (s : Nat) : (rotL A s).Perm A := by
  unfold rotL
  have := (List.perm_append_comm (l₁ := A.drop (s % A.length)) (l₂ := A.take (s % A.length)))
  rwa [List.take_append_drop] at this
theorem rotL_good {A : List OP} (h : goodL A) (s : Nat) : goodL (rotL A s) :=
  ⟨((rotL_perm A s).map _).nodup_iff.2 h.1, fun o ho => h.2 o ((rotL_perm A s).mem_iff.1 ho)⟩
theorem rotL_at {A : List OP} {i s : Nat} (h : i < A.length) : opA (rotL A s) i = opA A ((i + s) % A.length) := by
  have ht := Nat.mod_lt s (show 0 < A.length by omega)
  have hm : (i + s) % A.length = if i + s % A.length < A.length then i + s % A.length else i + s % A.length - A.length := by
    rw [Nat.add_mod, Nat.mod_eq_of_lt h]
    split
    · rename_i h1; exact Nat.mod_eq_of_lt h1
    · rename_i h1
      rw [Nat.mod_eq_sub_mod (by omega), Nat.mod_eq_of_lt (by omega)]
  rw [hm]
  unfold opA rotL
  rw [List.getD_eq_getElem?_getD, List.getD_eq_getElem?_getD]
  congr 1
  rw [List.getElem?_append, List.length_drop]
  split
  · rename_i h1
    rw [if_pos (by omega), List.getElem?_drop, Nat.add_comm]
  · rename_i h1
    rw [if_neg (by omega), List.getElem?_take, if_pos (by omega)]
    congr 1
    omega
theorem rotL_adds {A : List OP} (h : goodL A) (s : Nat) : addsL A = addsL (rotL A s) := adds_perm h.1 (rotL_good h s).1 fun _ => (rotL_perm A s).mem_iff.symm

end Go.Proofs.YtciijlcemmhbfaaGreatDoor
