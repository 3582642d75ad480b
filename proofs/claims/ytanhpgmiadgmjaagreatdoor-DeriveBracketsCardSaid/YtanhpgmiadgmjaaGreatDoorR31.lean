import Derived.Test.YtanhpgmiadgmjaaGreatDoorR30
namespace Go.Proofs.YtanhpgmiadgmjaaGreatDoor
section
open Go.RowKit
section
variable {α β K K' : Type} [DecidableEq K] [DecidableEq K']
end
end
section
open Go.RowKit
abbrev HF := Nat × Nat × List ND
section
variable (L : List OP) (z : List Int) (tok : List TK)
end
section
variable {L : List OP} {z : List Int} {tok : List TK}
end
end
section
open Go.RowKit
section
variable {L : List OP} {z : List Int} {tok : List TK}
def Dst (L : List OP) : Prop := ∀ k, k < L.length → findO L (opA L k).1 = some (opA L k)
theorem dst_of (h : Srt L) : Dst L := by
 intro k hk
 have hne : ∀ o ∈ L, ∀ o' ∈ L, o.1 = o'.1 → o = o' := by
  clear hk k
  induction L with
  | nil => intro o ho; cases ho
  | cons u L ih =>
   have h1 := List.pairwise_cons.1 h
   have ih' := ih h1.2
   have irr : ∀ x : List UInt8, ¬ x < x := fun x hx => List.lt_irrefl x hx
   intro o ho o' ho' e
   rcases List.mem_cons.1 ho with rfl | ho1
   ·rcases List.mem_cons.1 ho' with rfl | ho2
    ·rfl
    ·have := h1.1 o' ho2
     rw [e] at this
     exact absurd this (irr _)
   ·rcases List.mem_cons.1 ho' with rfl | ho2
    ·have := h1.1 o ho1
     rw [e] at this
     exact absurd this (irr _)
    ·exact ih' o ho1 o' ho2 e
 cases hf : findO L (opA L k).1 with
 | none =>
  have := List.find?_eq_none.1 hf (opA L k) (opA_mem hk)
  simp at this
 | some o =>
  have h2 := findO_mem hf
  rw [hne o h2.1 _ (opA_mem hk) h2.2]
theorem opA_of {o : OP} (h : o ∈ L) : ∃ k, k < L.length ∧ opA L k = o := by
 obtain ⟨k, hk, e⟩ := List.mem_iff_getElem.1 h
 exact ⟨k, hk, by rw [opA_eq hk]; exact e⟩
theorem srt_inj (h : Srt L) {k k' : Nat} (hk : k < L.length) (hk' : k' < L.length) (e : (opA L k).1 = (opA L k').1) : k = k' := by
 have h1 := List.pairwise_iff_getElem.1 h
 rw [opA_eq hk, opA_eq hk'] at e
 rcases Nat.lt_trichotomy k k' with hlt | heq | hlt
 ·have := h1 k k' hk hk' hlt
  rw [e] at this
  exact absurd this (List.lt_irrefl _)
 ·exact heq
 ·have := h1 k' k hk' hk hlt
  rw [e] at this
  exact absurd this (List.lt_irrefl _)
theorem it_pos {o : OP} {g : Gl} {a b n : Nat} {l : List ND} (h : Dv L z tok g a b l n) : ∀ I first, g = .it o I first → hasp I = true → a < b := by
 induction h with
 | leaf => intro I first e; cases e
 | paren => intro I first e; cases e
 | oper => intro I first e; cases e
 | nil => intro I first e hp; cases e; cases hp
 | @part o x r first a b n l hx ha hp hd ih =>
  intro I first e _
  have := dv_it hd
  omega
 | @hole o r first a c b n x t l hd1 _ _ hd2 _ ih2 =>
  intro I first e hp
  cases e
  rw [hasp_hole] at hp
  have h1 := dv_tr hd1
  have := ih2 r false rfl hp
  omega
theorem items_two {p : Nm} {s : SH} (h : ofS p = some s) : 2 ≤ (itemsL s).length ∧ hasp (itemsL s) = true := by
 obtain ⟨_, _, hm, _, _⟩ := ofS_some h
 have hok := parts_ok h
 have hl : hlB s = true := by
  unfold shM at hm
  simp only [Bool.and_eq_true] at hm
  exact hm.2.1
 constructor
 ·cases hP : s.P with
  | nil => exact absurd hP hok.1
  | cons q P =>
   rw [items_eq hP]
   unfold hlB at hl
   rw [hP] at hl
   cases P with
   | cons q' P' => cases s.l <;> simp [sepN]
   | nil =>
    cases h1 : s.l <;> cases h2 : s.r <;> simp [sepN, h1, h2] at hl ⊢
 ·unfold hasp
  rw [prs_items h]
  cases hP : s.P with
  | nil => exact absurd hP hok.1
  | cons q P => rfl
end
end
section
open Go.RowKit
section
variable {L : List OP} {z : List Int} {tok : List TK}
def HOk (h : HF) : Prop := skp h.2.2 h.2.1 = some h.2.2.length
theorem skp_inj {l l' t t' : List ND} {n : Nat} (h : skp l n = some l.length) (h' : skp l' n = some l'.length) (e : l ++ t = l' ++ t') : l = l' ∧ t = t' := by
 have h1 := skp_app _ _ _ h t
 have h2 := skp_app _ _ _ h' t'
 rw [e, h2] at h1
 exact List.append_inj e (Option.some.inj h1).symm
inductive CntP (L : List OP) (z : List Int) (tok : List TK) : Nat → List ND → Prop
 | none : (∀ u, ¬ Dv L z tok .tr 0 tok.length u 1) → CntP L z tok 0 []
 | one {t : List ND} : Dv L z tok .tr 0 tok.length t 1 → (∀ u, Dv L z tok .tr 0 tok.length u 1 → u = t) → CntP L z tok 1 t
 | two {u v : List ND} : u ≠ v → Dv L z tok .tr 0 tok.length u 1 → Dv L z tok .tr 0 tok.length v 1 → CntP L z tok 2 []
theorem cntP_fun {n n' : Nat} {t t' : List ND} (h : CntP L z tok n t) (h' : CntP L z tok n' t') : n = n' ∧ t = t' := by
 cases h with
 | none h =>
  cases h' with
  | none => exact ⟨rfl, rfl⟩
  | one g => exact absurd g (h _)
  | two _ g => exact absurd g (h _)
 | one h1 h2 =>
  cases h' with
  | none g => exact absurd h1 (g _)
  | one g1 g2 => exact ⟨rfl, g2 _ h1⟩
  | two g g1 g2 => exact absurd ((h2 _ g1).trans (h2 _ g2).symm) g
 | two h h1 h2 =>
  cases h' with
  | none g => exact absurd h1 (g _)
  | one g1 g2 => exact absurd ((g2 _ h1).trans (g2 _ h2).symm) h
  | two => exact ⟨rfl, rfl⟩
end
end
section
open Go.RowKit
section
variable {L L' : List OP} {z z' : List Int} {tok : List TK}
def SameN (L : List OP) (z : List Int) (L' : List OP) (z' : List Int) (tok : List TK) : Prop := ∀ a, a < tok.length → isP (tat tok a) = true → entL L z (txN (tat tok a)) = entL L' z' (txN (tat tok a))
theorem SameN.symm (h : SameN L z L' z' tok) : SameN L' z' L z tok := fun a ha hp => (h a ha hp).symm
theorem find_in (hD : Dst L) {o : OP} (h : o ∈ L) : findO L o.1 = some o := by
 obtain ⟨k, hk, e⟩ := opA_of h
 have := hD k hk
 rwa [e] at this
end
end
end Go.Proofs.YtanhpgmiadgmjaaGreatDoor
