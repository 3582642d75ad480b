import Derived.Test.YtcjbhdgjcpnklaaGreatDoorN02
namespace Go.Proofs.YtcjbhdgjcpnklaaGreatDoor
section
open Go.RowKit
section
variable {α β K K' : Type} [DecidableEq K] [DecidableEq K']
end
end
section
open Go.RowKit
abbrev TT := Int × List ND
abbrev HF := Nat × Nat × List ND
section
variable (L : List OP) (z : List Int) (tok : List TK)
end
section
variable {L : List OP} {z : List Int} {tok : List TK}
end
end
section
open Go.RowKit
section
variable {L : List OP} {z : List Int} {tok : List TK}
def Dst (L : List OP) : Prop := ∀ k, k < L.length → findO L (opA L k).1 = some (opA L k)
theorem zEP (h : Srt L) : Dst L := by
 intro k hk
 have hne : ∀ o ∈ L, ∀ o' ∈ L, o.1 = o'.1 → o = o' := by
  clear hk k
  induction L with
  | nil => intro o ho; cases ho
  | cons u L ih =>
   have h1 := List.pairwise_cons.1 h
   have ih' := ih h1.2
   have irr : ∀ x : List UInt8, ¬ x < x := fun x hx => List.lt_irrefl x hx
   intro o ho o' ho' e
   rcases List.mem_cons.1 ho with rfl | ho1
   ·rcases List.mem_cons.1 ho' with rfl | ho2
    ·rfl
    ·have := h1.1 o' ho2
     rw [e] at this
     exact absurd this (irr _)
   ·rcases List.mem_cons.1 ho' with rfl | ho2
    ·have := h1.1 o ho1
     rw [e] at this
     exact absurd this (irr _)
    ·exact ih' o ho1 o' ho2 e
 cases hf : findO L (opA L k).1 with
 | none =>
  have := List.find?_eq_none.1 hf (opA L k) (zBZ hk)
  simp at this
 | some o =>
  have h2 := zAq hf
  rw [hne o h2.1 _ (zBZ hk) h2.2]
theorem zIY {o : OP} (h : o ∈ L) : ∃ k, k < L.length ∧ opA L k = o := by
 obtain ⟨k, hk, e⟩ := List.mem_iff_getElem.1 h
 exact ⟨k, hk, by rw [zBh hk]; exact e⟩
theorem zTb (h : Srt L) {k k' : Nat} (hk : k < L.length) (hk' : k' < L.length) (e : (opA L k).1 = (opA L k').1) : k = k' := by
 have h1 := List.pairwise_iff_getElem.1 h
 rw [zBh hk, zBh hk'] at e
 rcases Nat.lt_trichotomy k k' with hlt | heq | hlt
 ·have := h1 k k' hk hk' hlt
  rw [e] at this
  exact absurd this (List.lt_irrefl _)
 ·exact heq
 ·have := h1 k' k hk' hk hlt
  rw [e] at this
  exact absurd this (List.lt_irrefl _)
theorem zBl {p : Nm} {s : SH} (h : ofS p = some s) : 2 ≤ (itemsL s).length ∧ hasp (itemsL s) = true := by
 obtain ⟨_, _, hm, _, _⟩ := zCh h
 have hok := zAc h
 have hl : hlB s = true := by
  unfold shM at hm
  simp only [Bool.and_eq_true] at hm
  exact hm.2.1
 constructor
 ·cases hP : s.P with
  | nil => exact absurd hP hok.1
  | cons q P =>
   rw [zB2 hP]
   unfold hlB at hl
   rw [hP] at hl
   cases P with
   | cons q' P' => cases s.l <;> simp [sepN]
   | nil =>
    cases h1 : s.l <;> cases h2 : s.r <;> simp [sepN, h1, h2] at hl ⊢
 ·unfold hasp
  rw [zCu h]
  cases hP : s.P with
  | nil => exact absurd hP hok.1
  | cons q P => rfl
end
end
section
open Go.RowKit
section
variable {L : List OP} {z : List Int} {tok : List TK}
def HOk (h : HF) : Prop := skp h.2.2 h.2.1 = some h.2.2.length
theorem zTc {l l' t t' : List ND} {n : Nat} (h : skp l n = some l.length) (h' : skp l' n = some l'.length) (e : l ++ t = l' ++ t') : l = l' ∧ t = t' := by
 have h1 := zHL _ _ _ h t
 have h2 := zHL _ _ _ h' t'
 rw [e, h2] at h1
 exact List.append_inj e (Option.some.inj h1).symm
inductive CntP (L : List OP) (z : List Int) (tok : List TK) : Nat → List ND → Prop
 | none : (∀ u, ¬ Dv L z tok .tr 0 tok.length u 1) → CntP L z tok 0 []
 | one {t : List ND} : Dv L z tok .tr 0 tok.length t 1 → (∀ u, Dv L z tok .tr 0 tok.length u 1 → u = t) → CntP L z tok 1 t
 | two {u v : List ND} : u ≠ v → Dv L z tok .tr 0 tok.length u 1 → Dv L z tok .tr 0 tok.length v 1 → CntP L z tok 2 []
theorem zQz {n n' : Nat} {t t' : List ND} (h : CntP L z tok n t) (h' : CntP L z tok n' t') : n = n' ∧ t = t' := by
 cases h with
 | none h =>
  cases h' with
  | none => exact ⟨rfl, rfl⟩
  | one g => exact absurd g (h _)
  | two _ g => exact absurd g (h _)
 | one h1 h2 =>
  cases h' with
  | none g => exact absurd h1 (g _)
  | one g1 g2 => exact ⟨rfl, g2 _ h1⟩
  | two g g1 g2 => exact absurd ((h2 _ g1).trans (h2 _ g2).symm) g
 | two h h1 h2 =>
  cases h' with
  | none g => exact absurd h1 (g _)
  | one g1 g2 => exact absurd ((g2 _ h1).trans (g2 _ h2).symm) h
  | two => exact ⟨rfl, rfl⟩
end
end
section
open Go.RowKit
section
variable {L L' : List OP} {z z' : List Int} {tok : List TK}
def SameN (L : List OP) (z : List Int) (L' : List OP) (z' : List Int) (tok : List TK) : Prop := ∀ a, a < tok.length → isP (tat tok a) = true → entL L z (txN (tat tok a)) = entL L' z' (txN (tat tok a))
theorem SameN.symm (h : SameN L z L' z' tok) : SameN L' z' L z tok := fun a ha hp => (h a ha hp).symm
theorem zNo {x : Nm} {o : OP} (h : o ∈ L) (hp : hasP x o = true) (e : entL L z x = entL L' z' x) : o ∈ L' ∧ rowV z o.2.1 = rowV z' o.2.1 := by
 have h1 : (o, rowV z o.2.1) ∈ entL L z x := by
  unfold entL
  exact List.mem_map.2 ⟨o, List.mem_filter.2 ⟨h, hp⟩, rfl⟩
 rw [e] at h1
 unfold entL at h1
 obtain ⟨o', h2, h3⟩ := List.mem_map.1 h1
 simp only [Prod.mk.injEq] at h3
 obtain ⟨rfl, h4⟩ := h3
 exact ⟨(List.mem_filter.1 h2).1, h4.symm⟩
theorem zPt {g : Gl} {a b n : Nat} {l : List ND} (h : Dv L z tok g a b l n) : ∀ o I first, g = .it o I first → hasp I = true → ∃ x ∈ prs I, ∃ q, q < tok.length ∧ isP (tat tok q) = true ∧ txN (tat tok q) = x := by
 induction h with
 | leaf => intro o I first e; cases e
 | paren => intro o I first e; cases e
 | oper => intro o I first e; cases e
 | nil => intro o I first e hp; cases e; cases hp
 | @part o x r first a b n l hx ha hp hd _ =>
  intro o' I first' e _
  cases e
  exact ⟨x, by rw [zDe hx]; simp, a, ha, zEJ hp⟩
 | @hole o r first a c b n x t l hd1 _ _ hd2 _ ih2 =>
  intro o' I first' e hp
  cases e
  rw [zEK] at hp
  obtain ⟨y, hy, r⟩ := ih2 _ _ _ rfl hp
  exact ⟨y, by rw [zFg]; exact hy, r⟩
theorem zKv (hE : SameN L z L' z' tok) {o : OP} {s : SH} {a b n : Nat} {l : List ND} (ho : o ∈ L) (hs : ofS o.1 = some s) (hd : Dv L z tok (.it o (itemsL s) true) a b l n) : o ∈ L' ∧ rowV z o.2.1 = rowV z' o.2.1 := by
 obtain ⟨x, hx, q, hq, h1, h2⟩ := zPt hd _ _ _ rfl (zBl hs).2
 rw [zCu hs] at hx
 have e := hE q hq h1
 rw [h2] at e
 exact zNo ho (by unfold hasP; rw [zNm hs]; simpa using hx) e
theorem zKw (hE : SameN L z L' z' tok) {a b : Nat} {x : ND} {t : List ND} (h : Dv L z tok .tr a b (x :: t) 1) (hx : x.k = 3) : ∃ k, findO L x.n = some k ∧ k ∈ L' ∧ rowV z k.2.1 = rowV z' k.2.1 := by
 cases h with
 | leaf => cases hx
 | paren => cases hx
 | @oper _ _ n o s l ho hs hab hd =>
  exact ⟨o, ho, zKv hE (zAq ho).1 hs hd⟩
theorem zCH (hD : Dst L) {o : OP} (h : o ∈ L) : findO L o.1 = some o := by
 obtain ⟨k, hk, e⟩ := zIY h
 have := hD k hk
 rwa [e] at this
theorem zOr {g h : Int} (e : rowV z g = rowV z' g) : tgt z g h = tgt z' g h := by
 unfold tgt
 cases hb : inB 0 [g, h] with
 | false => rfl
 | true =>
  have hg := (zBz 0 g h).1 hb
  unfold rowV at e
  rw [if_pos (by omega), if_pos (by omega)] at e
  unfold T
  rw [e]
theorem zFi {o k : OP} {right : Bool} (e : rowV z o.2.1 = rowV z' o.2.1) : fitsB z o k right = fitsB z' o k right := by
 unfold fitsB
 rw [zOr e]
theorem zFj (hD' : Dst L') (hE : SameN L z L' z' tok) {g : Gl} {a b n : Nat} {l : List ND} (h : Dv L z tok g a b l n) :
  (match g with | .tr => True | .it o _ _ => rowV z o.2.1 = rowV z' o.2.1) → Dv L' z' tok g a b l n := by
 induction h with
 | @leaf a ha hl =>
  intro _
  refine .leaf ha ?_
  rcases zIT hl with hk | ⟨hk, hf⟩
  ·unfold leafB
   rcases hk with h | h | h <;> rw [h] <;> rfl
  ·have e := hE a ha (by unfold isP; rcases hk with h | h <;> rw [h] <;> rfl)
   have hf' : freeB L' z' (txN (tat tok a)) = true := by unfold freeB at hf ⊢; rw [← e]; exact hf
   rw [hf']
   unfold leafB
   rcases hk with h | h <;> rw [h] <;> rfl
 | paren hb k1 t1 k2 t2 _ ih => exact fun _ => .paren hb k1 t1 k2 t2 (ih trivial)
 | @oper a b n o s l ho hs hab hd ih =>
  intro _
  obtain ⟨h1, h2⟩ := zKv hE (zAq ho).1 hs hd
  exact .oper (zCH hD' h1) hs hab (ih h2)
 | nil ha => exact fun _ => .nil ha
 | part hx ha hp _ ih => exact fun hr => .part hx ha hp (ih hr)
 | @hole o r first a c b n x t l hd1 hm1 hm2 hd2 ih1 ih2 =>
  intro hr
  have hm : ∀ rt, mayH L z o x rt = true → mayH L' z' o x rt = true := fun rt hm => by
   unfold mayH at hm ⊢
   by_cases hx : x.k = 3
   ·rw [if_pos hx] at hm ⊢
    obtain ⟨k, hk, h1, _⟩ := zKw hE hd1 hx
    have hk' := zCH hD' h1
    rw [(zAq hk).2] at hk'
    rw [hk] at hm
    rw [hk']
    dsimp only at hm ⊢
    rw [← zFi hr]; exact hm
   ·rw [if_neg hx]
  exact .hole (ih1 trivial) (fun e => hm _ (hm1 e)) (fun e => hm _ (hm2 e)) (ih2 hr)
theorem zTd (hD : Dst L) (hD' : Dst L') (hE : SameN L z L' z' tok) {a b : Nat} {l : List ND} : Dv L z tok .tr a b l 1 ↔ Dv L' z' tok .tr a b l 1 :=
 ⟨fun h => zFj hD' hE h trivial, fun h => zFj hD hE.symm h trivial⟩
theorem zR4 (hD : Dst L) (hD' : Dst L') (hE : SameN L z L' z' tok) {n : Nat} {t : List ND} (h : CntP L z tok n t) : CntP L' z' tok n t := by
 have hs : ∀ u, Dv L z tok .tr 0 tok.length u 1 ↔ Dv L' z' tok .tr 0 tok.length u 1 := fun u => zTd hD hD' hE
 cases h with
 | none h => exact .none fun u hu => h u ((hs u).2 hu)
 | one h1 h2 => exact .one ((hs _).1 h1) fun u hu => h2 u ((hs u).2 hu)
 | two h h1 h2 => exact .two h ((hs _).1 h1) ((hs _).1 h2)
end
end
end Go.Proofs.YtcjbhdgjcpnklaaGreatDoor
