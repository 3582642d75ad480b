/- Mathematics of the laws' own leads: groups seen from one on, pass by pass. No program here. -/
import Derived.Test.YtnedappnmkbbpaaMm
namespace Go.Proofs.Ytnedappnmkbbpaa
open Go.RowKit

def sb (s : List Bool) (i : Nat) : Bool := s.getD i false
def cnt : List Bool → Nat
  | [] => 0
  | b :: s => (if b = true then 1 else 0) + cnt s

theorem cnt_le_len : ∀ s : List Bool, cnt s ≤ s.length
  | [] => Nat.le_refl _
  | b :: s => by have := cnt_le_len s; unfold cnt; simp only [List.length_cons]; split <;> omega
theorem cnt_pos : ∀ (s : List Bool) (i : Nat), sb s i = true → 1 ≤ cnt s
  | [], i, h => by simp [sb] at h
  | b :: s, 0, h => by
    have hb : b = true := h
    unfold cnt; rw [if_pos hb]; omega
  | b :: s, i + 1, h => by
    have := cnt_pos s i h
    unfold cnt; omega
theorem cnt_mono : ∀ (s t : List Bool), s.length = t.length → (∀ i, sb s i = true → sb t i = true) → cnt s ≤ cnt t ∧ ∀ j, sb t j = true → sb s j = false → cnt s < cnt t
  | [], [], _, _ => ⟨Nat.le_refl _, fun j h => by simp [sb] at h⟩
  | [], _ :: _, h, _ => by simp at h
  | _ :: _, [], h, _ => by simp at h
  | a :: s, b :: t, hl, h => by
    obtain ⟨h1, h2⟩ := cnt_mono s t (by simpa using hl) (fun i hi => h (i + 1) hi)
    have h0 : a = true → b = true := h 0
    unfold cnt
    refine ⟨?_, fun j hj hs => ?_⟩
    · by_cases ha : a = true
      · rw [if_pos ha, if_pos (h0 ha)]; omega
      · rw [if_neg ha]; omega
    · cases j with
      | zero =>
        have hb : b = true := hj
        have ha : a = false := hs
        rw [if_pos hb, if_neg (by rw [ha]; decide)]; omega
      | succ j =>
        have := h2 j hj hs
        by_cases ha : a = true
        · rw [if_pos ha, if_pos (h0 ha)]; omega
        · rw [if_neg ha]; omega

theorem sb_set {s : List Bool} (hs : s.length = 10) {b : Nat} (hb : b < 10) (x : Bool) (i : Nat) : sb (s.set b x) i = if i = b then x else sb s i := by
  unfold sb
  by_cases h : i = b
  · subst h; simp [List.getD, hs, hb]
  · rw [if_neg h]; simp [List.getD, List.getElem?_set_ne (fun e => h e.symm)]

/-- What is seen is led to from g; g is. -/
structure Snd (E : List (Nat × Nat)) (g : Nat) (s : List Bool) : Prop where
  len : s.length = 10
  snd : ∀ i, sb s i = true → i = g ∨ Ld E g i
  src : sb s g = true
def Closed (E : List (Nat × Nat)) (s : List Bool) : Prop := ∀ a b, stp E a b → sb s a = true → sb s b = true
/-- Behind n passes: at least n + 1 are seen, or all. -/
structure Rnd (E : List (Nat × Nat)) (g n : Nat) (s : List Bool) : Prop where
  snd : Snd E g s
  more : n + 1 ≤ cnt s ∨ Closed E s
/-- In a pass that began with s0: what the steps D told is seen. -/
structure Mid (E : List (Nat × Nat)) (g : Nat) (s0 s : List Bool) (D : Nat → Nat → Prop) : Prop where
  snd : Snd E g s
  mono : ∀ i, sb s0 i = true → sb s i = true
  did : ∀ a b, D a b → sb s0 a = true → sb s b = true

/-- No group is seen. -/
def f0 : List Bool := [false, false, false, false, false, false, false, false, false, false]
theorem f0_sb (i : Nat) : sb f0 i = false := by
  have : ∀ i, i < 10 → sb f0 i = false := by decide +kernel
  by_cases h : i < 10
  · exact this i h
  · unfold sb; rw [List.getD_eq_getElem?_getD, List.getElem?_eq_none (by show 10 ≤ i; omega)]; rfl
theorem rnd_start (E : List (Nat × Nat)) {g : Nat} (hg : g < 10) : Rnd E g 0 (f0.set g true) := by
  have hs : ∀ i, sb (f0.set g true) i = if i = g then true else sb f0 i := sb_set rfl hg true
  have h1 : sb (f0.set g true) g = true := by rw [hs, if_pos rfl]
  refine ⟨⟨by simp [f0], fun i hi => ?_, h1⟩, .inl (cnt_pos _ g h1)⟩
  rw [hs] at hi
  by_cases h : i = g
  · exact .inl h
  · rw [if_neg h, f0_sb] at hi; cases hi

theorem Mid.start {E : List (Nat × Nat)} {g : Nat} {s : List Bool} (h : Snd E g s) {D : Nat → Nat → Prop} (hD : ∀ a b, ¬ D a b) : Mid E g s s D := ⟨h, fun _ h => h, fun a b hd => absurd hd (hD a b)⟩
theorem Mid.imp {E : List (Nat × Nat)} {g : Nat} {s0 s : List Bool} {D D' : Nat → Nat → Prop} (h : Mid E g s0 s D) (hD : ∀ a b, D' a b → D a b) : Mid E g s0 s D' := ⟨h.snd, h.mono, fun a b hd => h.did a b (hD a b hd)⟩
theorem Mid.step {E : List (Nat × Nat)} {g : Nat} {s0 s : List Bool} {D : Nat → Nat → Prop} (h : Mid E g s0 s D) {a b : Nat} (hab : stp E a b) (hb : b < 10) : Mid E g s0 (s.set b (sb s b || sb s a)) (fun x y => D x y ∨ (x = a ∧ y = b)) := by
  have hs := sb_set h.snd.len hb (sb s b || sb s a)
  have up : ∀ i, sb s i = true → sb (s.set b (sb s b || sb s a)) i = true := fun i hi => by
    rw [hs]
    by_cases e : i = b
    · subst e; rw [if_pos rfl, hi]; rfl
    · rw [if_neg e]; exact hi
  refine ⟨⟨by rw [List.length_set]; exact h.snd.len, fun i hi => ?_, up _ h.snd.src⟩, fun i hi => up i (h.mono i hi), fun x y hd hx => ?_⟩
  · rw [hs] at hi
    by_cases e : i = b
    · subst e
      rw [if_pos rfl, Bool.or_eq_true] at hi
      rcases hi with hi | hi
      · exact h.snd.snd i hi
      · rcases h.snd.snd a hi with rfl | h2
        · exact .inr (.single hab)
        · exact .inr (h2.tail hab)
    · rw [if_neg e] at hi; exact h.snd.snd i hi
  · rcases hd with hd | ⟨rfl, rfl⟩
    · exact up y (h.did x y hd hx)
    · rw [hs, if_pos rfl, h.mono x hx, Bool.or_true]

theorem closed_all {E : List (Nat × Nat)} {g : Nat} {s : List Bool} (h : Snd E g s) (hc : Closed E s) {i : Nat} (hi : i = g ∨ Ld E g i) : sb s i = true := by
  rcases hi with rfl | hi
  · exact h.src
  · induction hi with
    | single h1 => exact hc _ _ h1 h.src
    | tail _ h1 ih => exact hc _ _ h1 ih

theorem Rnd.next {E : List (Nat × Nat)} {g n : Nat} {s0 s : List Bool} (h : Rnd E g n s0) (hm : Mid E g s0 s (stp E)) : Rnd E g (n + 1) s := by
  refine ⟨hm.snd, ?_⟩
  by_cases hc : Closed E s0
  · refine .inr fun a b hab ha => hm.mono b (closed_all h.snd hc ?_)
    rcases hm.snd.snd a ha with rfl | h1
    · exact .inr (.single hab)
    · exact .inr (h1.tail hab)
  · rcases h.more with h1 | h1
    · have hex : ∃ a b, stp E a b ∧ sb s0 a = true ∧ sb s0 b = false := by
        apply Classical.byContradiction
        intro hn
        apply hc
        intro a b hab ha
        cases hb : sb s0 b with
        | true => rfl
        | false => exact absurd ⟨a, b, hab, ha, hb⟩ hn
      obtain ⟨a, b, hab, ha, hb⟩ := hex
      have := (cnt_mono s0 s (by rw [h.snd.len, hm.snd.len]) hm.mono).2 b (hm.did a b hab ha) hb
      exact .inl (by omega)
    · exact absurd h1 hc

theorem Rnd.done {E : List (Nat × Nat)} {g : Nat} {s : List Bool} (h : Rnd E g 10 s) (i : Nat) : sb s i = true ↔ i = g ∨ Ld E g i := by
  refine ⟨h.snd.snd i, fun hi => closed_all h.snd ?_ hi⟩
  rcases h.more with h1 | h1
  · have := cnt_le_len s
    rw [h.snd.len] at this
    omega
  · exact h1

/-- What leads answers: what the rows say. -/
theorem leads_T {z : List Int} {E : List (Nat × Nat)} (H : Inv z E) {g h : Nat} (hg : g < 10) {s : List Bool} (hr : Rnd E g 10 s) : (!decide (g = h) && sb s h) = T z g h := by
  rw [Bool.eq_iff_iff, H.T hg, Bool.and_eq_true, hr.done h, Bool.not_eq_true', decide_eq_false_iff_not]
  refine ⟨fun ⟨h1, h2⟩ => h2.elim (fun e => absurd e.symm h1) id, fun h1 => ⟨fun e => ?_, .inr h1⟩⟩
  subst e
  exact H.acy _ h1

/-- The steps of a pass: of the ladder ahead of x; of row x ahead of y; of the edges ahead of i. -/
def DX (x a b : Nat) : Prop := lad a b ∧ a < x
def DY (x y a b : Nat) : Prop := lad a b ∧ (a < x ∨ (a = x ∧ b < y))
def DI (E : List (Nat × Nat)) (i a b : Nat) : Prop := lad a b ∨ ∃ j, j < i ∧ E[j]? = some (a, b)

theorem dx_start (a b : Nat) : ¬ DX 1 a b := by unfold DX lad; omega
theorem dy_start {x a b : Nat} (h : DY x 1 a b) : DX x a b := by unfold DY DX lad at *; omega
theorem dy_next {x y a b : Nat} (h : DY x (y + 1) a b) : DY x y a b ∨ (a = x ∧ b = y) := by unfold DY lad at *; omega
theorem dy_end {x y a b : Nat} (hy : ¬ (y < x ∧ x ≤ 5)) (h : DX (x + 1) a b) : DY x y a b := by unfold DY DX lad at *; omega
theorem di_start {E : List (Nat × Nat)} {a b : Nat} (h : DI E 0 a b) : DX 10 a b := by
  rcases h with h | ⟨j, hj, _⟩
  · refine ⟨h, ?_⟩; unfold lad at h; omega
  · omega
theorem di_next {E : List (Nat × Nat)} {i a b : Nat} (hi : i < E.length) (h : DI E (i + 1) a b) : DI E i a b ∨ (a = E[i].1 ∧ b = E[i].2) := by
  rcases h with h | ⟨j, hj, he⟩
  · exact .inl (.inl h)
  · by_cases hji : j = i
    · subst hji
      rw [List.getElem?_eq_getElem hi] at he
      have := Option.some.inj he
      exact .inr ⟨by rw [this], by rw [this]⟩
    · exact .inl (.inr ⟨j, by omega, he⟩)
theorem di_end {E : List (Nat × Nat)} {a b : Nat} (h : stp E a b) : DI E E.length a b := by
  rcases h with h | h
  · exact .inl h
  · obtain ⟨j, hj, he⟩ := List.getElem_of_mem h
    exact .inr ⟨j, hj, by rw [List.getElem?_eq_getElem hj, he]⟩

end Go.Proofs.Ytnedappnmkbbpaa
