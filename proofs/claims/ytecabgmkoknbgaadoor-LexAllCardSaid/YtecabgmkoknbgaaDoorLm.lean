/- Mathematics of layout: comments within comments, lines behind a percent sign, and what is skipped; at places of a list, too. -/
import Derived.Test.YtecabgmkoknbgaaDoorM2
namespace Go.Proofs.YtecabgmkoknbgaaDoor

/-- Two bytes begin the list. -/
def pre2 (x y : Int) (l : List Int) : Bool := decide (2 ≤ l.length) && (bt l 0 == x && bt l 1 == y)

/-- How many bytes there are up to the end of the comments that are open (d of them); none: they do not end. -/
def cm : List Int → Int → Option Nat
  | x :: y :: r, d => if x = 47 ∧ y = 42 then (cm r (d + 1)).map (· + 2) else if x = 42 ∧ y = 47 then (if d = 1 then some 2 else (cm r (d - 1)).map (· + 2)) else (cm (y :: r) d).map (· + 1)
  | _, _ => none

theorem pre2_cons {x y a b : Int} {r : List Int} : pre2 x y (a :: b :: r) = (a == x && b == y) := by simp [pre2, bt, List.getD]
theorem pre2_iff {x y : Int} {l : List Int} : pre2 x y l = true ↔ 2 ≤ l.length ∧ bt l 0 = x ∧ bt l 1 = y := by simp [pre2]
theorem pre2_form {x y : Int} {l : List Int} (h : pre2 x y l = true) : l = x :: y :: l.drop 2 := by
  obtain ⟨h1, h2, h3⟩ := pre2_iff.1 h
  match l, h1 with
  | a :: b :: r, _ => simp only [bt, List.getD, List.getElem?_cons_zero, List.getElem?_cons_succ, Option.getD_some] at h2 h3; subst h2; subst h3; rfl

theorem cm_open {l : List Int} {d : Int} (h : pre2 47 42 l = true) : cm l d = (cm (l.drop 2) (d + 1)).map (· + 2) := by
  conv => lhs; rw [pre2_form h]
  rw [cm, if_pos ⟨rfl, rfl⟩]
theorem cm_last {l : List Int} (h : pre2 42 47 l = true) : cm l 1 = some 2 := by
  rw [pre2_form h, cm, if_neg (by decide), if_pos ⟨rfl, rfl⟩, if_pos rfl]
theorem cm_close {l : List Int} {d : Int} (h : pre2 42 47 l = true) (hd : d ≠ 1) : cm l d = (cm (l.drop 2) (d - 1)).map (· + 2) := by
  conv => lhs; rw [pre2_form h]
  rw [cm, if_neg (by decide), if_pos ⟨rfl, rfl⟩, if_neg hd]
theorem cm_nil (d : Int) : cm [] d = none := rfl
theorem cm_else {l : List Int} {d : Int} (h0 : 0 < l.length) (h1 : pre2 47 42 l = false) (h2 : pre2 42 47 l = false) : cm l d = (cm (l.drop 1) d).map (· + 1) := by
  match l, h0 with
  | [a], _ => simp [cm]
  | a :: b :: r, _ =>
    rw [pre2_cons] at h1 h2
    rw [cm, if_neg (by intro h; simp [h.1, h.2] at h1), if_neg (by intro h; simp [h.1, h.2] at h2)]; rfl

theorem cm_le : ∀ (f : Nat) (l : List Int) (d : Int) (n : Nat), l.length ≤ f → cm l d = some n → 1 ≤ n ∧ n ≤ l.length
  | 0, l, d, n, hf, h => by have : l = [] := List.eq_nil_of_length_eq_zero (by omega); subst this; simp [cm] at h
  | f + 1, l, d, n, hf, h => by
    by_cases h0 : 0 < l.length
    · by_cases h1 : pre2 47 42 l = true
      · rw [cm_open h1] at h
        obtain ⟨m, hm, rfl⟩ := Option.map_eq_some_iff.1 h
        have := cm_le f _ _ m (by rw [List.length_drop]; omega) hm
        rw [List.length_drop] at this
        have := (pre2_iff.1 h1).1
        omega
      · by_cases h2 : pre2 42 47 l = true
        · have hl := (pre2_iff.1 h2).1
          by_cases hd : d = 1
          · subst hd; rw [cm_last h2] at h; simp at h; omega
          · rw [cm_close h2 hd] at h
            obtain ⟨m, hm, rfl⟩ := Option.map_eq_some_iff.1 h
            have := cm_le f _ _ m (by rw [List.length_drop]; omega) hm
            rw [List.length_drop] at this
            omega
        · rw [cm_else h0 (by simpa using h1) (by simpa using h2)] at h
          obtain ⟨m, hm, rfl⟩ := Option.map_eq_some_iff.1 h
          have := cm_le f _ _ m (by rw [List.length_drop]; omega) hm
          rw [List.length_drop] at this
          omega
    · have : l = [] := List.eq_nil_of_length_eq_zero (by omega)
      subst this; simp [cm] at h

def lineL : List Int → Nat
  | [] => 0
  | c :: r => if c = 10 then 0 else 1 + lineL r

theorem lineL_le : ∀ l : List Int, lineL l ≤ l.length
  | [] => Nat.le_refl _
  | c :: r => by have := lineL_le r; simp only [lineL, List.length_cons]; split <;> omega

theorem lineL_drop (l : List Int) (k : Nat) (h : k < l.length) : lineL (l.drop k) = if bt l k = 10 then 0 else 1 + lineL (l.drop (k + 1)) := by
  rw [List.drop_eq_getElem_cons h, lineL, show bt l k = l[k] from by simp [bt, List.getD, h]]

theorem lineL_pos {l : List Int} (h : bt l 0 = 37) : 1 ≤ lineL l := by
  match l with
  | [] => simp [bt, List.getD] at h
  | c :: r =>
    have : c = 37 := by simpa [bt, List.getD] using h
    subst this; simp only [lineL]; rw [if_neg (by decide)]; omega

def addN (n : Nat) (p : Nat × Int) : Nat × Int := (n + p.1, p.2)

def skF : Nat → List Int → Nat × Int
  | 0, _ => (0, 0)
  | f + 1, l => if l.length = 0 then (0, 0) else if cls (bt l 0) = 1 then addN 1 (skF f (l.drop 1)) else if bt l 0 = 37 then addN (lineL l) (skF f (l.drop (lineL l)))
    else if pre2 47 42 l then (match cm l 0 with | none => (0, 14) | some n => addN n (skF f (l.drop n))) else (0, 0)

theorem skF_same : ∀ (f g : Nat) (l : List Int), l.length ≤ f → l.length ≤ g → skF f l = skF g l
  | 0, 0, _, _, _ => rfl
  | 0, g + 1, l, h, _ => by rw [skF, skF, if_pos (by omega)]
  | f + 1, 0, l, _, h => by rw [skF, skF, if_pos (by omega)]
  | f + 1, g + 1, l, hf, hg => by
    rw [skF, skF]
    by_cases h0 : l.length = 0
    · rw [if_pos h0, if_pos h0]
    rw [if_neg h0, if_neg h0]
    by_cases h1 : cls (bt l 0) = 1
    · rw [if_pos h1, if_pos h1, skF_same f g _ (by rw [List.length_drop]; omega) (by rw [List.length_drop]; omega)]
    rw [if_neg h1, if_neg h1]
    by_cases h2 : bt l 0 = 37
    · have := lineL_pos h2
      rw [if_pos h2, if_pos h2, skF_same f g _ (by rw [List.length_drop]; omega) (by rw [List.length_drop]; omega)]
    rw [if_neg h2, if_neg h2]
    by_cases h3 : pre2 47 42 l = true
    · rw [if_pos h3, if_pos h3]
      cases hc : cm l 0 with
      | none => rfl
      | some n =>
        have := cm_le _ _ _ _ (Nat.le_refl _) hc
        show addN n _ = addN n _
        rw [skF_same f g _ (by rw [List.length_drop]; omega) (by rw [List.length_drop]; omega)]
    · rw [if_neg h3, if_neg h3]

/-- How many bytes are skipped, and which error there is. -/
def sk (l : List Int) : Nat × Int := skF l.length l

theorem sk_nil : sk [] = (0, 0) := rfl
theorem sk_of (l : List Int) (f : Nat) (h : l.length ≤ f) : skF f l = sk l := skF_same _ _ _ h (Nat.le_refl _)
theorem sk_unfold (l : List Int) (h0 : 0 < l.length) : sk l = if cls (bt l 0) = 1 then addN 1 (sk (l.drop 1)) else if bt l 0 = 37 then addN (lineL l) (sk (l.drop (lineL l)))
    else if pre2 47 42 l then (match cm l 0 with | none => (0, 14) | some n => addN n (sk (l.drop n))) else (0, 0) := by
  conv => lhs; rw [sk, show l.length = (l.length - 1) + 1 by omega, skF, if_neg (by omega)]
  by_cases h1 : cls (bt l 0) = 1
  · rw [if_pos h1, if_pos h1, sk_of _ _ (by rw [List.length_drop]; omega)]
  rw [if_neg h1, if_neg h1]
  by_cases h2 : bt l 0 = 37
  · have := lineL_pos h2
    rw [if_pos h2, if_pos h2, sk_of _ _ (by rw [List.length_drop]; omega)]
  rw [if_neg h2, if_neg h2]
  by_cases h3 : pre2 47 42 l = true
  · rw [if_pos h3, if_pos h3]
    cases hc : cm l 0 with
    | none => rfl
    | some n =>
      have := cm_le _ _ _ _ (Nat.le_refl _) hc
      show addN n _ = addN n _
      rw [sk_of _ _ (by rw [List.length_drop]; omega)]
  · rw [if_neg h3, if_neg h3]

theorem cls37 : ∀ n : Nat, n < 256 → (cls n = 8 ↔ n = 37) := by decide +kernel
theorem cls37' {c : Int} (h0 : 0 ≤ c) (h1 : c ≤ 255) : cls c = 8 ↔ c = 37 := by
  have := cls37 c.toNat (by omega)
  rw [Int.toNat_of_nonneg h0] at this
  rw [this]; omega
theorem cls_37 : cls 37 ≠ 1 := by decide +kernel
theorem cls_47 : cls 47 ≠ 1 := by decide +kernel

theorem addN_add (n m : Nat) (p : Nat × Int) : addN n (addN m p) = addN (n + m) p := by simp [addN, Nat.add_assoc]
theorem addN_zero (p : Nat × Int) : addN 0 p = p := by simp [addN]

theorem sk_run : ∀ (f : Nat) (l : List Int), l.length ≤ f → sk l = addN (runL 1 l) (sk (l.drop (runL 1 l)))
  | 0, l, hf => by have : l = [] := List.eq_nil_of_length_eq_zero (by omega); subst this; rfl
  | f + 1, [], _ => rfl
  | f + 1, c :: r, hf => by
    simp only [runL]
    by_cases h : cls c = 1
    · rw [if_pos h, sk_unfold _ (by simp), if_pos (by simpa [bt, List.getD] using h)]
      have ih := sk_run f r (by simp at hf; omega)
      rw [show (c :: r).drop 1 = r from rfl, ih, addN_add, show (c :: r).drop (1 + runL 1 r) = r.drop (runL 1 r) by rw [Nat.add_comm]; rfl]
    · rw [if_neg h, addN_zero]; rfl

theorem runL_again (n : Int) : ∀ l : List Int, runL n (l.drop (runL n l)) = 0
  | [] => rfl
  | c :: r => by
    simp only [runL]
    by_cases h : cls c = n
    · rw [if_pos h, show (c :: r).drop (1 + runL n r) = r.drop (runL n r) by rw [Nat.add_comm]; rfl]; exact runL_again n r
    · rw [if_neg h, List.drop_zero, runL, if_neg h]

theorem runL_zero {n : Int} {l : List Int} (h0 : 0 < l.length) : runL n l = 0 ↔ cls (bt l 0) ≠ n := by
  match l, h0 with
  | c :: r, _ =>
    simp only [runL, bt, List.getD, List.getElem?_cons_zero, Option.getD_some]
    by_cases h : cls c = n
    · simp [h]
    · simp [h]

/-- Behind place k. -/
def skAt (l : List Int) (k : Nat) : Nat × Int := addN k (sk (l.drop k))
def cmAt (l : List Int) (k : Nat) (d : Int) : Option Nat := (cm (l.drop k) d).map (· + k)

theorem skAt_zero (l : List Int) : skAt l 0 = sk l := by rw [skAt, addN_zero, List.drop_zero]

theorem skAt_run (l : List Int) (k : Nat) : skAt l k = skAt l (k + runL 1 (l.drop k)) := by
  rw [skAt, skAt, sk_run _ _ (Nat.le_refl _), addN_add, List.drop_drop]

theorem skAt_line {l : List Int} {k : Nat} (_hr : ∀ x ∈ l, 0 ≤ x ∧ x ≤ 255) (hk : k < l.length) (h : bt l k = 37) : skAt l k = skAt l (k + lineL (l.drop k)) := by
  have hb : bt (l.drop k) 0 = 37 := by rw [bt_drop]; exact h
  rw [skAt, sk_unfold _ (by rw [List.length_drop]; omega), if_neg (by rw [hb]; exact cls_37), if_pos hb, addN_add, List.drop_drop, skAt]

theorem skAt_one {l : List Int} {k : Nat} (hk : k < l.length) (h : cls (bt l k) = 1) : skAt l k = skAt l (k + 1) := by
  have hb : cls (bt (l.drop k) 0) = 1 := by rw [bt_drop]; exact h
  rw [skAt, sk_unfold _ (by rw [List.length_drop]; omega), if_pos hb, addN_add, List.drop_drop, skAt]

theorem pre2_head {x y : Int} {l : List Int} {k : Nat} (h : pre2 x y (l.drop k) = true) : k + 2 ≤ l.length ∧ bt l k = x ∧ bt l (k + 1) = y := by
  obtain ⟨h1, h2, h3⟩ := pre2_iff.1 h
  rw [List.length_drop] at h1; rw [bt_drop] at h2 h3
  exact ⟨by omega, h2, h3⟩

theorem skAt_none {l : List Int} {k : Nat} (h : pre2 47 42 (l.drop k) = true) (hc : cmAt l k 0 = none) : skAt l k = (k, 14) := by
  obtain ⟨h1, h2, _⟩ := pre2_head h
  have hb : bt (l.drop k) 0 = 47 := by rw [bt_drop]; exact h2
  have hc' : cm (l.drop k) 0 = none := Option.map_eq_none_iff.1 hc
  rw [skAt, sk_unfold _ (by rw [List.length_drop]; omega), if_neg (by rw [hb]; exact cls_47), if_neg (by rw [hb]; decide), if_pos h, hc']
  rfl

theorem skAt_some {l : List Int} {k m : Nat} (h : pre2 47 42 (l.drop k) = true) (hc : cmAt l k 0 = some m) : skAt l k = skAt l m := by
  obtain ⟨h1, h2, _⟩ := pre2_head h
  have hb : bt (l.drop k) 0 = 47 := by rw [bt_drop]; exact h2
  obtain ⟨n, hn, rfl⟩ := Option.map_eq_some_iff.1 hc
  rw [skAt, sk_unfold _ (by rw [List.length_drop]; omega), if_neg (by rw [hb]; exact cls_47), if_neg (by rw [hb]; decide), if_pos h, hn]
  show addN k (addN n _) = _
  rw [addN_add, List.drop_drop, skAt, Nat.add_comm k n]

theorem skAt_else {l : List Int} {k : Nat} (hk : k < l.length) (h1 : cls (bt l k) ≠ 1) (h2 : bt l k ≠ 37) (h3 : pre2 47 42 (l.drop k) = false) : skAt l k = (k, 0) := by
  rw [skAt, sk_unfold _ (by rw [List.length_drop]; omega), if_neg (by rw [bt_drop]; exact h1), if_neg (by rw [bt_drop]; exact h2), if_neg (by simp [h3])]
  rfl
theorem skAt_end {l : List Int} {k : Nat} (hk : l.length = k) : skAt l k = (k, 0) := by
  rw [skAt, List.drop_eq_nil_iff.2 (by omega)]; rfl

theorem cmAt_open {l : List Int} {k : Nat} {d : Int} (h : pre2 47 42 (l.drop k) = true) : cmAt l k d = cmAt l (k + 2) (d + 1) := by
  rw [cmAt, cm_open h, Option.map_map, List.drop_drop, cmAt]; congr 1; funext x; simp; omega
theorem cmAt_last {l : List Int} {k : Nat} (h : pre2 42 47 (l.drop k) = true) : cmAt l k 1 = some (k + 2) := by
  rw [cmAt, cm_last h]; simp; omega
theorem cmAt_close {l : List Int} {k : Nat} {d : Int} (h : pre2 42 47 (l.drop k) = true) (hd : d ≠ 1) : cmAt l k d = cmAt l (k + 2) (d - 1) := by
  rw [cmAt, cm_close h hd, Option.map_map, List.drop_drop, cmAt]; congr 1; funext x; simp; omega
theorem cmAt_else {l : List Int} {k : Nat} {d : Int} (hk : k < l.length) (h1 : pre2 47 42 (l.drop k) = false) (h2 : pre2 42 47 (l.drop k) = false) : cmAt l k d = cmAt l (k + 1) d := by
  rw [cmAt, cm_else (by rw [List.length_drop]; omega) h1 h2, Option.map_map, List.drop_drop, cmAt]; congr 1; funext x; simp; omega
theorem cmAt_end {l : List Int} {k : Nat} {d : Int} (hk : l.length ≤ k) : cmAt l k d = none := by
  rw [cmAt, List.drop_eq_nil_iff.2 hk]; rfl
theorem cmAt_le {l : List Int} {k m : Nat} {d : Int} (hk : k ≤ l.length) (h : cmAt l k d = some m) : k < m ∧ m ≤ l.length := by
  obtain ⟨n, hn, rfl⟩ := Option.map_eq_some_iff.1 h
  have := cm_le _ _ _ _ (Nat.le_refl _) hn
  rw [List.length_drop] at this; omega

/-- What there is of a list, by its beginnings: the rest has been done. -/
theorem by_rest {P : List Int → Prop} (h : ∀ l, (∀ m, 0 < m → m ≤ l.length → P (l.drop m)) → P l) (l : List Int) : P l := by
  suffices ∀ (f : Nat) (l : List Int), l.length ≤ f → P l from this _ l (Nat.le_refl _)
  intro f
  induction f with
  | zero => intro l hl; exact h l fun m h1 h2 => by omega
  | succ f ih => intro l hl; exact h l fun m h1 h2 => ih _ (by rw [List.length_drop]; omega)

/-- How it ends: nothing more is skipped; a comment that does not end, or neither layout nor a comment's beginning. -/
theorem sk_ends (l : List Int) : (sk l).1 ≤ l.length ∧ sk (l.drop (sk l).1) = (0, (sk l).2) ∧
    (((sk l).2 = 14 ∧ pre2 47 42 (l.drop (sk l).1) = true) ∨ ((sk l).2 = 0 ∧ ((sk l).1 = l.length ∨ ((sk l).1 < l.length ∧ cls (bt l (sk l).1) ≠ 1 ∧ bt l (sk l).1 ≠ 37 ∧ pre2 47 42 (l.drop (sk l).1) = false)))) := by
  revert l
  refine by_rest ?_
  intro l ih
  have step : ∀ m, 0 < m → m ≤ l.length → sk l = addN m (sk (l.drop m)) → (sk l).1 ≤ l.length ∧ sk (l.drop (sk l).1) = (0, (sk l).2) ∧
    (((sk l).2 = 14 ∧ pre2 47 42 (l.drop (sk l).1) = true) ∨ ((sk l).2 = 0 ∧ ((sk l).1 = l.length ∨ ((sk l).1 < l.length ∧ cls (bt l (sk l).1) ≠ 1 ∧ bt l (sk l).1 ≠ 37 ∧ pre2 47 42 (l.drop (sk l).1) = false)))) := by
    intro m h1 h2 h3
    obtain ⟨i1, i2, i3⟩ := ih m h1 h2
    rw [h3]
    simp only [addN]
    rw [List.length_drop] at i1 i3
    rw [List.drop_drop] at i2 i3
    rw [bt_drop] at i3
    refine ⟨by omega, i2, ?_⟩
    rcases i3 with i3 | ⟨j1, j2 | ⟨j2, j3⟩⟩
    · exact .inl i3
    · exact .inr ⟨j1, .inl (by omega)⟩
    · exact .inr ⟨j1, .inr ⟨by omega, j3⟩⟩
  by_cases h0 : 0 < l.length
  · have hu := sk_unfold l h0
    by_cases h1 : cls (bt l 0) = 1
    · rw [if_pos h1] at hu; exact step 1 (by omega) (by omega) hu
    rw [if_neg h1] at hu
    by_cases h2 : bt l 0 = 37
    · rw [if_pos h2] at hu; exact step _ (lineL_pos h2) (lineL_le l) hu
    rw [if_neg h2] at hu
    by_cases h3 : pre2 47 42 l = true
    · rw [if_pos h3] at hu
      cases hc : cm l 0 with
      | none => rw [hc] at hu; rw [hu]; exact ⟨by simp, by simpa using hu, .inl ⟨rfl, by simpa using h3⟩⟩
      | some n =>
        rw [hc] at hu
        have := cm_le _ _ _ _ (Nat.le_refl _) hc
        exact step n (by omega) (by omega) hu
    · rw [if_neg h3] at hu
      rw [hu]
      exact ⟨by simp, by simpa using hu, .inr ⟨rfl, .inr ⟨h0, h1, h2, by simpa using h3⟩⟩⟩
  · have : l = [] := List.eq_nil_of_length_eq_zero (by omega)
    subst this
    exact ⟨by simp [sk_nil], by simp [sk_nil], .inr ⟨rfl, .inl rfl⟩⟩

end Go.Proofs.YtecabgmkoknbgaaDoor
