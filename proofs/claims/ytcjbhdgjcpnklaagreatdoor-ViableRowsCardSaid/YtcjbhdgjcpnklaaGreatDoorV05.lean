import Derived.Lib.BytesEntry
import Derived.Laws.Externs
import Derived.WalkMore
import Derived.Lib.SmallJoins
import Derived.Test.YtcjbhdgjcpnklaaGreatDoorV22
import Derived.Test.YtcjbhdgjcpnklaaGreatDoorV01
import Derived.Test.YtcjbhdgjcpnklaaGreatDoorV02
import Derived.Test.YtcjbhdgjcpnklaaGreatDoorV03
namespace Go.Proofs.YtcjbhdgjcpnklaaGreatDoor
section
def pre2 (x y : Int) (l : List Int) : Bool := decide (2 ≤ l.length) && (bt l 0 == x && bt l 1 == y)
def cm : List Int → Int → Option Nat
 | x :: y :: r, d => if x = 47 ∧ y = 42 then (cm r (d + 1)).map (· + 2) else if x = 42 ∧ y = 47 then (if d = 1 then some 2 else (cm r (d - 1)).map (· + 2)) else (cm (y :: r) d).map (· + 1)
 | _, _ => none
theorem zJg {x y a b : Int} {r : List Int} : pre2 x y (a :: b :: r) = (a == x && b == y) := by simp [pre2, bt, List.getD]
theorem zDV {x y : Int} {l : List Int} : pre2 x y l = true ↔ 2 ≤ l.length ∧ bt l 0 = x ∧ bt l 1 = y := by simp [pre2]
theorem zDp {x y : Int} {l : List Int} (h : pre2 x y l = true) : l = x :: y :: l.drop 2 := by
 obtain ⟨h1, h2, h3⟩ := zDV.1 h
 match l, h1 with
 | a :: b :: r, _ => simp only [bt, List.getD, List.getElem?_cons_zero, List.getElem?_cons_succ, Option.getD_some] at h2 h3; subst h2; subst h3; rfl
theorem zJh {l : List Int} {d : Int} (h : pre2 47 42 l = true) : cm l d = (cm (l.drop 2) (d + 1)).map (· + 2) := by
 conv => lhs; rw [zDp h]
 rw [cm, if_pos ⟨rfl, rfl⟩]
theorem zJi {l : List Int} (h : pre2 42 47 l = true) : cm l 1 = some 2 := by
 rw [zDp h, cm, if_neg (by decide), if_pos ⟨rfl, rfl⟩, if_pos rfl]
theorem zHe {l : List Int} {d : Int} (h : pre2 42 47 l = true) (hd : d ≠ 1) : cm l d = (cm (l.drop 2) (d - 1)).map (· + 2) := by
 conv => lhs; rw [zDp h]
 rw [cm, if_neg (by decide), if_pos ⟨rfl, rfl⟩, if_neg hd]
theorem zJj {l : List Int} {d : Int} (h0 : 0 < l.length) (h1 : pre2 47 42 l = false) (h2 : pre2 42 47 l = false) : cm l d = (cm (l.drop 1) d).map (· + 1) := by
 match l, h0 with
 | [a], _ => simp [cm]
 | a :: b :: r, _ =>
  rw [zJg] at h1 h2
  rw [cm, if_neg (by intro h; simp [h.1, h.2] at h1), if_neg (by intro h; simp [h.1, h.2] at h2)]; rfl
theorem zGw : ∀ (f : Nat) (l : List Int) (d : Int) (n : Nat), l.length ≤ f → cm l d = some n → 1 ≤ n ∧ n ≤ l.length
 | 0, l, d, n, hf, h => by have : l = [] := List.eq_nil_of_length_eq_zero (by omega); subst this; simp [cm] at h
 | f + 1, l, d, n, hf, h => by
  by_cases h0 : 0 < l.length
  ·by_cases h1 : pre2 47 42 l = true
   ·rw [zJh h1] at h
    obtain ⟨m, hm, rfl⟩ := Option.map_eq_some_iff.1 h
    have := zGw f _ _ m (by rw [List.length_drop]; omega) hm
    rw [List.length_drop] at this
    have := (zDV.1 h1).1
    omega
   ·by_cases h2 : pre2 42 47 l = true
    ·have hl := (zDV.1 h2).1
     by_cases hd : d = 1
     ·subst hd; rw [zJi h2] at h; simp at h; omega
     ·rw [zHe h2 hd] at h
      obtain ⟨m, hm, rfl⟩ := Option.map_eq_some_iff.1 h
      have := zGw f _ _ m (by rw [List.length_drop]; omega) hm
      rw [List.length_drop] at this
      omega
    ·rw [zJj h0 (by simpa using h1) (by simpa using h2)] at h
     obtain ⟨m, hm, rfl⟩ := Option.map_eq_some_iff.1 h
     have := zGw f _ _ m (by rw [List.length_drop]; omega) hm
     rw [List.length_drop] at this
     omega
  ·have : l = [] := List.eq_nil_of_length_eq_zero (by omega)
   subst this; simp [cm] at h
def lineL : List Int → Nat
 | [] => 0
 | c :: r => if c = 10 then 0 else 1 + lineL r
theorem zCO : ∀ l : List Int, lineL l ≤ l.length
 | [] => Nat.le_refl _
 | c :: r => by have := zCO r; simp only [lineL, List.length_cons]; split <;> omega
theorem zI0 (l : List Int) (k : Nat) (h : k < l.length) : lineL (l.drop k) = if bt l k = 10 then 0 else 1 + lineL (l.drop (k + 1)) := by
 rw [List.drop_eq_getElem_cons h, lineL, show bt l k = l[k] from by simp [bt, List.getD, h]]
theorem zBe {l : List Int} (h : bt l 0 = 37) : 1 ≤ lineL l := by
 match l with
 | [] => simp [bt, List.getD] at h
 | c :: r =>
  have : c = 37 := by simpa [bt, List.getD] using h
  subst this; simp only [lineL]; rw [if_neg (by decide)]; omega
def addN (n : Nat) (p : Nat × Int) : Nat × Int := (n + p.1, p.2)
def skF : Nat → List Int → Nat × Int
 | 0, _ => (0, 0)
 | f + 1, l => if l.length = 0 then (0, 0) else if cls (bt l 0) = 1 then addN 1 (skF f (l.drop 1)) else if bt l 0 = 37 then addN (lineL l) (skF f (l.drop (lineL l)))
  else if pre2 47 42 l then (match cm l 0 with | none => (0, 14) | some n => addN n (skF f (l.drop n))) else (0, 0)
theorem zDW : ∀ (f g : Nat) (l : List Int), l.length ≤ f → l.length ≤ g → skF f l = skF g l
 | 0, 0, _, _, _ => rfl
 | 0, g + 1, l, h, _ => by rw [skF, skF, if_pos (by omega)]
 | f + 1, 0, l, _, h => by rw [skF, skF, if_pos (by omega)]
 | f + 1, g + 1, l, hf, hg => by
  rw [skF, skF]
  by_cases h0 : l.length = 0
  ·rw [if_pos h0, if_pos h0]
  rw [if_neg h0, if_neg h0]
  by_cases h1 : cls (bt l 0) = 1
  ·rw [if_pos h1, if_pos h1, zDW f g _ (by rw [List.length_drop]; omega) (by rw [List.length_drop]; omega)]
  rw [if_neg h1, if_neg h1]
  by_cases h2 : bt l 0 = 37
  ·have := zBe h2
   rw [if_pos h2, if_pos h2, zDW f g _ (by rw [List.length_drop]; omega) (by rw [List.length_drop]; omega)]
  rw [if_neg h2, if_neg h2]
  by_cases h3 : pre2 47 42 l = true
  ·rw [if_pos h3, if_pos h3]
   cases hc : cm l 0 with
   | none => rfl
   | some n =>
    have := zGw _ _ _ _ (Nat.le_refl _) hc
    show addN n _ = addN n _
    rw [zDW f g _ (by rw [List.length_drop]; omega) (by rw [List.length_drop]; omega)]
  ·rw [if_neg h3, if_neg h3]
def sk (l : List Int) : Nat × Int := skF l.length l
theorem zEl : sk [] = (0, 0) := rfl
theorem zN5 (l : List Int) (f : Nat) (h : l.length ≤ f) : skF f l = sk l := zDW _ _ _ h (Nat.le_refl _)
theorem zBO (l : List Int) (h0 : 0 < l.length) : sk l = if cls (bt l 0) = 1 then addN 1 (sk (l.drop 1)) else if bt l 0 = 37 then addN (lineL l) (sk (l.drop (lineL l)))
  else if pre2 47 42 l then (match cm l 0 with | none => (0, 14) | some n => addN n (sk (l.drop n))) else (0, 0) := by
 conv => lhs; rw [sk, show l.length = (l.length - 1) + 1 by omega, skF, if_neg (by omega)]
 by_cases h1 : cls (bt l 0) = 1
 ·rw [if_pos h1, if_pos h1, zN5 _ _ (by rw [List.length_drop]; omega)]
 rw [if_neg h1, if_neg h1]
 by_cases h2 : bt l 0 = 37
 ·have := zBe h2
  rw [if_pos h2, if_pos h2, zN5 _ _ (by rw [List.length_drop]; omega)]
 rw [if_neg h2, if_neg h2]
 by_cases h3 : pre2 47 42 l = true
 ·rw [if_pos h3, if_pos h3]
  cases hc : cm l 0 with
  | none => rfl
  | some n =>
   have := zGw _ _ _ _ (Nat.le_refl _) hc
   show addN n _ = addN n _
   rw [zN5 _ _ (by rw [List.length_drop]; omega)]
 ·rw [if_neg h3, if_neg h3]
theorem cls37 : ∀ n : Nat, n < 256 → (cls n = 8 ↔ n = 37) := by decide +kernel
theorem cls37' {c : Int} (h0 : 0 ≤ c) (h1 : c ≤ 255) : cls c = 8 ↔ c = 37 := by
 have := cls37 c.toNat (by omega)
 rw [Int.toNat_of_nonneg h0] at this
 rw [this]; omega
theorem zPT : cls 37 ≠ 1 := by decide +kernel
theorem zNM : cls 47 ≠ 1 := by decide +kernel
theorem addN_add (n m : Nat) (p : Nat × Int) : addN n (addN m p) = addN (n + m) p := by simp [addN, Nat.add_assoc]
theorem addN_zero (p : Nat × Int) : addN 0 p = p := by simp [addN]
theorem zNN : ∀ (f : Nat) (l : List Int), l.length ≤ f → sk l = addN (runL 1 l) (sk (l.drop (runL 1 l)))
 | 0, l, hf => by have : l = [] := List.eq_nil_of_length_eq_zero (by omega); subst this; rfl
 | f + 1, [], _ => rfl
 | f + 1, c :: r, hf => by
  simp only [runL]
  by_cases h : cls c = 1
  ·rw [if_pos h, zBO _ (by simp), if_pos (by simpa [bt, List.getD] using h)]
   have ih := zNN f r (by simp at hf; omega)
   rw [show (c :: r).drop 1 = r from rfl, ih, addN_add, show (c :: r).drop (1 + runL 1 r) = r.drop (runL 1 r) by rw [Nat.add_comm]; rfl]
  ·rw [if_neg h, addN_zero]; rfl
theorem zC5 (n : Int) : ∀ l : List Int, runL n (l.drop (runL n l)) = 0
 | [] => rfl
 | c :: r => by
  simp only [runL]
  by_cases h : cls c = n
  ·rw [if_pos h, show (c :: r).drop (1 + runL n r) = r.drop (runL n r) by rw [Nat.add_comm]; rfl]; exact zC5 n r
  ·rw [if_neg h, List.drop_zero, runL, if_neg h]
theorem zCA {n : Int} {l : List Int} (h0 : 0 < l.length) : runL n l = 0 ↔ cls (bt l 0) ≠ n := by
 match l, h0 with
 | c :: r, _ =>
  simp only [runL, bt, List.getD, List.getElem?_cons_zero, Option.getD_some]
  by_cases h : cls c = n
  ·simp [h]
  ·simp [h]
def skAt (l : List Int) (k : Nat) : Nat × Int := addN k (sk (l.drop k))
def cmAt (l : List Int) (k : Nat) (d : Int) : Option Nat := (cm (l.drop k) d).map (· + k)
theorem zF1 (l : List Int) : skAt l 0 = sk l := by rw [skAt, addN_zero, List.drop_zero]
theorem zHf (l : List Int) (k : Nat) : skAt l k = skAt l (k + runL 1 (l.drop k)) := by
 rw [skAt, skAt, zNN _ _ (Nat.le_refl _), addN_add, List.drop_drop]
theorem zDq {l : List Int} {k : Nat} (_hr : ∀ x ∈ l, 0 ≤ x ∧ x ≤ 255) (hk : k < l.length) (h : bt l k = 37) : skAt l k = skAt l (k + lineL (l.drop k)) := by
 have hb : bt (l.drop k) 0 = 37 := by rw [zAB]; exact h
 rw [skAt, zBO _ (by rw [List.length_drop]; omega), if_neg (by rw [hb]; exact zPT), if_pos hb, addN_add, List.drop_drop, skAt]
theorem zLu {l : List Int} {k : Nat} (hk : k < l.length) (h : cls (bt l k) = 1) : skAt l k = skAt l (k + 1) := by
 have hb : cls (bt (l.drop k) 0) = 1 := by rw [zAB]; exact h
 rw [skAt, zBO _ (by rw [List.length_drop]; omega), if_pos hb, addN_add, List.drop_drop, skAt]
theorem zBP {x y : Int} {l : List Int} {k : Nat} (h : pre2 x y (l.drop k) = true) : k + 2 ≤ l.length ∧ bt l k = x ∧ bt l (k + 1) = y := by
 obtain ⟨h1, h2, h3⟩ := zDV.1 h
 rw [List.length_drop] at h1; rw [zAB] at h2 h3
 exact ⟨by omega, h2, h3⟩
theorem zDr {l : List Int} {k : Nat} (h : pre2 47 42 (l.drop k) = true) (hc : cmAt l k 0 = none) : skAt l k = (k, 14) := by
 obtain ⟨h1, h2, _⟩ := zBP h
 have hb : bt (l.drop k) 0 = 47 := by rw [zAB]; exact h2
 have hc' : cm (l.drop k) 0 = none := Option.map_eq_none_iff.1 hc
 rw [skAt, zBO _ (by rw [List.length_drop]; omega), if_neg (by rw [hb]; exact zNM), if_neg (by rw [hb]; decide), if_pos h, hc']
 rfl
theorem zF2 {l : List Int} {k m : Nat} (h : pre2 47 42 (l.drop k) = true) (hc : cmAt l k 0 = some m) : skAt l k = skAt l m := by
 obtain ⟨h1, h2, _⟩ := zBP h
 have hb : bt (l.drop k) 0 = 47 := by rw [zAB]; exact h2
 obtain ⟨n, hn, rfl⟩ := Option.map_eq_some_iff.1 hc
 rw [skAt, zBO _ (by rw [List.length_drop]; omega), if_neg (by rw [hb]; exact zNM), if_neg (by rw [hb]; decide), if_pos h, hn]
 show addN k (addN n _) = _
 rw [addN_add, List.drop_drop, skAt, Nat.add_comm k n]
theorem zF3 {l : List Int} {k : Nat} (hk : k < l.length) (h1 : cls (bt l k) ≠ 1) (h2 : bt l k ≠ 37) (h3 : pre2 47 42 (l.drop k) = false) : skAt l k = (k, 0) := by
 rw [skAt, zBO _ (by rw [List.length_drop]; omega), if_neg (by rw [zAB]; exact h1), if_neg (by rw [zAB]; exact h2), if_neg (by simp [h3])]
 rfl
theorem zHg {l : List Int} {k : Nat} (hk : l.length = k) : skAt l k = (k, 0) := by
 rw [skAt, List.drop_eq_nil_iff.2 (by omega)]; rfl
theorem zF4 {l : List Int} {k : Nat} {d : Int} (h : pre2 47 42 (l.drop k) = true) : cmAt l k d = cmAt l (k + 2) (d + 1) := by
 rw [cmAt, zJh h, Option.map_map, List.drop_drop, cmAt]; congr 1; funext x; simp; omega
theorem zF5 {l : List Int} {k : Nat} (h : pre2 42 47 (l.drop k) = true) : cmAt l k 1 = some (k + 2) := by
 rw [cmAt, zJi h]; simp; omega
theorem zEm {l : List Int} {k : Nat} {d : Int} (h : pre2 42 47 (l.drop k) = true) (hd : d ≠ 1) : cmAt l k d = cmAt l (k + 2) (d - 1) := by
 rw [cmAt, zHe h hd, Option.map_map, List.drop_drop, cmAt]; congr 1; funext x; simp; omega
theorem zF6 {l : List Int} {k : Nat} {d : Int} (hk : k < l.length) (h1 : pre2 47 42 (l.drop k) = false) (h2 : pre2 42 47 (l.drop k) = false) : cmAt l k d = cmAt l (k + 1) d := by
 rw [cmAt, zJj (by rw [List.length_drop]; omega) h1 h2, Option.map_map, List.drop_drop, cmAt]; congr 1; funext x; simp; omega
theorem zFD {l : List Int} {k : Nat} {d : Int} (hk : l.length ≤ k) : cmAt l k d = none := by
 rw [cmAt, List.drop_eq_nil_iff.2 hk]; rfl
theorem zN6 {l : List Int} {k m : Nat} {d : Int} (hk : k ≤ l.length) (h : cmAt l k d = some m) : k < m ∧ m ≤ l.length := by
 obtain ⟨n, hn, rfl⟩ := Option.map_eq_some_iff.1 h
 have := zGw _ _ _ _ (Nat.le_refl _) hn
 rw [List.length_drop] at this; omega
theorem zN7 {P : List Int → Prop} (h : ∀ l, (∀ m, 0 < m → m ≤ l.length → P (l.drop m)) → P l) (l : List Int) : P l := by
 suffices ∀ (f : Nat) (l : List Int), l.length ≤ f → P l from this _ l (Nat.le_refl _)
 intro f
 induction f with
 | zero => intro l hl; exact h l fun m h1 h2 => by omega
 | succ f ih => intro l hl; exact h l fun m h1 h2 => ih _ (by rw [List.length_drop]; omega)
theorem zN8 (l : List Int) : (sk l).1 ≤ l.length ∧ sk (l.drop (sk l).1) = (0, (sk l).2) ∧
  (((sk l).2 = 14 ∧ pre2 47 42 (l.drop (sk l).1) = true) ∨ ((sk l).2 = 0 ∧ ((sk l).1 = l.length ∨ ((sk l).1 < l.length ∧ cls (bt l (sk l).1) ≠ 1 ∧ bt l (sk l).1 ≠ 37 ∧ pre2 47 42 (l.drop (sk l).1) = false)))) := by
 revert l
 refine zN7 ?_
 intro l ih
 have step : ∀ m, 0 < m → m ≤ l.length → sk l = addN m (sk (l.drop m)) → (sk l).1 ≤ l.length ∧ sk (l.drop (sk l).1) = (0, (sk l).2) ∧
  (((sk l).2 = 14 ∧ pre2 47 42 (l.drop (sk l).1) = true) ∨ ((sk l).2 = 0 ∧ ((sk l).1 = l.length ∨ ((sk l).1 < l.length ∧ cls (bt l (sk l).1) ≠ 1 ∧ bt l (sk l).1 ≠ 37 ∧ pre2 47 42 (l.drop (sk l).1) = false)))) := by
  intro m h1 h2 h3
  obtain ⟨i1, i2, i3⟩ := ih m h1 h2
  rw [h3]
  simp only [addN]
  rw [List.length_drop] at i1 i3
  rw [List.drop_drop] at i2 i3
  rw [zAB] at i3
  refine ⟨by omega, i2, ?_⟩
  rcases i3 with i3 | ⟨j1, j2 | ⟨j2, j3⟩⟩
  ·exact .inl i3
  ·exact .inr ⟨j1, .inl (by omega)⟩
  ·exact .inr ⟨j1, .inr ⟨by omega, j3⟩⟩
 by_cases h0 : 0 < l.length
 ·have hu := zBO l h0
  by_cases h1 : cls (bt l 0) = 1
  ·rw [if_pos h1] at hu; exact step 1 (by omega) (by omega) hu
  rw [if_neg h1] at hu
  by_cases h2 : bt l 0 = 37
  ·rw [if_pos h2] at hu; exact step _ (zBe h2) (zCO l) hu
  rw [if_neg h2] at hu
  by_cases h3 : pre2 47 42 l = true
  ·rw [if_pos h3] at hu
   cases hc : cm l 0 with
   | none => rw [hc] at hu; rw [hu]; exact ⟨by simp, by simpa using hu, .inl ⟨rfl, by simpa using h3⟩⟩
   | some n =>
    rw [hc] at hu
    have := zGw _ _ _ _ (Nat.le_refl _) hc
    exact step n (by omega) (by omega) hu
  ·rw [if_neg h3] at hu
   rw [hu]
   exact ⟨by simp, by simpa using hu, .inr ⟨rfl, .inr ⟨h0, h1, h2, by simpa using h3⟩⟩⟩
 ·have : l = [] := List.eq_nil_of_length_eq_zero (by omega)
  subst this
  exact ⟨by simp [zEl], by simp [zEl], .inr ⟨rfl, .inl rfl⟩⟩
end
section
open Go.RowKit
def idxV (l : List Int) : Int := if lineL l < l.length then (lineL l : Int) else -1
theorem zF7 : ∀ l : List Int, (∀ x ∈ l, 0 ≤ x ∧ x ≤ 255) → Lib.indexByte (Lib.bytesOf l) 10 = idxV l
 | [], _ => rfl
 | c :: r, h => by
  have ih := zF7 r (fun x hx => h x (by simp [hx]))
  have hc := h c (by simp)
  have hle := zCO r
  rw [show Lib.bytesOf (c :: r) = UInt8.ofNat c.toNat :: Lib.bytesOf r from rfl, Lib.indexByte, ih]
  have hlen : (c :: r).length = r.length + 1 := rfl
  by_cases h10 : c = 10
  ·subst h10; rfl
  ·have hne : (UInt8.ofNat c.toNat == 10) = false := by
    simp only [beq_eq_false_iff_ne, ne_eq]
    intro he
    have := congrArg UInt8.toNat he
    rw [UInt8.toNat_ofNat'] at this
    simp at this
    omega
   have e1 : lineL (c :: r) = 1 + lineL r := by simp [lineL, h10]
   have hv : idxV (c :: r) = if 1 + lineL r < r.length + 1 then ((1 + lineL r : Nat) : Int) else -1 := by simp only [idxV, e1, hlen]
   rw [hv, if_neg (by rw [hne]; decide)]
   by_cases hl : lineL r < r.length
   ·rw [show idxV r = (lineL r : Int) from if_pos hl, if_pos (show 1 + lineL r < r.length + 1 by omega), if_neg (by simp)]; omega
   ·rw [show idxV r = -1 from if_neg hl, if_neg (show ¬ 1 + lineL r < r.length + 1 by omega)]; rfl
set_option maxRecDepth 100000 in
theorem zJk (b off len cap : Nat) (l : List Int) (w : World) (h : Bs w (some ⟨b, off, none⟩) len cap l) (h0 : 0 < len) :
  Calls Tryz.prog 163 #[.slice (some ⟨b, off, none⟩) len cap, .int .u8 10] w fun e w' => e = .returned (.int .i64 (idxV l)) ∧ w = w' := by
 have hc : ∀ i, i < len → w.cell? ⟨b, off + i, none⟩ = some (.int .u8 (l.getD i 0)) := by
  obtain ⟨b', off', hab, _, hc⟩ := h.at_ h0
  simp only [Option.some.injEq, Addr.mk.injEq] at hab
  obtain ⟨rfl, rfl, _⟩ := hab
  exact hc
 have HI := hid (zF7 l h.rng)
 have hl := h.hl
 have HR := hid (Lib.run_indexByteSlice (P := Tryz.prog) w b off len cap l hl hc 10)
 clear hc h
 go_enter Tryz.func163, Tryz.ntmps163
 go_wp2
 rw [run_callFunc_extern Tryz.func177 (by kernel_rfl) (by kernel_rfl) (by kernel_rfl) (e := Extern.BytealgIndexByte.indexByte) (by kernel_rfl), HR.out]
 simp only [Result.andThen]
 rw [Oper.upon_value]
 go_wp2
 go_ret
 exact ⟨zE9 HI.out, rfl⟩
set_option maxRecDepth 20000 in
theorem zHh (b off len cap : Nat) (l : List Int) (w : World) (h : Bs w (some ⟨b, off, none⟩) len cap l) (h0 : 0 < len) :
  Calls Tryz.prog 135 #[.slice (some ⟨b, off, none⟩) len cap] w fun e w' => e = .returned (.int .i64 (lineL l)) ∧ w = w' := by
 have hm := h.lt
 unfold maxLen at hm
 have hl := h.hl
 have hle := zCO l
 have H := hid h
 clear h
 obtain ⟨n, hn⟩ : ∃ n, n = lineL l := ⟨_, rfl⟩
 by_cases hlt : lineL l < l.length
 ·have HV : Hid (idxV l = n) := hid (by rw [idxV, if_pos hlt, hn])
  rw [← hn]
  clear hlt hn hle
  go_enter Tryz.func135, Tryz.ntmps135
  go_wp2_with (first | (go_at_call 163; refine (zJk _ _ _ _ l _ H.out h0).mono ?_; rintro e w' ⟨rfl, rfl⟩; rw [HV.out]))
  go_ret
  exact ⟨rfl, rfl⟩
 ·have HV : Hid (idxV l = -1) := hid (by rw [idxV, if_neg hlt])
  have hnl : n = len := by omega
  rw [← hn, hnl]
  clear hlt hn hle
  go_enter Tryz.func135, Tryz.ntmps135
  go_wp2_with (first | (go_at_call 163; refine (zJk _ _ _ _ l _ H.out h0).mono ?_; rintro e w' ⟨rfl, rfl⟩; rw [HV.out]))
  go_ret
  exact ⟨rfl, rfl⟩
theorem zHi {l : List Int} (h : ∀ x ∈ l, 0 ≤ x ∧ x ≤ 255) (hl : l.length = 2) (p q : UInt8) : ((bstr l).toList == [p, q]) = (bt l 0 == (p.toNat : Int) && bt l 1 == (q.toNat : Int)) := by
 match l, hl with
 | [x, y], _ =>
  have hx := h x (by simp)
  have hy := h y (by simp)
  have ex : UInt8.ofNat x.toNat = p ↔ x = (p.toNat : Int) := by
   constructor
   ·intro he; rw [← he, UInt8.toNat_ofNat']; omega
   ·intro he; rw [he]; simp
  have ey : UInt8.ofNat y.toNat = q ↔ y = (q.toNat : Int) := by
   constructor
   ·intro he; rw [← he, UInt8.toNat_ofNat']; omega
   ·intro he; rw [he]; simp
  rw [Bool.eq_iff_iff]
  rw [zA4]
  simp [bt, List.getD, ex, ey]
set_option maxRecDepth 20000 in
theorem zEn (a : Option Addr) (len cap : Nat) (l : List Int) (p q : UInt8) (w : World) (h : Bs w a len cap l) :
  Calls Tryz.prog 136 #[.slice a len cap, .string { data := #[p, q] }] w fun e w' => e = .returned (.bool (pre2 p.toNat q.toNat l)) ∧ w = w' := by
 have hm := h.lt
 unfold maxLen at hm
 have hl := h.hl
 have hlc := h.lc
 have hcm := h.cm
 unfold maxLen at hcm
 have H := hid h
 by_cases h2 : 2 ≤ len
 ·have hb := h.take h2 (Nat.le_trans h2 hlc) h.cm
  have HB : Hid (pre2 p.toNat q.toNat l = ((bstr (l.take 2)).toList == [p, q])) := hid (by
   rw [zHi hb.rng hb.hl, zDl _ _ _ (by omega), zDl _ _ _ (by omega), pre2, hl, decide_eq_true h2, Bool.true_and])
  have k1 := hb.str (P := Tryz.prog) 59 9 5 Tryz.underlying59 Tryz.underlying5 Tryz.underlying9
  obtain ⟨b, off, rfl, hbl, hc⟩ := h.at_ (by omega)
  clear h hc hb
  rw [HB.out]
  clear HB
  go_enter Tryz.func136, Tryz.ntmps136
  go_wp2
  go_ret
  exact ⟨rfl, rfl⟩
 ·have HB : Hid (pre2 p.toNat q.toNat l = false) := hid (by rw [pre2, hl, decide_eq_false h2, Bool.false_and])
  clear h
  rw [HB.out]
  clear HB
  go_enter Tryz.func136, Tryz.ntmps136
  go_wp2
  go_ret
  exact ⟨rfl, rfl⟩
set_option maxRecDepth 20000 in
theorem zHj (a : Option Addr) (len cap : Nat) (l : List Int) (k : Nat) (p q : UInt8) (w : World) (h : Bs w a len cap l) (hk : k ≤ len) (hsz : len ≤ 1000000) :
  Calls Tryz.prog 202 #[.slice a len cap, .int .i64 k, .string { data := #[p, q] }] w fun e w' => e = .returned (.bool (pre2 p.toNat q.toNat (l.drop k))) ∧ w = w' := by
 have hm := h.lt
 unfold maxLen at hm
 have hl := h.hl
 have hlc := h.lc
 have hcm := h.cm
 unfold maxLen at hcm
 have H := hid h
 by_cases h2 : k + 2 ≤ len
 ·obtain ⟨b, off, rfl, hbl, hc⟩ := h.at_ (by omega)
  have hd := h.drop hk
  have hb := hd.take (k := 2) (c' := cap - k) (by omega) (by omega) hd.cm
  have HB : Hid (pre2 p.toNat q.toNat (l.drop k) = ((bstr ((l.drop k).take 2)).toList == [p, q])) := hid (by
   rw [zHi hb.rng hb.hl, zDl _ _ _ (by omega), zDl _ _ _ (by omega), pre2, hd.hl, decide_eq_true (by omega), Bool.true_and])
  have k1 := hb.str (P := Tryz.prog) 59 9 5 Tryz.underlying59 Tryz.underlying5 Tryz.underlying9
  clear h hc hb hd
  rw [HB.out]
  clear HB
  go_enter Tryz.func202, Tryz.ntmps202
  go_wp2
  go_ret
  exact ⟨rfl, rfl⟩
 ·have HB : Hid (pre2 p.toNat q.toNat (l.drop k) = false) := hid (by rw [pre2, List.length_drop, hl, decide_eq_false (by omega), Bool.false_and])
  clear h
  have h3 : ¬ ((k : Int) + 2 ≤ len) := by omega
  rw [HB.out]
  clear HB
  go_enter Tryz.func202, Tryz.ntmps202
  go_wp2
  go_ret
  exact ⟨rfl, rfl⟩
end
section
open Go.RowKit
def cmV : Option Nat → Int
 | none => -1
 | some n => n
theorem zA5 (a : Option Addr) (len cap : Nat) (l : List Int) (k : Nat) (w : World) (h : Bs w a len cap l) (hk : k ≤ len) (hsz : len ≤ 1000000) :
  Calls Tryz.prog 202 #[.slice a len cap, .int .i64 k, .string { data := #[47, 42] }] w fun e w' => e = .returned (.bool (pre2 47 42 (l.drop k))) ∧ w = w' := zHj a len cap l k 47 42 w h hk hsz
theorem zC6 (a : Option Addr) (len cap : Nat) (l : List Int) (k : Nat) (w : World) (h : Bs w a len cap l) (hk : k ≤ len) (hsz : len ≤ 1000000) :
  Calls Tryz.prog 202 #[.slice a len cap, .int .i64 k, .string { data := #[42, 47] }] w fun e w' => e = .returned (.bool (pre2 42 47 (l.drop k))) ∧ w = w' := zHj a len cap l k 42 47 w h hk hsz
set_option maxHeartbeats 2000000 in
set_option maxRecDepth 20000 in
theorem zDN (a : Option Addr) (len cap : Nat) (l : List Int) (k0 : Nat) (w : World) (h : Bs w a len cap l) (hk0 : k0 ≤ len) (hsz : len ≤ 1000000) :
  Calls Tryz.prog 203 #[.slice a len cap, .int .i64 k0] w fun e w' => e = .returned (.int .i64 (cmV (cmAt l k0 0))) ∧ w = w' := by
 have hl := h.hl
 have H := hid h
 clear h
 go_enter Tryz.func203, Tryz.ntmps203
 go_wp2
 go_loop [1, 5] (fun i d => ∃ k : Nat, ∃ z : Int, i = .int .i64 k ∧ d = .int .i64 z ∧ k0 ≤ k ∧ k ≤ len ∧ -(k : Int) ≤ z ∧ z ≤ k ∧ Hid (cmAt l k z = cmAt l k0 0)) (fun i _ => len - (intOf i).toNat)
 case atStart => exact ⟨k0, 0, rfl, rfl, by omega, by omega, by omega, by omega, hid rfl⟩
 case round =>
  obtain ⟨k, z, rfl, rfl, hk1, hk, hz1, hz2, HM⟩ := hrel
  by_cases hlt : k < len
  ·by_cases p1 : pre2 47 42 (l.drop k) = true
   ·have HP := hid p1
    have hk2 := (zBP p1).1
    have HN : Hid (cmAt l (k + 2) (z + 1) = cmAt l k0 0) := hid (by rw [← zF4 p1]; exact HM.out)
    clear p1
    go_wp2_with (first | (go_at_call 202; refine (zA5 _ _ _ l k _ H.out hk hsz).mono ?_; rintro e w' ⟨rfl, rfl⟩; rw [HP.out]))
    go_round
    case rel => exact ⟨k + 2, z + 1, by go_num, by go_num, by omega, by omega, by omega, by omega, HN⟩
    case measure => simp [intOf]; omega
   ·have hp1 : pre2 47 42 (l.drop k) = false := by simpa using p1
    have HP := hid hp1
    by_cases p2 : pre2 42 47 (l.drop k) = true
    ·have HP2 := hid p2
     have hk2 := (zBP p2).1
     by_cases hz : z = 1
     ·subst hz
      have HN : Hid (cmV (cmAt l k0 0) = k + 2) := hid (by rw [← HM.out, zF5 p2]; simp [cmV])
      clear p1 hp1 p2
      go_wp2_with (first | (go_at_call 202; with_reducible first | (refine (zA5 _ _ _ l k _ H.out hk hsz).mono ?_; rintro e w' ⟨rfl, rfl⟩; rw [HP.out]) | (refine (zC6 _ _ _ l k _ H.out hk hsz).mono ?_; rintro e w' ⟨rfl, rfl⟩; rw [HP2.out])))
      go_ret
      exact ⟨by rw [HN.out]; rfl, rfl⟩
     ·have HN : Hid (cmAt l (k + 2) (z - 1) = cmAt l k0 0) := hid (by rw [← zEm p2 hz]; exact HM.out)
      have hz' : ¬ z - 1 = 0 := by omega
      clear p1 hp1 p2
      go_wp2_with (first | (go_at_call 202; with_reducible first | (refine (zA5 _ _ _ l k _ H.out hk hsz).mono ?_; rintro e w' ⟨rfl, rfl⟩; rw [HP.out]) | (refine (zC6 _ _ _ l k _ H.out hk hsz).mono ?_; rintro e w' ⟨rfl, rfl⟩; rw [HP2.out])))
      go_round
      case rel => exact ⟨k + 2, z - 1, by go_num, by go_num, by omega, by omega, by omega, by omega, HN⟩
      case measure => simp [intOf]; omega
    ·have hp2 : pre2 42 47 (l.drop k) = false := by simpa using p2
     have HP2 := hid hp2
     have HN : Hid (cmAt l (k + 1) z = cmAt l k0 0) := hid (by rw [← zF6 (by omega) hp1 hp2]; exact HM.out)
     clear p1 hp1 p2 hp2
     go_wp2_with (first | (go_at_call 202; with_reducible first | (refine (zA5 _ _ _ l k _ H.out hk hsz).mono ?_; rintro e w' ⟨rfl, rfl⟩; rw [HP.out]) | (refine (zC6 _ _ _ l k _ H.out hk hsz).mono ?_; rintro e w' ⟨rfl, rfl⟩; rw [HP2.out])))
     go_round
     case rel => exact ⟨k + 1, z, by go_num, rfl, by omega, by omega, by omega, by omega, HN⟩
     case measure => simp [intOf]; omega
  ·have HN : Hid (cmV (cmAt l k0 0) = -1) := hid (by rw [← HM.out, zFD (by omega)]; rfl)
   go_wp2
   go_ret
   exact ⟨by rw [HN.out]; rfl, rfl⟩
end
section
open Go.RowKit
set_option maxHeartbeats 2000000 in
set_option maxRecDepth 20000 in
theorem zBf (a : Option Addr) (len cap : Nat) (l : List Int) (w : World) (h : Bs w a len cap l) (hsz : len ≤ 1000000) :
  Calls Tryz.prog 197 #[.slice a len cap] w fun e w' => e = .returned (.tuple #[.int .i64 (sk l).1, .int .i64 (sk l).2]) ∧ w = w' := by
 have hl := h.hl
 have H := hid h
 clear h
 go_enter Tryz.func197, Tryz.ntmps197
 go_wp2
 go_loop [4] (fun i => ∃ k : Nat, i = .int .i64 k ∧ k ≤ len ∧ Hid (skAt l k = sk l)) (fun i => len - (intOf i).toNat)
 case atStart => exact ⟨0, rfl, by omega, hid (zF1 l)⟩
 case round =>
  obtain ⟨k, rfl, hk, HM⟩ := hrel
  by_cases hlt : k < len
  ·have h0 := (zAI H.out.rng k).1
   have h1 := (zAI H.out.rng k).2
   obtain ⟨b, off, rfl, _, hc⟩ := H.out.at_ (by omega)
   have hck := hc k hlt
   have HC := hid hc
   clear hc
   by_cases c1 : cls (bt l k) = 1
   ·have HT : Hid (decide (cls (bt l k) = 1) = true) := hid (by simp [c1])
    have HN : Hid (skAt l (k + 1) = sk l) := hid (by rw [← zLu (by omega) c1]; exact HM.out)
    have HV := hid c1
    clear c1
    go_wp2_with (first | (go_at_call 201; refine (zAQ _ _ h0 h1).mono ?_; rintro e w' ⟨rfl, rfl⟩; rw [HV.out]))
    go_round
    case rel => exact ⟨k + 1, by go_num, by omega, HN⟩
    case measure => simp [intOf]; omega
   ·have HV := hid c1
    obtain ⟨z, hz⟩ : ∃ z, z = cls (bt l k) := ⟨_, rfl⟩
    have hz1 : ¬ z = 1 := by rw [hz]; exact c1
    have HZ : Hid (cls (bt l k) = z) := hid hz.symm
    clear c1 hz
    by_cases c2 : bt l k = 37
    ·have e2 : (bt l k == 37) = true := by simpa using c2
     have HN : Hid (skAt l (k + lineL (l.drop k)) = sk l) := hid (by rw [← zDq H.out.rng (by omega) c2]; exact HM.out)
     have HP := hid (zBe (l := l.drop k) (by rw [zAB]; exact c2))
     clear c2
     go_wp2_with (first | (go_at_call 201; refine (zAQ _ _ h0 h1).mono ?_; rintro e w' ⟨rfl, rfl⟩; rw [HZ.out]))
     go_loop [4] (fun i => ∃ j : Nat, i = .int .i64 j ∧ k ≤ j ∧ j ≤ len ∧ Hid (j + lineL (l.drop j) = k + lineL (l.drop k))) (fun i => len - (intOf i).toNat)
     case atStart => exact ⟨k, rfl, by omega, by omega, hid rfl⟩
     case round =>
      obtain ⟨j, rfl, hkj, hj, HJ⟩ := hrel
      by_cases hjl : j < len
      ·have hcj := HC.out j hjl
       have HS := hid (zI0 l j (by omega))
       by_cases c10 : bt l j = 10
       ·have e10 : (bt l j != 10) = false := by simpa using c10
        have HF : Hid (k + lineL (l.drop k) = j) := hid (by rw [← HJ.out, HS.out, if_pos c10]; omega)
        have hjk : k < j := by have := HF.out; have := HP.out; omega
        clear c10
        go_wp2
        go_round
        case rel => exact ⟨j, rfl, by omega, hid (by rw [← HF.out]; exact HN.out)⟩
        case measure => simp [intOf]; omega
       ·have e10 : (bt l j != 10) = true := by simpa using c10
        have HF : Hid (j + 1 + lineL (l.drop (j + 1)) = k + lineL (l.drop k)) := hid (by rw [← HJ.out, HS.out, if_neg c10]; omega)
        clear c10
        go_wp2
        go_round
        case rel => exact ⟨j + 1, by go_num, by omega, by omega, HF⟩
        case measure => simp [intOf]; omega
      ·have HF : Hid (k + lineL (l.drop k) = j) := hid (by rw [← HJ.out, List.drop_eq_nil_iff.2 (by omega : l.length ≤ j)]; rfl)
       have hjk : k < j := by have := HF.out; have := HP.out; omega
       go_wp2
       go_round
       case rel => exact ⟨j, rfl, by omega, hid (by rw [← HF.out]; exact HN.out)⟩
       case measure => simp [intOf]; omega
    ·have e2 : (bt l k == 37) = false := by simpa using c2
     by_cases p1 : pre2 47 42 (l.drop k) = true
     ·have HP := hid p1
      cases hcm : cmAt l k 0 with
      | none =>
       have HN : Hid (sk l = (k, 14)) := hid (by rw [← HM.out, zDr p1 hcm])
       have HQ : Hid (cmV (cmAt l k 0) = -1) := hid (by rw [hcm]; rfl)
       clear p1 c2 hcm
       go_wp2_with (first | (go_at_call 201; refine (zAQ _ _ h0 h1).mono ?_; rintro e w' ⟨rfl, rfl⟩; rw [HZ.out]) | (go_at_call 202; refine (zA5 _ _ _ l k _ H.out hk hsz).mono ?_; rintro e w' ⟨rfl, rfl⟩; rw [HP.out]) | (go_at_call 203; refine (zDN _ _ _ l k _ H.out hk hsz).mono ?_; rintro e w' ⟨rfl, rfl⟩; rw [HQ.out]))
       exact bodyPost_ret (v := .tuple #[.int .i64 k, .int .i64 14]) (by simp [results, Tryz.results197, go_sem]) rfl ⟨by rw [HN.out], rfl⟩
      | some m =>
       have HN : Hid (skAt l m = sk l) := hid (by rw [← zF2 p1 hcm]; exact HM.out)
       have HQ : Hid (cmV (cmAt l k 0) = m) := hid (by rw [hcm]; rfl)
       have hm := zN6 (by omega) hcm
       clear p1 c2 hcm
       obtain ⟨hm1, hm2⟩ := hm
       go_wp2_with (first | (go_at_call 201; refine (zAQ _ _ h0 h1).mono ?_; rintro e w' ⟨rfl, rfl⟩; rw [HZ.out]) | (go_at_call 202; refine (zA5 _ _ _ l k _ H.out hk hsz).mono ?_; rintro e w' ⟨rfl, rfl⟩; rw [HP.out]) | (go_at_call 203; refine (zDN _ _ _ l k _ H.out hk hsz).mono ?_; rintro e w' ⟨rfl, rfl⟩; rw [HQ.out]))
       go_round
       case rel => exact ⟨m, rfl, by omega, HN⟩
       case measure => simp [intOf]; omega
     ·have hp1 : pre2 47 42 (l.drop k) = false := by simpa using p1
      have HP := hid hp1
      have HN : Hid (sk l = (k, 0)) := hid (by rw [← HM.out, zF3 (by omega) HV.out c2 hp1])
      clear p1 hp1 c2
      go_wp2_with (first | (go_at_call 201; refine (zAQ _ _ h0 h1).mono ?_; rintro e w' ⟨rfl, rfl⟩; rw [HZ.out]) | (go_at_call 202; refine (zA5 _ _ _ l k _ H.out hk hsz).mono ?_; rintro e w' ⟨rfl, rfl⟩; rw [HP.out]))
      exact bodyPost_ret (v := .tuple #[.int .i64 k, .int .i64 0]) (by simp [results, Tryz.results197, go_sem]) rfl ⟨by rw [HN.out], rfl⟩
  ·have HN : Hid (sk l = (k, 0)) := hid (by rw [← HM.out, zHg (by omega)])
   go_wp2
   exact bodyPost_ret (v := .tuple #[.int .i64 k, .int .i64 0]) (by simp [results, Tryz.results197, go_sem]) rfl ⟨by rw [HN.out], rfl⟩
end
end Go.Proofs.YtcjbhdgjcpnklaaGreatDoor
namespace Go
def Exit.toLabel (J : Nat → Act → World → Prop) (Q : Exit → Act → World → Prop) : Exit → Act → World → Prop
 | .goto l, a, w => J l a w
 | .normal, a, w => Q .normal a w
 | .exit i, a, w => Q (.exit i) a w
 | .ret, a, w => Q .ret a w
 | .panic c, a, w => Q (.panic c) a w
 | .outgrown, a, w => Q .outgrown a w
section
variable {P : Program} {Q : Exit → Act → World → Prop}
theorem zDs {c : Code} {a : Act} {w : World} (J : Nat → Act → World → Prop) (μ : Nat → Act → World → Nat)
  (start : c.wp P (Exit.toLabel J Q) a w)
  (go : ∀ m l a w, μ l a w = m → J l a w → ∃ rest, findLabel c l = some rest ∧ rest.wp P (Exit.toLabel (fun l' a' w' => J l' a' w' ∧ μ l' a' w' < m) Q) a w) : (Code.scope c).wp P Q a w := by
 intro b k cs
 have turns : ∀ n l a w, μ l a w < n → J l a w → ∃ rest, findLabel c l = some rest ∧ ∃ e a' w', Q e a' w' ∧ Arrives P (lone (b.at a (.code rest :: .inScope c :: k)) cs w) b k cs e a' w' := by
  intro n
  induction n with
  | zero => intro l a w h; omega
  | succ n ih =>
   intro l a w hn hJ
   obtain ⟨rest, hr, hwp⟩ := go _ l a w rfl hJ
   refine ⟨rest, hr, ?_⟩
   obtain ⟨e, a₁, w₁, hq, har⟩ := hwp b (.inScope c :: k) cs
   cases e with
   | goto l' =>
    obtain ⟨hJ', hlt⟩ := hq
    obtain ⟨rest', hr', e₂, a₂, w₂, hq₂, har₂⟩ := ih l' a₁ w₁ (by omega) hJ'
    exact ⟨e₂, a₂, w₂, hq₂, .of_steps (har _ (by simp [gotoIn, hr'])) har₂⟩
   | normal => exact ⟨.normal, a₁, w₁, hq, Steps.trans har (.one step_inScope)⟩
   | exit i => exact ⟨.exit i, a₁, w₁, hq, fun k' hk => har k' (by simp [exitTo, hk])⟩
   | ret => exact ⟨_, a₁, w₁, hq, har⟩
   | panic ch => exact ⟨_, a₁, w₁, hq, har⟩
   | outgrown => exact ⟨_, a₁, w₁, hq, har⟩
 obtain ⟨e, a₁, w₁, hq, har⟩ := start b (.inScope c :: k) cs
 cases e with
 | goto l =>
  obtain ⟨rest, hr, e₂, a₂, w₂, hq₂, har₂⟩ := turns _ l a₁ w₁ (Nat.lt_succ_self _) hq
  exact ⟨e₂, a₂, w₂, hq₂, .of_steps (.head step_scope (har _ (by simp [gotoIn, hr]))) har₂⟩
 | normal => exact ⟨.normal, a₁, w₁, hq, .head step_scope (Steps.trans har (.one step_inScope))⟩
 | exit i => exact ⟨.exit i, a₁, w₁, hq, fun k' hk => .head step_scope (har k' (by simp [exitTo, hk]))⟩
 | ret => exact ⟨_, a₁, w₁, hq, .of_steps (.one step_scope) har⟩
 | panic ch => exact ⟨_, a₁, w₁, hq, .of_steps (.one step_scope) har⟩
 | outgrown => exact ⟨_, a₁, w₁, hq, .of_steps (.one step_scope) har⟩
theorem Exit.toLabel_ret (J : Nat → Act → World → Prop) (a : Act) (w : World) : Exit.toLabel J Q .ret a w = Q .ret a w := rfl
end
end Go
namespace Go.Proofs.YtcjbhdgjcpnklaaGreatDoor
section
open Go.RowKit
theorem zAN (a : Option Addr) (len cap : Nat) (l : List Int) (w : World) (h : Bs w a len cap l) :
  Calls Tryz.prog 136 #[.slice a len cap, .string { data := #[47, 42] }] w fun e w' => e = .returned (.bool (pre2 47 42 l)) ∧ w = w' := zEn a len cap l 47 42 w h
theorem zCB (a : Option Addr) (len cap : Nat) (l : List Int) (w : World) (h : Bs w a len cap l) :
  Calls Tryz.prog 136 #[.slice a len cap, .string { data := #[42, 47] }] w fun e w' => e = .returned (.bool (pre2 42 47 l)) ∧ w = w' := zEn a len cap l 42 47 w h
def LJ (b off len cap : Nat) (l : List Int) (w : World) : Nat → Act → World → Prop
 | 0, a, w' => ∃ k : Nat, ∃ u1 u5 u7 u8 u9 u10 u11 u12 u13 u14 u15 u16 u17 u18 u19 u20 u21 u22 u23 u24 u25 u26 u27 u28 u29 u30 u31 u32 u33 u34 u35 u36 u37 u38 u39 u40 u41 u42 u43 u44 u45 u46 u47 u48 u49 u50 u51 u52 u53 u54 u55 u56 : Value, a = { tmps := #[.slice (some ⟨b, off, none⟩) len cap, u1, .int .i64 0, .int .i64 0, .int .i64 k, u5, .int .i64 0, u7, u8, u9, u10, u11, u12, u13, u14, u15, u16, u17, u18, u19, u20, u21, u22, u23, u24, u25, u26, u27, u28, u29, u30, u31, u32, u33, u34, u35, u36, u37, u38, u39, u40, u41, u42, u43, u44, u45, u46, u47, u48, u49, u50, u51, u52, u53, u54, u55, u56], defers := [] } ∧ k ≤ len ∧ Hid (skAt l k = sk l) ∧ Hid (Below w.heap.size w w')
 | 1, a, w' => ∃ k f : Nat, ∃ d : Int, ∃ u1 u7 u8 u9 u10 u11 u12 u13 u14 u15 u16 u17 u18 u19 u20 u21 u22 u23 u24 u25 u26 u27 u28 u29 u30 u31 u32 u33 u34 u35 u36 u37 u38 u39 u40 u41 u42 u43 u44 u45 u46 u47 u48 u49 u50 u51 u52 u53 u54 u55 u56 : Value, a = { tmps := #[.slice (some ⟨b, off, none⟩) len cap, u1, .int .i64 0, .int .i64 0, .int .i64 k, .int .i64 f, .int .i64 d, u7, u8, u9, u10, u11, u12, u13, u14, u15, u16, u17, u18, u19, u20, u21, u22, u23, u24, u25, u26, u27, u28, u29, u30, u31, u32, u33, u34, u35, u36, u37, u38, u39, u40, u41, u42, u43, u44, u45, u46, u47, u48, u49, u50, u51, u52, u53, u54, u55, u56], defers := [] } ∧ f ≤ k ∧ k ≤ len ∧ -(k : Int) ≤ d ∧ d ≤ k ∧ Hid (pre2 47 42 (l.drop f) = true) ∧ Hid (cmAt l k d = cmAt l f 0) ∧ Hid (skAt l f = sk l) ∧ Hid (Below w.heap.size w w')
 | _, _, _ => False
def LM (len : Nat) : Nat → Act → World → Nat
 | 0, a, _ => 2 * (len - (intOf (a.tmps.getD 4 undef)).toNat) + 1
 | _, a, _ => 2 * (len - (intOf (a.tmps.getD 4 undef)).toNat)
theorem Bs.past {w : World} {a : Option Addr} {len cap k : Nat} {l : List Int} (h : Bs w a len cap l) (hk : len ≤ k) (a' : Option Addr) (c' : Nat) (hc : c' ≤ maxLen) : Bs w a' 0 c' (l.drop k) := by
 rw [show l.drop k = [] from by rw [List.drop_eq_nil_iff, h.hl]; exact hk]
 exact Bs.nil w a' c' hc
theorem zC7 {l : List Int} {k : Nat} (hr : ∀ x ∈ l, 0 ≤ x ∧ x ≤ 255) (hk : k ≤ l.length) (hs : skAt l k = sk l) (h1 : runL 1 (l.drop k) = 0) (h8 : runL 8 (l.drop k) = 0) (hp : pre2 47 42 (l.drop k) = false) : sk l = (k, 0) := by
 rw [← hs]
 by_cases hlt : k < l.length
 ·have hd : 0 < (l.drop k).length := by rw [List.length_drop]; omega
  have i1 := (zCA hd).1 h1
  have i8 := (zCA hd).1 h8
  rw [zAB] at i1 i8
  exact zF3 hlt i1 (fun h => i8 ((cls37' (zAI hr _).1 (zAI hr _).2).2 h)) hp
 ·exact zHg (by omega)
theorem zHk {l : List Int} {k : Nat} (hr : ∀ x ∈ l, 0 ≤ x ∧ x ≤ 255) (h : 0 < runL 8 (l.drop k)) : k < l.length ∧ bt l k = 37 := by
 have hle := zAz 8 (l.drop k)
 rw [List.length_drop] at hle
 refine ⟨by omega, ?_⟩
 apply Decidable.byContradiction
 intro hne
 have := (zCA (n := 8) (l := l.drop k) (by rw [List.length_drop]; omega)).2 (by rw [zAB]; exact fun h8 => hne ((cls37' (zAI hr _).1 (zAI hr _).2).1 h8))
 omega
set_option maxRecDepth 100000 in
set_option maxHeartbeats 2000000 in
theorem zI1 (b off len cap : Nat) (l : List Int) (w : World) (h : Bs w (some ⟨b, off, none⟩) len cap l) (ht : Tab w) (hsz : len ≤ 1000000) :
  Calls Tryz.prog 90 #[.slice (some ⟨b, off, none⟩) len cap] w fun e w' => e = .returned (.tuple #[.int .i64 (sk l).1, .int .i64 (sk l).2]) ∧ Below w.heap.size w w' := by
 have hl := h.hl
 have hlc := h.lc
 have hcm := h.cm
 unfold maxLen at hcm
 have H := hid h
 have HT := hid ht
 clear h ht
 go_enter Tryz.func90, Tryz.ntmps90
 go_wp2
 refine zDs (LJ b off len cap l w) (LM len) ?_ ?_
 ·obtain ⟨k, hk0⟩ : ∃ k : Nat, k = 0 := ⟨0, rfl⟩
  have hk : k ≤ len := by omega
  have HS : Hid (skAt l k = sk l) := hid (by rw [hk0]; exact zF1 l)
  have HB : Hid (Below w.heap.size w w) := hid (Below.refl _ _)
  go_wp2
  go_step3
  rw [show ({ tmps := #[.slice (some ⟨b, off, none⟩) len cap, undef, .int .i64 0, .int .i64 0, .int .i64 0, .int .i64 0, .int .i64 0, undef, undef, undef, undef, undef, undef, undef, undef, undef, undef, undef, undef, undef, undef, undef, undef, undef, undef, undef, undef, undef, undef, undef, undef, undef, undef, undef, undef, undef, undef, undef, undef, undef, undef, undef, undef, undef, undef, undef, undef, undef, undef, undef, undef, undef, undef, undef, undef, undef, undef], defers := [] } : Act) = { tmps := #[.slice (some ⟨b, off, none⟩) len cap, undef, .int .i64 0, .int .i64 0, .int .i64 (k : Int), .int .i64 0, .int .i64 0, undef, undef, undef, undef, undef, undef, undef, undef, undef, undef, undef, undef, undef, undef, undef, undef, undef, undef, undef, undef, undef, undef, undef, undef, undef, undef, undef, undef, undef, undef, undef, undef, undef, undef, undef, undef, undef, undef, undef, undef, undef, undef, undef, undef, undef, undef, undef, undef, undef, undef], defers := [] } from by rw [hk0]; rfl]
  clear hk0
  obtain ⟨r, hr⟩ : ∃ r, r = runL 1 (l.drop k) := ⟨_, rfl⟩
  have HR : Hid (runL 1 (l.drop k) = r) := hid hr.symm
  have hrl : k + r ≤ len := by have := zAz 1 (l.drop k); rw [List.length_drop] at this; omega
  have HS1 : Hid (skAt l (k + r) = sk l) := hid (by rw [hr, ← zHf]; exact HS.out)
  have HZ : Hid (runL 1 (l.drop (k + r)) = 0) := hid (by rw [hr, ← List.drop_drop]; exact zC5 1 _)
  clear hr
  by_cases hcap : k + r < cap
  ·have hcap0 : k < cap := by omega
   have HA := hid ((H.out.below HB.out).drop hk)
   go_wp2_with fail
   refine (zAa _ _ _ (l.drop k) 1 _ HA.out (HT.out.keep HB.out)).mono ?_
   rintro e w1 ⟨rfl, hb1⟩
   have HB1 : Hid (Below w.heap.size w w1) := hid (HB.out.trans (hb1.mono HB.out.size))
   clear hb1
   rw [HR.out]
   have HA1 := hid ((H.out.below HB1.out).drop hrl)
   obtain ⟨p, hp⟩ : ∃ p, p = runL 8 (l.drop (k + r)) := ⟨_, rfl⟩
   have HP : Hid (runL 8 (l.drop (k + r)) = p) := hid hp.symm
   go_wp2_with fail
   refine (zAa _ _ _ (l.drop (k + r)) 8 _ HA1.out (HT.out.keep HB1.out)).mono ?_
   rintro e w2 ⟨rfl, hb2⟩
   have HB2 : Hid (Below w.heap.size w w2) := hid (HB1.out.trans (hb2.mono HB1.out.size))
   clear hb2
   rw [HP.out]
   have HA2 := hid ((H.out.below HB2.out).drop hrl)
   by_cases hp0 : 0 < p
   ·have h37 := zHk H.out.rng (by rw [← hp]; exact hp0)
    have hlt : k + r < len := by have := h37.1; omega
    have hpos := zBe (l := l.drop (k + r)) (by rw [zAB]; exact h37.2)
    have hmax := zCO (l.drop (k + r))
    rw [List.length_drop] at hmax
    obtain ⟨n, hn⟩ : ∃ n, n = lineL (l.drop (k + r)) := ⟨_, rfl⟩
    have HN : Hid (lineL (l.drop (k + r)) = n) := hid hn.symm
    have HS3 : Hid (skAt l (k + r + n) = sk l) := hid (by rw [hn, ← zDq H.out.rng (by omega) h37.2]; exact HS1.out)
    rw [← hn] at hpos hmax
    clear h37 hn hp
    go_wp2_with fail
    refine (zHh _ _ _ _ (l.drop (k + r)) _ HA2.out (by omega)).mono ?_
    rintro e w3 ⟨rfl, rfl⟩
    rw [HN.out]
    go_wp2
    go_step3
    refine (show LJ b off len cap l w 0 _ _ from ?_)
    unfold LJ
    exact ⟨k + r + n, _, _, _, _, _, _, _, _, _, _, _, _, _, _, _, _, _, _, _, _, _, _, _, _, _, _, _, _, _, _, _, _, _, _, _, _, _, _, _, _, _, _, _, _, _, _, _, _, _, _, _, _, rfl, by omega, HS3, HB2⟩
   ·have hp00 : p = 0 := by omega
    have HE8 : Hid (runL 8 (l.drop (k + r)) = 0) := hid (by rw [← hp]; exact hp00)
    clear hp
    by_cases p1 : pre2 47 42 (l.drop (k + r)) = true
    ·have HQ := hid p1
     clear p1
     go_wp2_with fail
     refine (zAN _ _ _ (l.drop (k + r)) _ HA2.out).mono ?_
     rintro e w3 ⟨rfl, rfl⟩
     rw [HQ.out]
     go_wp2
     go_step3
     refine (show LJ b off len cap l w 1 _ _ from ?_)
     unfold LJ
     exact ⟨k + r, k + r, 0, _, _, _, _, _, _, _, _, _, _, _, _, _, _, _, _, _, _, _, _, _, _, _, _, _, _, _, _, _, _, _, _, _, _, _, _, _, _, _, _, _, _, _, _, _, _, _, _, _, _, _, rfl, by omega, by omega, by omega, by omega, HQ, hid rfl, HS1, HB2⟩
    ·have hp1 : pre2 47 42 (l.drop (k + r)) = false := by simpa using p1
     have HQ := hid hp1
     have HV : Hid (sk l = (k + r, 0)) := hid (zC7 H.out.rng (by omega) HS1.out HZ.out HE8.out hp1)
     clear p1 hp1
     go_wp2_with fail
     refine (zAN _ _ _ (l.drop (k + r)) _ HA2.out).mono ?_
     rintro e w3 ⟨rfl, rfl⟩
     rw [HQ.out]
     go_wp2
     rw [Exit.toLabel_ret]
     exact bodyPost_ret (v := .tuple #[.int .i64 ((k + r : Nat) : Int), .int .i64 0]) (by simp [results, Tryz.results90, go_sem]) rfl ⟨by rw [HV.out], HB2.out⟩
  ·have hlen : len ≤ k + r := by omega
   have hcap1 : cap ≤ k + r := by omega
   by_cases hcap0 : k < cap
   ·have HA := hid ((H.out.below HB.out).drop hk)
    have HQ : Hid (pre2 47 42 (l.drop (k + r)) = false) := hid (by rw [List.drop_eq_nil_iff.2 (by omega)]; rfl)
    have HE8 : Hid (runL 8 (l.drop (k + r)) = 0) := hid (by rw [List.drop_eq_nil_iff.2 (by omega)]; rfl)
    have HV : Hid (sk l = (k + r, 0)) := hid (zC7 H.out.rng (by omega) HS1.out HZ.out HE8.out HQ.out)
    go_wp2_with fail
    refine (zAa _ _ _ (l.drop k) 1 _ HA.out (HT.out.keep HB.out)).mono ?_
    rintro e w1 ⟨rfl, hb1⟩
    have HB1 : Hid (Below w.heap.size w w1) := hid (HB.out.trans (hb1.mono HB.out.size))
    clear hb1
    rw [HR.out]
    have HA1 := hid ((H.out.below HB1.out).past (k := k + r) (by omega) (some ⟨b, off, none⟩) 0 (by decide))
    go_wp2_with fail
    refine (zAa _ _ _ (l.drop (k + r)) 8 _ HA1.out (HT.out.keep HB1.out)).mono ?_
    rintro e w2 ⟨rfl, hb2⟩
    have HB2 : Hid (Below w.heap.size w w2) := hid (HB1.out.trans (hb2.mono HB1.out.size))
    clear hb2
    rw [HE8.out]
    go_wp2_with fail
    refine (zAN _ _ _ (l.drop (k + r)) _ ((H.out.below HB2.out).past (k := k + r) (by omega) (some ⟨b, off, none⟩) 0 (by decide))).mono ?_
    rintro e w3 ⟨rfl, rfl⟩
    rw [HQ.out]
    go_wp2
    rw [Exit.toLabel_ret]
    exact bodyPost_ret (v := .tuple #[.int .i64 ((k + r : Nat) : Int), .int .i64 0]) (by simp [results, Tryz.results90, go_sem]) rfl ⟨by rw [HV.out], HB2.out⟩
   ·have hcap2 : cap ≤ k := by omega
    have hlen2 : len ≤ k := by omega
    have HA := hid ((H.out.below HB.out).past (k := k) (by omega) (some ⟨b, off, none⟩) 0 (by decide))
    have HQ : Hid (pre2 47 42 (l.drop (k + r)) = false) := hid (by rw [List.drop_eq_nil_iff.2 (by omega)]; rfl)
    have HE8 : Hid (runL 8 (l.drop (k + r)) = 0) := hid (by rw [List.drop_eq_nil_iff.2 (by omega)]; rfl)
    have HV : Hid (sk l = (k + r, 0)) := hid (zC7 H.out.rng (by omega) HS1.out HZ.out HE8.out HQ.out)
    go_wp2_with fail
    refine (zAa _ _ _ (l.drop k) 1 _ HA.out (HT.out.keep HB.out)).mono ?_
    rintro e w1 ⟨rfl, hb1⟩
    have HB1 : Hid (Below w.heap.size w w1) := hid (HB.out.trans (hb1.mono HB.out.size))
    clear hb1
    rw [HR.out]
    have HA1 := hid ((H.out.below HB1.out).past (k := k + r) (by omega) (some ⟨b, off, none⟩) 0 (by decide))
    go_wp2_with fail
    refine (zAa _ _ _ (l.drop (k + r)) 8 _ HA1.out (HT.out.keep HB1.out)).mono ?_
    rintro e w2 ⟨rfl, hb2⟩
    have HB2 : Hid (Below w.heap.size w w2) := hid (HB1.out.trans (hb2.mono HB1.out.size))
    clear hb2
    rw [HE8.out]
    go_wp2_with fail
    refine (zAN _ _ _ (l.drop (k + r)) _ ((H.out.below HB2.out).past (k := k + r) (by omega) (some ⟨b, off, none⟩) 0 (by decide))).mono ?_
    rintro e w3 ⟨rfl, rfl⟩
    rw [HQ.out]
    go_wp2
    rw [Exit.toLabel_ret]
    exact bodyPost_ret (v := .tuple #[.int .i64 ((k + r : Nat) : Int), .int .i64 0]) (by simp [results, Tryz.results90, go_sem]) rfl ⟨by rw [HV.out], HB2.out⟩
 ·rintro m (_ | _ | lb) a' w' hm hJ
  ·obtain ⟨k, u1, u5, u7, u8, u9, u10, u11, u12, u13, u14, u15, u16, u17, u18, u19, u20, u21, u22, u23, u24, u25, u26, u27, u28, u29, u30, u31, u32, u33, u34, u35, u36, u37, u38, u39, u40, u41, u42, u43, u44, u45, u46, u47, u48, u49, u50, u51, u52, u53, u54, u55, u56, rfl, hk, HS, HB⟩ := hJ
   have hm' : 2 * (len - k) + 1 = m := by simpa [LM, intOf] using hm
   clear hm
   refine ⟨_, rfl, ?_⟩
   obtain ⟨r, hr⟩ : ∃ r, r = runL 1 (l.drop k) := ⟨_, rfl⟩
   have HR : Hid (runL 1 (l.drop k) = r) := hid hr.symm
   have hrl : k + r ≤ len := by have := zAz 1 (l.drop k); rw [List.length_drop] at this; omega
   have HS1 : Hid (skAt l (k + r) = sk l) := hid (by rw [hr, ← zHf]; exact HS.out)
   have HZ : Hid (runL 1 (l.drop (k + r)) = 0) := hid (by rw [hr, ← List.drop_drop]; exact zC5 1 _)
   clear hr
   by_cases hcap : k + r < cap
   ·have hcap0 : k < cap := by omega
    have HA := hid ((H.out.below HB.out).drop hk)
    go_wp2_with fail
    refine (zAa _ _ _ (l.drop k) 1 _ HA.out (HT.out.keep HB.out)).mono ?_
    rintro e w1 ⟨rfl, hb1⟩
    have HB1 : Hid (Below w.heap.size w w1) := hid (HB.out.trans (hb1.mono HB.out.size))
    clear hb1
    rw [HR.out]
    have HA1 := hid ((H.out.below HB1.out).drop hrl)
    obtain ⟨p, hp⟩ : ∃ p, p = runL 8 (l.drop (k + r)) := ⟨_, rfl⟩
    have HP : Hid (runL 8 (l.drop (k + r)) = p) := hid hp.symm
    go_wp2_with fail
    refine (zAa _ _ _ (l.drop (k + r)) 8 _ HA1.out (HT.out.keep HB1.out)).mono ?_
    rintro e w2 ⟨rfl, hb2⟩
    have HB2 : Hid (Below w.heap.size w w2) := hid (HB1.out.trans (hb2.mono HB1.out.size))
    clear hb2
    rw [HP.out]
    have HA2 := hid ((H.out.below HB2.out).drop hrl)
    by_cases hp0 : 0 < p
    ·have h37 := zHk H.out.rng (by rw [← hp]; exact hp0)
     have hlt : k + r < len := by have := h37.1; omega
     have hpos := zBe (l := l.drop (k + r)) (by rw [zAB]; exact h37.2)
     have hmax := zCO (l.drop (k + r))
     rw [List.length_drop] at hmax
     obtain ⟨n, hn⟩ : ∃ n, n = lineL (l.drop (k + r)) := ⟨_, rfl⟩
     have HN : Hid (lineL (l.drop (k + r)) = n) := hid hn.symm
     have HS3 : Hid (skAt l (k + r + n) = sk l) := hid (by rw [hn, ← zDq H.out.rng (by omega) h37.2]; exact HS1.out)
     rw [← hn] at hpos hmax
     clear h37 hn hp
     go_wp2_with fail
     refine (zHh _ _ _ _ (l.drop (k + r)) _ HA2.out (by omega)).mono ?_
     rintro e w3 ⟨rfl, rfl⟩
     rw [HN.out]
     go_wp2
     go_step3
     refine (show LJ b off len cap l w 0 _ _ ∧ LM len 0 _ _ < m from ⟨?_, by simp [LM, intOf]; omega⟩)
     unfold LJ
     exact ⟨k + r + n, _, _, _, _, _, _, _, _, _, _, _, _, _, _, _, _, _, _, _, _, _, _, _, _, _, _, _, _, _, _, _, _, _, _, _, _, _, _, _, _, _, _, _, _, _, _, _, _, _, _, _, _, rfl, by omega, HS3, HB2⟩
    ·have hp00 : p = 0 := by omega
     have HE8 : Hid (runL 8 (l.drop (k + r)) = 0) := hid (by rw [← hp]; exact hp00)
     clear hp
     by_cases p1 : pre2 47 42 (l.drop (k + r)) = true
     ·have HQ := hid p1
      clear p1
      go_wp2_with fail
      refine (zAN _ _ _ (l.drop (k + r)) _ HA2.out).mono ?_
      rintro e w3 ⟨rfl, rfl⟩
      rw [HQ.out]
      go_wp2
      go_step3
      refine (show LJ b off len cap l w 1 _ _ ∧ LM len 1 _ _ < m from ⟨?_, by simp [LM, intOf]; omega⟩)
      unfold LJ
      exact ⟨k + r, k + r, 0, _, _, _, _, _, _, _, _, _, _, _, _, _, _, _, _, _, _, _, _, _, _, _, _, _, _, _, _, _, _, _, _, _, _, _, _, _, _, _, _, _, _, _, _, _, _, _, _, _, _, _, rfl, by omega, by omega, by omega, by omega, HQ, hid rfl, HS1, HB2⟩
     ·have hp1 : pre2 47 42 (l.drop (k + r)) = false := by simpa using p1
      have HQ := hid hp1
      have HV : Hid (sk l = (k + r, 0)) := hid (zC7 H.out.rng (by omega) HS1.out HZ.out HE8.out hp1)
      clear p1 hp1
      go_wp2_with fail
      refine (zAN _ _ _ (l.drop (k + r)) _ HA2.out).mono ?_
      rintro e w3 ⟨rfl, rfl⟩
      rw [HQ.out]
      go_wp2
      rw [Exit.toLabel_ret]
      exact bodyPost_ret (v := .tuple #[.int .i64 ((k + r : Nat) : Int), .int .i64 0]) (by simp [results, Tryz.results90, go_sem]) rfl ⟨by rw [HV.out], HB2.out⟩
   ·have hlen : len ≤ k + r := by omega
    have hcap1 : cap ≤ k + r := by omega
    by_cases hcap0 : k < cap
    ·have HA := hid ((H.out.below HB.out).drop hk)
     have HQ : Hid (pre2 47 42 (l.drop (k + r)) = false) := hid (by rw [List.drop_eq_nil_iff.2 (by omega)]; rfl)
     have HE8 : Hid (runL 8 (l.drop (k + r)) = 0) := hid (by rw [List.drop_eq_nil_iff.2 (by omega)]; rfl)
     have HV : Hid (sk l = (k + r, 0)) := hid (zC7 H.out.rng (by omega) HS1.out HZ.out HE8.out HQ.out)
     go_wp2_with fail
     refine (zAa _ _ _ (l.drop k) 1 _ HA.out (HT.out.keep HB.out)).mono ?_
     rintro e w1 ⟨rfl, hb1⟩
     have HB1 : Hid (Below w.heap.size w w1) := hid (HB.out.trans (hb1.mono HB.out.size))
     clear hb1
     rw [HR.out]
     have HA1 := hid ((H.out.below HB1.out).past (k := k + r) (by omega) (some ⟨b, off, none⟩) 0 (by decide))
     go_wp2_with fail
     refine (zAa _ _ _ (l.drop (k + r)) 8 _ HA1.out (HT.out.keep HB1.out)).mono ?_
     rintro e w2 ⟨rfl, hb2⟩
     have HB2 : Hid (Below w.heap.size w w2) := hid (HB1.out.trans (hb2.mono HB1.out.size))
     clear hb2
     rw [HE8.out]
     go_wp2_with fail
     refine (zAN _ _ _ (l.drop (k + r)) _ ((H.out.below HB2.out).past (k := k + r) (by omega) (some ⟨b, off, none⟩) 0 (by decide))).mono ?_
     rintro e w3 ⟨rfl, rfl⟩
     rw [HQ.out]
     go_wp2
     rw [Exit.toLabel_ret]
     exact bodyPost_ret (v := .tuple #[.int .i64 ((k + r : Nat) : Int), .int .i64 0]) (by simp [results, Tryz.results90, go_sem]) rfl ⟨by rw [HV.out], HB2.out⟩
    ·have hcap2 : cap ≤ k := by omega
     have hlen2 : len ≤ k := by omega
     have HA := hid ((H.out.below HB.out).past (k := k) (by omega) (some ⟨b, off, none⟩) 0 (by decide))
     have HQ : Hid (pre2 47 42 (l.drop (k + r)) = false) := hid (by rw [List.drop_eq_nil_iff.2 (by omega)]; rfl)
     have HE8 : Hid (runL 8 (l.drop (k + r)) = 0) := hid (by rw [List.drop_eq_nil_iff.2 (by omega)]; rfl)
     have HV : Hid (sk l = (k + r, 0)) := hid (zC7 H.out.rng (by omega) HS1.out HZ.out HE8.out HQ.out)
     go_wp2_with fail
     refine (zAa _ _ _ (l.drop k) 1 _ HA.out (HT.out.keep HB.out)).mono ?_
     rintro e w1 ⟨rfl, hb1⟩
     have HB1 : Hid (Below w.heap.size w w1) := hid (HB.out.trans (hb1.mono HB.out.size))
     clear hb1
     rw [HR.out]
     have HA1 := hid ((H.out.below HB1.out).past (k := k + r) (by omega) (some ⟨b, off, none⟩) 0 (by decide))
     go_wp2_with fail
     refine (zAa _ _ _ (l.drop (k + r)) 8 _ HA1.out (HT.out.keep HB1.out)).mono ?_
     rintro e w2 ⟨rfl, hb2⟩
     have HB2 : Hid (Below w.heap.size w w2) := hid (HB1.out.trans (hb2.mono HB1.out.size))
     clear hb2
     rw [HE8.out]
     go_wp2_with fail
     refine (zAN _ _ _ (l.drop (k + r)) _ ((H.out.below HB2.out).past (k := k + r) (by omega) (some ⟨b, off, none⟩) 0 (by decide))).mono ?_
     rintro e w3 ⟨rfl, rfl⟩
     rw [HQ.out]
     go_wp2
     rw [Exit.toLabel_ret]
     exact bodyPost_ret (v := .tuple #[.int .i64 ((k + r : Nat) : Int), .int .i64 0]) (by simp [results, Tryz.results90, go_sem]) rfl ⟨by rw [HV.out], HB2.out⟩
  ·obtain ⟨k, f, d, u1, u7, u8, u9, u10, u11, u12, u13, u14, u15, u16, u17, u18, u19, u20, u21, u22, u23, u24, u25, u26, u27, u28, u29, u30, u31, u32, u33, u34, u35, u36, u37, u38, u39, u40, u41, u42, u43, u44, u45, u46, u47, u48, u49, u50, u51, u52, u53, u54, u55, u56, rfl, hfk, hk, hd1, hd2, HF, HC, HS, HB⟩ := hJ
   have hm' : 2 * (len - k) = m := by simpa [LM, intOf] using hm
   clear hm
   refine ⟨_, rfl, ?_⟩
   by_cases hlt : k < len
   ·have hcap0 : k < cap := by omega
    have hne : ¬ len - k = 0 := by omega
    have HA := hid ((H.out.below HB.out).drop hk)
    by_cases p1 : pre2 47 42 (l.drop k) = true
    ·have HP := hid p1
     have hk2 := (zBP p1).1
     have HN : Hid (cmAt l (k + 2) (d + 1) = cmAt l f 0) := hid (by rw [← zF4 p1]; exact HC.out)
     clear p1
     go_wp2_with fail
     refine (zAN _ _ _ (l.drop k) _ HA.out).mono ?_
     rintro e w3 ⟨rfl, rfl⟩
     rw [HP.out]
     go_wp2
     go_step3
     refine (show LJ b off len cap l w 1 _ _ ∧ LM len 1 _ _ < m from ⟨?_, by simp [LM, intOf]; omega⟩)
     unfold LJ
     exact ⟨k + 2, f, d + 1, _, _, _, _, _, _, _, _, _, _, _, _, _, _, _, _, _, _, _, _, _, _, _, _, _, _, _, _, _, _, _, _, _, _, _, _, _, _, _, _, _, _, _, _, _, _, _, _, _, _, _, rfl, by omega, by omega, by omega, by omega, HF, HN, HS, HB⟩
    ·have hp1 : pre2 47 42 (l.drop k) = false := by simpa using p1
     have HP := hid hp1
     by_cases p2 : pre2 42 47 (l.drop k) = true
     ·have HP2 := hid p2
      have hk2 := (zBP p2).1
      by_cases hd : d = 1
      ·subst hd
       have HN : Hid (skAt l (k + 2) = sk l) := hid (by rw [← zF2 HF.out (by rw [← HC.out]; exact zF5 p2)]; exact HS.out)
       clear p1 hp1 p2
       go_wp2_with fail
       refine (zAN _ _ _ (l.drop k) _ HA.out).mono ?_
       rintro e w3 ⟨rfl, rfl⟩
       rw [HP.out]
       go_wp2_with fail
       refine (zCB _ _ _ (l.drop k) _ HA.out).mono ?_
       rintro e w3 ⟨rfl, rfl⟩
       rw [HP2.out]
       go_wp2
       go_step3
       refine (show LJ b off len cap l w 0 _ _ ∧ LM len 0 _ _ < m from ⟨?_, by simp [LM, intOf]; omega⟩)
       unfold LJ
       exact ⟨k + 2, _, _, _, _, _, _, _, _, _, _, _, _, _, _, _, _, _, _, _, _, _, _, _, _, _, _, _, _, _, _, _, _, _, _, _, _, _, _, _, _, _, _, _, _, _, _, _, _, _, _, _, _, rfl, by omega, HN, HB⟩
      ·have HN : Hid (cmAt l (k + 2) (d - 1) = cmAt l f 0) := hid (by rw [← zEm p2 hd]; exact HC.out)
       have hd' : ¬ d - 1 = 0 := by omega
       clear p1 hp1 p2
       go_wp2_with fail
       refine (zAN _ _ _ (l.drop k) _ HA.out).mono ?_
       rintro e w3 ⟨rfl, rfl⟩
       rw [HP.out]
       go_wp2_with fail
       refine (zCB _ _ _ (l.drop k) _ HA.out).mono ?_
       rintro e w3 ⟨rfl, rfl⟩
       rw [HP2.out]
       go_wp2
       go_step3
       refine (show LJ b off len cap l w 1 _ _ ∧ LM len 1 _ _ < m from ⟨?_, by simp [LM, intOf]; omega⟩)
       unfold LJ
       exact ⟨k + 2, f, d - 1, _, _, _, _, _, _, _, _, _, _, _, _, _, _, _, _, _, _, _, _, _, _, _, _, _, _, _, _, _, _, _, _, _, _, _, _, _, _, _, _, _, _, _, _, _, _, _, _, _, _, _, rfl, by omega, by omega, by omega, by omega, HF, HN, HS, HB⟩
     ·have hp2 : pre2 42 47 (l.drop k) = false := by simpa using p2
      have HP2 := hid hp2
      have HN : Hid (cmAt l (k + 1) d = cmAt l f 0) := hid (by rw [← zF6 (by omega) hp1 hp2]; exact HC.out)
      clear p1 hp1 p2 hp2
      go_wp2_with fail
      refine (zAN _ _ _ (l.drop k) _ HA.out).mono ?_
      rintro e w3 ⟨rfl, rfl⟩
      rw [HP.out]
      go_wp2_with fail
      refine (zCB _ _ _ (l.drop k) _ HA.out).mono ?_
      rintro e w3 ⟨rfl, rfl⟩
      rw [HP2.out]
      go_wp2
      go_step3
      refine (show LJ b off len cap l w 1 _ _ ∧ LM len 1 _ _ < m from ⟨?_, by simp [LM, intOf]; omega⟩)
      unfold LJ
      exact ⟨k + 1, f, d, _, _, _, _, _, _, _, _, _, _, _, _, _, _, _, _, _, _, _, _, _, _, _, _, _, _, _, _, _, _, _, _, _, _, _, _, _, _, _, _, _, _, _, _, _, _, _, _, _, _, _, rfl, by omega, by omega, by omega, by omega, HF, HN, HS, HB⟩
   ·have hlen : len ≤ k := by omega
    by_cases hcap0 : k < cap
    ·skip
     have HV : Hid (sk l = (f, 14)) := hid (by rw [← HS.out]; exact zDr HF.out (by rw [← HC.out]; exact zFD (by omega)))
     go_wp2
     rw [Exit.toLabel_ret]
     exact bodyPost_ret (v := .tuple #[.int .i64 f, .int .i64 14]) (by simp [results, Tryz.results90, go_sem]) rfl ⟨by rw [HV.out], HB.out⟩
    ·have hcap2 : cap ≤ k := by omega
     have HV : Hid (sk l = (f, 14)) := hid (by rw [← HS.out]; exact zDr HF.out (by rw [← HC.out]; exact zFD (by omega)))
     go_wp2
     rw [Exit.toLabel_ret]
     exact bodyPost_ret (v := .tuple #[.int .i64 f, .int .i64 14]) (by simp [results, Tryz.results90, go_sem]) rfl ⟨by rw [HV.out], HB.out⟩
  ·exact hJ.elim
end
section
open Go.RowKit
set_option maxRecDepth 100000 in
theorem zJl (a : Option Addr) (cap : Nat) (w : World) (hc : cap ≤ maxLen) (ht : Tab w) :
  Calls Tryz.prog 90 #[.slice a 0 cap] w fun e w' => e = .returned (.tuple #[.int .i64 (sk []).1, .int .i64 (sk []).2]) ∧ Below w.heap.size w w' := by
 have HC := hid hc
 unfold maxLen at hc
 have HT := hid ht
 clear ht
 go_enter Tryz.func90, Tryz.ntmps90
 go_wp2
 go_step3
 go_wp2
 go_step3
 go_wp2_with fail
 refine (zAa _ _ _ [] 1 _ (Bs.nil _ _ _ HC.out) HT.out).mono ?_
 rintro e w1 ⟨rfl, hb1⟩
 have HB1 := hid hb1
 clear hb1
 rw [show runL 1 [] = 0 from rfl]
 go_wp2_with fail
 refine (zAa _ _ _ [] 8 _ (Bs.nil _ _ _ HC.out) (HT.out.keep HB1.out)).mono ?_
 rintro e w2 ⟨rfl, hb2⟩
 have HB2 := hid (HB1.out.trans (hb2.mono HB1.out.size))
 clear hb2
 rw [show runL 8 [] = 0 from rfl]
 go_wp2_with fail
 refine (zAN _ _ _ [] _ (Bs.nil _ _ _ HC.out)).mono ?_
 rintro e w3 ⟨rfl, rfl⟩
 rw [show pre2 47 42 [] = false from rfl]
 go_wp2
 rw [Exit.noGoto_ret]
 exact bodyPost_ret (v := .tuple #[.int .i64 0, .int .i64 0]) (by simp [results, Tryz.results90, go_sem]) rfl ⟨rfl, HB2.out⟩
theorem zBQ (a : Option Addr) (len cap : Nat) (l : List Int) (w : World) (h : Bs w a len cap l) (ht : Tab w) (hsz : len ≤ 1000000) :
  Calls Tryz.prog 90 #[.slice a len cap] w fun e w' => e = .returned (.tuple #[.int .i64 (sk l).1, .int .i64 (sk l).2]) ∧ Below w.heap.size w w' := by
 by_cases h0 : 0 < len
 ·obtain ⟨b, off, rfl, _, _⟩ := h.at_ h0
  exact zI1 b off len cap l w h ht hsz
 ·have : len = 0 := by omega
  subst this
  have hl : l = [] := List.eq_nil_of_length_eq_zero h.hl
  subst hl
  exact zJl a cap w h.cm ht
end
end Go.Proofs.YtcjbhdgjcpnklaaGreatDoor
