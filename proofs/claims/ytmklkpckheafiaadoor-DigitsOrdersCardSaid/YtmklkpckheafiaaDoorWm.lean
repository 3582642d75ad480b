/- The plain mathematics of DigitsOrders: digits in order. No walk here. -/
import Derived.Test.YtmklkpckheafiaaDoorPm
import Derived.Test.YtmklkpckheafiaaDoorBc
namespace Go.Proofs.YtmklkpckheafiaaDoor
open Go.RowKit

theorem digL_mono : ∀ X Y : Nat, X ≤ Y → (digL X).length ≤ (digL Y).length := by
  intro X
  induction X using Nat.strongRecOn with
  | ind X ih =>
    intro Y h
    by_cases h1 : X < 10
    · rw [digL_small h1]; exact digL_pos Y
    · rw [digL_big h1, digL_big (n := Y) (by omega)]
      have := ih (X / 10) (by omega) (Y / 10) (by omega)
      simp; omega

def fol (a : Int) (l : List Int) : Int := l.foldl (fun n c => n * 10 + (c - 48)) a

theorem fol_lt : ∀ (l k : List Int) (a b : Int), l.length = k.length → digs l → digs k → a < b → fol a l < fol b k
  | [], [], a, b, _, _, _, h => h
  | c :: l, d :: k, a, b, hl, h1, h2, h => by
    have hc := h1 c (by simp)
    have hd := h2 d (by simp)
    exact fol_lt l k (a * 10 + (c - 48)) (b * 10 + (d - 48)) (by simpa using hl) (fun x hx => h1 x (by simp [hx])) (fun x hx => h2 x (by simp [hx])) (by omega)

/-- Bytes compared as Go compares them, as numbers. -/
def lessL : List Int → List Int → Bool
  | _, [] => false
  | [], _ :: _ => true
  | a :: x, b :: y => decide (a < b) || (a == b && lessL x y)

theorem less_fol : ∀ (l k : List Int) (a : Int), l.length = k.length → digs l → digs k → lessL l k = decide (fol a l < fol a k)
  | [], [], a, _, _, _ => by simp [lessL, fol]
  | c :: l, d :: k, a, hl, h1, h2 => by
    have hc := h1 c (by simp)
    have hd := h2 d (by simp)
    have hl' : l.length = k.length := by simpa using hl
    have g1 : digs l := fun x hx => h1 x (by simp [hx])
    have g2 : digs k := fun x hx => h2 x (by simp [hx])
    show (decide (c < d) || (c == d && lessL l k)) = decide (fol (a * 10 + (c - 48)) l < fol (a * 10 + (d - 48)) k)
    by_cases h : c < d
    · have := fol_lt l k (a * 10 + (c - 48)) (a * 10 + (d - 48)) hl' g1 g2 (by omega)
      simp [h, this]
    · by_cases he : c = d
      · subst he
        rw [less_fol l k (a * 10 + (c - 48)) hl' g1 g2]
        simp
      · have := fol_lt k l (a * 10 + (d - 48)) (a * 10 + (c - 48)) hl'.symm g2 g1 (by omega)
        have h3 : ¬ fol (a * 10 + (c - 48)) l < fol (a * 10 + (d - 48)) k := by omega
        simp [h, he, h3]

theorem less_bstr : ∀ (l k : List Int), (∀ x ∈ l, 0 ≤ x ∧ x ≤ 255) → (∀ x ∈ k, 0 ≤ x ∧ x ≤ 255) → Op.bytesLess (l.map fun x => UInt8.ofNat x.toNat) (k.map fun x => UInt8.ofNat x.toNat) = lessL l k
  | _, [], _, _ => by simp [Op.bytesLess, lessL]
  | [], _ :: _, _, _ => rfl
  | a :: x, b :: y, h1, h2 => by
    have ha := h1 a (by simp)
    have hb := h2 b (by simp)
    have ih := less_bstr x y (fun z hz => h1 z (by simp [hz])) (fun z hz => h2 z (by simp [hz]))
    have ea : ((UInt8.ofNat a.toNat).toNat : Int) = a := u8_back ha
    have eb : ((UInt8.ofNat b.toNat).toNat : Int) = b := u8_back hb
    have e1 : decide (UInt8.ofNat a.toNat < UInt8.ofNat b.toNat) = decide (a < b) := by
      rw [decide_eq_decide, UInt8.lt_iff_toNat_lt]; omega
    have e2 : (UInt8.ofNat a.toNat == UInt8.ofNat b.toNat) = (a == b) := by
      rw [Bool.eq_iff_iff, beq_iff_eq, beq_iff_eq, ← UInt8.toNat_inj]; omega
    show (decide (UInt8.ofNat a.toNat < UInt8.ofNat b.toNat) || (UInt8.ofNat a.toNat == UInt8.ofNat b.toNat && _)) = _
    rw [e1, e2, ih]; rfl

theorem order_eq (X Y : Nat) (h : (digL X).length = (digL Y).length) : Op.bytesLess (bstr (digL X)).toList (bstr (digL Y)).toList = decide (X < Y) := by
  rw [bstr_toList, bstr_toList, less_bstr _ _ (digL_rng X) (digL_rng Y), less_fol _ _ 0 h (digL_digs X) (digL_digs Y)]
  have e1 : fol 0 (digL X) = X := numL_digL X
  have e2 : fol 0 (digL Y) = Y := numL_digL Y
  rw [e1, e2, decide_eq_decide]; omega

theorem order_ne (X Y : Nat) (h : ¬ (digL X).length = (digL Y).length) : decide ((digL X).length < (digL Y).length) = decide (X < Y) := by
  rw [decide_eq_decide]
  have h1 := digL_mono X Y
  have h2 := digL_mono Y X
  omega

theorem order_same (X Y : Nat) : ((bstr (digL X)).toList == (bstr (digL Y)).toList) = ((X : Int) == (Y : Int)) := by
  rw [Bool.eq_iff_iff, beq_iff_eq, beq_iff_eq]
  constructor
  · intro h
    have := congrArg numL (bstr_inj (digL_rng X) (digL_rng Y) h)
    rw [numL_digL, numL_digL] at this
    exact this
  · intro h
    rw [show X = Y by omega]

end Go.Proofs.YtmklkpckheafiaaDoor
