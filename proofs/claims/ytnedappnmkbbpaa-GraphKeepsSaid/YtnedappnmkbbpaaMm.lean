/- Mathematics of graph: the bits of a number of 64 bits; what leads where; what an edge makes of that. No program here. -/
import Derived.Test.YtnedappnmkbbpaaUm
import Derived.WalkKit
import Derived.Laws.BitsAllLaws
import Derived.IntWalk
namespace Go.Proofs.Ytnedappnmkbbpaa
open Go.RowKit

def I64 (a : Int) : Prop := -9223372036854775808 ≤ a ∧ a ≤ 9223372036854775807
/-- Bit k of a number of 64 bits. -/
def tb (a : Int) (k : Nat) : Bool := (BitVec.ofInt 64 a).getLsbD k

theorem bits_i64 (op : BinOp) (a b : Int) (v : BitVec 64) (h : bits op .i64 a b = IntKind.i64.wrap (v.toNat : Int)) : I64 (bits op .i64 a b) ∧ ∀ k, tb (bits op .i64 a b) k = v.getLsbD k := by
  have hv := v.isLt
  have e := IntKind.wrap_i64 (v.toNat : Int)
  rw [h]
  refine ⟨by unfold I64; rw [e]; omega, fun k => ?_⟩
  unfold tb
  congr 1
  apply BitVec.eq_of_toNat_eq
  rw [BitVec.toNat_ofInt, e]
  omega

theorem or_rng (a b : Int) : I64 (bits .or .i64 a b) := (bits_i64 .or a b _ rfl).1
theorem tb_or (a b : Int) (k : Nat) : tb (bits .or .i64 a b) k = (tb a k || tb b k) := by
  rw [(bits_i64 .or a b (BitVec.ofInt 64 a ||| BitVec.ofInt 64 b) rfl).2, BitVec.getLsbD_or]; rfl
theorem and_rng (a b : Int) : I64 (bits .and .i64 a b) := (bits_i64 .and a b _ rfl).1
theorem tb_and (a b : Int) (k : Nat) : tb (bits .and .i64 a b) k = (tb a k && tb b k) := by
  rw [(bits_i64 .and a b (BitVec.ofInt 64 a &&& BitVec.ofInt 64 b) rfl).2, BitVec.getLsbD_and]; rfl

theorem tb_big (a : Int) {k : Nat} (h : 64 ≤ k) : tb a k = false := BitVec.getLsbD_of_ge _ _ h

theorem tb_ext {a b : Int} (ha : I64 a) (hb : I64 b) (h : ∀ k, k < 64 → tb a k = tb b k) : a = b := by
  have e : BitVec.ofInt 64 a = BitVec.ofInt 64 b := BitVec.eq_of_getLsbD_eq fun k hk => h k hk
  have e2 := congrArg BitVec.toNat e
  rw [BitVec.toNat_ofInt, BitVec.toNat_ofInt] at e2
  unfold I64 at ha hb
  omega

theorem tb_zero (k : Nat) : tb 0 k = false := by simp [tb]

theorem tb_pow : ∀ h, h < 10 → ∀ k, k < 64 → tb (2 ^ h) k = decide (k = h) := by decide +kernel
theorem tb_pow' {h : Nat} (hh : h < 10) (k : Nat) : tb (2 ^ h) k = decide (k = h) := by
  by_cases hk : k < 64
  · exact tb_pow h hh k hk
  · rw [tb_big _ (by omega), decide_eq_false (by omega)]
theorem pow_rng : ∀ h, h < 10 → IntKind.i64.wrap (2 ^ h) = 2 ^ h := by decide +kernel

/-- Setting a bit that is there changes nothing. -/
theorem or_same {a : Int} (ha : I64 a) {h : Nat} (hh : h < 10) : bits .or .i64 a (2 ^ h) = a ↔ tb a h = true := by
  refine ⟨fun e => ?_, fun e => ?_⟩
  · have := tb_or a (2 ^ h) h
    rw [e, tb_pow' hh, decide_eq_true rfl, Bool.or_true] at this
    exact this
  · refine tb_ext (or_rng _ _) ha fun k _ => ?_
    rw [tb_or, tb_pow' hh]
    by_cases hk : k = h
    · subst hk; rw [e]; rfl
    · rw [decide_eq_false hk, Bool.or_false]

/-- The document's way to read a bit. -/
theorem shr_bit (a : Int) {h : Nat} (hh : h < 10) : bits .and .i64 (a / 2 ^ h) 1 = 1 ↔ tb a h = true := by
  have e1 : tb a h = decide (a / 2 ^ h % 2 = 1) := by
    unfold tb
    rw [BitVec.getLsbD, Nat.testBit_eq_decide_div_mod_eq, BitVec.toNat_ofInt]
    congr 1
    obtain rfl | rfl | rfl | rfl | rfl | rfl | rfl | rfl | rfl | rfl : h = 0 ∨ h = 1 ∨ h = 2 ∨ h = 3 ∨ h = 4 ∨ h = 5 ∨ h = 6 ∨ h = 7 ∨ h = 8 ∨ h = 9 := by omega
    all_goals (apply propext; simp only [Int.reducePow, Nat.reducePow]; omega)
  have e2 : bits .and .i64 (a / 2 ^ h) 1 = a / 2 ^ h % 2 := by
    generalize a / 2 ^ h = q
    show IntKind.i64.wrap ((BitVec.ofInt 64 q &&& BitVec.ofInt 64 1).toNat : Int) = _
    have : (BitVec.ofInt 64 q &&& BitVec.ofInt 64 1).toNat = (q % 2).toNat := by
      rw [BitVec.toNat_and, BitVec.toNat_ofInt, show (BitVec.ofInt 64 1).toNat = 1 from rfl, Nat.and_one_is_mod]
      omega
    rw [this, IntKind.wrap_i64]
    omega
  rw [e1, e2, decide_eq_true_eq]

/-- Or is one, whatever the order. -/
theorem or_order (x p y : Int) : bits .or .i64 x (bits .or .i64 p y) = bits .or .i64 (bits .or .i64 x y) p := by
  refine tb_ext (or_rng _ _) (or_rng _ _) fun k _ => ?_
  rw [tb_or, tb_or, tb_or, tb_or]
  cases tb x k <;> cases tb p k <;> cases tb y k <;> rfl

/-- h is tighter than g, by the rows z. -/
def T (z : List Int) (g h : Nat) : Bool := tb (bt z g) h

/-- What an edge makes of row i. -/
def eRow (z : List Int) (g h i : Nat) : Int := if i = g ∨ T z i g = true then bits .or .i64 (bt z i) (bits .or .i64 (2 ^ h) (bt z h)) else bt z i
/-- The rows up to n turned. -/
def eTo (z : List Int) (g h n : Nat) : List Int := (List.range 10).map fun i => if i < n then eRow z g h i else bt z i
/-- What an edge makes of rows. -/
def eR (z : List Int) (g h : Nat) : List Int := eTo z g h 10

theorem eTo_len (z : List Int) (g h n : Nat) : (eTo z g h n).length = 10 := by simp [eTo]
theorem eTo_at (z : List Int) (g h n : Nat) {i : Nat} (hi : i < 10) : bt (eTo z g h n) i = if i < n then eRow z g h i else bt z i := by
  simp [eTo, bt, List.getD, hi]
theorem bt_ext {a b : List Int} (ha : a.length = 10) (hb : b.length = 10) (h : ∀ i, i < 10 → bt a i = bt b i) : a = b := by
  apply List.ext_getElem (by omega)
  intro i h1 h2
  have := h i (by omega)
  simpa [bt, List.getD, h1, h2] using this
theorem bt_set' {z : List Int} (hz : z.length = 10) (j k : Nat) (x : Int) (hk : k < 10) : bt (z.set k x) j = if j = k then x else bt z j := by
  unfold bt
  by_cases h : j = k
  · subst h; simp [List.getD, hz, hk]
  · rw [if_neg h]; simp [List.getD, List.getElem?_set_ne (fun e => h e.symm)]
theorem eTo_zero {z : List Int} (hz : z.length = 10) (g h : Nat) : eTo z g h 0 = z :=
  bt_ext (eTo_len ..) hz fun i hi => by rw [eTo_at _ _ _ _ hi, if_neg (by omega)]
theorem eTo_yes {z : List Int} {g h n : Nat} (hn : n < 10) (hc : n = g ∨ T z n g = true) : (eTo z g h n).set n (bits .or .i64 (bt (eTo z g h n) n) (bits .or .i64 (2 ^ h) (bt z h))) = eTo z g h (n + 1) := by
  refine bt_ext (by simp [eTo_len]) (eTo_len ..) fun i hi => ?_
  rw [bt_set' (eTo_len ..) _ _ _ hn, eTo_at _ _ _ _ hi, eTo_at _ _ _ _ hi, eTo_at _ _ _ _ hn]
  by_cases hin : i = n
  · subst hin; rw [if_pos rfl, if_neg (by omega), if_pos (by omega), eRow, if_pos hc]
  · rw [if_neg hin]
    by_cases h2 : i < n
    · rw [if_pos h2, if_pos (by omega)]
    · rw [if_neg h2, if_neg (by omega)]
theorem eTo_yes' {z : List Int} {g h n : Nat} (hn : n < 10) (hc : n = g ∨ T z n g = true) : (eTo z g h n).set n (bits .or .i64 (bits .or .i64 (bt z n) (bt z h)) (2 ^ h)) = eTo z g h (n + 1) := by
  rw [← eTo_yes hn hc, or_order, eTo_at _ _ _ _ hn, if_neg (by omega)]
theorem eTo_no {z : List Int} {g h n : Nat} (hn : n < 10) (hc : ¬ (n = g ∨ T z n g = true)) : eTo z g h (n + 1) = eTo z g h n := by
  refine bt_ext (eTo_len ..) (eTo_len ..) fun i hi => ?_
  rw [eTo_at _ _ _ _ hi, eTo_at _ _ _ _ hi]
  by_cases hin : i = n
  · subst hin; rw [if_pos (by omega), if_neg (by omega), eRow, if_neg hc]
  · by_cases h2 : i < n
    · rw [if_pos h2, if_pos (by omega)]
    · rw [if_neg h2, if_neg (by omega)]

/-- The ladder, the edges. -/
def lad (a b : Nat) : Prop := 1 ≤ b ∧ b < a ∧ a ≤ 5
def stp (E : List (Nat × Nat)) (a b : Nat) : Prop := lad a b ∨ (a, b) ∈ E
def Ld (E : List (Nat × Nat)) : Nat → Nat → Prop := Relation.TransGen (stp E)

theorem Ld.trans {E : List (Nat × Nat)} {a b c : Nat} (h : Ld E a b) (k : Ld E b c) : Ld E a c := Relation.TransGen.trans h k
theorem Ld.mono {E F : List (Nat × Nat)} (hs : ∀ p ∈ E, p ∈ F) {a b : Nat} (h : Ld E a b) : Ld F a b := by
  have hst : ∀ {x y}, stp E x y → stp F x y := fun hxy => hxy.imp id (hs _)
  induction h with
  | single h => exact .single (hst h)
  | tail _ h ih => exact .tail ih (hst h)

def inG (p : Nat × Nat) : Prop := 1 ≤ p.1 ∧ p.1 ≤ 9 ∧ 1 ≤ p.2 ∧ p.2 ≤ 9
theorem stp_in {E : List (Nat × Nat)} (hE : ∀ p ∈ E, inG p) {a b : Nat} (h : stp E a b) : inG (a, b) := by
  rcases h with h | h
  · obtain ⟨h1, h2, h3⟩ := h; exact ⟨by show 1 ≤ a; omega, by show a ≤ 9; omega, h1, by show b ≤ 9; omega⟩
  · exact hE _ h
theorem Ld.inG {E : List (Nat × Nat)} (hE : ∀ p ∈ E, inG p) {a b : Nat} (h : Ld E a b) : inG (a, b) := by
  induction h with
  | single h => exact stp_in hE h
  | tail _ h ih => have := stp_in hE h; exact ⟨ih.1, ih.2.1, this.2.2⟩

theorem Ld.ladder {a b : Nat} (h : Ld [] a b) : lad a b := by
  have hst : ∀ {x y}, stp [] x y → lad x y := fun h => h.elim id (fun h => by simp at h)
  induction h with
  | single h => exact hst h
  | tail _ h ih =>
    have := hst h
    unfold lad at *
    omega

/-- What one edge more adds. -/
theorem Ld.more {E : List (Nat × Nat)} {g h a b : Nat} : Ld (E ++ [(g, h)]) a b ↔ Ld E a b ∨ ((a = g ∨ Ld E a g) ∧ (b = h ∨ Ld E h b)) := by
  have hm : ∀ {x y}, Ld E x y → Ld (E ++ [(g, h)]) x y := fun hxy => hxy.mono (fun p hp => List.mem_append_left _ hp)
  have hs : Ld (E ++ [(g, h)]) g h := .single (.inr (by simp))
  have split : ∀ {x y}, stp (E ++ [(g, h)]) x y → stp E x y ∨ (x = g ∧ y = h) := fun hxy => by
    rcases hxy with h1 | h1
    · exact .inl (.inl h1)
    · rcases List.mem_append.1 h1 with h2 | h2
      · exact .inl (.inr h2)
      · simp only [List.mem_cons, Prod.mk.injEq, List.not_mem_nil, or_false] at h2; exact .inr h2
  refine ⟨fun hab => ?_, fun hab => ?_⟩
  · induction hab with
    | single h1 =>
      rcases split h1 with h2 | ⟨rfl, rfl⟩
      · exact .inl (.single h2)
      · exact .inr ⟨.inl rfl, .inl rfl⟩
    | tail _ h1 ih =>
      rcases split h1 with h2 | ⟨rfl, rfl⟩
      · rcases ih with h3 | ⟨h3, h4⟩
        · exact .inl (h3.tail h2)
        · refine .inr ⟨h3, .inr ?_⟩
          rcases h4 with rfl | h4
          · exact .single h2
          · exact h4.tail h2
      · refine .inr ⟨?_, .inl rfl⟩
        rcases ih with h3 | ⟨h3, _⟩
        · exact .inr h3
        · exact h3
  · rcases hab with h1 | ⟨h1, h2⟩
    · exact hm h1
    · have h3 : Ld (E ++ [(g, h)]) a h := by
        rcases h1 with rfl | h1
        · exact hs
        · exact (hm h1).trans hs
      rcases h2 with rfl | h2
      · exact h3
      · exact h3.trans (hm h2)

/-- These rows say what the ladder and these edges lead to; and it never comes round. -/
structure Inv (z : List Int) (E : List (Nat × Nat)) : Prop where
  len : z.length = 10
  rng : ∀ i, i < 10 → I64 (bt z i)
  edg : ∀ p ∈ E, inG p
  iff : ∀ i k, i < 10 → (tb (bt z i) k = true ↔ Ld E i k)
  acy : ∀ i, ¬ Ld E i i

/-- The ladder's rows. -/
def zS : List Int := [0, 0, 2, 6, 14, 30, 0, 0, 0, 0]
theorem zS_bits : ∀ i, i < 10 → ∀ k, k < 64 → tb (bt zS i) k = decide (1 ≤ k ∧ k < i ∧ i ≤ 5) := by decide +kernel
theorem zS_rng : ∀ i, i < 10 → -9223372036854775808 ≤ bt zS i ∧ bt zS i ≤ 9223372036854775807 := by decide +kernel

theorem inv_start : Inv zS [] := by
  refine ⟨rfl, zS_rng, by simp, fun i k hi => ?_, fun i h => ?_⟩
  · by_cases hk : k < 64
    · rw [zS_bits i hi k hk, decide_eq_true_eq]
      exact ⟨fun h => .single (.inl h), fun h => h.ladder⟩
    · rw [tb_big _ (by omega)]
      refine ⟨fun h => by simp at h, fun h => ?_⟩
      have := h.ladder
      unfold lad at this
      omega
  · have := h.ladder
    unfold lad at this
    omega

theorem eRow_rng {z : List Int} (hr : ∀ i, i < 10 → I64 (bt z i)) (g h : Nat) {i : Nat} (hi : i < 10) : I64 (eRow z g h i) := by
  unfold eRow
  split
  · exact or_rng _ _
  · exact hr i hi
theorem eRow_bit (z : List Int) (g : Nat) {h : Nat} (hh : h < 10) (i k : Nat) : tb (eRow z g h i) k = true ↔ (tb (bt z i) k = true ∨ ((i = g ∨ T z i g = true) ∧ (k = h ∨ tb (bt z h) k = true))) := by
  unfold eRow
  split
  · rename_i hc
    rw [tb_or, tb_or, tb_pow' hh, Bool.or_eq_true, Bool.or_eq_true, decide_eq_true_eq]
    exact ⟨fun h => h.imp id (fun h => ⟨hc, h⟩), fun h => h.imp id (fun h => h.2)⟩
  · rename_i hc
    exact ⟨.inl, fun h => h.elim id (fun h => absurd h.1 hc)⟩

theorem Inv.edge {z : List Int} {E : List (Nat × Nat)} (H : Inv z E) {g h : Nat} (hi : inG (g, h)) (hne : g ≠ h) (ht : T z h g = false) : Inv (eR z g h) (E ++ [(g, h)]) := by
  obtain ⟨g1, g2, h1, h2⟩ := hi
  simp only at g1 g2 h1 h2
  have hb : ∀ i, i < 10 → bt (eR z g h) i = eRow z g h i := fun i hi => by rw [eR, eTo_at _ _ _ _ hi, if_pos hi]
  have hng : ¬ Ld E h g := fun hl => by rw [← H.iff h g (by omega)] at hl; unfold T at ht; rw [ht] at hl; cases hl
  refine ⟨eTo_len .., fun i hi => by rw [hb i hi]; exact eRow_rng H.rng g h hi, fun p hp => ?_, fun i k hi => ?_, fun i hl => ?_⟩
  · rcases List.mem_append.1 hp with hp | hp
    · exact H.edg p hp
    · simp only [List.mem_cons, List.not_mem_nil, or_false] at hp; subst hp; exact ⟨g1, g2, h1, h2⟩
  · rw [hb i hi, eRow_bit z g (by omega), Ld.more, T, H.iff i k hi, H.iff i g hi, H.iff h k (by omega)]
  · rw [Ld.more] at hl
    rcases hl with hl | ⟨hl, hl2⟩
    · exact H.acy i hl
    · rcases hl with rfl | hl
      · rcases hl2 with rfl | hl2
        · exact hne rfl
        · exact hng hl2
      · rcases hl2 with rfl | hl2
        · exact hng hl
        · exact hng (hl2.trans hl)

theorem Inv.ext {z z' : List Int} {E E' : List (Nat × Nat)} (H : Inv z E) (H' : Inv z' E') (h : ∀ a b, Ld E a b ↔ Ld E' a b) : z = z' :=
  bt_ext H.len H'.len fun i hi => tb_ext (H.rng i hi) (H'.rng i hi) fun k _ => by
    rw [Bool.eq_iff_iff, H.iff i k hi, H'.iff i k hi]; exact h i k

theorem Inv.T {z : List Int} {E : List (Nat × Nat)} (H : Inv z E) {g h : Nat} (hg : g < 10) : T z g h = true ↔ Ld E g h := H.iff g h hg

/-- An edge changes nothing just if it says what is so. -/
theorem Inv.same {z : List Int} {E : List (Nat × Nat)} (H : Inv z E) {g h : Nat} (hi : inG (g, h)) (hne : g ≠ h) (ht : Go.Proofs.Ytnedappnmkbbpaa.T z h g = false) : (eR z g h = z ↔ Ld E g h) ∧ Go.Proofs.Ytnedappnmkbbpaa.T (eR z g h) g h = true := by
  have H2 := H.edge hi hne ht
  have hs : Go.Proofs.Ytnedappnmkbbpaa.T (eR z g h) g h = true := (H2.T (by have := hi.2.1; simp only at this; omega)).2 (Ld.more.2 (.inr ⟨.inl rfl, .inl rfl⟩))
  refine ⟨⟨fun e => ?_, fun hl => ?_⟩, hs⟩
  · rw [e] at hs
    exact (H.T (by have := hi.2.1; simp only at this; omega)).1 hs
  · refine H2.ext H fun a b => ?_
    rw [Ld.more]
    refine ⟨fun hab => ?_, .inl⟩
    rcases hab with hab | ⟨h1, h2⟩
    · exact hab
    · have h3 : Ld E a h := by
        rcases h1 with rfl | h1
        · exact hl
        · exact h1.trans hl
      rcases h2 with rfl | h2
      · exact h3
      · exact h3.trans h2

end Go.Proofs.Ytnedappnmkbbpaa
