/- The plain mathematics of layer 3: a number's digits. No walk here. -/
import Derived.Test.YtmklkpckheafiaaDoorDm
import Derived.Lib.ItoaNum
import Derived.Lib.ItoaMem
import Derived.Shelf.Strconv.AppendIntPublic10
namespace Go.Proofs.YtmklkpckheafiaaDoor
open Go.RowKit

/-- A number's digits, as bytes. -/
def digL (n : Nat) : List Int := (Lib.decDigits n).map fun b => (b.toNat : Int)

theorem digL_small {n : Nat} (h : n < 10) : digL n = [48 + (n : Int)] := by
  unfold digL
  rw [Lib.decDigits_one h]
  simp only [List.map_cons, List.map_nil, UInt8.toNat_ofNat']
  congr 1
  omega

theorem digL_big {n : Nat} (h : ¬ n < 10) : digL n = digL (n / 10) ++ [48 + ((n % 10 : Nat) : Int)] := by
  unfold digL
  rw [Lib.decDigits, dif_neg h]
  simp only [List.map_append, List.map_cons, List.map_nil, UInt8.toNat_ofNat']
  congr 2
  omega

theorem digL_cells (n : Nat) : (digL n).map (Value.int .u8) = Lib.byteCells (Lib.decDigits n) := by
  unfold digL Lib.byteCells; rw [List.map_map]; rfl

theorem digL_digs : ∀ n : Nat, digs (digL n) := by
  intro n
  induction n using Nat.strongRecOn with
  | ind n ih =>
    intro x hx
    by_cases h : n < 10
    · rw [digL_small h] at hx; simp at hx; omega
    · rw [digL_big h] at hx
      simp only [List.mem_append, List.mem_singleton] at hx
      rcases hx with hx | hx
      · exact ih (n / 10) (by omega) x hx
      · omega

theorem digL_rng (n : Nat) : ∀ x ∈ digL n, 0 ≤ x ∧ x ≤ 255 := fun x hx => by have := digL_digs n x hx; omega

theorem digL_len (n : Nat) : (digL n).length = (Lib.decDigits n).length := by unfold digL; simp

theorem digL_pos (n : Nat) : 0 < (digL n).length := by
  by_cases h : n < 10
  · rw [digL_small h]; simp
  · rw [digL_big h]; simp

theorem digL_le (n : Nat) (h : n ≤ 2147483647) : (digL n).length ≤ 10 := by
  suffices ∀ k n : Nat, n < 10 ^ (k + 1) → (digL n).length ≤ k + 1 from this 9 n (by omega)
  intro k
  induction k with
  | zero => intro n hn; rw [digL_small (by omega)]; simp
  | succ k ih =>
    intro n hn
    by_cases h : n < 10
    · rw [digL_small h]; simp
    · rw [digL_big h]
      have := ih (n / 10) (by rw [Nat.div_lt_iff_lt_mul (by omega)]; rw [Nat.pow_succ] at hn; exact hn)
      simp; omega

theorem numL_digL : ∀ n : Nat, numL (digL n) = n := by
  intro n
  induction n using Nat.strongRecOn with
  | ind n ih =>
    by_cases h : n < 10
    · rw [digL_small h]; show 0 * 10 + (48 + (n : Int) - 48) = n; omega
    · rw [digL_big h, numL_snoc, ih (n / 10) (by omega)]; omega

end Go.Proofs.YtmklkpckheafiaaDoor
