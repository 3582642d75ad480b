/- 'and' of two numbers of 64 bits that are not negative. No program here. -/
import Derived.WalkKit
import Derived.Laws.BitsAllLaws
import Derived.IntWalk
namespace Go.Proofs.YtmklkpckheafiaaDoor
open Go.RowKit

theorem i64_and_nat (a b : Nat) (ha : a < 9223372036854775808) (hb : b < 9223372036854775808) : bits .and .i64 (a : Int) (b : Int) = ((a &&& b : Nat) : Int) := by
  have hx : a &&& b < 2 ^ 63 := Nat.and_lt_two_pow _ (by omega)
  show IntKind.i64.wrap ((BitVec.ofInt 64 (a : Int) &&& BitVec.ofInt 64 (b : Int)).toNat : Int) = _
  have e : ∀ n : Nat, n < 9223372036854775808 → (BitVec.ofInt 64 (n : Int)).toNat = n := fun n hn => by
    rw [BitVec.ofInt_natCast, BitVec.toNat_ofNat]; exact Nat.mod_eq_of_lt (by omega)
  rw [BitVec.toNat_and, e a ha, e b hb]
  exact IntWalk.i64_in _ (by omega)

/-- A number masked with 2^31 - 1 is from 0 to that. -/
theorem mask31 (a : Int) (h0 : 0 ≤ a) (h1 : a ≤ 4294967295) : ∃ X : Nat, bits .and .i64 a 2147483647 = X ∧ X ≤ 2147483647 := by
  obtain ⟨A, rfl⟩ := Int.eq_ofNat_of_zero_le h0
  refine ⟨A &&& 2147483647, i64_and_nat A 2147483647 (by omega) (by omega), ?_⟩
  exact Nat.and_le_right

theorem u32_rng {c : Int} (h : (Lit.int .u32 c).wf = true) : 0 ≤ c ∧ c ≤ 4294967295 := by
  have h1 : IntKind.u32.min = 0 := rfl
  have h2 : IntKind.u32.max = 4294967295 := rfl
  simp only [Lit.wf, Bool.and_eq_true, decide_eq_true_eq] at h
  omega

end Go.Proofs.YtmklkpckheafiaaDoor
