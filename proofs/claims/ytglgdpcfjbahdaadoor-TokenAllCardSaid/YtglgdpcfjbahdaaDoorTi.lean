/- Next at any place, with its answer's parts by name. -/
import Derived.Test.YtglgdpcfjbahdaaDoorTh
namespace Go.Proofs.YtglgdpcfjbahdaaDoor
open Go.RowKit

def xk : Option (Nat × TR) → Int | none => 0 | some (_, t) => t.k
def xf : Option (Nat × TR) → Nat | none => 0 | some (f, _) => f
def xt : Option (Nat × TR) → Nat | none => 0 | some (f, t) => f + t.n
def xs : Option (Nat × TR) → List Int | none => [] | some (_, t) => t.t
def xe : Option (Nat × TR) → Int | none => 0 | some (_, t) => t.e
/-- The first token behind any place: none, where there is no such place. -/
def nxI (l : List Int) (k : Int) : Option (Nat × TR) := if 0 ≤ k ∧ k ≤ l.length then nx l k.toNat else none

theorem nxV_form (x : Option (Nat × TR)) : nxV x = .tuple #[.agg #[.int .i64 (xk x), .int .i64 (xf x), .int .i64 (xt x), .string (bstr (xs x)), .int .i64 (xe x)], .bool x.isSome] := by
  cases x <;> rfl

theorem next_int (a : Option Addr) (len cap : Nat) (l : List Int) (k : Int) (w : World) (h : Bs w a len cap l) (ht : Tab w) (hsz : len ≤ 1000000) :
    Calls Tryd.prog 11 #[.slice a len cap, .int .i64 k] w fun r w' => r = .returned (nxV (nxI l k)) ∧ Below w.heap.size w w' := by
  unfold nxI
  rw [h.hl]
  by_cases hk : 0 ≤ k ∧ k ≤ (len : Int)
  · rw [if_pos hk]
    obtain ⟨n, rfl⟩ := Int.eq_ofNat_of_zero_le hk.1
    exact next_any a len cap l n w h ht hsz (by omega)
  · rw [if_neg hk]
    exact next_out a len cap k w hsz (by omega)

theorem rnext_int (a : Option Addr) (len cap : Nat) (l : List Int) (k : Int) (w : World) (h : Bs w a len cap l) (hsz : len ≤ 1000000) :
    Calls Tryd.prog 12 #[.slice a len cap, .int .i64 k] w fun r w' => r = .returned (nxV (nxI l k)) ∧ Below w.heap.size w w' := by
  unfold nxI
  rw [h.hl]
  by_cases hk : 0 ≤ k ∧ k ≤ (len : Int)
  · rw [if_pos hk]
    obtain ⟨n, rfl⟩ := Int.eq_ofNat_of_zero_le hk.1
    exact rnext_any a len cap l n w h hsz (by omega)
  · rw [if_neg hk]
    exact rnext_out a len cap k w hsz (by omega)

theorem and127 (a : Int) : ∃ X : Nat, bits .and .i64 a 127 = X ∧ X ≤ 127 := by
  have h : (BitVec.ofInt 64 a &&& BitVec.ofInt 64 127).toNat ≤ 127 := by
    rw [BitVec.toNat_and]
    exact Nat.and_le_right
  refine ⟨(BitVec.ofInt 64 a &&& BitVec.ofInt 64 127).toNat, ?_, h⟩
  show IntKind.i64.wrap ((BitVec.ofInt 64 a &&& BitVec.ofInt 64 127).toNat : Int) = _
  exact IntWalk.i64_in _ (by omega)

end Go.Proofs.YtglgdpcfjbahdaaDoor
