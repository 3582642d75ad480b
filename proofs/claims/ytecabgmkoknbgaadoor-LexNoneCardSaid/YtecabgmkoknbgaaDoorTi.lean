/- Next at any place, with its answer's parts by name. -/
import Derived.Test.YtecabgmkoknbgaaDoorTy
namespace Go.Proofs.YtecabgmkoknbgaaDoor
open Go.RowKit

def xk : Option (Nat × TR) → Int | none => 0 | some (_, t) => t.k
def xf : Option (Nat × TR) → Nat | none => 0 | some (f, _) => f
def xt : Option (Nat × TR) → Nat | none => 0 | some (f, t) => f + t.n
def xs : Option (Nat × TR) → List Int | none => [] | some (_, t) => t.t
def xe : Option (Nat × TR) → Int | none => 0 | some (_, t) => t.e
theorem nxV_form (x : Option (Nat × TR)) : nxV x = .tuple #[.agg #[.int .i64 (xk x), .int .i64 (xf x), .int .i64 (xt x), .string (bstr (xs x)), .int .i64 (xe x)], .bool x.isSome] := by
  cases x <;> rfl

theorem nxV_none : nxV none = .tuple #[.agg #[.int .i64 0, .int .i64 0, .int .i64 0, .string ⟨#[]⟩, .int .i64 0], .bool false] := rfl
theorem nxV_some (f : Nat) (t : TR) : nxV (some (f, t)) = .tuple #[.agg #[.int .i64 t.k, .int .i64 f, .int .i64 (f + t.n : Nat), .string (bstr t.t), .int .i64 t.e], .bool true] := rfl

theorem next_int (a : Option Addr) (len cap : Nat) (l : List Int) (k : Int) (w : World) (h : Bs w a len cap l) (ht : Tab w) (hsz : len ≤ 1000000) :
    Calls Tryd.prog 24 #[.slice a len cap, .int .i64 k] w fun r w' => r = .returned (nxV (nxI l k)) ∧ Below w.heap.size w w' := by
  unfold nxI
  rw [h.hl]
  by_cases hk : 0 ≤ k ∧ k ≤ (len : Int)
  · rw [if_pos hk]
    obtain ⟨n, rfl⟩ := Int.eq_ofNat_of_zero_le hk.1
    exact next_any a len cap l n w h ht hsz (by omega)
  · rw [if_neg hk]
    exact next_out a len cap k w hsz (by omega)

/-- A token that there is: where it begins, and what it is like. -/
theorem nx_good {l : List Int} {k f : Nat} {t : TR} (hk : k ≤ l.length) (hr : ∀ x ∈ l, 0 ≤ x ∧ x ≤ 255) (h : nx l k = some (f, t)) :
    f = k + (sk (l.drop k)).1 ∧ f < l.length ∧ TG (l.drop f) t := by
  obtain ⟨n, z, hs, hn, hz⟩ := sk_ways l k hk
  by_cases h0 : z = 0
  · subst h0
    by_cases he : k + n = l.length
    · rw [nx_none hs he] at h; cases h
    · rw [nx_some hs he] at h
      simp only [Option.some.injEq, Prod.mk.injEq] at h
      obtain ⟨rfl, rfl⟩ := h
      exact ⟨by rw [hs], by omega, firstT_good (by rw [List.length_drop]; omega) fun x hx => hr x (List.drop_subset _ _ hx)⟩
  · have h1 := hz h0
    rw [nx_err hs h0] at h
    simp only [Option.some.injEq, Prod.mk.injEq] at h
    obtain ⟨rfl, rfl⟩ := h
    refine ⟨by rw [hs], h1.1, ⟨by show 1 ≤ l.length - (k + n); omega, by show l.length - (k + n) ≤ _; rw [List.length_drop]; omega, by simp, by simp, ?_, fun _ => rfl, fun hh => absurd rfl hh⟩⟩
    simpa using h0

/-- Where there is no token all is layout. -/
theorem nx_gone {l : List Int} {k : Nat} (hk : k ≤ l.length) (h : nx l k = none) : sk (l.drop k) = (l.length - k, 0) := by
  obtain ⟨n, z, hs, hn, hz⟩ := sk_ways l k hk
  by_cases h0 : z = 0
  · subst h0
    by_cases he : k + n = l.length
    · rw [hs, ← he, Nat.add_sub_cancel_left]
    · rw [nx_some hs he] at h; cases h
  · rw [nx_err hs h0] at h; cases h

theorem nxI_nat {l : List Int} {k : Nat} (hk : k ≤ l.length) : nxI l (k : Int) = nx l k := by
  unfold nxI
  rw [if_pos (by omega)]
  rfl

theorem and127 (a : Int) : ∃ X : Nat, bits .and .i64 a 127 = X ∧ X ≤ 127 := by
  have h : (BitVec.ofInt 64 a &&& BitVec.ofInt 64 127).toNat ≤ 127 := by
    rw [BitVec.toNat_and]
    exact Nat.and_le_right
  refine ⟨(BitVec.ofInt 64 a &&& BitVec.ofInt 64 127).toNat, ?_, h⟩
  show IntKind.i64.wrap ((BitVec.ofInt 64 a &&& BitVec.ofInt 64 127).toNat : Int) = _
  exact IntWalk.i64_in _ (by omega)

end Go.Proofs.YtecabgmkoknbgaaDoor
