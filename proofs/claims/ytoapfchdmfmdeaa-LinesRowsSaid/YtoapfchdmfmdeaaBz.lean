/- b[k:] of a slice of bytes, whatever room there is (as in XNu, which speaks of ropes besides). -/
import Derived.Test.YtoapfchdmfmdeaaBy
namespace Go.Proofs.Ytoapfchdmfmdeaa
open Go.RowKit

theorem slice_from {g off n c k : Nat} (hk : k ≤ n) (hc : n ≤ c) (_ : c ≤ maxLen) : ∃ a' c', (∀ w, (Instr.slice 22 (.slice (some ⟨g, off, none⟩) n c) (some (.int .i64 k)) none none).run Try.prog w = .ok (.slice a' (n - k) c') w) ∧
    ∀ w l, Bs w (some ⟨g, off, none⟩) n c l → Bs w a' (n - k) c' (l.drop k) := by
  obtain ⟨i, hi, hz, hs, hby⟩ := info_parts info5
  have he : Try.prog.elem 22 = 5 := by kernel_rfl
  have hr : ∀ w, (Instr.slice 22 (.slice (some ⟨g, off, none⟩) n c) (some (.int .i64 k)) none none).run Try.prog w = .ok (sliced (some ⟨g, off, none⟩) k n c 1) w := fun w => by
    have := run_slice_l (P := Try.prog) w 22 (some ⟨g, off, none⟩) n c (by rw [he]; exact Try.underlying22) .i64 k (by omega) (by omega)
    rw [this, he, Int.toNat_natCast]
    simp [sizeOf, typeInfo, hi, hs, Result.andThen]
  by_cases h : c = k
  · refine ⟨some ⟨g, off, none⟩, c - k, fun w => by rw [hr w]; simp [sliced, h], fun w l hb => ?_⟩
    have hnk : n = k := by omega
    subst hnk
    rw [Nat.sub_self]
    exact hb.none_left _ _ (by omega)
  · refine ⟨some ⟨g, off + k, none⟩, c - k, fun w => by rw [hr w]; simp [sliced, h, addr_add], fun w l hb => ?_⟩
    exact hb.drop hk

end Go.Proofs.Ytoapfchdmfmdeaa
