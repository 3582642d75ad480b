/- From a frame's row of cells to the bytes that a walk is told of. -/
import Derived.Test.YtnedappnmkbbpaaUb
import Derived.ProofKit
namespace Go.Proofs.Ytnedappnmkbbpaa
open Go.RowKit

theorem bs_of_row {w : World} {a : Option Addr} {len cap : Nat} {zs : List Int}
    (h : (a = none ∧ len = 0 ∧ cap = 0 ∧ zs = []) ∨ ∃ x, a = some x ∧ len ≤ cap ∧ cap ≤ maxLen ∧ zs.length = cap ∧ (∀ i, i < zs.length → w.cell? (x.add i) = some (.int .u8 (zs.getD i 0))) ∧ ∀ n ∈ zs, (Lit.int .u8 n).wf = true) :
    Bs w a len cap (zs.take len) := by
  rcases h with ⟨rfl, rfl, rfl, rfl⟩ | ⟨x, rfl, hl, hm, hz, hcell, hwz⟩
  · exact Bs.nil w none 0 (Nat.zero_le _)
  · refine ⟨by rw [List.length_take]; omega, hl, hm, fun y hy => ?_, fun h0 => ?_⟩
    · have := hwz y (List.take_subset _ _ hy)
      have h1 : IntKind.u8.min = 0 := rfl
      have h2 : IntKind.u8.max = 255 := rfl
      simp only [Lit.wf, Bool.and_eq_true, decide_eq_true_eq] at this
      omega
    · obtain ⟨b, off, spot⟩ := x
      have h1 := hcell 0 (by omega)
      have hspot : spot = none := by simpa [Addr.add] using World.cell?_spot h1
      subst hspot
      refine ⟨b, off, rfl, ?_, fun j hj => ?_⟩
      · have := World.block_lt_of_cell? w _ h1
        simpa [Addr.add] using this
      · rw [bt_take _ _ _ hj, ← addr_add]; exact hcell j (by omega)

end Go.Proofs.Ytnedappnmkbbpaa
