/- Two rows compared (as in XMb, for a seat without graph.within). -/
import Derived.Test.YtjkjbgekpkhpfaaGreatDoorMG
import Derived.DeepKeys
namespace Go.Proofs.YtjkjbgekpkhpfaaGreatDoor
open Go.RowKit

theorem eq_items' (z z' : List Int) (hz : z.length = 10) (hz' : z'.length = 10) (w : World) : ∀ is : List Nat, (∀ i ∈ is, i < 10) →
    (Op.eqItems 9999 3 1 (rv z) (rv z') is).run Tryz.prog w = .ok (is.all fun i => bt z i == bt z' i) w
  | [], _ => by simp [Op.eqItems]
  | i :: is, h => by
    have hi : i < 10 := h i (by simp)
    have p1 : (part 3 (rv z) (i * 1)).run Tryz.prog w = .ok (.int .i64 (bt z i)) w := run_part_plain w (by kernel_rfl) (by rw [Nat.mul_one]; exact rv_at hz hi)
    have p2 : (part 3 (rv z') (i * 1)).run Tryz.prog w = .ok (.int .i64 (bt z' i)) w := run_part_plain w (by kernel_rfl) (by rw [Nat.mul_one]; exact rv_at hz' hi)
    have p3 : (Op.equalIn 9999 3 (.int .i64 (bt z i)) (.int .i64 (bt z' i))).run Tryz.prog w = .ok (bt z i == bt z' i) w := run_equalIn_int w 9998 _ _ _ _ _ Tryz.underlying3
    have ih := eq_items' z z' hz hz' w is (fun j hj => h j (by simp [hj]))
    simp only [Op.eqItems, Sem.run_bind, p1, p2, p3, Result.andThen_ok, List.all_cons]
    cases (bt z i == bt z' i)
    · simp
    · simpa using ih

set_option maxRecDepth 20000 in
/-- Two rows compared. -/
theorem eq_rows' (z z' : List Int) (hz : z.length = 10) (hz' : z'.length = 10) (w : World) : (Op.equalIn 10000 24 (.agg (rv z)) (.agg (rv z'))).run Tryz.prog w = .ok (decide (z = z')) w := by
  obtain ⟨i, hi⟩ : ∃ i, Tryz.prog.info? 3 = some i := Option.isSome_iff_exists.1 (by kernel_rfl)
  rw [show (10000 : Nat) = 9999 + 1 from rfl, run_equalIn_array w 9999 _ _ Tryz.underlying24 hi, show Tryz.prog.cellsOf 3 = 1 by kernel_rfl, eq_items' z z' hz hz' w _ (by simp)]
  congr 1
  rw [Bool.eq_iff_iff, List.all_eq_true, decide_eq_true_eq]
  refine ⟨fun h => bt_ext hz hz' fun i hi => by simpa using h i (by simpa using hi), fun h i _ => by rw [h]; simp⟩

end Go.Proofs.YtjkjbgekpkhpfaaGreatDoor
