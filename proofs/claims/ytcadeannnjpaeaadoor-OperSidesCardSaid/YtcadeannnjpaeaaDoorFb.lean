/- Contracts of strings.Index and strings.Contains at one underscore, and of package oper's Simple. -/
import Derived.Test.YtcadeannnjpaeaaDoorFm
import Derived.Test.YtcadeannnjpaeaaDoorHt
import Derived.BigQuiet
namespace Go.Proofs.YtcadeannnjpaeaaDoor
open Go.RowKit

theorem sindex_any (p : Nm) (w : World) :
    Calls Tryd.prog 20 #[.string (mk p), .string ⟨#[95]⟩] w fun e w' => e = .returned (.int .i64 (Lib.indexByte p 95)) ∧ w = w' := by
  have HI : Hid (∀ w, Calls Tryd.prog 29 #[.string (mk p), .string ⟨#[95]⟩] w fun e w' => e = .returned (.int .i64 (Lib.indexByte p 95)) ∧ w = w') := Lib.hid fun w => index_any p w
  obtain ⟨z, hz⟩ : ∃ z, z = Lib.indexByte p 95 := ⟨_, rfl⟩
  rw [← hz] at HI ⊢
  clear hz
  go_enter Tryd.func20, Tryd.ntmps20
  go_wp2_with fail
  refine (HI.out w).mono ?_
  rintro e w' ⟨rfl, rfl⟩
  go_wp2
  go_ret
  exact ⟨rfl, rfl⟩

theorem ix_has (p : Nm) : decide (0 ≤ Lib.indexByte p 95) = p.contains 95 := by
  by_cases h : (95 : UInt8) ∈ p
  · rw [ix_yes p h, List.contains_iff_mem.2 h]
    exact decide_eq_true (Int.natCast_nonneg _)
  · rw [ix_no p h, show p.contains 95 = false from by simpa using h]
    rfl

theorem contains_any (p : Nm) (w : World) :
    Calls Tryd.prog 15 #[.string (mk p), .string ⟨#[95]⟩] w fun e w' => e = .returned (.bool (p.contains 95)) ∧ w = w' := by
  have HI : Hid (∀ w, Calls Tryd.prog 20 #[.string (mk p), .string ⟨#[95]⟩] w fun e w' => e = .returned (.int .i64 (Lib.indexByte p 95)) ∧ w = w') := Lib.hid fun w => sindex_any p w
  have hd := ix_has p
  obtain ⟨z, hz⟩ : ∃ z, z = Lib.indexByte p 95 := ⟨_, rfl⟩
  rw [← hz] at HI hd
  rw [← hd]
  clear hz hd
  go_enter Tryd.func15, Tryd.ntmps15
  go_wp2_with fail
  refine (HI.out w).mono ?_
  rintro e w' ⟨rfl, rfl⟩
  go_wp2
  go_ret
  exact ⟨by go_num, rfl⟩

/-! ### The table of kinds -/

/-- A row of the table. -/
def kRow (i : Nat) : List Value := [.string (mk (kd i).1), .string (mk (hol (kd i).2.1)), .string (mk (hol (kd i).2.2.1)), .int .i64 (kd i).2.2.2]
def kCells : List Value := ((List.range 7).map kRow).flatten
theorem kCells_eq : cellsFor Tryd.prog 3 44 (Rows.laid_tmesis_oper_kinds (H := Unit)) = some kCells := by kernel_rfl
theorem kg0 : Tryd.prog.globalNamed "tmesis/oper.kinds" = some 0 := by kernel_rfl
theorem kgt0 : (Tryd.prog.globals[0]?).map (·.type) = some 44 := by kernel_rfl
/-- The table of kinds is in its place. -/
def TabK (w : World) : Prop := ∃ t fr, w.heap[0]? = some (.cells kCells.toArray t fr)
theorem tabK_of_laid {W : World} {rest : List (String × DataW Unit)} (h : laidMet Tryd.prog (("tmesis/oper.kinds", Rows.laid_tmesis_oper_kinds) :: rest) W) : TabK W := by
  have hv := laid_cells kg0 kgt0 kCells_eq h
  unfold World.var? at hv
  rw [kg0, Option.bind_some] at hv
  split at hv
  · rename_i cs t fr hh
    exact ⟨t, fr, by rw [hh, Option.some.inj hv]⟩
  · cases hv
theorem TabK.keep {w w' : World} (h : TabK w) (hb : Below w.heap.size w w') : TabK w' := by
  obtain ⟨t, fr, h⟩ := h
  exact ⟨t, fr, (hb.block _ (Array.getElem?_eq_some_iff.1 h).1).trans h⟩
theorem k_under : (Tryd.prog.info? 44).map (·.size) = some kCells.toArray.size := by kernel_rfl
theorem kIx (w : World) (i : Nat) (h : i < 7) : (Instr.index 44 (.agg kCells.toArray) (.int .i64 i)).run Tryd.prog w = .ok (.agg #[.string (mk (kd i).1), .string (mk (hol (kd i).2.1)), .string (mk (hol (kd i).2.2.1)), .int .i64 (kd i).2.2.2]) w := by
  obtain rfl | rfl | rfl | rfl | rfl | rfl | rfl : i = 0 ∨ i = 1 ∨ i = 2 ∨ i = 3 ∨ i = 4 ∨ i = 5 ∨ i = 6 := by omega
  all_goals kernel_rfl
theorem four {w : World} {q : Nat} {x y z u : Value} {e : TypeId} (h : w.heap[q]? = some (.cells #[x, y, z, u] e (0, 0))) :
    w.cell? ⟨q, 0, none⟩ = some x ∧ w.cell? ⟨q, 1, none⟩ = some y ∧ w.cell? ⟨q, 2, none⟩ = some z ∧ w.cell? ⟨q, 3, none⟩ = some u :=
  ⟨cell_of_row w q 0 _ e _ h, cell_of_row w q 1 _ e _ h, cell_of_row w q 2 _ e _ h, cell_of_row w q 3 _ e _ h⟩

end Go.Proofs.YtcadeannnjpaeaaDoor
