/- One cell stored somewhere in a block. -/
import Derived.Test.YtcegbmhnbmfnnaaGreatDoorML
namespace Go.Proofs.YtcegbmhnbmfnnaaGreatDoor
open Go.RowKit

/-! ### One cell stored -/

theorem run_storeCell_at {P : Program} (w : World) (ty t : TypeId) (g o : Nat) (cur : List Value) (v : Value) (hi : (P.info? ty).map (·.size) = some 1) (hc : v.cells = #[v]) (hg : w.heap[g]? = some (.cells cur.toArray t (0, 0)))
    (hfit : o + 1 ≤ cur.length) (h1 : v.oneCell' = true) : (storeVar ty ⟨g, o, none⟩ v).run P w = .ok () (w.setRow g (splice cur o [v]).toArray) := by
  have hst := run_storeCells_at P g o t [v] 0 cur.toArray w hg (by simpa using hfit) (fun u hu => by rw [List.mem_singleton.1 hu]; exact h1)
  cases hq : P.info? ty with
  | none => simp [hq] at hi
  | some i =>
    have hs : i.size = 1 := by simp [hq] at hi; omega
    simp [storeVar, sizeOf, typeInfo, hq, hc, hs, splice] at hst ⊢
    exact hst
theorem wpList_store_cell {P : Program} {ops : Array Oper} {rest : List Oper} {op : Oper} {a : Act} {w : World} {Q : Exit → Act → World → Prop} (hgd : op.guard = none) (ty t : TypeId) (x y : Operand) (ho : op.op = .store ty x y)
    (g o : Nat) (cur : List Value) (v : Value) (hx : a.eval x = .pointer (some ⟨g, o, none⟩)) (hy : a.eval y = v) (hi : (P.info? ty).map (·.size) = some 1) (hc : v.cells = #[v]) (hg : w.heap[g]? = some (.cells cur.toArray t (0, 0)))
    (hfit : o + 1 ≤ cur.length) (h1 : v.oneCell' = true)
    (h : ∀ w', w'.heap[g]? = some (.cells (splice cur o [v]).toArray t (0, 0)) → Only g w w' → wpList P ops Q rest (a.put op.dst undef) w') : wpList P ops Q (op :: rest) a w :=
  wpList_plain hgd fun K hK => by
    unfold Oper.wp execOp
    simp only [ho, hx, hy, Instr.storeAt, Instr.sureAddr, Sem.run_bind, Sem.run_pure, Result.andThen_ok, run_storeCell_at w ty t g o cur v hi hc hg hfit h1]
    exact hK _ _ (h _ (setRow_heap w g _ _ t _ hg) (Only.ofRow w g _))

end Go.Proofs.YtcegbmhnbmfnnaaGreatDoor
