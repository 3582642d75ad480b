/- Texts laid one behind the other. -/
import Derived.Test.YtcegbmhnbmfnnaaGreatDoorMK

/- slices.Insert of one operator into a row of the call's own. -/
namespace Go.Proofs.YtcegbmhnbmfnnaaGreatDoor
open Go.RowKit

theorem op_size3 : (Tryz.prog.info? 28).map (·.size) = some 3 := by kernel_rfl
/-- One operator in a block of its own. -/
theorem vs_one {w : World} {vb : Nat} {o : OP} (hv : w.heap[vb]? = some (.cells #[.string (mk o.1), .int .i64 o.2.1, .int .i64 o.2.2] 28 (0, 0))) : OpS w (some ⟨vb, 0, none⟩) 1 1 [o] :=
  ⟨rfl, Nat.le_refl _, by decide, fun _ => ⟨vb, 0, rfl, (Array.getElem?_eq_some_iff.1 hv).1, fun j hj => by
    rw [cell_of_row w vb (0 + j) _ _ _ hv, Nat.zero_add, cO_cons, cO_nil]
    simp⟩⟩
/-- From a row's whole block to a row of the call's own. -/
theorem own_of {base g n c : Nat} {w : World} {cur : List Value} {xs : List Value} (hg : w.heap[g]? = some (.cells cur.toArray 28 (0, 0))) (hb : base ≤ g) (hc : cur.length = c * 3) (hnc : n ≤ c) (hcm : c ≤ maxLen) (hx : cur.take (n * 3) = xs) :
    OwnV base 28 3 w (some ⟨g, 0, none⟩) n c xs :=
  ⟨by rw [← hx, List.length_take]; have : n * 3 ≤ c * 3 := Nat.mul_le_mul_right _ hnc; omega, .inr ⟨g, c, cur.toArray, rfl, hb, hg, hnc, hcm, by simpa using hc, by simpa using hx⟩⟩

theorem zero_cells_len (k : Nat) : (Builtin.zeroCells (Value.agg #[.string ByteArray.empty, .int .i64 0, .int .i64 0]).cells k).toList.length = k * 3 := by
  rw [Array.length_toList, Builtin.zeroCells]
  simp [Value.cells]

end Go.Proofs.YtcegbmhnbmfnnaaGreatDoor

/- env.Add. -/
namespace Go.Proofs.YtcegbmhnbmfnnaaGreatDoor
open Go.RowKit

theorem OwnV.weak {base base' : Nat} {e : TypeId} {k : Nat} {w : World} {a : Option Addr} {len cap : Nat} {xs : List Value} (h : OwnV base e k w a len cap xs) (hb : base' ≤ base) : OwnV base' e k w a len cap xs :=
  ⟨h.1, h.2.imp id fun ⟨g, cp, cur, hv, hg, r⟩ => ⟨g, cp, cur, hv, Nat.le_trans hb hg, r⟩⟩

/-- A struct stored somewhere in a row's block. -/
theorem run_storeVar_at {P : Program} (w : World) (ty t : TypeId) (g o : Nat) (cur cs : List Value) (hi : (P.info? ty).map (·.size) = some cs.length) (hg : w.heap[g]? = some (.cells cur.toArray t (0, 0)))
    (hfit : o + cs.length ≤ cur.length) (h1 : ∀ v ∈ cs, v.oneCell' = true) : (storeVar ty ⟨g, o, none⟩ (.agg cs.toArray)).run P w = .ok () (w.setRow g (splice cur o cs).toArray) := by
  have hst := run_storeCells_at P g o t cs 0 cur.toArray w hg (by simpa using hfit) h1
  cases hq : P.info? ty with
  | none => simp [hq] at hi
  | some i =>
    have hs : cs.length = i.size := by simp [hq] at hi; omega
    simp [storeVar, sizeOf, typeInfo, hq, Value.cells, hs, hst, splice]
theorem wpList_store_at {P : Program} {ops : Array Oper} {rest : List Oper} {op : Oper} {a : Act} {w : World} {Q : Exit → Act → World → Prop} (hgd : op.guard = none) (ty t : TypeId) (x y : Operand) (ho : op.op = .store ty x y)
    (g o : Nat) (cur cs : List Value) (hx : a.eval x = .pointer (some ⟨g, o, none⟩)) (hy : a.eval y = .agg cs.toArray) (hi : (P.info? ty).map (·.size) = some cs.length) (hg : w.heap[g]? = some (.cells cur.toArray t (0, 0)))
    (hfit : o + cs.length ≤ cur.length) (h1 : ∀ v ∈ cs, v.oneCell' = true)
    (h : ∀ w', w'.heap[g]? = some (.cells (splice cur o cs).toArray t (0, 0)) → Only g w w' → wpList P ops Q rest (a.put op.dst undef) w') : wpList P ops Q (op :: rest) a w :=
  wpList_plain hgd fun K hK => by
    unfold Oper.wp execOp
    simp only [ho, hx, hy, Instr.storeAt, Instr.sureAddr, Sem.run_bind, Sem.run_pure, Result.andThen_ok, run_storeVar_at w ty t g o cur cs hi hg hfit h1]
    exact hK _ _ (h _ (setRow_heap w g _ _ t _ hg) (Only.ofRow w g _))
theorem splice_mid {α : Type} (Z A X Y W : List α) (p q : Nat) (hp : A.length = p) (hX : X.length = q) (hq : Y.length = q) (hZ : Z.take (p + q + W.length) = A ++ X ++ W) : (splice Z p Y).take (p + q + W.length) = A ++ Y ++ W := by
  have hA : Z.take p = A := by
    have := congrArg (List.take p) hZ
    rw [List.take_take, Nat.min_eq_left (by omega), List.append_assoc, List.take_left' hp] at this
    exact this
  have hW : (Z.drop (p + q)).take W.length = W := by
    have := congrArg (List.drop (p + q)) hZ
    rw [List.drop_take, List.drop_left' (by simp; omega), show p + q + W.length - (p + q) = W.length by omega] at this
    exact this
  unfold splice
  rw [hA, hq, ← List.append_assoc, List.take_append, List.take_of_length_le (by simp; omega), show p + q + W.length - (A ++ Y).length = W.length by simp; omega, hW]

theorem ownO_only {base B : Nat} {w w' : World} {a : Option Addr} {n c : Nat} {L : List OP} (h : OwnO base w a n c L) (ho : Only B w w') (hB : B < base) : OwnO base w' a n c L := by
  refine ⟨h.1, h.2.imp id ?_⟩
  rintro ⟨g, cp, cur, hv, hg, hb, r⟩
  exact ⟨g, cp, cur, hv, hg, (ho.block g (by omega)).trans hb, r⟩

/-! ### What Add answers -/

def addE (L : List OP) (o : OP) : Int := if mayV o.1 o.2.1 o.2.2 = 0 then (if hitL L o.1 = true then 0 else if 16 ≤ L.length then 5 else 0) else mayV o.1 o.2.1 o.2.2
def addR (L : List OP) (o : OP) : List OP := if addE L o = 0 then addL L o else []
def addZ (L : List OP) (z : List Int) (o : OP) : List Int := if addE L o = 0 then z else z0
theorem addE_bad {L : List OP} {o : OP} (h : mayV o.1 o.2.1 o.2.2 ≠ 0) : addE L o = mayV o.1 o.2.1 o.2.2 ∧ addE L o ≠ 0 := by unfold addE; rw [if_neg h]; exact ⟨rfl, h⟩
theorem addE_hit {L : List OP} {o : OP} (h : mayV o.1 o.2.1 o.2.2 = 0) (hh : hitL L o.1 = true) : addE L o = 0 := by unfold addE; rw [if_pos h, if_pos hh]
theorem addE_full {L : List OP} {o : OP} (h : mayV o.1 o.2.1 o.2.2 = 0) (hh : hitL L o.1 = false) (hl : 16 ≤ L.length) : addE L o = 5 := by unfold addE; rw [if_pos h, if_neg (by rw [hh]; decide), if_pos hl]
theorem addE_room {L : List OP} {o : OP} (h : mayV o.1 o.2.1 o.2.2 = 0) (hh : hitL L o.1 = false) (hl : ¬ 16 ≤ L.length) : addE L o = 0 := by unfold addE; rw [if_pos h, if_neg (by rw [hh]; decide), if_neg hl]
theorem addL_hit {L : List OP} {o : OP} {k : Nat} (hk : posL L o.1 = k) (hh : hitL L o.1 = true) : addL L o = L.take k ++ [o] ++ L.drop (k + 1) := by unfold addL; rw [hk, if_pos hh]
theorem addL_new {L : List OP} {o : OP} {k : Nat} (hk : posL L o.1 = k) (hh : hitL L o.1 = false) : addL L o = L.take k ++ [o] ++ L.drop k := by unfold addL; rw [hk, if_neg (by rw [hh]; decide)]; rfl
theorem posL_step {L : List OP} {p : Nm} {k : Nat} (hk : k ≤ posL L p) (h : k < L.length) (hb : Op.bytesLess (opA L k).1 p = true) : k + 1 ≤ posL L p := by
  apply Decidable.byContradiction
  intro h1
  rw [opA_eq h] at hb
  exact posL_at L k h (by omega) ((less_iff _ _).1 hb)
theorem posL_stop {L : List OP} {p : Nm} {k : Nat} (hk : k ≤ posL L p) (h : k < L.length) (hb : Op.bytesLess (opA L k).1 p = false) : posL L p = k := by
  apply Decidable.byContradiction
  intro h1
  rw [opA_eq h] at hb
  exact (less_no _ _).1 hb (posL_lt L k h (by omega))

end Go.Proofs.YtcegbmhnbmfnnaaGreatDoor

/- An env stored in a region that draws its order. -/
namespace Go.Proofs.YtcegbmhnbmfnnaaGreatDoor
open Go.RowKit

/-- An env stored into a block that was just made, as the region's own step has it. -/
theorem run_store_env (w : World) (b : Nat) (h : EB w b none 0 0 z0) (a' : Option Addr) (n' c' : Nat) (z' : List Int) (hz' : z'.length = 10) : (storeCells ⟨b, 0, none⟩ (ev a' n' c' z').toList).run Tryz.prog w = .ok () (w.setRow b (ev a' n' c' z')) := by
  have hst := run_storeCells_at Tryz.prog b 0 26 (ev a' n' c' z').toList 0 (ev none 0 0 z0) w h (by simp [ev_size hz', ev_size z0_len]) (fun v hv => by
    have := ev_one a' n' c' z'
    rw [Array.all_eq_true_iff_forall_mem] at this
    exact this v (by simpa using hv))
  have e : (ev none 0 0 z0).toList.drop (ev a' n' c' z').size = [] := List.drop_of_length_le (by simp [ev_size hz', ev_size z0_len])
  simpa [e] using hst

/-- Operators of the call's own are not in an env's block. -/
theorem ownO_env {base X : Nat} {w w' : World} {a a' : Option Addr} {n c n' c' : Nat} {z : List Int} {L : List OP} (h : OwnO base w a n c L) (hx : EB w X a' n' c' z) (ho : Only X w w') : OwnO base w' a n c L := by
  refine ⟨h.1, h.2.imp id ?_⟩
  rintro ⟨g, cp, cur, hv, hg, hb, r⟩
  refine ⟨g, cp, cur, hv, hg, (ho.block g fun e => ?_).trans hb, r⟩
  subst e
  unfold EB at hx
  rw [hb] at hx
  simp only [Option.some.injEq, Obj.cells.injEq] at hx
  exact absurd hx.2.1 (by decide)
/-- What stands behind: the env in its block, its operators, all else below it as it was. -/
theorem env_put {B X : Nat} {w0 w : World} {n' c' n c : Nat} {a a' : Option Addr} {z : List Int} {L : List OP} (hx : EB w X none 0 0 z0) (h : OwnO 0 w a n c L) (hb : Below B w0 w) (hB : B ≤ X) : EB (w.setRow X (ev a' n' c' z)) X a' n' c' z ∧ OwnO 0 (w.setRow X (ev a' n' c' z)) a n c L ∧ Below B w0 (w.setRow X (ev a' n' c' z)) :=
  ⟨hx.row a' n' c' z, ownO_env h hx (Only.ofRow w X _), hb.trans ((Only.ofRow w X _).below hB)⟩

/-- The eleven cells, one by one. -/
theorem env_cells {w : World} {E : Nat} {a : Option Addr} {n c : Nat} {y0 y1 y2 y3 y4 y5 y6 y7 y8 y9 : Int} (h : EB w E a n c [y0, y1, y2, y3, y4, y5, y6, y7, y8, y9]) : w.cell? ⟨E, 0, none⟩ = some (.slice a n c) ∧ w.cell? ⟨E, 1, none⟩ = some (.int .i64 y0) ∧ w.cell? ⟨E, 2, none⟩ = some (.int .i64 y1) ∧ w.cell? ⟨E, 3, none⟩ = some (.int .i64 y2) ∧ w.cell? ⟨E, 4, none⟩ = some (.int .i64 y3) ∧ w.cell? ⟨E, 5, none⟩ = some (.int .i64 y4) ∧ w.cell? ⟨E, 6, none⟩ = some (.int .i64 y5) ∧ w.cell? ⟨E, 7, none⟩ = some (.int .i64 y6) ∧ w.cell? ⟨E, 8, none⟩ = some (.int .i64 y7) ∧ w.cell? ⟨E, 9, none⟩ = some (.int .i64 y8) ∧ w.cell? ⟨E, 10, none⟩ = some (.int .i64 y9) := by
  have hc : ∀ j : Nat, w.cell? ⟨E, j, none⟩ = (ev a n c [y0, y1, y2, y3, y4, y5, y6, y7, y8, y9])[j]? := fun j => cell_of_row w E j _ _ _ h
  exact ⟨hc 0, hc 1, hc 2, hc 3, hc 4, hc 5, hc 6, hc 7, hc 8, hc 9, hc 10⟩

end Go.Proofs.YtcegbmhnbmfnnaaGreatDoor
