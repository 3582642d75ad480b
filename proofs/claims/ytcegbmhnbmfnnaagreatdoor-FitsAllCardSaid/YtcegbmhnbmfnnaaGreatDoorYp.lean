/- An argument that is two operators and an end. No walk here. -/
import Derived.Test.YtcegbmhnbmfnnaaGreatDoorMF
namespace Go.Proofs.YtcegbmhnbmfnnaaGreatDoor
open Go.RowKit Go.ChangeShapes Go.WideShapes Go.ChangeAt

theorem cellsPair : Tryz.prog.cellsOf 30 = 7 := by kernel_rfl
theorem cellsBoolF : Tryz.prog.cellsOf 4 = 1 := by kernel_rfl

/-- Two operators and an end that came in. -/
structure PR where
  o : OA
  k : OA
  r : Bool
def PR.d {H : Type} (x : PR) : DataW H := .agg [x.o.d, x.k.d, .lit (.bool x.r)]

section
variable {H : Type} {enc : TypeId × Value → H} {w : World} {base : Nat} {held : Bool}

set_option maxRecDepth 100000 in
theorem pair_cells {n : Nat} {cs : List Value} {x : DataW H × List MemPlace} (h : DataW.trod enc Tryz.prog w base (fun _ => true) held n 30 cs = some x) :
    ∃ e : PR, cs = [.string e.o.s, .int .i64 e.o.g, .int .i64 e.o.a, .string e.k.s, .int .i64 e.k.g, .int .i64 e.k.a, .bool e.r] ∧ x.1 = e.d := by
  obtain ⟨xs, n', rfl, hx, hl, hlen, hf⟩ := DataW.trod_struct Tryz.underlying30 h
  rw [cellsPair] at hl
  match cs, hl, xs, hlen with
  | [c0, c1, c2, c3, c4, c5, c6], _, [y0, y1, y2], _ =>
    have h0 : DataW.trod enc Tryz.prog w base (fun _ => true) held n' 28 (([c0, c1, c2, c3, c4, c5, c6].drop 0).take (Tryz.prog.cellsOf 28)) = [y0, y1, y2][0]? := hf 0 _ rfl
    have h1 : DataW.trod enc Tryz.prog w base (fun _ => true) held n' 28 (([c0, c1, c2, c3, c4, c5, c6].drop 3).take (Tryz.prog.cellsOf 28)) = [y0, y1, y2][1]? := hf 1 _ rfl
    have h2 : DataW.trod enc Tryz.prog w base (fun _ => true) held n' 4 (([c0, c1, c2, c3, c4, c5, c6].drop 6).take (Tryz.prog.cellsOf 4)) = [y0, y1, y2][2]? := hf 2 _ rfl
    simp only [cellsOper, cellsBoolF, List.drop_zero, List.drop_succ_cons, List.take_succ_cons, List.take_zero, List.getElem?_cons_zero, List.getElem?_cons_succ] at h0 h1 h2
    obtain ⟨o, e0, k0⟩ := oper_cells h0
    obtain ⟨k, e1, k1⟩ := oper_cells h1
    obtain ⟨r, e2, k2⟩ := DataW.trod_bool Tryz.underlying4 h2
    simp only [List.cons.injEq, and_true] at e0 e1 e2
    obtain ⟨rfl, rfl, rfl⟩ := e0
    obtain ⟨rfl, rfl, rfl⟩ := e1
    subst e2
    refine ⟨⟨o, k, r⟩, rfl, ?_⟩
    rw [hx]
    show DataW.agg ([y0, y1, y2].map (·.1)) = _
    simp only [List.map_cons, List.map_nil, k0, k1, k2]
    rfl

set_option maxRecDepth 100000 in
theorem open_pairw {r : Reach} {b0 : Nat} {v : Value} {d : DataW H} {ps : List MemPlace} (hv : Value.okWide Tryz.prog w r b0 30 v) (h : DataW.Trod enc Tryz.prog w base (fun _ => true) held 30 v d ps) :
    ∃ e : PR, v = .agg #[.string e.o.s, .int .i64 e.o.g, .int .i64 e.o.a, .string e.k.s, .int .i64 e.k.g, .int .i64 e.k.a, .bool e.r] ∧ d = e.d := by
  have h' : ∃ cs, v = .agg cs := by
    unfold Value.okWide at hv
    rw [Tryz.underlying30] at hv
    obtain ⟨cs, h1, _⟩ := hv
    exact ⟨cs, h1⟩
  obtain ⟨cs, rfl⟩ := h'
  obtain ⟨fuel, hf⟩ := h
  obtain ⟨e, he, hd⟩ := pair_cells hf
  refine ⟨e, ?_, hd⟩
  have : cs.toList = [.string e.o.s, .int .i64 e.o.g, .int .i64 e.o.a, .string e.k.s, .int .i64 e.k.g, .int .i64 e.k.a, .bool e.r] := by simpa [Value.cells] using he
  rw [← Array.toArray_toList (xs := cs), this]

theorem pair_size {ts : List TypeId} {ds : List (DataW H)} (h : (DataW.weightsEach Tryz.prog ts ds).all (· ≤ reachBytes) = true) {j : Nat} {e : PR} (ht : ts[j]? = some 30) (hd : ds[j]? = some e.d) : e.o.s.size ≤ reachBytes ∧ e.k.s.size ≤ reachBytes := by
  have h1 := of_decide_eq_true (List.all_eq_true.1 h _ (DataW.weights_mem_each ht hd e.o.s.data.toList.length (by simp [PR.d, OA.d, DataW.weights, DataW.weightsEach, Tryz.underlying30, Tryz.underlying28])))
  have h2 := of_decide_eq_true (List.all_eq_true.1 h _ (DataW.weights_mem_each ht hd e.k.s.data.toList.length (by simp [PR.d, OA.d, DataW.weights, DataW.weightsEach, Tryz.underlying30, Tryz.underlying28])))
  rw [Array.length_toList] at h1 h2
  exact ⟨h1, h2⟩

end
end Go.Proofs.YtcegbmhnbmfnnaaGreatDoor
