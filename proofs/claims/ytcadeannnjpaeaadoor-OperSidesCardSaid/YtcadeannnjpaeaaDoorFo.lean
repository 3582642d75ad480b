/- An argument that is an operator: what it holds, and how long its text is. No walk here. -/
import Derived.Test.YtcadeannnjpaeaaDoorMC
import Derived.Test.YtcadeannnjpaeaaDoorRows
import Derived.WalkKit
import Derived.WideShapes
import Derived.ProofKit
import Derived.OpenShut
import Derived.SizedLaws
import Derived.Stop.LaidErr
namespace Go.Proofs.YtcadeannnjpaeaaDoor
open Go.RowKit Go.ChangeShapes Go.WideShapes Go.ChangeAt

theorem cellsOper : Tryd.prog.cellsOf 23 = 3 := by kernel_rfl
theorem cellsStrF : Tryd.prog.cellsOf 9 = 1 := by kernel_rfl
theorem cellsIntF : Tryd.prog.cellsOf 3 = 1 := by kernel_rfl

/-- An operator that came in: its text, its group, its associativity. -/
structure OA where
  s : ByteArray
  g : Int
  a : Int

/-- What it reads as. -/
def OA.d {H : Type} (e : OA) : DataW H := .agg [.lit (.string e.s.data.toList), .lit (.int .i64 e.g), .lit (.int .i64 e.a)]

section
variable {H : Type} {enc : TypeId × Value → H} {w : World} {base : Nat} {held : Bool}

set_option maxRecDepth 100000 in
theorem oper_cells {n : Nat} {cs : List Value} {x : DataW H × List MemPlace} (h : DataW.trod enc Tryd.prog w base (fun _ => true) held n 23 cs = some x) :
    ∃ e : OA, cs = [.string e.s, .int .i64 e.g, .int .i64 e.a] ∧ x.1 = e.d := by
  obtain ⟨xs, n', rfl, hx, hl, hlen, hf⟩ := DataW.trod_struct Tryd.underlying23 h
  rw [cellsOper] at hl
  match cs, hl, xs, hlen with
  | [c0, c1, c2], _, [y0, y1, y2], _ =>
    have h0 : DataW.trod enc Tryd.prog w base (fun _ => true) held n' 9 (([c0, c1, c2].drop 0).take (Tryd.prog.cellsOf 9)) = [y0, y1, y2][0]? := hf 0 _ rfl
    have h1 : DataW.trod enc Tryd.prog w base (fun _ => true) held n' 3 (([c0, c1, c2].drop 1).take (Tryd.prog.cellsOf 3)) = [y0, y1, y2][1]? := hf 1 _ rfl
    have h2 : DataW.trod enc Tryd.prog w base (fun _ => true) held n' 3 (([c0, c1, c2].drop 2).take (Tryd.prog.cellsOf 3)) = [y0, y1, y2][2]? := hf 2 _ rfl
    simp only [cellsStrF, cellsIntF, List.drop_zero, List.drop_succ_cons, List.take_succ_cons, List.take_zero, List.getElem?_cons_zero, List.getElem?_cons_succ] at h0 h1 h2
    obtain ⟨s, e0, k0, _⟩ := DataW.trod_string Tryd.underlying9 h0
    obtain ⟨g, e1, k1⟩ := DataW.trod_int Tryd.underlying3 h1
    obtain ⟨a, e2, k2⟩ := DataW.trod_int Tryd.underlying3 h2
    simp only [List.cons.injEq, and_true] at e0 e1 e2
    subst e0; subst e1; subst e2
    refine ⟨⟨s, g, a⟩, rfl, ?_⟩
    rw [hx, k0, k1.1, k2.1]
    rfl

set_option maxRecDepth 100000 in
theorem open_oper {r : Reach} {b0 : Nat} {v : Value} {d : DataW H} {ps : List MemPlace} (hv : Value.okWide Tryd.prog w r b0 23 v) (h : DataW.Trod enc Tryd.prog w base (fun _ => true) held 23 v d ps) :
    ∃ e : OA, v = .agg #[.string e.s, .int .i64 e.g, .int .i64 e.a] ∧ d = e.d := by
  have h' : ∃ cs, v = .agg cs := by
    unfold Value.okWide at hv
    rw [Tryd.underlying23] at hv
    obtain ⟨cs, h1, _⟩ := hv
    exact ⟨cs, h1⟩
  obtain ⟨cs, rfl⟩ := h'
  obtain ⟨fuel, hf⟩ := h
  obtain ⟨e, he, hd⟩ := oper_cells hf
  refine ⟨e, ?_, hd⟩
  have : cs.toList = [.string e.s, .int .i64 e.g, .int .i64 e.a] := by simpa [Value.cells] using he
  rw [← Array.toArray_toList (xs := cs), this]

theorem oper_size {ts : List TypeId} {ds : List (DataW H)} (h : (DataW.weightsEach Tryd.prog ts ds).all (· ≤ reachBytes) = true) {j : Nat} {e : OA} (ht : ts[j]? = some 23) (hd : ds[j]? = some e.d) : e.s.size ≤ reachBytes := by
  have := List.all_eq_true.1 h _ (DataW.weights_mem_each ht hd e.s.data.toList.length (by simp [OA.d, DataW.weights, DataW.weightsEach, Tryd.underlying23]))
  have h2 := of_decide_eq_true this
  rw [Array.length_toList] at h2
  exact h2

end
end Go.Proofs.YtcadeannnjpaeaaDoor
