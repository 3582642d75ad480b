/- An argument that is a piece: what it holds. No walk here. -/
import Derived.Test.YtimhcghjlknibaaDoorJu
import Derived.Test.YtimhcghjlknibaaDoorMC
import Derived.Test.YtimhcghjlknibaaDoorRows
import Derived.WalkKit
import Derived.WideShapes
import Derived.ProofKit
import Derived.OpenShut
namespace Go.Proofs.YtimhcghjlknibaaDoor
open Go.RowKit Go.ChangeShapes Go.WideShapes Go.ChangeAt

theorem cellsPiece : Tryd.prog.cellsOf 25 = 4 := by kernel_rfl
theorem cellsToks : Tryd.prog.cellsOf 23 = 1 := by kernel_rfl

section
variable {H : Type} {enc : TypeId × Value → H} {w : World} {base : Nat} {held : Bool}

set_option maxRecDepth 100000 in
theorem piece_cells {n : Nat} {cs : List Value} {x : DataW H × List MemPlace} (h : DataW.trod enc Tryd.prog w base (fun _ => true) held n 25 cs = some x) :
    ∃ p : PV, cs = cellsP p ∧ Ts w p.s.a p.s.n p.s.c p.s.L := by
  obtain ⟨xs, n', rfl, _, hl, hlen, hf⟩ := DataW.trod_struct Tryd.underlying25 h
  rw [cellsPiece] at hl
  match cs, hl, xs, hlen with
  | [c0, c1, c2, c3], _, [y0, y1, y2, y3], _ =>
    have h0 : DataW.trod enc Tryd.prog w base (fun _ => true) held n' 3 (([c0, c1, c2, c3].drop 0).take (Tryd.prog.cellsOf 3)) = [y0, y1, y2, y3][0]? := hf 0 _ rfl
    have h1 : DataW.trod enc Tryd.prog w base (fun _ => true) held n' 3 (([c0, c1, c2, c3].drop 1).take (Tryd.prog.cellsOf 3)) = [y0, y1, y2, y3][1]? := hf 1 _ rfl
    have h2 : DataW.trod enc Tryd.prog w base (fun _ => true) held n' 3 (([c0, c1, c2, c3].drop 2).take (Tryd.prog.cellsOf 3)) = [y0, y1, y2, y3][2]? := hf 2 _ rfl
    have h3 : DataW.trod enc Tryd.prog w base (fun _ => true) held n' 23 (([c0, c1, c2, c3].drop 3).take (Tryd.prog.cellsOf 23)) = [y0, y1, y2, y3][3]? := hf 3 _ rfl
    simp only [cellsInt, cellsToks, List.drop_zero, List.drop_succ_cons, List.take_succ_cons, List.take_zero, List.getElem?_cons_zero, List.getElem?_cons_succ] at h0 h1 h2 h3
    obtain ⟨f, e0, _⟩ := DataW.trod_int Tryd.underlying3 h0
    obtain ⟨t, e1, _⟩ := DataW.trod_int Tryd.underlying3 h1
    obtain ⟨i, e2, _⟩ := DataW.trod_int Tryd.underlying3 h2
    simp only [List.cons.injEq, and_true] at e0 e1 e2
    subst e0; subst e1; subst e2
    obtain ⟨a, l, c, hcs⟩ : ∃ a l c, c3 = Value.slice a l c := by
      rcases Go.Deep.open_slice Tryd.underlying23 h3 with ⟨hcs, _⟩ | ⟨x, l, c, _, _, _, _, hcs, _⟩
      · exact ⟨none, 0, 0, by simpa using hcs⟩
      · exact ⟨some x, l, c, by simpa using hcs⟩
    subst hcs
    obtain ⟨L, hL, _⟩ := open_toks (enc := enc) (base := base) (held := held) (d := y3.1) (ps := y3.2) ⟨n', by simpa [Value.cells] using h3⟩
    exact ⟨⟨f, t, i, ⟨a, l, c, L⟩⟩, rfl, hL⟩

set_option maxRecDepth 100000 in
theorem open_piece {r : Reach} {b0 : Nat} {v : Value} {d : DataW H} {ps : List MemPlace} (hv : Value.okWide Tryd.prog w r b0 25 v) (h : DataW.Trod enc Tryd.prog w base (fun _ => true) held 25 v d ps) :
    ∃ p : PV, v = .agg #[.int .i64 p.f, .int .i64 p.t, .int .i64 p.i, .slice p.s.a p.s.n p.s.c] ∧ Ts w p.s.a p.s.n p.s.c p.s.L := by
  have h' : ∃ cs, v = .agg cs := by
    unfold Value.okWide at hv
    rw [Tryd.underlying25] at hv
    obtain ⟨cs, h1, _⟩ := hv
    exact ⟨cs, h1⟩
  obtain ⟨cs, rfl⟩ := h'
  obtain ⟨fuel, hf⟩ := h
  obtain ⟨p, hp, hb⟩ := piece_cells hf
  refine ⟨p, ?_, hb⟩
  have : cs.toList = cellsP p := by simpa [Value.cells] using hp
  rw [← Array.toArray_toList (xs := cs), this]
  rfl

end
end Go.Proofs.YtimhcghjlknibaaDoor
