/- An argument that is a shape: what it holds. No walk here. -/
import Derived.Test.YtenaadfmlpmffaaDoorMC
import Derived.Test.YtenaadfmlpmffaaDoorRows
import Derived.WalkKit
import Derived.WideShapes
import Derived.ProofKit
import Derived.OpenShut
import Derived.Deep.Slices
namespace Go.Proofs.YtenaadfmlpmffaaDoor
open Go.RowKit Go.ChangeShapes Go.WideShapes Go.ChangeAt

theorem cellsShape : Tryd.prog.cellsOf 24 = 3 := by kernel_rfl
theorem cellsStrs : Tryd.prog.cellsOf 22 = 1 := by kernel_rfl
theorem cellsBool : Tryd.prog.cellsOf 4 = 1 := by kernel_rfl
theorem cellsString : Tryd.prog.cellsOf 9 = 1 := by kernel_rfl

/-- A shape that came in: its slice, its parts, its ends. -/
structure SA where
  a : Option Addr
  n : Nat
  c : Nat
  P : List Nm
  l : Bool
  r : Bool

section
variable {H : Type} {enc : TypeId × Value → H} {w : World} {base : Nat} {held : Bool}

theorem open_strs {a : Option Addr} {len cap : Nat} {d : DataW H} {ps : List MemPlace} (h : DataW.Trod enc Tryd.prog w base (fun _ => true) held 22 (.slice a len cap) d ps) :
    ∃ L : List Nm, Ss w a len cap L := by
  obtain ⟨fuel, hf⟩ := h
  rcases Go.Deep.open_slice Tryd.underlying22 hf with ⟨hcs, _⟩ | ⟨x, l, c, m, n, D, Pl, hcs, hb, hl, hm, hmm, _, hx⟩
  · simp [Value.cells] at hcs
    obtain ⟨rfl, rfl, rfl⟩ := hcs
    exact ⟨[], Vs.nil 1 w none 0 (Nat.zero_le _)⟩
  · simp [Value.cells] at hcs
    obtain ⟨rfl, rfl, rfl⟩ := hcs
    rw [if_pos rfl] at hmm
    subst hmm
    have key : ∀ i, i < len → ∃ t : Nm, w.cell? (x.add i) = some (enS t) := by
      intro i hi
      obtain ⟨cs', h1, h2⟩ := hx i (by omega)
      rw [cellsString] at h1
      obtain ⟨s, rfl, _⟩ := DataW.trod_string Tryd.underlying9 h2
      obtain ⟨_, _, h3⟩ := World.cells?_some h1
      have h4 := h3 0 (by decide)
      rw [Go.Deep.add_add, Nat.mul_one, Nat.add_zero] at h4
      exact ⟨s.toList, h4.trans (by rw [enS_of rfl]; rfl)⟩
    obtain ⟨F, hF⟩ := Go.Deep.choose_lt key
    refine ⟨(List.range len).map F, ⟨by simp, hl, hm, fun h0 => ?_⟩⟩
    obtain ⟨b, off, spot⟩ := x
    have h1 := hF 0 h0
    have hspot : spot = none := by simpa [Addr.add] using World.cell?_spot h1
    subst hspot
    refine ⟨b, off, rfl, ?_, fun j hj => ?_⟩
    · have := World.block_lt_of_cell? w _ h1
      simpa [Addr.add] using this
    · rw [Nat.mul_one] at hj
      rw [← addr_add, hF j hj]
      simp [hj]

set_option maxRecDepth 100000 in
theorem shape_cells {n : Nat} {cs : List Value} {x : DataW H × List MemPlace} (h : DataW.trod enc Tryd.prog w base (fun _ => true) held n 24 cs = some x) :
    ∃ s : SA, cs = [.slice s.a s.n s.c, .bool s.l, .bool s.r] ∧ Ss w s.a s.n s.c s.P := by
  obtain ⟨xs, n', rfl, _, hl, hlen, hf⟩ := DataW.trod_struct Tryd.underlying24 h
  rw [cellsShape] at hl
  match cs, hl, xs, hlen with
  | [c0, c1, c2], _, [y0, y1, y2], _ =>
    have h0 : DataW.trod enc Tryd.prog w base (fun _ => true) held n' 22 (([c0, c1, c2].drop 0).take (Tryd.prog.cellsOf 22)) = [y0, y1, y2][0]? := hf 0 _ rfl
    have h1 : DataW.trod enc Tryd.prog w base (fun _ => true) held n' 4 (([c0, c1, c2].drop 1).take (Tryd.prog.cellsOf 4)) = [y0, y1, y2][1]? := hf 1 _ rfl
    have h2 : DataW.trod enc Tryd.prog w base (fun _ => true) held n' 4 (([c0, c1, c2].drop 2).take (Tryd.prog.cellsOf 4)) = [y0, y1, y2][2]? := hf 2 _ rfl
    simp only [cellsStrs, cellsBool, List.drop_zero, List.drop_succ_cons, List.take_succ_cons, List.take_zero, List.getElem?_cons_zero, List.getElem?_cons_succ] at h0 h1 h2
    obtain ⟨l, e1, _⟩ := DataW.trod_bool Tryd.underlying4 h1
    obtain ⟨r, e2, _⟩ := DataW.trod_bool Tryd.underlying4 h2
    simp only [List.cons.injEq, and_true] at e1 e2
    subst e1; subst e2
    obtain ⟨a, k, c, hcs⟩ : ∃ a k c, c0 = Value.slice a k c := by
      rcases Go.Deep.open_slice Tryd.underlying22 h0 with ⟨hcs, _⟩ | ⟨x, l, c, _, _, _, _, hcs, _⟩
      · exact ⟨none, 0, 0, by simpa using hcs⟩
      · exact ⟨some x, l, c, by simpa using hcs⟩
    subst hcs
    obtain ⟨L, hL⟩ := open_strs (enc := enc) (base := base) (held := held) (d := y0.1) (ps := y0.2) ⟨n', by simpa [Value.cells] using h0⟩
    exact ⟨⟨a, k, c, L, l, r⟩, rfl, hL⟩

set_option maxRecDepth 100000 in
theorem open_shape {r : Reach} {b0 : Nat} {v : Value} {d : DataW H} {ps : List MemPlace} (hv : Value.okWide Tryd.prog w r b0 24 v) (h : DataW.Trod enc Tryd.prog w base (fun _ => true) held 24 v d ps) :
    ∃ s : SA, v = .agg #[.slice s.a s.n s.c, .bool s.l, .bool s.r] ∧ Ss w s.a s.n s.c s.P := by
  have h' : ∃ cs, v = .agg cs := by
    unfold Value.okWide at hv
    rw [Tryd.underlying24] at hv
    obtain ⟨cs, h1, _⟩ := hv
    exact ⟨cs, h1⟩
  obtain ⟨cs, rfl⟩ := h'
  obtain ⟨fuel, hf⟩ := h
  obtain ⟨s, hs, hb⟩ := shape_cells hf
  refine ⟨s, ?_, hb⟩
  have : cs.toList = [.slice s.a s.n s.c, .bool s.l, .bool s.r] := by simpa [Value.cells] using hs
  rw [← Array.toArray_toList (xs := cs), this]

end
end Go.Proofs.YtenaadfmlpmffaaDoor
