import Derived.Deep.Slices
import Derived.Test.YtanhpgmiadgmjaaGreatDoorT27
namespace Go.Proofs.YtanhpgmiadgmjaaGreatDoor
open Go.RowKit Go.ChangeShapes Go.WideShapes
theorem cellsNd : Tryz.prog.cellsOf 37 = 5 := by kernel_rfl
theorem cellsIntN : Tryz.prog.cellsOf 3 = 1 := by kernel_rfl
theorem cellsStrN : Tryz.prog.cellsOf 9 = 1 := by kernel_rfl
instance : Inhabited ND := ⟨⟨0, [], 0, 0, 0⟩⟩
section
variable {H : Type} {enc : TypeId × Value → H} {w : World} {base : Nat} {spare : Nat → Bool} {held : Bool}
set_option maxRecDepth 20000 in
theorem nd_cells {n : Nat} {cs : List Value} {x : DataW H × List MemPlace} (h : DataW.trod enc Tryz.prog w base spare held n 37 cs = some x) : ∃ t : ND, cs = ndC t := by
 obtain ⟨xs, n', rfl, _, hl, hlen, hf⟩ := DataW.trod_struct Tryz.underlying37 h
 rw [cellsNd] at hl
 match cs, hl, xs, hlen with
 | [c0, c1, c2, c3, c4], _, [y0, y1, y2, y3, y4], _ =>
  have h0 : DataW.trod enc Tryz.prog w base spare held n' 3 (([c0, c1, c2, c3, c4].drop 0).take (Tryz.prog.cellsOf 3)) = [y0, y1, y2, y3, y4][0]? := hf 0 _ rfl
  have h1 : DataW.trod enc Tryz.prog w base spare held n' 9 (([c0, c1, c2, c3, c4].drop 1).take (Tryz.prog.cellsOf 9)) = [y0, y1, y2, y3, y4][1]? := hf 1 _ rfl
  have h2 : DataW.trod enc Tryz.prog w base spare held n' 3 (([c0, c1, c2, c3, c4].drop 2).take (Tryz.prog.cellsOf 3)) = [y0, y1, y2, y3, y4][2]? := hf 2 _ rfl
  have h3 : DataW.trod enc Tryz.prog w base spare held n' 3 (([c0, c1, c2, c3, c4].drop 3).take (Tryz.prog.cellsOf 3)) = [y0, y1, y2, y3, y4][3]? := hf 3 _ rfl
  have h4 : DataW.trod enc Tryz.prog w base spare held n' 3 (([c0, c1, c2, c3, c4].drop 4).take (Tryz.prog.cellsOf 3)) = [y0, y1, y2, y3, y4][4]? := hf 4 _ rfl
  simp only [cellsIntN, cellsStrN, List.drop_zero, List.drop_succ_cons, List.take_succ_cons, List.take_zero, List.getElem?_cons_zero, List.getElem?_cons_succ] at h0 h1 h2 h3 h4
  obtain ⟨k, e0, _⟩ := DataW.trod_int Tryz.underlying3 h0
  obtain ⟨s, e1, _, hs⟩ := DataW.trod_string Tryz.underlying9 h1
  obtain ⟨f, e2, _⟩ := DataW.trod_int Tryz.underlying3 h2
  obtain ⟨t, e3, _⟩ := DataW.trod_int Tryz.underlying3 h3
  obtain ⟨e, e4, _⟩ := DataW.trod_int Tryz.underlying3 h4
  simp only [List.cons.injEq, and_true] at e0 e1 e2 e3 e4
  subst e0; subst e1; subst e2; subst e3; subst e4
  refine ⟨⟨k, s.data.toList, f, t, e⟩, ?_⟩
  have hmk : mk s.data.toList = s := by unfold mk; rw [Array.toArray_toList]
  show _ = [Value.int .i64 k, .string (mk s.data.toList), .int .i64 f, .int .i64 t, .int .i64 e]
  rw [hmk]
theorem open_nodes {a : Option Addr} {len cap : Nat} {d : DataW H} {ps : List MemPlace} (h : DataW.Trod enc Tryz.prog w base (fun _ => true) held 24 (.slice a len cap) d ps) :
  ∃ L : List ND, NdS w a len cap L := by
 obtain ⟨fuel, hf⟩ := h
 rcases Go.Deep.open_slice Tryz.underlying24 hf with ⟨hcs, _⟩ | ⟨x, l, c, m, n, D, Pl, hcs, hb, hl, hm, hmm, _, hx⟩
 ·simp [Value.cells] at hcs
  obtain ⟨rfl, rfl, rfl⟩ := hcs
  exact ⟨[], Vs.nil 5 w none 0 (Nat.zero_le _)⟩
 ·simp [Value.cells] at hcs
  obtain ⟨rfl, rfl, rfl⟩ := hcs
  rw [if_pos rfl] at hmm
  subst hmm
  have key : ∀ i, i < len → ∃ t : ND, ∀ j, j < 5 → w.cell? (x.add (i * 5 + j)) = (ndC t)[j]? := by
   intro i hi
   obtain ⟨cs', h1, h2⟩ := hx i (by omega)
   rw [cellsNd] at h1
   obtain ⟨t, rfl⟩ := nd_cells h2
   obtain ⟨_, _, h3⟩ := World.cells?_some h1
   exact ⟨t, fun j hj => by rw [← Go.Deep.add_add]; exact h3 j hj⟩
  obtain ⟨F, hF⟩ := Go.Deep.choose_lt key
  have hlen : ((List.range len).map F).length = len := by simp
  refine ⟨(List.range len).map F, ⟨by rw [cN_len, hlen], hl, hm, fun h0 => ?_⟩⟩
  obtain ⟨b, off, spot⟩ := x
  have h1 := (hF 0 h0) 0 (by decide)
  have hspot : spot = none := by simpa [Addr.add] using World.cell?_spot h1
  subst hspot
  refine ⟨b, off, rfl, ?_, fun j hj => ?_⟩
  ·have := World.block_lt_of_cell? w _ h1
   simpa [Addr.add] using this
  ·obtain ⟨i, r, hr, rfl⟩ : ∃ i r, r < 5 ∧ j = i * 5 + r := ⟨j / 5, j % 5, by omega, by omega⟩
   have hi : i < len := by omega
   have h2 := (hF i hi) r hr
   have h3 := cN_at ((List.range len).map F) i (by omega)
   simp only [List.getElem_map, List.getElem_range] at h3
   rw [addr_add] at h2
   rw [h2]
   obtain rfl | rfl | rfl | rfl | rfl : r = 0 ∨ r = 1 ∨ r = 2 ∨ r = 3 ∨ r = 4 := by omega
   ·exact h3.1.symm
   ·exact h3.2.1.symm
   ·exact h3.2.2.1.symm
   ·exact h3.2.2.2.1.symm
   ·exact h3.2.2.2.2.symm
end
end Go.Proofs.YtanhpgmiadgmjaaGreatDoor
