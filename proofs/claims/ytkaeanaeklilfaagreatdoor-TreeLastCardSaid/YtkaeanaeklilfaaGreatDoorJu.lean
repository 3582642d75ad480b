/- An argument that is a slice of tokens: which tokens it holds. No walk here. -/
import Derived.Test.YtkaeanaeklilfaaGreatDoorMA
import Derived.Deep.Slices
namespace Go.Proofs.YtkaeanaeklilfaaGreatDoor
open Go.RowKit Go.ChangeShapes Go.WideShapes

theorem cellsTok : Tryz.prog.cellsOf 47 = 5 := by kernel_rfl
theorem cellsInt : Tryz.prog.cellsOf 3 = 1 := by kernel_rfl
theorem cellsStr : Tryz.prog.cellsOf 9 = 1 := by kernel_rfl
theorem cellsErr : Tryz.prog.cellsOf 45 = 1 := by kernel_rfl

instance : Inhabited TK := ⟨⟨0, 0, 0, ⟨#[]⟩, 0⟩⟩

section
variable {H : Type} {enc : TypeId × Value → H} {w : World} {base : Nat} {spare : Nat → Bool} {held : Bool}

set_option maxRecDepth 20000 in
theorem tok_cells {n : Nat} {cs : List Value} {x : DataW H × List MemPlace} (h : DataW.trod enc Tryz.prog w base spare held n 47 cs = some x) : ∃ t : TK, cs = cellsT t ∧ t.s.size ≤ maxLen := by
  obtain ⟨xs, n', rfl, _, hl, hlen, hf⟩ := DataW.trod_struct Tryz.underlying47 h
  rw [cellsTok] at hl
  match cs, hl, xs, hlen with
  | [c0, c1, c2, c3, c4], _, [y0, y1, y2, y3, y4], _ =>
    have h0 : DataW.trod enc Tryz.prog w base spare held n' 3 (([c0, c1, c2, c3, c4].drop 0).take (Tryz.prog.cellsOf 3)) = [y0, y1, y2, y3, y4][0]? := hf 0 _ rfl
    have h1 : DataW.trod enc Tryz.prog w base spare held n' 3 (([c0, c1, c2, c3, c4].drop 1).take (Tryz.prog.cellsOf 3)) = [y0, y1, y2, y3, y4][1]? := hf 1 _ rfl
    have h2 : DataW.trod enc Tryz.prog w base spare held n' 3 (([c0, c1, c2, c3, c4].drop 2).take (Tryz.prog.cellsOf 3)) = [y0, y1, y2, y3, y4][2]? := hf 2 _ rfl
    have h3 : DataW.trod enc Tryz.prog w base spare held n' 9 (([c0, c1, c2, c3, c4].drop 3).take (Tryz.prog.cellsOf 9)) = [y0, y1, y2, y3, y4][3]? := hf 3 _ rfl
    have h4 : DataW.trod enc Tryz.prog w base spare held n' 45 (([c0, c1, c2, c3, c4].drop 4).take (Tryz.prog.cellsOf 45)) = [y0, y1, y2, y3, y4][4]? := hf 4 _ rfl
    simp only [cellsInt, cellsStr, cellsErr, List.drop_zero, List.drop_succ_cons, List.take_succ_cons, List.take_zero, List.getElem?_cons_zero, List.getElem?_cons_succ] at h0 h1 h2 h3 h4
    obtain ⟨k, e0, _⟩ := DataW.trod_int Tryz.underlying3 h0
    obtain ⟨f, e1, _⟩ := DataW.trod_int Tryz.underlying3 h1
    obtain ⟨t, e2, _⟩ := DataW.trod_int Tryz.underlying3 h2
    obtain ⟨s, e3, _, hs⟩ := DataW.trod_string Tryz.underlying9 h3
    obtain ⟨e, e4, _⟩ := DataW.trod_int Tryz.underlying45 h4
    simp only [List.cons.injEq, and_true] at e0 e1 e2 e3 e4
    subst e0; subst e1; subst e2; subst e3; subst e4
    exact ⟨⟨k, f, t, s, e⟩, rfl, hs⟩

theorem open_toks {a : Option Addr} {len cap : Nat} {d : DataW H} {ps : List MemPlace} (h : DataW.Trod enc Tryz.prog w base (fun _ => true) held 27 (.slice a len cap) d ps) :
    ∃ L : List TK, Ts w a len cap L ∧ ∀ t ∈ L, t.s.size ≤ maxLen := by
  obtain ⟨fuel, hf⟩ := h
  rcases Go.Deep.open_slice Tryz.underlying27 hf with ⟨hcs, _⟩ | ⟨x, l, c, m, n, D, Pl, hcs, hb, hl, hm, hmm, _, hx⟩
  · simp [Value.cells] at hcs
    obtain ⟨rfl, rfl, rfl⟩ := hcs
    exact ⟨[], Ts.nil w none 0 (Nat.zero_le _), by simp⟩
  · simp [Value.cells] at hcs
    obtain ⟨rfl, rfl, rfl⟩ := hcs
    rw [if_pos rfl] at hmm
    subst hmm
    have key : ∀ i, i < len → ∃ t : TK, (∀ j, j < 5 → w.cell? (x.add (i * 5 + j)) = (cellsT t)[j]?) ∧ t.s.size ≤ maxLen := by
      intro i hi
      obtain ⟨cs', h1, h2⟩ := hx i (by omega)
      rw [cellsTok] at h1
      obtain ⟨t, rfl, ht⟩ := tok_cells h2
      obtain ⟨_, _, h3⟩ := World.cells?_some h1
      exact ⟨t, fun j hj => by rw [← Go.Deep.add_add]; exact h3 j hj, ht⟩
    obtain ⟨F, hF⟩ := Go.Deep.choose_lt key
    have hat : ∀ j, j < len → tat ((List.range len).map F) j = F j := fun j hj => by unfold tat; simp [List.getD, hj]
    refine ⟨(List.range len).map F, ⟨by simp, hl, hm, fun h0 => ?_⟩, fun t ht => ?_⟩
    · obtain ⟨b, off, spot⟩ := x
      have h1 := (hF 0 h0).1 0 (by decide)
      have hspot : spot = none := by simpa [Addr.add] using World.cell?_spot h1
      subst hspot
      refine ⟨b, off, rfl, ?_, fun j hj i hi => ?_⟩
      · have := World.block_lt_of_cell? w _ h1
        simpa [Addr.add] using this
      · rw [hat j hj, ← addr_add]; exact (hF j hj).1 i hi
    · obtain ⟨j, hj, rfl⟩ := List.mem_map.1 ht
      exact (hF j (List.mem_range.1 hj)).2

end
end Go.Proofs.YtkaeanaeklilfaaGreatDoor
