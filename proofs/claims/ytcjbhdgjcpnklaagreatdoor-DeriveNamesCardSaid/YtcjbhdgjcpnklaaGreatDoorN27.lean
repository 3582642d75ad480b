import Derived.Test.YtcjbhdgjcpnklaaGreatDoorV20
import Derived.Test.YtcjbhdgjcpnklaaGreatDoorV23
import Derived.Test.YtcjbhdgjcpnklaaGreatDoorV01
import Derived.Test.YtcjbhdgjcpnklaaGreatDoorV07
import Derived.Deep.Slices
namespace Go.Proofs.YtcjbhdgjcpnklaaGreatDoor
section
open Go.RowKit Go.ChangeShapes Go.WideShapes Go.ChangeAt
theorem cellsChange : Tryz.prog.cellsOf 40 = 6 := by kernel_rfl
theorem cellsByte : Tryz.prog.cellsOf 5 = 1 := by kernel_rfl
structure CA where
 k : Nat
 g : Nat
 h : Nat
 o : OA
def CA.d {H : Type} (e : CA) : DataW H := .agg [.lit (.int .u8 e.k), .lit (.int .u8 e.g), .lit (.int .u8 e.h), e.o.d]
def CA.ch (e : CA) : CH := (e.k, e.g, e.h, e.o.op)
theorem zLb {H : Type} (e : CA) : e.o.s.data.toList.length ∈ (e.d : DataW H).weights Tryz.prog 40 := by
 simp [CA.d, OA.d, DataW.weights, DataW.weightsEach, Tryz.underlying40, Tryz.underlying38]
section
variable {H : Type} {enc : TypeId × Value → H} {w : World} {base : Nat} {held : Bool}
set_option maxRecDepth 100000 in
theorem zGs {n : Nat} {cs : List Value} {x : DataW H × List MemPlace} (hh : DataW.trod enc Tryz.prog w base (fun _ => true) held n 40 cs = some x) :
  ∃ e : CA, (e.k ≤ 255 ∧ e.g ≤ 255 ∧ e.h ≤ 255) ∧ cs = chC e.ch ∧ x.1 = e.d := by
 obtain ⟨xs, n', rfl, hx, hl, hlen, hf⟩ := DataW.trod_struct Tryz.underlying40 hh
 rw [cellsChange] at hl
 match cs, hl, xs, hlen with
 | [c0, c1, c2, c3, c4, c5], _, [y0, y1, y2, y3], _ =>
  have h0 : DataW.trod enc Tryz.prog w base (fun _ => true) held n' 5 (([c0, c1, c2, c3, c4, c5].drop 0).take (Tryz.prog.cellsOf 5)) = [y0, y1, y2, y3][0]? := hf 0 _ rfl
  have h1 : DataW.trod enc Tryz.prog w base (fun _ => true) held n' 5 (([c0, c1, c2, c3, c4, c5].drop 1).take (Tryz.prog.cellsOf 5)) = [y0, y1, y2, y3][1]? := hf 1 _ rfl
  have h2 : DataW.trod enc Tryz.prog w base (fun _ => true) held n' 5 (([c0, c1, c2, c3, c4, c5].drop 2).take (Tryz.prog.cellsOf 5)) = [y0, y1, y2, y3][2]? := hf 2 _ rfl
  have h3 : DataW.trod enc Tryz.prog w base (fun _ => true) held n' 38 (([c0, c1, c2, c3, c4, c5].drop 3).take (Tryz.prog.cellsOf 38)) = [y0, y1, y2, y3][3]? := hf 3 _ rfl
  simp only [cellsByte, cellsOper, List.drop_zero, List.drop_succ_cons, List.take_succ_cons, List.take_zero, List.take_nil, List.getElem?_cons_zero, List.getElem?_cons_succ] at h0 h1 h2 h3
  obtain ⟨p, e0, k0, w0⟩ := DataW.trod_int Tryz.underlying5 h0
  obtain ⟨q, e1, k1, w1⟩ := DataW.trod_int Tryz.underlying5 h1
  obtain ⟨r, e2, k2, w2⟩ := DataW.trod_int Tryz.underlying5 h2
  obtain ⟨o, e3, k3⟩ := zI7 h3
  have b0 := zCL w0
  have b1 := zCL w1
  have b2 := zCL w2
  obtain ⟨a, rfl⟩ := Int.eq_ofNat_of_zero_le b0.1
  obtain ⟨b, rfl⟩ := Int.eq_ofNat_of_zero_le b1.1
  obtain ⟨c, rfl⟩ := Int.eq_ofNat_of_zero_le b2.1
  simp only [List.cons.injEq, and_true] at e0 e1 e2 e3
  obtain ⟨rfl, rfl, rfl⟩ := e3
  subst e0; subst e1; subst e2
  refine ⟨⟨a, b, c, o⟩, ⟨by dsimp only; omega, by dsimp only; omega, by dsimp only; omega⟩, ?_, ?_⟩
  ·unfold chC CA.ch OA.op
   rw [zOb]
  ·rw [hx]
   show DataW.agg ([y0, y1, y2, y3].map (·.1)) = _
   simp only [List.map_cons, List.map_nil, k0, k1, k2, k3]
   rfl
theorem zBX {a : Option Addr} {len cap : Nat} {d : DataW H} {ps : List MemPlace} (h : DataW.Trod enc Tryz.prog w base (fun _ => true) held 22 (.slice a len cap) d ps) :
  ∃ C : List CH, ChS w a len cap C ∧ ((∀ n ∈ d.weights Tryz.prog 22, n ≤ reachBytes) → ∀ x ∈ C, okC x) := by
 obtain ⟨fuel, hf⟩ := h
 rcases Go.Deep.open_slice Tryz.underlying22 hf with ⟨hcs, _⟩ | ⟨x, l, c, m, n, D, Pl, hcs, hb, hl, hm, hmm, hd, hx⟩
 ·simp [Value.cells] at hcs
  obtain ⟨rfl, rfl, rfl⟩ := hcs
  exact ⟨[], Vs.nil 6 w none 0 (Nat.zero_le _), fun _ o ho => by cases ho⟩
 ·simp [Value.cells] at hcs
  obtain ⟨rfl, rfl, rfl⟩ := hcs
  rw [if_pos rfl] at hmm
  subst hmm
  have key : ∀ i, i < len → ∃ e : CA, (∀ j, j < 6 → w.cell? (x.add (i * 6 + j)) = (chC e.ch)[j]?) ∧ (e.k ≤ 255 ∧ e.g ≤ 255 ∧ e.h ≤ 255) ∧ D i = e.d := by
   intro i hi
   obtain ⟨cs', h1, h2⟩ := hx i (by omega)
   rw [cellsChange] at h1
   obtain ⟨e, hb, rfl, he⟩ := zGs h2
   obtain ⟨_, _, h3⟩ := World.cells?_some h1
   exact ⟨e, fun j hj => by rw [← Go.Deep.add_add, h3 j hj], hb, he⟩
  have : Inhabited CA := ⟨⟨0, 0, 0, ⟨ByteArray.empty, 0, 0⟩⟩⟩
  obtain ⟨F, hF⟩ := Go.Deep.choose_lt key
  have hlen : ((List.range len).map fun i => (F i).ch).length = len := by simp
  refine ⟨(List.range len).map fun i => (F i).ch, ⟨by rw [zKb, hlen], hl, hm, fun h0 => ?_⟩, fun hw o ho => ?_⟩
  ·obtain ⟨b, off, spot⟩ := x
   have h1 := (hF 0 h0).1 0 (by decide)
   have hspot : spot = none := by simpa [Addr.add] using World.cell?_spot h1
   subst hspot
   refine ⟨b, off, rfl, ?_, fun j hj => ?_⟩
   ·have := World.block_lt_of_cell? w _ h1
    simpa [Addr.add] using this
   ·obtain ⟨i, r, hr, rfl⟩ : ∃ i r, r < 6 ∧ j = i * 6 + r := ⟨j / 6, j % 6, by omega, by omega⟩
    have hi : i < len := by omega
    have h2 := (hF i hi).1 r hr
    have h3 := zOe ((List.range len).map fun i => (F i).ch) i (by omega) r hr
    simp only [List.getElem_map, List.getElem_range] at h3
    rw [zAe] at h2
    rw [h2, h3]
  ·obtain ⟨i, hi, rfl⟩ := List.mem_map.1 ho
   have hil := List.mem_range.1 hi
   obtain ⟨b0, b1, b2⟩ := (hF i hil).2.1
   have hr : (F i).o.s.data.toList.length ≤ reachBytes := by
    refine hw _ ?_
    obtain rfl := (Prod.mk.inj hd).1
    unfold DataW.weights
    rw [Tryz.underlying22]
    refine List.mem_cons_of_mem _ (List.mem_append.2 (.inl (zEF (List.mem_map.2 ⟨i, hi, rfl⟩) ?_)))
    rw [(hF i hil).2.2]
    exact zLb (F i)
   exact ⟨b0, b1, b2, Nat.le_trans hr (by decide)⟩
end
end
section
open Go.RowKit Go.ChangeShapes Go.WideShapes
theorem cellsTok : Tryz.prog.cellsOf 51 = 5 := by kernel_rfl
theorem cellsInt : Tryz.prog.cellsOf 3 = 1 := by kernel_rfl
theorem cellsStr : Tryz.prog.cellsOf 9 = 1 := by kernel_rfl
theorem cellsErr : Tryz.prog.cellsOf 49 = 1 := by kernel_rfl
instance : Inhabited TK := ⟨⟨0, 0, 0, ⟨#[]⟩, 0⟩⟩
section
variable {H : Type} {enc : TypeId × Value → H} {w : World} {base : Nat} {spare : Nat → Bool} {held : Bool}
set_option maxRecDepth 20000 in
theorem zLc {n : Nat} {cs : List Value} {x : DataW H × List MemPlace} (h : DataW.trod enc Tryz.prog w base spare held n 51 cs = some x) : ∃ t : TK, cs = cellsT t ∧ t.s.size ≤ maxLen := by
 obtain ⟨xs, n', rfl, _, hl, hlen, hf⟩ := DataW.trod_struct Tryz.underlying51 h
 rw [cellsTok] at hl
 match cs, hl, xs, hlen with
 | [c0, c1, c2, c3, c4], _, [y0, y1, y2, y3, y4], _ =>
  have h0 : DataW.trod enc Tryz.prog w base spare held n' 3 (([c0, c1, c2, c3, c4].drop 0).take (Tryz.prog.cellsOf 3)) = [y0, y1, y2, y3, y4][0]? := hf 0 _ rfl
  have h1 : DataW.trod enc Tryz.prog w base spare held n' 3 (([c0, c1, c2, c3, c4].drop 1).take (Tryz.prog.cellsOf 3)) = [y0, y1, y2, y3, y4][1]? := hf 1 _ rfl
  have h2 : DataW.trod enc Tryz.prog w base spare held n' 3 (([c0, c1, c2, c3, c4].drop 2).take (Tryz.prog.cellsOf 3)) = [y0, y1, y2, y3, y4][2]? := hf 2 _ rfl
  have h3 : DataW.trod enc Tryz.prog w base spare held n' 9 (([c0, c1, c2, c3, c4].drop 3).take (Tryz.prog.cellsOf 9)) = [y0, y1, y2, y3, y4][3]? := hf 3 _ rfl
  have h4 : DataW.trod enc Tryz.prog w base spare held n' 49 (([c0, c1, c2, c3, c4].drop 4).take (Tryz.prog.cellsOf 49)) = [y0, y1, y2, y3, y4][4]? := hf 4 _ rfl
  simp only [cellsInt, cellsStr, cellsErr, List.drop_zero, List.drop_succ_cons, List.take_succ_cons, List.take_zero, List.getElem?_cons_zero, List.getElem?_cons_succ] at h0 h1 h2 h3 h4
  obtain ⟨k, e0, _⟩ := DataW.trod_int Tryz.underlying3 h0
  obtain ⟨f, e1, _⟩ := DataW.trod_int Tryz.underlying3 h1
  obtain ⟨t, e2, _⟩ := DataW.trod_int Tryz.underlying3 h2
  obtain ⟨s, e3, _, hs⟩ := DataW.trod_string Tryz.underlying9 h3
  obtain ⟨e, e4, _⟩ := DataW.trod_int Tryz.underlying49 h4
  simp only [List.cons.injEq, and_true] at e0 e1 e2 e3 e4
  subst e0; subst e1; subst e2; subst e3; subst e4
  exact ⟨⟨k, f, t, s, e⟩, rfl, hs⟩
theorem zEb {a : Option Addr} {len cap : Nat} {d : DataW H} {ps : List MemPlace} (h : DataW.Trod enc Tryz.prog w base (fun _ => true) held 23 (.slice a len cap) d ps) :
  ∃ L : List TK, Ts w a len cap L ∧ ∀ t ∈ L, t.s.size ≤ maxLen := by
 obtain ⟨fuel, hf⟩ := h
 rcases Go.Deep.open_slice Tryz.underlying23 hf with ⟨hcs, _⟩ | ⟨x, l, c, m, n, D, Pl, hcs, hb, hl, hm, hmm, _, hx⟩
 ·simp [Value.cells] at hcs
  obtain ⟨rfl, rfl, rfl⟩ := hcs
  exact ⟨[], Ts.nil w none 0 (Nat.zero_le _), by simp⟩
 ·simp [Value.cells] at hcs
  obtain ⟨rfl, rfl, rfl⟩ := hcs
  rw [if_pos rfl] at hmm
  subst hmm
  have key : ∀ i, i < len → ∃ t : TK, (∀ j, j < 5 → w.cell? (x.add (i * 5 + j)) = (cellsT t)[j]?) ∧ t.s.size ≤ maxLen := by
   intro i hi
   obtain ⟨cs', h1, h2⟩ := hx i (by omega)
   rw [cellsTok] at h1
   obtain ⟨t, rfl, ht⟩ := zLc h2
   obtain ⟨_, _, h3⟩ := World.cells?_some h1
   exact ⟨t, fun j hj => by rw [← Go.Deep.add_add]; exact h3 j hj, ht⟩
  obtain ⟨F, hF⟩ := Go.Deep.choose_lt key
  have hat : ∀ j, j < len → tat ((List.range len).map F) j = F j := fun j hj => by unfold tat; simp [List.getD, hj]
  refine ⟨(List.range len).map F, ⟨by simp, hl, hm, fun h0 => ?_⟩, fun t ht => ?_⟩
  ·obtain ⟨b, off, spot⟩ := x
   have h1 := (hF 0 h0).1 0 (by decide)
   have hspot : spot = none := by simpa [Addr.add] using World.cell?_spot h1
   subst hspot
   refine ⟨b, off, rfl, ?_, fun j hj i hi => ?_⟩
   ·have := World.block_lt_of_cell? w _ h1
    simpa [Addr.add] using this
   ·rw [hat j hj, ← zAe]; exact (hF j hj).1 i hi
  ·obtain ⟨j, hj, rfl⟩ := List.mem_map.1 ht
   exact (hF j (List.mem_range.1 hj)).2
end
end
end Go.Proofs.YtcjbhdgjcpnklaaGreatDoor
