/- Arguments that are an array of integers, an edit, a slice of edits: what they hold. No walk here. -/
import Derived.Test.YtkpdehbffankkaaUb
import Derived.Test.YtkpdehbffankkaaRows
import Derived.Test.YtkpdehbffankkaaUr
import Derived.Deep.Slices
import Derived.WalkKit
import Derived.WideShapes
import Derived.ProofKit
import Derived.OpenShut
namespace Go.Proofs.Ytkpdehbffankkaa
open Go.RowKit Go.ChangeShapes Go.WideShapes Go.ChangeAt

theorem open_arr {P : Program} {w : World} {r : Reach} {b0 : Nat} {t e : TypeId} {v : Value} {n : Nat} {K : IntKind} (hu : (match P.underlying t with | some (.array _ _) => true | _ => false) = true)
    (hc : P.cellsOf t = n) (hts : P.cellTypes P.depth t = some (List.replicate n e)) (he : P.underlying e = some (.int K)) (hn : 0 < n) (h : Value.okWide P w r b0 t v) :
    ∃ zs : List Int, v = .agg (zs.map (Value.int K)).toArray ∧ zs.length = n ∧ ∀ x ∈ zs, (Lit.int K x).wf = true := by
  have h' : ∃ cs, v = .agg cs ∧ cs.size = P.cellsOf t ∧ Row.okWide P w r b0 t cs := by
    unfold Value.okWide at h
    cases ht : P.underlying t with
    | none => rw [ht] at hu; simp at hu
    | some T =>
      rw [ht] at hu h
      cases T with
      | array a b => exact h
      | _ => simp at hu
  obtain ⟨cs, rfl, hsz, ts, h1, _, h3⟩ := h'
  rw [hc] at hsz
  rw [hts] at h1
  obtain rfl := Option.some.inj h1
  have hcell : ∀ i (hi : i < cs.size), ∃ x : Int, cs[i] = .int K x ∧ (Lit.int K x).wf = true := by
    intro i hi
    obtain ⟨u, hu', hv⟩ := h3 i cs[i] (by simp [hi])
    rw [List.length_replicate, List.getElem?_replicate, if_pos (Nat.mod_lt _ hn)] at hu'
    obtain rfl := Option.some.inj hu'
    unfold Cell.okWide at hv
    rw [he] at hv
    unfold Cell.ok at hv
    rw [he] at hv
    cases hx : cs[i] with
    | int k x =>
      rw [hx] at hv
      simp at hv
      obtain ⟨rfl, hv⟩ := hv
      unfold IntKind.has at hv
      exact ⟨x, rfl, by simp only [Lit.wf, Bool.and_eq_true, decide_eq_true_eq]; exact hv⟩
    | _ => rw [hx] at hv; simp at hv
  refine ⟨cs.toList.map fun c => (match c with | .int _ x => x | _ => 0), ?_, by simpa using hsz, ?_⟩
  · congr 1
    apply Array.ext
    · simp
    · intro i h1 h2
      obtain ⟨x, hx, _⟩ := hcell i h1
      simp [hx]
  · intro x hx
    obtain ⟨c, hc', rfl⟩ := List.mem_map.1 hx
    obtain ⟨i, hi, rfl⟩ := List.getElem_of_mem hc'
    obtain ⟨y, hy, hr⟩ := hcell i (by simpa using hi)
    rw [Array.getElem_toList, hy]
    exact hr

/-- An edit: where, how many bytes go, which come. -/
structure ED where
  k : Int
  d : Int
  a : Option Addr
  n : Nat
  c : Nat
  l : List Int

def cellsE (x : ED) : List Value := [.int .i64 x.k, .int .i64 x.d, .slice x.a x.n x.c]

theorem cellsEdit : Try.prog.cellsOf 34 = 3 := by kernel_rfl
theorem cellsInt3 : Try.prog.cellsOf 3 = 1 := by kernel_rfl
theorem cellsBytes : Try.prog.cellsOf 22 = 1 := by kernel_rfl

section
variable {H : Type} {enc : TypeId × Value → H} {w : World} {base : Nat} {held : Bool}

set_option maxRecDepth 100000 in
theorem edit_cells {n : Nat} {cs : List Value} {x : DataW H × List MemPlace} (h : DataW.trod enc Try.prog w base (fun _ => true) held n 34 cs = some x) :
    ∃ e : ED, cs = cellsE e ∧ Bs w e.a e.n e.c e.l := by
  obtain ⟨xs, n', rfl, _, hl, hlen, hf⟩ := DataW.trod_struct Try.underlying34 h
  rw [cellsEdit] at hl
  match cs, hl, xs, hlen with
  | [c0, c1, c2], _, [y0, y1, y2], _ =>
    have h0 : DataW.trod enc Try.prog w base (fun _ => true) held n' 3 (([c0, c1, c2].drop 0).take (Try.prog.cellsOf 3)) = [y0, y1, y2][0]? := hf 0 _ rfl
    have h1 : DataW.trod enc Try.prog w base (fun _ => true) held n' 3 (([c0, c1, c2].drop 1).take (Try.prog.cellsOf 3)) = [y0, y1, y2][1]? := hf 1 _ rfl
    have h2 : DataW.trod enc Try.prog w base (fun _ => true) held n' 22 (([c0, c1, c2].drop 2).take (Try.prog.cellsOf 22)) = [y0, y1, y2][2]? := hf 2 _ rfl
    simp only [cellsInt3, cellsBytes, List.drop_zero, List.drop_succ_cons, List.take_succ_cons, List.take_zero, List.getElem?_cons_zero, List.getElem?_cons_succ] at h0 h1 h2
    obtain ⟨k, e0, _⟩ := DataW.trod_int Try.underlying3 h0
    obtain ⟨d, e1, _⟩ := DataW.trod_int Try.underlying3 h1
    simp only [List.cons.injEq, and_true] at e0 e1
    subst e0; subst e1
    obtain ⟨a, l, c, zs, hcs, hr⟩ : ∃ a l c zs, [c2] = [Value.slice a l c] ∧ Bs w a l c zs := by
      rcases open_ints Try.underlying22 Try.underlying5 (by kernel_rfl) h2 with ⟨hcs, _⟩ | ⟨x, l, c, zs, hcs, _, hl, hm, hz, _, hcell, hwz⟩
      · exact ⟨none, 0, 0, [], hcs, Bs.nil _ _ _ (Nat.zero_le _)⟩
      · exact ⟨some x, l, c, zs.take l, hcs, bs_of_row (.inr ⟨_, rfl, hl, hm, by simpa using hz, hcell, hwz⟩)⟩
    simp only [List.cons.injEq, and_true] at hcs
    subst hcs
    exact ⟨⟨k, d, a, l, c, zs⟩, rfl, hr⟩

set_option maxRecDepth 100000 in
theorem open_edit {r : Reach} {b0 : Nat} {v : Value} {d : DataW H} {ps : List MemPlace} (hv : Value.okWide Try.prog w r b0 34 v) (h : DataW.Trod enc Try.prog w base (fun _ => true) held 34 v d ps) :
    ∃ e : ED, v = .agg #[.int .i64 e.k, .int .i64 e.d, .slice e.a e.n e.c] ∧ Bs w e.a e.n e.c e.l := by
  have h' : ∃ cs, v = .agg cs := by
    unfold Value.okWide at hv
    rw [Try.underlying34] at hv
    obtain ⟨cs, h1, _⟩ := hv
    exact ⟨cs, h1⟩
  obtain ⟨cs, rfl⟩ := h'
  obtain ⟨fuel, hf⟩ := h
  obtain ⟨e, he, hb⟩ := edit_cells hf
  refine ⟨e, ?_, hb⟩
  have : cs.toList = cellsE e := by simpa [Value.cells] using he
  rw [← Array.toArray_toList (xs := cs), this]
  rfl

/-- A slice of edits. -/
structure Es (w : World) (a : Option Addr) (len cap : Nat) (L : List ED) : Prop where
  hl : L.length = len
  lc : len ≤ cap
  cm : cap ≤ maxLen
  at_ : 0 < len → ∃ b off, a = some ⟨b, off, none⟩ ∧ b < w.heap.size ∧ ∀ j e, L[j]? = some e → (∀ i, i < 3 → w.cell? ⟨b, off + (j * 3 + i), none⟩ = (cellsE e)[i]?) ∧ Bs w e.a e.n e.c e.l

theorem open_edits {a : Option Addr} {len cap : Nat} {d : DataW H} {ps : List MemPlace} (h : DataW.Trod enc Try.prog w base (fun _ => true) held 23 (.slice a len cap) d ps) :
    ∃ L : List ED, Es w a len cap L := by
  obtain ⟨fuel, hf⟩ := h
  rcases Go.Deep.open_slice Try.underlying23 hf with ⟨hcs, _⟩ | ⟨x, l, c, m, n, D, Pl, hcs, hb, hl, hm, hmm, _, hx⟩
  · simp [Value.cells] at hcs
    obtain ⟨rfl, rfl, rfl⟩ := hcs
    exact ⟨[], rfl, Nat.le_refl _, Nat.zero_le _, fun h => absurd h (by omega)⟩
  · simp [Value.cells] at hcs
    obtain ⟨rfl, rfl, rfl⟩ := hcs
    rw [if_pos rfl] at hmm
    subst hmm
    have key : ∀ i, i < len → ∃ e : ED, (∀ j, j < 3 → w.cell? (x.add (i * 3 + j)) = (cellsE e)[j]?) ∧ Bs w e.a e.n e.c e.l := by
      intro i hi
      obtain ⟨cs', h1, h2⟩ := hx i (by omega)
      rw [cellsEdit] at h1
      obtain ⟨e, rfl, he⟩ := edit_cells h2
      obtain ⟨_, _, h3⟩ := World.cells?_some h1
      exact ⟨e, fun j hj => by rw [← Go.Deep.add_add]; exact h3 j hj, he⟩
    have : Inhabited ED := ⟨⟨0, 0, none, 0, 0, []⟩⟩
    obtain ⟨F, hF⟩ := Go.Deep.choose_lt key
    refine ⟨(List.range len).map F, by simp, hl, hm, fun h0 => ?_⟩
    obtain ⟨b, off, spot⟩ := x
    have h1 := (hF 0 h0).1 0 (by decide)
    have hspot : spot = none := by simpa [Addr.add] using World.cell?_spot h1
    subst hspot
    refine ⟨b, off, rfl, ?_, fun j e hj => ?_⟩
    · have := World.block_lt_of_cell? w _ h1
      simpa [Addr.add] using this
    · have hjl : j < len := by
        have := (List.getElem?_eq_some_iff.1 hj).1
        simpa using this
      have he : e = F j := by
        rw [List.getElem?_map, List.getElem?_range hjl] at hj
        exact (Option.some.inj hj).symm
      subst he
      exact ⟨fun i hi => by rw [← addr_add]; exact (hF j hjl).1 i hi, (hF j hjl).2⟩

end
end Go.Proofs.Ytkpdehbffankkaa
