/- Rows of a graph: ten numbers of 64 bits as an array's cells, in a block of their own. -/
import Derived.Test.YtnedappnmkbbpaaRows
import Derived.Test.YtnedappnmkbbpaaChecked
import Derived.Test.YtnedappnmkbbpaaUb
import Derived.Test.YtnedappnmkbbpaaRt
import Derived.Deep.RegionLaw
import Derived.Laws.Rows
import Derived.Deep.MidRow
import Derived.Deep.RegionHeld3
import Derived.Deep.QuietTactic
import Derived.Laws.BitsAllLaws
import Derived.Laws.CopyOwn
import Derived.Lib.Hide
import Derived.Deep.OwnRows
namespace Go.Proofs.Ytnedappnmkbbpaa
open Go.RowKit

/-- The ten cells. -/
def rl (z : List Int) : List Value := z.map (Value.int .i64)
abbrev rv (z : List Int) : Array Value := (rl z).toArray
theorem rl_len {z : List Int} (hz : z.length = 10) : (rl z).length = 10 := by simp [rl, hz]

theorem rv_size {z : List Int} (hz : z.length = 10) : (rv z).size = 10 := by simp [rv, rl, hz]
theorem rv_at {z : List Int} (hz : z.length = 10) {j : Nat} (hj : j < 10) : (rv z)[j]? = some (.int .i64 (bt z j)) := by
  simp [rv, rl, bt, List.getD, show j < z.length by omega]
theorem rv_set (z : List Int) (j : Nat) (x : Int) : (rv z).setIfInBounds j (.int .i64 x) = rv (z.set j x) := by
  simp [rv, rl, List.map_set]
theorem rv_one (z : List Int) : (rv z).all (·.oneCell') = true := by
  rw [Array.all_eq_true_iff_forall_mem]
  intro v hv
  simp only [rv, rl, List.mem_toArray, List.mem_map] at hv
  obtain ⟨x, _, rfl⟩ := hv
  rfl
theorem rv_inj : ∀ {z z' : List Int}, rv z = rv z' → z = z'
  | z, z', h => by
    unfold rv rl at h
    have h1 : z.map (Value.int .i64) = z'.map (Value.int .i64) := by simpa using h
    clear h
    induction z generalizing z' with
    | nil => cases z' with
      | nil => rfl
      | cons y z' => simp at h1
    | cons x z ih => cases z' with
      | nil => simp at h1
      | cons y z' =>
        simp only [List.map_cons, List.cons.injEq, Value.int.injEq, true_and] at h1
        rw [h1.1, ih z' h1.2]

theorem info_rows : (Try.prog.info? 23).map (·.size) = some 10 := by kernel_rfl

/-- The block g holds these rows. -/
def RB (w : World) (g : Nat) (z : List Int) : Prop := w.heap[g]? = some (.cells (rv z) 23 (0, 0))

theorem RB.cell {w : World} {g : Nat} {z : List Int} (h : RB w g z) (hz : z.length = 10) {j : Nat} (hj : j < 10) : w.cell? ⟨g, j, none⟩ = some (.int .i64 (bt z j)) :=
  (cell_of_row w g j _ _ _ h).trans (rv_at hz hj)
theorem RB.frozen {w : World} {g : Nat} {z : List Int} (h : RB w g z) (j : Nat) : w.frozen? ⟨g, j, none⟩ = false := frozen_of_row w g j _ _ h
theorem RB.set {w : World} {g : Nat} {z : List Int} (h : RB w g z) (j : Nat) (x : Int) : RB (w.setCell ⟨g, j, none⟩ (.int .i64 x)) g (z.set j x) := by
  have := heap_setCell_same w g j _ _ (.int .i64 x) h
  rw [rv_set] at this; exact this
theorem RB.row {w : World} {g : Nat} {z : List Int} (h : RB w g z) (z' : List Int) : RB (w.setRow g (rv z')) g z' := setRow_heap w g _ _ _ _ h
theorem RB.keep {w w' : World} {g B : Nat} {z : List Int} (h : RB w g z) (hb : Below B w w') (hg : g < B) : RB w' g z := (hb.block g hg).trans h
theorem RB.lt {w : World} {g : Nat} {z : List Int} (h : RB w g z) : g < w.heap.size := (Array.getElem?_eq_some_iff.1 h).1
theorem RB.drew {w : World} {g : Nat} {z : List Int} (h : RB w g z) : RB w.drew g z := h
theorem RB.range {w : World} {g : Nat} {z : List Int} (h : RB w g z) : w.rangeAt g 0 (rl z) := fun j v hv => by
  rw [Nat.zero_add, cell_of_row w g j _ _ _ h]; simpa using hv
theorem RB.there {w : World} {g : Nat} {z : List Int} (h : RB w g z) (hz : z.length = 10) : w.there g 0 10 := fun j hj => by
  rw [Nat.zero_add]; exact ⟨by rw [h.cell hz hj]; rfl, h.frozen j⟩
theorem RB.new (w : World) (z : List Int) : RB (w.alloc (.cells (rv z) 23)) w.heap.size z := heap_alloc_new w _
theorem RB.alloc {w : World} {g : Nat} {z : List Int} (h : RB w g z) (o : Obj) : RB (w.alloc o) g z := (Below.heap_alloc w o g h.lt).trans h

/-- Only block g was written: all others are as they were, and there are as many. -/
structure Only (g : Nat) (w w' : World) : Prop where
  os : w'.os = w.os
  tape : w'.tape = w.tape
  output : w'.output = w.output
  size : w'.heap.size = w.heap.size
  block : ∀ k, k ≠ g → w'.heap[k]? = w.heap[k]?
theorem Only.below {g B : Nat} {w w' : World} (h : Only g w w') (hB : B ≤ g) : Below B w w' := ⟨h.os, h.tape, h.output, by rw [h.size]; exact Nat.le_refl _, fun k hk => h.block k (by omega)⟩
theorem Only.rows {g k : Nat} {w w' : World} {z : List Int} (h : Only g w w') (hk : k ≠ g) (hz : RB w k z) : RB w' k z := (h.block k hk).trans hz
theorem Only.ofCell (w : World) (g j : Nat) (v : Value) : Only g w (w.setCell ⟨g, j, none⟩ v) := ⟨rfl, rfl, rfl, by simp [World.setCell], fun k hk => heap_setCell_other w _ k v hk⟩
theorem Only.ofRow (w : World) (g : Nat) (cs : Array Value) : Only g w (w.setRow g cs) := ⟨rfl, rfl, rfl, by simp, fun k hk => setRow_other w g k cs hk⟩
theorem Only.trans {g : Nat} {a b c : World} (h : Only g a b) (k : Only g b c) : Only g a c := ⟨k.os.trans h.os, k.tape.trans h.tape, k.output.trans h.output, k.size.trans h.size, fun i hi => (k.block i hi).trans (h.block i hi)⟩

theorem load_rows {ops : Array Oper} {rest : List Oper} {o : Oper} {a : Act} {w : World} {Q : Exit → Act → World → Prop} (hw : Region.wanted o (yielded ops a.tmps) = true) (x : Operand) (ho : o.op = .load 23 x)
    (g : Nat) (hx : a.eval x = .pointer (some ⟨g, 0, none⟩)) (z : List Int) (hz : z.length = 10) (h : RB w g z)
    (k : wpList Try.prog ops Q rest (a.put o.dst (.agg (rv z))) w) : wpList Try.prog ops Q (o :: rest) a w :=
  wpList_step fun K hK => by
    rw [if_pos hw]
    exact wp_load_row 23 x ho g hx _ _ _ _ h Try.underlying23 rfl (by rw [rv_size hz]; exact info_rows) (hK _ _ k)

theorem store_rows {ops : Array Oper} {rest : List Oper} {o : Oper} {a : Act} {w : World} {Q : Exit → Act → World → Prop} (hgd : o.guard = none) (x y : Operand) (ho : o.op = .store 23 x y)
    (g : Nat) (hx : a.eval x = .pointer (some ⟨g, 0, none⟩)) (z' : List Int) (hy : a.eval y = .agg (rv z')) (hz' : z'.length = 10) (z : List Int) (hz : z.length = 10) (h : RB w g z)
    (k : ∀ w', RB w' g z' → Only g w w' → wpList Try.prog ops Q rest (a.put o.dst undef) w') : wpList Try.prog ops Q (o :: rest) a w :=
  wpList_store_row hgd 23 x y ho g _ hx hy _ _ h (by rw [rv_size hz']; exact info_rows) (by rw [rv_size hz, rv_size hz']) (rv_one z') (k _ (h.row z') (Only.ofRow w g _))

theorem ret_rows {fn : Func} {p : Tmp} (h : fn.results = #[.cell p 23]) (tmps : Array Value) (w : World) (g : Nat) (z : List Int) (hz : z.length = 10)
    (hp : tmps.getD p undef = .pointer (some ⟨g, 0, none⟩)) (hg : RB w g z) : (results fn tmps).run Try.prog w = .ok (.agg (rv z)) w :=
  results_cell_row h tmps w g _ _ _ _ hp hg Try.underlying23 rfl (by rw [rv_size hz]; exact info_rows)

theorem ret_pair {fn : Func} {p u : Tmp} (h : fn.results = #[.cell p 23, .tmp u]) (tmps : Array Value) (w : World) (g : Nat) (z : List Int) (hz : z.length = 10)
    (hp : tmps.getD p undef = .pointer (some ⟨g, 0, none⟩)) (hg : RB w g z) : (results fn tmps).run Try.prog w = .ok (.tuple #[.agg (rv z), tmps.getD u undef]) w := by
  rw [results_cell_tmp h, hp]
  simp [asAddr, Result.andThen, run_loadVar_row w g _ 23 _ _ _ hg Try.underlying23 rfl (by rw [rv_size hz]; exact info_rows)]

/-- In a region that draws its order: a load of rows that S gives may be taken first. -/
theorem take_rows {md : Region.Mode} {ops : Array Oper} {Q : Exit → Act → World → Prop} {S : World → Prop} {fuel : Nat} {listed : Array Bool} {a : Act} {w : World} {i : Nat} {oi : Oper} (x : Operand) (hi : ops[i]? = some oi)
    (hs : Region.noSelect ops = true) (hf : Region.free md ops listed i = true) (hr : (Region.ready md ops listed).contains i = true) (z : List Int)
    (hQ : ∀ c a w, Q (.panic c) (a.put oi.dst (.agg (rv z))) w → Q (.panic c) a w) (hw : Region.wanted oi (yielded ops a.tmps) = true) (ho : oi.op = .load 23 x) (g : Nat) (hx : a.eval x = .pointer (some ⟨g, 0, none⟩))
    (hz : z.length = 10) (hS : ∀ w, S w → RB w g z) (h0 : S w)
    (k : wpAnyH Try.prog md ops Q S fuel (listed.setIfInBounds i true) (a.put oi.dst (.agg (rv z))) w) : wpAnyH Try.prog md ops Q S (fuel + 1) listed a w :=
  wpAnyH_take hi hs hf hr hQ (yieldsIf_load_mid hw 23 x ho g 0 hx (rl z) _ (fun w h => (hS w h).range) Try.underlying23 rfl (by rw [rl_len hz]; exact info_rows)) h0 k

/-- A load, a store of rows at a step of a region that draws. -/
theorem step_load_rows {ops : Array Oper} {o : Oper} {a : Act} {w : World} {K : Act → World → Prop} {Q : Exit → Act → World → Prop} {E : Prop} (hgd : o.guard = none) (x : Operand) (ho : o.op = .load 23 x)
    (g : Nat) (hx : a.eval x = .pointer (some ⟨g, 0, none⟩)) (z : List Int) (hz : z.length = 10) (h : RB w g z) (k : K (a.put o.dst (.agg (rv z))) w) : if Region.wanted o (yielded ops a.tmps) = true then o.wp Try.prog a w K Q else E := by
  rw [if_pos (show Region.wanted o (yielded ops a.tmps) = true by simp [Region.wanted, hgd])]
  exact wp_load_row 23 x ho g hx _ _ _ _ h Try.underlying23 rfl (by rw [rv_size hz]; exact info_rows) k
theorem step_store_rows {ops : Array Oper} {o : Oper} {a : Act} {w : World} {K : Act → World → Prop} {Q : Exit → Act → World → Prop} {E : Prop} (hgd : o.guard = none) (x y : Operand) (ho : o.op = .store 23 x y)
    (g : Nat) (hx : a.eval x = .pointer (some ⟨g, 0, none⟩)) (z' : List Int) (hy : a.eval y = .agg (rv z')) (hz' : z'.length = 10) (z : List Int) (hz : z.length = 10) (h : RB w g z)
    (k : ∀ w', RB w' g z' → Only g w w' → K (a.put o.dst undef) w') : if Region.wanted o (yielded ops a.tmps) = true then o.wp Try.prog a w K Q else E := by
  rw [if_pos (show Region.wanted o (yielded ops a.tmps) = true by simp [Region.wanted, hgd])]
  exact wp_store_row 23 x y ho g _ hx hy _ _ h (by rw [rv_size hz']; exact info_rows) (by rw [rv_size hz, rv_size hz']) (rv_one z') (k _ (h.row z') (Only.ofRow w g _))

/-- The rows of a variable that was just made. -/
def z0 : List Int := [0, 0, 0, 0, 0, 0, 0, 0, 0, 0]
theorem z0_len : z0.length = 10 := rfl
/-- A parameter's block, and the result's one. -/
theorem two_rows (w : World) (z : List Int) {w0 : World} (h : (w.alloc (.cells (rv z) 23)).alloc (.cells #[.int .i64 0, .int .i64 0, .int .i64 0, .int .i64 0, .int .i64 0, .int .i64 0, .int .i64 0, .int .i64 0, .int .i64 0, .int .i64 0] 23) = w0) :
    Below w.heap.size w w0 ∧ RB w0 w.heap.size z ∧ RB w0 (w.heap.size + 1) z0 ∧ w0.heap.size = w.heap.size + 2 := by
  subst h
  refine ⟨((Below.refl _ _).alloc (Nat.le_refl _) _).alloc (by simp) _, (RB.new w z).alloc _, ?_, by simp⟩
  have := RB.new (w.alloc (.cells (rv z) 23)) z0
  rw [show (w.alloc (.cells (rv z) 23)).heap.size = w.heap.size + 1 from by simp] at this
  exact this

end Go.Proofs.Ytnedappnmkbbpaa
