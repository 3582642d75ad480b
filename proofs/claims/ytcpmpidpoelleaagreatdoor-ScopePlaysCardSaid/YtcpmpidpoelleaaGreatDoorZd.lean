/- A scope in a block of its own, its operations; rows of envs of the call's own; a directive in a block. No walk here. -/
import Derived.Test.YtcpmpidpoelleaaGreatDoorMU
import Derived.Test.YtcpmpidpoelleaaGreatDoorML
import Derived.Test.YtcpmpidpoelleaaGreatDoorBx
import Derived.Test.YtcpmpidpoelleaaGreatDoorMR
import Derived.Deep.MidRow
namespace Go.Proofs.YtcpmpidpoelleaaGreatDoor
open Go.RowKit

/-! ### A scope's value, a scope's block -/

def sv (x : XV) : Array Value := x.cs.toArray
def x0 : XV := ⟨⟨none, 0, 0, [], z0⟩, none, 0, 0, []⟩
theorem sv_zero : sv x0 = #[.slice none 0 0, .int .i64 0, .int .i64 0, .int .i64 0, .int .i64 0, .int .i64 0, .int .i64 0, .int .i64 0, .int .i64 0, .int .i64 0, .int .i64 0, .slice none 0 0] := rfl
theorem sv_size {x : XV} (hz : x.e.z.length = 10) : (sv x).size = 12 := by simp [sv, XV.len hz]
theorem sv_one (x : XV) : (sv x).all (·.oneCell') = true := all_oneCell_toArray (XV.one x)
theorem scope_info : (Tryz.prog.info? 31).map (·.size) = some 12 := by kernel_rfl
theorem envs_size1 : (Tryz.prog.info? 29).map (·.size) = some 1 := by kernel_rfl
theorem envs_info : (Tryz.prog.info? 28).map (fun i => (i.zero, i.size, i.bytes)) = some (some (.agg (ev none 0 0 z0)), 11, 104) := by kernel_rfl
theorem scopes_info : (Tryz.prog.info? 31).map (fun i => (i.zero, i.size, i.bytes)) = some (some (.agg (sv x0)), 12, 128) := by kernel_rfl
theorem built_scope (x : XV) (hz : x.e.z.length = 10) (w : World) : (Instr.build 31 #[(0, .agg (ev x.e.a x.e.n x.e.c x.e.z)), (1, .slice x.a x.n x.c)]).run Tryz.prog w = .ok (.agg (sv x)) w := by
  obtain ⟨⟨a, n, c, L, z⟩, b, m, d, V⟩ := x
  obtain ⟨z0, z1, z2, z3, z4, z5, z6, z7, z8, z9, rfl⟩ := ten hz
  kernel_rfl
theorem built_scope1 (e : AV) (hz : e.z.length = 10) (w : World) : (Instr.build 31 #[(0, .agg (ev e.a e.n e.c e.z))]).run Tryz.prog w = .ok (.agg (sv ⟨e, none, 0, 0, []⟩)) w := by
  obtain ⟨a, n, c, L, z⟩ := e
  obtain ⟨z0, z1, z2, z3, z4, z5, z6, z7, z8, z9, rfl⟩ := ten hz
  kernel_rfl
theorem built_scope0 (w : World) : (Instr.build 31 #[]).run Tryz.prog w = .ok (.agg (sv x0)) w := by kernel_rfl

/-- The block b holds this scope. -/
def SB (w : World) (b : Nat) (x : XV) : Prop := w.heap[b]? = some (.cells (sv x) 31 (0, 0))
section
variable {w w' : World} {b B : Nat} {x : XV}
theorem SB.lt (h : SB w b x) : b < w.heap.size := (Array.getElem?_eq_some_iff.1 h).1
theorem SB.keep (h : SB w b x) (hb : Below B w w') (hB : b < B) : SB w' b x := (hb.block b hB).trans h
theorem SB.below (h : SB w b x) (hb : Below w.heap.size w w') : SB w' b x := h.keep hb h.lt
theorem SB.alloc (h : SB w b x) (o : Obj) : SB (w.alloc o) b x := (Below.heap_alloc w o b h.lt).trans h
theorem SB.drew (h : SB w b x) : SB w.drew b x := h
theorem SB.new (w : World) (x : XV) : SB (w.alloc (.cells (sv x) 31)) w.heap.size x := heap_alloc_new w _
theorem SB.only (h : SB w b x) {g : Nat} (hg : Only g w w') (hne : b ≠ g) : SB w' b x := (hg.block b hne).trans h
theorem SB.gb (h : SB w b x) {g : Nat} (hg : w.grownBy w' (some g)) (hne : b ≠ g) : SB w' b x := gb_block hg h hne
theorem SB.row (h : SB w b x) (y : XV) : SB (w.setRow b (sv y)) b y := setRow_heap w b _ _ _ _ h
theorem SB.cj (h : SB w b x) (j : Nat) : w.cell? ⟨b, j, none⟩ = (sv x)[j]? := cell_of_row w b j _ _ _ h
theorem SB.c11 (h : SB w b x) (hz : x.e.z.length = 10) : w.cell? ⟨b, 11, none⟩ = some (.slice x.a x.n x.c) := by
  rw [h.cj 11]
  unfold sv XV.cs
  rw [List.getElem?_toArray, List.getElem?_append_right (by rw [ev_list hz]; omega), ev_list hz]
  rfl
theorem SB.frozen (h : SB w b x) (j : Nat) : w.frozen? ⟨b, j, none⟩ = false := frozen_of_row w b j _ _ h
theorem SB.at (h : SB w b x) (hz : x.e.z.length = 10) {j : Nat} (hj : j < 11) : w.cell? ⟨b, j, none⟩ = (ev x.e.a x.e.n x.e.c x.e.z)[j]? := by
  rw [h.cj j]
  unfold sv XV.cs
  rw [List.getElem?_toArray, List.getElem?_append_left (by rw [ev_list hz]; exact hj), Array.getElem?_toList]
theorem SB.c0 (h : SB w b x) (hz : x.e.z.length = 10) : w.cell? ⟨b, 0, none⟩ = some (.slice x.e.a x.e.n x.e.c) := (h.at hz (by decide)).trans rfl
/-- The twelve cells, one by one. -/
theorem scope_cells {a b' : Option Addr} {n c n' c' : Nat} {L : List OP} {V : List AV} {y0 y1 y2 y3 y4 y5 y6 y7 y8 y9 : Int} (h : SB w b ⟨⟨a, n, c, L, [y0, y1, y2, y3, y4, y5, y6, y7, y8, y9]⟩, b', n', c', V⟩) : w.cell? ⟨b, 0, none⟩ = some (.slice a n c) ∧ w.cell? ⟨b, 1, none⟩ = some (.int .i64 y0) ∧ w.cell? ⟨b, 2, none⟩ = some (.int .i64 y1) ∧ w.cell? ⟨b, 3, none⟩ = some (.int .i64 y2) ∧ w.cell? ⟨b, 4, none⟩ = some (.int .i64 y3) ∧ w.cell? ⟨b, 5, none⟩ = some (.int .i64 y4) ∧ w.cell? ⟨b, 6, none⟩ = some (.int .i64 y5) ∧ w.cell? ⟨b, 7, none⟩ = some (.int .i64 y6) ∧ w.cell? ⟨b, 8, none⟩ = some (.int .i64 y7) ∧ w.cell? ⟨b, 9, none⟩ = some (.int .i64 y8) ∧ w.cell? ⟨b, 10, none⟩ = some (.int .i64 y9) ∧ w.cell? ⟨b, 11, none⟩ = some (.slice b' n' c') :=
  ⟨h.cj 0, h.cj 1, h.cj 2, h.cj 3, h.cj 4, h.cj 5, h.cj 6, h.cj 7, h.cj 8, h.cj 9, h.cj 10, h.cj 11⟩
end

theorem ev_range {w : World} {b o : Nat} {a : Option Addr} {n c : Nat} {z : List Int} (h : ∀ j, j < 11 → w.cell? ⟨b, o + j, none⟩ = (ev a n c z)[j]?) (hz : z.length = 10) : w.rangeAt b o (ev a n c z).toList := fun j v hv => by
  have hj : j < 11 := by
    have := (List.getElem?_eq_some_iff.1 hv).1
    rw [ev_list hz] at this
    exact this
  rw [h j hj, ← Array.getElem?_toList]
  exact hv
theorem sv_range {w : World} {b o : Nat} {x : XV} (h : ∀ j, j < 12 → w.cell? ⟨b, o + j, none⟩ = x.cs[j]?) (hz : x.e.z.length = 10) : w.rangeAt b o x.cs := fun j v hv => by
  have hj : j < 12 := by
    have := (List.getElem?_eq_some_iff.1 hv).1
    rw [XV.len hz] at this
    exact this
  rw [h j hj]
  exact hv

section
variable {ops : Array Oper} {rest : List Oper} {o : Oper} {A : Act} {w : World} {Q : Exit → Act → World → Prop} {K : Act → World → Prop} {E : Prop}
/-- An env read wherever its eleven cells lie. -/
theorem load_aenv (hw : Region.wanted o (yielded ops A.tmps) = true) (p : Operand) (ho : o.op = .load 28 p)
    (b off : Nat) (hx : A.eval p = .pointer (some ⟨b, off, none⟩)) (a : Option Addr) (n c : Nat) (z : List Int) (hz : z.length = 10) (h : ∀ j, j < 11 → w.cell? ⟨b, off + j, none⟩ = (ev a n c z)[j]?)
    (k : wpList Tryz.prog ops Q rest (A.put o.dst (.agg (ev a n c z))) w) : wpList Tryz.prog ops Q (o :: rest) A w :=
  wpList_step fun K hK => by
    rw [if_pos hw]
    have := wp_load_mid (P := Tryz.prog) (op := o) (a := A) (w := w) (K := K) (Q := Q) 28 p ho b off hx (ev a n c z).toList _ (ev_range h hz) Tryz.underlying28 rfl (by rw [ev_list hz]; exact env_info)
    exact this (hK _ _ k)
theorem step_load_aenv (hw : Region.wanted o (yielded ops A.tmps) = true) (p : Operand) (ho : o.op = .load 28 p)
    (b off : Nat) (hx : A.eval p = .pointer (some ⟨b, off, none⟩)) (a : Option Addr) (n c : Nat) (z : List Int) (hz : z.length = 10) (h : ∀ j, j < 11 → w.cell? ⟨b, off + j, none⟩ = (ev a n c z)[j]?)
    (k : K (A.put o.dst (.agg (ev a n c z))) w) : if Region.wanted o (yielded ops A.tmps) = true then o.wp Tryz.prog A w K Q else E := by
  rw [if_pos hw]
  have := wp_load_mid (P := Tryz.prog) (op := o) (a := A) (w := w) (K := K) (Q := Q) 28 p ho b off hx (ev a n c z).toList _ (ev_range h hz) Tryz.underlying28 rfl (by rw [ev_list hz]; exact env_info)
  exact this k
theorem load_senv (hw : Region.wanted o (yielded ops A.tmps) = true) (p : Operand) (ho : o.op = .load 28 p)
    (b : Nat) (hx : A.eval p = .pointer (some ⟨b, 0, none⟩)) (x : XV) (hz : x.e.z.length = 10) (h : SB w b x)
    (k : wpList Tryz.prog ops Q rest (A.put o.dst (.agg (ev x.e.a x.e.n x.e.c x.e.z))) w) : wpList Tryz.prog ops Q (o :: rest) A w :=
  load_aenv hw p ho b 0 hx _ _ _ _ hz (fun j hj => by rw [Nat.zero_add]; exact h.at hz hj) k
theorem load_scope (hw : Region.wanted o (yielded ops A.tmps) = true) (p : Operand) (ho : o.op = .load 31 p)
    (b : Nat) (hx : A.eval p = .pointer (some ⟨b, 0, none⟩)) (x : XV) (hz : x.e.z.length = 10) (h : SB w b x)
    (k : wpList Tryz.prog ops Q rest (A.put o.dst (.agg (sv x))) w) : wpList Tryz.prog ops Q (o :: rest) A w :=
  wpList_step fun K hK => by
    rw [if_pos hw]
    exact wp_load_row 31 p ho b hx _ _ _ _ h Tryz.underlying31 rfl (by rw [sv_size hz]; exact scope_info) (hK _ _ k)
theorem step_load_scope (hw : Region.wanted o (yielded ops A.tmps) = true) (p : Operand) (ho : o.op = .load 31 p)
    (b : Nat) (hx : A.eval p = .pointer (some ⟨b, 0, none⟩)) (x : XV) (hz : x.e.z.length = 10) (h : SB w b x)
    (k : K (A.put o.dst (.agg (sv x))) w) : if Region.wanted o (yielded ops A.tmps) = true then o.wp Tryz.prog A w K Q else E := by
  rw [if_pos hw]
  exact wp_load_row 31 p ho b hx _ _ _ _ h Tryz.underlying31 rfl (by rw [sv_size hz]; exact scope_info) k
theorem store_scope (hgd : o.guard = none) (p q : Operand) (ho : o.op = .store 31 p q)
    (b : Nat) (hx : A.eval p = .pointer (some ⟨b, 0, none⟩)) (y : XV) (hy : A.eval q = .agg (sv y)) (hzy : y.e.z.length = 10) (x : XV) (hz : x.e.z.length = 10) (h : SB w b x)
    (k : ∀ w', SB w' b y → Only b w w' → wpList Tryz.prog ops Q rest (A.put o.dst undef) w') : wpList Tryz.prog ops Q (o :: rest) A w :=
  wpList_store_row hgd 31 p q ho b _ hx hy _ _ h (by rw [sv_size hzy]; exact scope_info) (by rw [sv_size hz, sv_size hzy]) (sv_one y) (k _ (h.row y) (Only.ofRow w b _))
theorem step_store_scope (hgd : o.guard = none) (p q : Operand) (ho : o.op = .store 31 p q)
    (b : Nat) (hx : A.eval p = .pointer (some ⟨b, 0, none⟩)) (y : XV) (hy : A.eval q = .agg (sv y)) (hzy : y.e.z.length = 10) (x : XV) (hz : x.e.z.length = 10) (h : SB w b x)
    (k : ∀ w', SB w' b y → Only b w w' → K (A.put o.dst undef) w') : if Region.wanted o (yielded ops A.tmps) = true then o.wp Tryz.prog A w K Q else E := by
  rw [if_pos (show Region.wanted o (yielded ops A.tmps) = true by simp [Region.wanted, hgd])]
  exact wp_store_row 31 p q ho b _ hx hy _ _ h (by rw [sv_size hzy]; exact scope_info) (by rw [sv_size hz, sv_size hzy]) (sv_one y) (k _ (h.row y) (Only.ofRow w b _))
/-- An env stored into a scope's first cells. -/
theorem store_senv (hgd : o.guard = none) (p q : Operand) (ho : o.op = .store 28 p q)
    (b : Nat) (hx : A.eval p = .pointer (some ⟨b, 0, none⟩)) (e : AV) (hy : A.eval q = .agg (ev e.a e.n e.c e.z)) (hze : e.z.length = 10) (x : XV) (hz : x.e.z.length = 10) (h : SB w b x)
    (k : ∀ w', SB w' b ⟨e, x.a, x.n, x.c, x.V⟩ → Only b w w' → wpList Tryz.prog ops Q rest (A.put o.dst undef) w') : wpList Tryz.prog ops Q (o :: rest) A w :=
  wpList_store_at hgd 28 31 p q ho b 0 x.cs (ev e.a e.n e.c e.z).toList hx hy (by rw [ev_list hze]; exact env_info) h (by rw [ev_list hze, XV.len hz]; decide)
    (fun v hv => by
      have := ev_one e.a e.n e.c e.z
      rw [Array.all_eq_true_iff_forall_mem] at this
      exact this v (by simpa using hv))
    fun w' h' ho' => k w' (by
      have e1 : splice x.cs 0 (ev e.a e.n e.c e.z).toList = XV.cs ⟨e, x.a, x.n, x.c, x.V⟩ := by
        unfold splice XV.cs
        rw [ev_list hze, List.take_zero, List.nil_append, Nat.zero_add, List.drop_left' (ev_list hz)]
      rw [e1] at h'
      exact h') ho'
/-- A slice stored into a scope's last cell. -/
theorem store_sst (hgd : o.guard = none) (p q : Operand) (ho : o.op = .store 29 p q)
    (b : Nat) (hx : A.eval p = .pointer (some ⟨b, 11, none⟩)) (a : Option Addr) (n c : Nat) (V : List AV) (hy : A.eval q = .slice a n c) (x : XV) (hz : x.e.z.length = 10) (h : SB w b x)
    (k : ∀ w', SB w' b ⟨x.e, a, n, c, V⟩ → Only b w w' → wpList Tryz.prog ops Q rest (A.put o.dst undef) w') : wpList Tryz.prog ops Q (o :: rest) A w :=
  wpList_store_cell hgd 29 31 p q ho b 11 x.cs (.slice a n c) hx hy envs_size1 rfl h (by rw [XV.len hz]; decide) rfl
    fun w' h' ho' => k w' (by
      have e1 : splice x.cs 11 [.slice a n c] = XV.cs ⟨x.e, a, n, c, V⟩ := by
        unfold splice XV.cs
        rw [List.take_left' (ev_list hz), List.drop_of_length_le (by rw [List.length_append, ev_list hz]; simp)]
        rfl
      rw [e1] at h'
      exact h') ho'
theorem ret_scope {fn : Func} {p : Tmp} (h : fn.results = #[.cell p 31]) (tmps : Array Value) (w : World) (b : Nat) (x : XV) (hz : x.e.z.length = 10)
    (hp : tmps.getD p undef = .pointer (some ⟨b, 0, none⟩)) (hg : SB w b x) : (results fn tmps).run Tryz.prog w = .ok (.agg (sv x)) w :=
  results_cell_row h tmps w b _ _ _ _ hp hg Tryz.underlying31 rfl (by rw [sv_size hz]; exact scope_info)
theorem ret_scopep {fn : Func} {p u : Tmp} (h : fn.results = #[.cell p 31, .tmp u]) (tmps : Array Value) (w : World) (b : Nat) (x : XV) (hz : x.e.z.length = 10)
    (hp : tmps.getD p undef = .pointer (some ⟨b, 0, none⟩)) (hg : SB w b x) : (results fn tmps).run Tryz.prog w = .ok (.tuple #[.agg (sv x), tmps.getD u undef]) w :=
  results_pair h tmps w b _ _ _ _ hp hg Tryz.underlying31 rfl (by rw [sv_size hz]; exact scope_info)
theorem build_scope (hgd : o.guard = none) (p q : Operand) (ho : o.op = .build 31 #[(0, p), (1, q)])
    (x : XV) (hz : x.e.z.length = 10) (hx : A.eval p = .agg (ev x.e.a x.e.n x.e.c x.e.z)) (hy : A.eval q = .slice x.a x.n x.c)
    (k : wpList Tryz.prog ops Q rest (A.put o.dst (.agg (sv x))) w) : wpList Tryz.prog ops Q (o :: rest) A w :=
  wpList_plain hgd fun K hK => by
    have hb := built_scope x hz w
    unfold Oper.wp execOp
    simp only [ho, List.map_toArray, List.map_cons, List.map_nil, hx, hy, hb, Sem.run_bind, Result.andThen_ok, Sem.run_pure]
    exact hK _ _ k
theorem build_scope1 (hgd : o.guard = none) (p : Operand) (ho : o.op = .build 31 #[(0, p)])
    (e : AV) (hz : e.z.length = 10) (hx : A.eval p = .agg (ev e.a e.n e.c e.z))
    (k : wpList Tryz.prog ops Q rest (A.put o.dst (.agg (sv ⟨e, none, 0, 0, []⟩))) w) : wpList Tryz.prog ops Q (o :: rest) A w :=
  wpList_plain hgd fun K hK => by
    have hb := built_scope1 e hz w
    unfold Oper.wp execOp
    simp only [ho, List.map_toArray, List.map_cons, List.map_nil, hx, hb, Sem.run_bind, Result.andThen_ok, Sem.run_pure]
    exact hK _ _ k
theorem build_scope0 (hgd : o.guard = none) (ho : o.op = .build 31 #[])
    (k : wpList Tryz.prog ops Q rest (A.put o.dst (.agg (sv x0))) w) : wpList Tryz.prog ops Q (o :: rest) A w :=
  wpList_plain hgd fun K hK => by
    have hb := built_scope0 w
    unfold Oper.wp execOp
    simp only [ho, List.map_toArray, List.map_nil, hb, Sem.run_bind, Result.andThen_ok, Sem.run_pure]
    exact hK _ _ k
theorem run_build_scope (p q : Operand) (ho : o.op = .build 31 #[(0, p), (1, q)]) (x : XV) (hz : x.e.z.length = 10) (hx : A.eval p = .agg (ev x.e.a x.e.n x.e.c x.e.z)) (hy : A.eval q = .slice x.a x.n x.c) (w : World) : (execOp A.eval o).run Tryz.prog w = .ok (.value (.agg (sv x))) w := by
  have hb := built_scope x hz w
  unfold execOp
  simp only [ho, List.map_toArray, List.map_cons, List.map_nil, hx, hy, hb, Sem.run_bind, Result.andThen_ok, Sem.run_pure]
end

/-! ### Scopes of rows that a call has made -/

def AV.own (w : World) (x : AV) : Prop := OwnO 0 w x.a x.n x.c x.L ∧ x.z.length = 10
structure XV.own (w : World) (x : XV) : Prop where
  e : x.e.own w
  row : OwnV 0 28 11 w x.a x.n x.c (rowA x.V)
  st : ∀ y ∈ x.V, y.own w
theorem AV.own.ok {w : World} {x : AV} (h : x.own w) : x.ok w := ⟨h.1.vs, h.2⟩
theorem XV.own.sk {w : World} {x : XV} (h : x.own w) : Sk w x.a x.n x.c x.V := ⟨h.row.vs, fun y hy => (h.st y hy).ok⟩
theorem XV.own.ok {w : World} {x : XV} (h : x.own w) : x.ok w := ⟨h.e.ok, h.sk⟩
theorem XV.own.z {w : World} {x : XV} (h : x.own w) : x.e.z.length = 10 := h.e.2
theorem x0_own (w : World) : x0.own w := ⟨⟨OwnV.none0, rfl⟩, OwnV.none0, fun y hy => by cases hy⟩
/-- All blocks of operators and of envs are as they were. -/
structure Kp (w w' : World) : Prop where
  size : w.heap.size ≤ w'.heap.size
  block : ∀ (b : Nat) (c : Array Value) (t : TypeId), w.heap[b]? = some (.cells c t (0, 0)) → (t = 35 ∨ t = 28) → w'.heap[b]? = some (.cells c t (0, 0))
theorem Kp.refl (w : World) : Kp w w := ⟨Nat.le_refl _, fun _ _ _ h _ => h⟩
theorem Kp.trans {a b c : World} (h : Kp a b) (k : Kp b c) : Kp a c := ⟨Nat.le_trans h.size k.size, fun q cs t hq ht => k.block q cs t (h.block q cs t hq ht) ht⟩
theorem Kp.below {w w' : World} (h : Below w.heap.size w w') : Kp w w' := ⟨h.size, fun b _ _ hb _ => (h.block b (Array.getElem?_eq_some_iff.1 hb).1).trans hb⟩
theorem Kp.alloc (w : World) (o : Obj) : Kp w (w.alloc o) := Kp.below ((Below.refl _ _).alloc (Nat.le_refl _) _)
theorem Kp.drew (w : World) : Kp w w.drew := Kp.below (Below.refl _ _).drew
theorem Kp.only {w w' : World} {g : Nat} {c : Array Value} {t : TypeId} (hg : w.heap[g]? = some (.cells c t (0, 0))) (ht : t ≠ 35 ∧ t ≠ 28) (h : Only g w w') : Kp w w' :=
  ⟨Nat.le_of_eq h.size.symm, fun b cs u hb hu => by
    by_cases hbg : b = g
    · subst hbg
      rw [hg] at hb
      simp only [Option.some.injEq, Obj.cells.injEq] at hb
      obtain ⟨_, rfl, _⟩ := hb
      exact absurd hu (fun h => h.elim ht.1 ht.2)
    · exact (h.block b hbg).trans hb⟩
theorem Kp.scope {w w' : World} {g : Nat} {x : XV} (hg : SB w g x) (h : Only g w w') : Kp w w' := Kp.only hg ⟨by decide, by decide⟩ h
theorem OwnV.kp {e : TypeId} {k : Nat} {w w' : World} {a : Option Addr} {n c : Nat} {xs : List Value} (h : OwnV 0 e k w a n c xs) (he : e = 35 ∨ e = 28) (hk : Kp w w') : OwnV 0 e k w' a n c xs := by
  refine ⟨h.1, h.2.imp id ?_⟩
  rintro ⟨q, cp, cur, hv, hq, hb, r⟩
  exact ⟨q, cp, cur, hv, hq, hk.block q _ _ hb he, r⟩
theorem AV.own.kp {w w' : World} {x : AV} (h : x.own w) (hk : Kp w w') : x.own w' := ⟨OwnV.kp h.1 (.inl rfl) hk, h.2⟩
theorem XV.own.kp {w w' : World} {x : XV} (h : x.own w) (hk : Kp w w') : x.own w' := ⟨h.e.kp hk, OwnV.kp h.row (.inr rfl) hk, fun y hy => (h.st y hy).kp hk⟩
theorem XV.own.below {w w' : World} {x : XV} (h : x.own w) (hb : Below w.heap.size w w') : x.own w' := h.kp (Kp.below hb)
/-- A row of another type grew. -/
theorem Kp.grown {w w' : World} {e : TypeId} {k base : Nat} {a : Option Addr} {n c : Nat} {xs : List Value} (h : OwnV base e k w a n c xs) (ht : e ≠ 35 ∧ e ≠ 28) (hg : w.grownBy w' (Value.ownBlock (.slice a n c))) : Kp w w' := by
  refine ⟨hg.size, fun b cs u hb hu => ?_⟩
  refine (hg.block b (Array.getElem?_eq_some_iff.1 hb).1 ?_).trans hb
  intro hbb
  rcases h.2 with ⟨hv, _⟩ | ⟨q, cp, cur, hv, _, hq, r⟩
  · simp only [Value.slice.injEq] at hv
    obtain ⟨rfl, _⟩ := hv
    simp [Value.ownBlock] at hbb
  · simp only [Value.slice.injEq, true_and] at hv
    obtain ⟨rfl, _⟩ := hv
    simp [Value.ownBlock] at hbb
    subst hbb
    rw [hq] at hb
    simp only [Option.some.injEq, Obj.cells.injEq] at hb
    obtain ⟨_, rfl, _⟩ := hb
    exact absurd hu (fun h => h.elim ht.1 ht.2)

end Go.Proofs.YtcpmpidpoelleaaGreatDoor
