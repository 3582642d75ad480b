/- An env's value, eleven cells, in a block; rows of operators. No walk here. -/
import Derived.Test.YtjkjbgekpkhpfaaGreatDoorMB
import Derived.Test.YtjkjbgekpkhpfaaGreatDoorMF
import Derived.Test.YtjkjbgekpkhpfaaGreatDoorMG
import Derived.Test.YtjkjbgekpkhpfaaGreatDoorAm
namespace Go.Proofs.YtjkjbgekpkhpfaaGreatDoor
open Go.RowKit

/-! ### Rows of operators -/

def opC (o : OP) : List Value := [.string (mk o.1), .int .i64 o.2.1, .int .i64 o.2.2]
def cO (L : List OP) : List Value := L.flatMap opC
theorem cO_nil : cO [] = [] := rfl
theorem cO_cons (o : OP) (L : List OP) : cO (o :: L) = .string (mk o.1) :: .int .i64 o.2.1 :: .int .i64 o.2.2 :: cO L := rfl
theorem cO_app (A B : List OP) : cO (A ++ B) = cO A ++ cO B := by simp [cO]
theorem cO_len : ∀ L : List OP, (cO L).length = L.length * 3
  | [] => rfl
  | o :: L => by rw [cO_cons, List.length_cons, List.length_cons, List.length_cons, cO_len L, List.length_cons]; omega
theorem cO_one : ∀ L : List OP, ∀ u ∈ cO L, u.oneCell' = true
  | [], u, h => by cases h
  | o :: L, u, h => by
    rw [cO_cons, List.mem_cons, List.mem_cons, List.mem_cons] at h
    rcases h with rfl | rfl | rfl | h
    · rfl
    · rfl
    · rfl
    · exact cO_one L u h
theorem cO_take : ∀ (L : List OP) (k : Nat), (cO L).take (k * 3) = cO (L.take k)
  | [], k => by simp [cO_nil]
  | o :: L, 0 => by simp [cO_nil]
  | o :: L, k + 1 => by rw [show (k + 1) * 3 = k * 3 + 1 + 1 + 1 by omega, cO_cons, List.take_succ_cons, List.take_succ_cons, List.take_succ_cons, cO_take L k, List.take_succ_cons, cO_cons]
theorem cO_drop : ∀ (L : List OP) (k : Nat), (cO L).drop (k * 3) = cO (L.drop k)
  | [], k => by simp [cO_nil]
  | o :: L, 0 => by simp
  | o :: L, k + 1 => by rw [show (k + 1) * 3 = k * 3 + 1 + 1 + 1 by omega, cO_cons, List.drop_succ_cons, List.drop_succ_cons, List.drop_succ_cons, cO_drop L k, List.drop_succ_cons]
theorem cO_at : ∀ (L : List OP) (k : Nat) (h : k < L.length), (cO L)[k * 3]? = some (.string (mk L[k].1)) ∧ (cO L)[k * 3 + 1]? = some (.int .i64 L[k].2.1) ∧ (cO L)[k * 3 + 2]? = some (.int .i64 L[k].2.2)
  | o :: L, 0, h => ⟨rfl, rfl, rfl⟩
  | o :: L, k + 1, h => by
    have ih := cO_at L k (by simpa using h)
    rw [show (k + 1) * 3 = k * 3 + 1 + 1 + 1 by omega, cO_cons]
    simpa using ih
theorem mk_inj {p q : Nm} (h : mk p = mk q) : p = q := by rw [← mk_toList p, ← mk_toList q, h]
theorem cO_inj : ∀ {A B : List OP}, cO A = cO B → A = B
  | [], [], _ => rfl
  | [], o :: B, h => by rw [cO_cons] at h; cases h
  | o :: A, [], h => by rw [cO_cons] at h; cases h
  | (p, g, a) :: A, (p', g', a') :: B, h => by
    rw [cO_cons, cO_cons] at h
    simp only [List.cons.injEq, Value.string.injEq, Value.int.injEq, true_and] at h
    obtain ⟨h1, h2, h3, h4⟩ := h
    rw [mk_inj h1, h2, h3, cO_inj h4]

/-- The operator at k. -/
def opA (L : List OP) (k : Nat) : OP := L.getD k ([], 0, 0)
theorem opA_eq {L : List OP} {k : Nat} (h : k < L.length) : opA L k = L[k] := by simp [opA, List.getD, h]
theorem opA_mem {L : List OP} {k : Nat} (h : k < L.length) : opA L k ∈ L := by rw [opA_eq h]; exact List.getElem_mem h
theorem opA_take {L : List OP} {k : Nat} (h : k < L.length) : L.take (k + 1) = L.take k ++ [opA L k] := by rw [List.take_add_one, opA_eq h]; simp [h]
theorem opA_drop {L : List OP} {k : Nat} (h : k < L.length) : L.drop k = opA L k :: L.drop (k + 1) := by rw [opA_eq h, List.drop_eq_getElem_cons h]

/-- The slice value (a, len, cap) reads as these operators. -/
abbrev OpS (w : World) (a : Option Addr) (n c : Nat) (L : List OP) : Prop := Vs 3 w a n c (cO L)
theorem OpS.len {w : World} {a : Option Addr} {n c : Nat} {L : List OP} (h : OpS w a n c L) : L.length = n := by
  have := Vs.hl h; rw [cO_len] at this; omega
theorem OpS.at3 {w : World} {b o n c : Nat} {L : List OP} (h : OpS w (some ⟨b, o, none⟩) n c L) {k : Nat} (hk : k < n) :
    w.cell? ⟨b, o + k * 3, none⟩ = some (.string (mk (opA L k).1)) ∧ w.cell? ⟨b, o + k * 3 + 1, none⟩ = some (.int .i64 (opA L k).2.1) ∧ w.cell? ⟨b, o + k * 3 + 2, none⟩ = some (.int .i64 (opA L k).2.2) := by
  have hl := OpS.len h
  have h3 := cO_at L k (by omega)
  rw [opA_eq (by omega)]
  rw [Nat.add_assoc o (k * 3) 1, Nat.add_assoc o (k * 3) 2]
  exact ⟨(Vs.cells h (by omega) (by omega)).trans h3.1, (Vs.cells h (by omega) (by omega)).trans h3.2.1, (Vs.cells h (by omega) (by omega)).trans h3.2.2⟩
/-- A row of the call's own. -/
abbrev OwnO (base : Nat) (w : World) (a : Option Addr) (n c : Nat) (L : List OP) : Prop := OwnV base 28 3 w a n c (cO L)
theorem op_info : (Tryz.prog.info? 28).map (fun i => (i.zero, i.size, i.bytes)) = some (some (.agg #[.string ByteArray.empty, .int .i64 0, .int .i64 0]), 3, 32) := by kernel_rfl
theorem op_elem : Tryz.prog.elem 22 = 28 := by kernel_rfl
/-- One operator that a literal has laid. -/
theorem op_lit (w : World) (o : OP) {g : Nat} (hg : g = w.heap.size) : OpS (w.alloc (.cells #[.string (mk o.1), .int .i64 o.2.1, .int .i64 o.2.2] 28)) (some ⟨g, 0, none⟩) 1 1 [o] :=
  Vs.lit (k := 3) (xs := cO [o]) w _ rfl rfl hg

/-! ### An env's cells -/

def ev (a : Option Addr) (n c : Nat) (z : List Int) : Array Value := (Value.slice a n c :: rlz z).toArray
theorem ev_size {a : Option Addr} {n c : Nat} {z : List Int} (hz : z.length = 10) : (ev a n c z).size = 11 := by simp [ev, rlz, hz]
theorem ev_one (a : Option Addr) (n c : Nat) (z : List Int) : (ev a n c z).all (·.oneCell') = true := by
  have := rv_one z
  rw [Array.all_eq_true_iff_forall_mem] at *
  intro v hv
  simp only [ev, List.mem_toArray, List.mem_cons] at hv
  rcases hv with rfl | hv
  · rfl
  · exact this v (by simpa [rv] using hv)
theorem ten {z : List Int} (hz : z.length = 10) : ∃ z0 z1 z2 z3 z4 z5 z6 z7 z8 z9, z = [z0, z1, z2, z3, z4, z5, z6, z7, z8, z9] := by
  match z, hz with
  | [z0, z1, z2, z3, z4, z5, z6, z7, z8, z9], _ => exact ⟨z0, z1, z2, z3, z4, z5, z6, z7, z8, z9, rfl⟩
theorem env_info : (Tryz.prog.info? 26).map (·.size) = some 11 := by kernel_rfl
theorem built_env (a : Option Addr) (n c : Nat) {z : List Int} (hz : z.length = 10) (w : World) : (Instr.build 26 #[(0, .slice a n c), (1, .agg (rv z))]).run Tryz.prog w = .ok (.agg (ev a n c z)) w := by
  obtain ⟨z0, z1, z2, z3, z4, z5, z6, z7, z8, z9, rfl⟩ := ten hz
  kernel_rfl
theorem built_rows {z : List Int} (hz : z.length = 10) (w : World) : (Instr.build 26 #[(1, .agg (rv z))]).run Tryz.prog w = .ok (.agg (ev none 0 0 z)) w := by
  obtain ⟨z0, z1, z2, z3, z4, z5, z6, z7, z8, z9, rfl⟩ := ten hz
  kernel_rfl
theorem built_none (w : World) : (Instr.build 26 #[]).run Tryz.prog w = .ok (.agg (ev none 0 0 z0)) w := by kernel_rfl

/-- The block b holds this env. -/
def EB (w : World) (b : Nat) (a : Option Addr) (n c : Nat) (z : List Int) : Prop := w.heap[b]? = some (.cells (ev a n c z) 26 (0, 0))
section
variable {w w' : World} {b B : Nat} {a : Option Addr} {n c : Nat} {z : List Int}
theorem EB.lt (h : EB w b a n c z) : b < w.heap.size := (Array.getElem?_eq_some_iff.1 h).1
theorem EB.c0 (h : EB w b a n c z) : w.cell? ⟨b, 0, none⟩ = some (.slice a n c) := (cell_of_row w b 0 _ _ _ h).trans rfl
theorem EB.cj (h : EB w b a n c z) (hz : z.length = 10) {j : Nat} (hj : j < 10) : w.cell? ⟨b, 1 + j, none⟩ = some (.int .i64 (bt z j)) := by
  rw [cell_of_row w b (1 + j) _ _ _ h]
  simp [ev, rlz, bt, List.getD, show j < z.length by omega, Nat.add_comm 1 j]
theorem EB.frozen (h : EB w b a n c z) (j : Nat) : w.frozen? ⟨b, j, none⟩ = false := frozen_of_row w b j _ _ h
theorem EB.keep (h : EB w b a n c z) (hb : Below B w w') (hB : b < B) : EB w' b a n c z := (hb.block b hB).trans h
theorem EB.below (h : EB w b a n c z) (hb : Below w.heap.size w w') : EB w' b a n c z := h.keep hb h.lt
theorem EB.drew (h : EB w b a n c z) : EB w.drew b a n c z := h
theorem EB.alloc (h : EB w b a n c z) (o : Obj) : EB (w.alloc o) b a n c z := (Below.heap_alloc w o b h.lt).trans h
theorem EB.new (w : World) (a : Option Addr) (n c : Nat) (z : List Int) : EB (w.alloc (.cells (ev a n c z) 26)) w.heap.size a n c z := heap_alloc_new w _
theorem EB.row (h : EB w b a n c z) (a' : Option Addr) (n' c' : Nat) (z' : List Int) : EB (w.setRow b (ev a' n' c' z')) b a' n' c' z' := setRow_heap w b _ _ _ _ h
theorem EB.gb (h : EB w b a n c z) {g : Nat} (hg : w.grownBy w' (some g)) (hne : b ≠ g) : EB w' b a n c z := gb_block hg h hne
theorem EB.only (h : EB w b a n c z) {g : Nat} (hg : Only g w w') (hne : b ≠ g) : EB w' b a n c z := (hg.block b hne).trans h
theorem EB.range (h : EB w b a n c z) : w.rangeAt b 1 (rlz z) := fun j v hv => by
  rw [cell_of_row w b (1 + j) _ _ _ h]
  simpa [ev, Nat.add_comm 1 j] using hv
theorem EB.inj {a' : Option Addr} {n' c' : Nat} {z' : List Int} (h : EB w b a n c z) (h' : EB w b a' n' c' z') : a = a' ∧ n = n' ∧ c = c' := by
  have := h.c0.symm.trans h'.c0
  simp only [Option.some.injEq, Value.slice.injEq] at this
  exact this
end

/-- The operation that lays one out. -/
theorem build_env {ops : Array Oper} {rest : List Oper} {o : Oper} {A : Act} {w : World} {Q : Exit → Act → World → Prop} (hgd : o.guard = none) (x y : Operand) (ho : o.op = .build 26 #[(0, x), (1, y)])
    (a : Option Addr) (n c : Nat) (z : List Int) (hz : z.length = 10) (hx : A.eval x = .slice a n c) (hy : A.eval y = .agg (rv z))
    (k : wpList Tryz.prog ops Q rest (A.put o.dst (.agg (ev a n c z))) w) : wpList Tryz.prog ops Q (o :: rest) A w :=
  wpList_plain hgd fun K hK => by
    have hb := built_env a n c hz w
    unfold Oper.wp execOp
    simp only [ho, List.map_toArray, List.map_cons, List.map_nil, hx, hy, hb, Sem.run_bind, Result.andThen_ok, Sem.run_pure]
    exact hK _ _ k

theorem load_env {ops : Array Oper} {rest : List Oper} {o : Oper} {A : Act} {w : World} {Q : Exit → Act → World → Prop} (hw : Region.wanted o (yielded ops A.tmps) = true) (x : Operand) (ho : o.op = .load 26 x)
    (b : Nat) (hx : A.eval x = .pointer (some ⟨b, 0, none⟩)) (a : Option Addr) (n c : Nat) (z : List Int) (hz : z.length = 10) (h : EB w b a n c z)
    (k : wpList Tryz.prog ops Q rest (A.put o.dst (.agg (ev a n c z))) w) : wpList Tryz.prog ops Q (o :: rest) A w :=
  wpList_step fun K hK => by
    rw [if_pos hw]
    exact wp_load_row 26 x ho b hx _ _ _ _ h Tryz.underlying26 rfl (by rw [ev_size hz]; exact env_info) (hK _ _ k)
theorem load_er {ops : Array Oper} {rest : List Oper} {o : Oper} {A : Act} {w : World} {Q : Exit → Act → World → Prop} (hw : Region.wanted o (yielded ops A.tmps) = true) (x : Operand) (ho : o.op = .load 24 x)
    (b : Nat) (hx : A.eval x = .pointer (some ⟨b, 1, none⟩)) (a : Option Addr) (n c : Nat) (z : List Int) (hz : z.length = 10) (h : EB w b a n c z)
    (k : wpList Tryz.prog ops Q rest (A.put o.dst (.agg (rv z))) w) : wpList Tryz.prog ops Q (o :: rest) A w :=
  wpList_step fun K hK => by
    rw [if_pos hw]
    exact wp_load_mid 24 x ho b 1 hx (rlz z) _ h.range Tryz.underlying24 rfl (by rw [rl_len hz]; exact info_rows) (hK _ _ k)
theorem store_env {ops : Array Oper} {rest : List Oper} {o : Oper} {A : Act} {w : World} {Q : Exit → Act → World → Prop} (hgd : o.guard = none) (x y : Operand) (ho : o.op = .store 26 x y)
    (b : Nat) (hx : A.eval x = .pointer (some ⟨b, 0, none⟩)) (a' : Option Addr) (n' c' : Nat) (z' : List Int) (hy : A.eval y = .agg (ev a' n' c' z')) (hz' : z'.length = 10) (a : Option Addr) (n c : Nat) (z : List Int) (hz : z.length = 10) (h : EB w b a n c z)
    (k : ∀ w', EB w' b a' n' c' z' → Only b w w' → wpList Tryz.prog ops Q rest (A.put o.dst undef) w') : wpList Tryz.prog ops Q (o :: rest) A w :=
  wpList_store_row hgd 26 x y ho b _ hx hy _ _ h (by rw [ev_size hz']; exact env_info) (by rw [ev_size hz, ev_size hz']) (ev_one a' n' c' z') (k _ (h.row a' n' c' z') (Only.ofRow w b _))
theorem step_store_env {ops : Array Oper} {o : Oper} {A : Act} {w : World} {K : Act → World → Prop} {Q : Exit → Act → World → Prop} {E : Prop} (hgd : o.guard = none) (x y : Operand) (ho : o.op = .store 26 x y)
    (b : Nat) (hx : A.eval x = .pointer (some ⟨b, 0, none⟩)) (a' : Option Addr) (n' c' : Nat) (z' : List Int) (hy : A.eval y = .agg (ev a' n' c' z')) (hz' : z'.length = 10) (a : Option Addr) (n c : Nat) (z : List Int) (hz : z.length = 10) (h : EB w b a n c z)
    (k : ∀ w', EB w' b a' n' c' z' → Only b w w' → K (A.put o.dst undef) w') : if Region.wanted o (yielded ops A.tmps) = true then o.wp Tryz.prog A w K Q else E := by
  rw [if_pos (show Region.wanted o (yielded ops A.tmps) = true by simp [Region.wanted, hgd])]
  exact wp_store_row 26 x y ho b _ hx hy _ _ h (by rw [ev_size hz']; exact env_info) (by rw [ev_size hz, ev_size hz']) (ev_one a' n' c' z') (k _ (h.row a' n' c' z') (Only.ofRow w b _))
/-- In a region that draws its order: a load of an env, of its rows, that S gives may be taken first. -/
theorem take_env {md : Region.Mode} {ops : Array Oper} {Q : Exit → Act → World → Prop} {S : World → Prop} {fuel : Nat} {listed : Array Bool} {A : Act} {w : World} {i : Nat} {oi : Oper} (x : Operand) (hi : ops[i]? = some oi)
    (hs : Region.noSelect ops = true) (hf : Region.free md ops listed i = true) (hr : (Region.ready md ops listed).contains i = true) (a : Option Addr) (n c : Nat) (z : List Int)
    (hQ : ∀ c' a' w, Q (.panic c') (a'.put oi.dst (.agg (ev a n c z))) w → Q (.panic c') a' w) (hw : Region.wanted oi (yielded ops A.tmps) = true) (ho : oi.op = .load 26 x) (b : Nat) (hx : A.eval x = .pointer (some ⟨b, 0, none⟩))
    (hz : z.length = 10) (hS : ∀ w, S w → EB w b a n c z) (h0 : S w)
    (k : wpAnyH Tryz.prog md ops Q S fuel (listed.setIfInBounds i true) (A.put oi.dst (.agg (ev a n c z))) w) : wpAnyH Tryz.prog md ops Q S (fuel + 1) listed A w :=
  wpAnyH_take hi hs hf hr hQ (yieldsIf_load_mid hw 26 x ho b 0 hx (Value.slice a n c :: rlz z) _ (fun w h j v hv => by rw [Nat.zero_add, cell_of_row w b j _ _ _ (hS w h)]; simpa [ev] using hv) Tryz.underlying26 rfl (by rw [List.length_cons, rl_len hz]; exact env_info)) h0 k
theorem take_er {md : Region.Mode} {ops : Array Oper} {Q : Exit → Act → World → Prop} {S : World → Prop} {fuel : Nat} {listed : Array Bool} {A : Act} {w : World} {i : Nat} {oi : Oper} (x : Operand) (hi : ops[i]? = some oi)
    (hs : Region.noSelect ops = true) (hf : Region.free md ops listed i = true) (hr : (Region.ready md ops listed).contains i = true) (z : List Int)
    (hQ : ∀ c' a' w, Q (.panic c') (a'.put oi.dst (.agg (rv z))) w → Q (.panic c') a' w) (hw : Region.wanted oi (yielded ops A.tmps) = true) (ho : oi.op = .load 24 x) (b : Nat) (hx : A.eval x = .pointer (some ⟨b, 1, none⟩))
    (hz : z.length = 10) (a : Option Addr) (n c : Nat) (hS : ∀ w, S w → EB w b a n c z) (h0 : S w)
    (k : wpAnyH Tryz.prog md ops Q S fuel (listed.setIfInBounds i true) (A.put oi.dst (.agg (rv z))) w) : wpAnyH Tryz.prog md ops Q S (fuel + 1) listed A w :=
  wpAnyH_take hi hs hf hr hQ (yieldsIf_load_mid hw 24 x ho b 1 hx (rlz z) _ (fun w h => (hS w h).range) Tryz.underlying24 rfl (by rw [rl_len hz]; exact info_rows)) h0 k

theorem ret_env {fn : Func} {p : Tmp} (h : fn.results = #[.cell p 26]) (tmps : Array Value) (w : World) (b : Nat) (a : Option Addr) (n c : Nat) (z : List Int) (hz : z.length = 10)
    (hp : tmps.getD p undef = .pointer (some ⟨b, 0, none⟩)) (hg : EB w b a n c z) : (results fn tmps).run Tryz.prog w = .ok (.agg (ev a n c z)) w :=
  results_cell_row h tmps w b _ _ _ _ hp hg Tryz.underlying26 rfl (by rw [ev_size hz]; exact env_info)
theorem ret_envp {fn : Func} {p u : Tmp} (h : fn.results = #[.cell p 26, .tmp u]) (tmps : Array Value) (w : World) (b : Nat) (a : Option Addr) (n c : Nat) (z : List Int) (hz : z.length = 10)
    (hp : tmps.getD p undef = .pointer (some ⟨b, 0, none⟩)) (hg : EB w b a n c z) : (results fn tmps).run Tryz.prog w = .ok (.tuple #[.agg (ev a n c z), tmps.getD u undef]) w :=
  results_pair h tmps w b _ _ _ _ hp hg Tryz.underlying26 rfl (by rw [ev_size hz]; exact env_info)
/-- The env of a variable that was just made. -/
theorem ev_zero : ev none 0 0 z0 = #[.slice none 0 0, .int .i64 0, .int .i64 0, .int .i64 0, .int .i64 0, .int .i64 0, .int .i64 0, .int .i64 0, .int .i64 0, .int .i64 0, .int .i64 0] := rfl

end Go.Proofs.YtjkjbgekpkhpfaaGreatDoor
