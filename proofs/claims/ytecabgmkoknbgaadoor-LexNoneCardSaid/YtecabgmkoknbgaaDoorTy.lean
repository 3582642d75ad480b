/- Tokens compared; a token in a block. -/
import Derived.Test.YtecabgmkoknbgaaDoorTe
import Derived.Laws.StructEq
import Derived.Lib.SmallJoins
namespace Go.Proofs.YtecabgmkoknbgaaDoor
open Go.RowKit

theorem eq_tok (k f t e k' f' t' e' : Int) (s s' : ByteArray) (w : World) :
    (Op.equalIn 10000 34 (.agg #[.int .i64 k, .int .i64 f, .int .i64 t, .string s, .int .i64 e]) (.agg #[.int .i64 k', .int .i64 f', .int .i64 t', .string s', .int .i64 e'])).run Tryd.prog w = .ok ((k == k') && ((f == f') && ((t == t') && ((s.toList == s'.toList) && (e == e'))))) w := by
  have hu : Tryd.prog.underlying 34 = some (.struct (Tryd.prog.fieldsOf 34)) := by
    unfold Program.fieldsOf
    rw [Tryd.underlying34]
  rw [run_equalIn_struct w 9999 34 _ _ hu (by kernel_rfl)]
  unfold Program.fieldsOf
  rw [Tryd.underlying34]
  have p0 : ∀ w (a b c d : Value) (q : ByteArray), (part 3 #[a, b, c, .string q, d] 0).run Tryd.prog w = .ok a w := fun _ _ _ _ _ _ => by kernel_rfl
  have p1 : ∀ w (a b c d : Value) (q : ByteArray), (part 3 #[a, b, c, .string q, d] 1).run Tryd.prog w = .ok b w := fun _ _ _ _ _ _ => by kernel_rfl
  have p2 : ∀ w (a b c d : Value) (q : ByteArray), (part 3 #[a, b, c, .string q, d] 2).run Tryd.prog w = .ok c w := fun _ _ _ _ _ _ => by kernel_rfl
  have p3 : ∀ w (a b c d : Value) (q : ByteArray), (part 9 #[a, b, c, .string q, d] 3).run Tryd.prog w = .ok (.string q) w := fun _ _ _ _ _ _ => by kernel_rfl
  have p4 : ∀ w (a b c d : Value) (q : ByteArray), (part 25 #[a, b, c, .string q, d] 4).run Tryd.prog w = .ok d w := fun _ _ _ _ _ _ => by kernel_rfl
  have e1 : ∀ w (a b : Int), (Op.equalIn 9999 3 (.int .i64 a) (.int .i64 b)).run Tryd.prog w = .ok (a == b) w := fun w a b => run_equalIn_int w 9998 _ _ _ a b Tryd.underlying3
  have e2 : ∀ w (a b : Int), (Op.equalIn 9999 25 (.int .i64 a) (.int .i64 b)).run Tryd.prog w = .ok (a == b) w := fun w a b => run_equalIn_int w 9998 _ _ _ a b Tryd.underlying25
  have e3 : ∀ w (a b : ByteArray), (Op.equalIn 9999 9 (.string a) (.string b)).run Tryd.prog w = .ok (a.toList == b.toList) w := fun w a b => run_equalIn_string w 9998 _ a b Tryd.underlying9
  simp only [Op.eqFields, Sem.run_bind, Sem.run_ite, p0, p1, p2, p3, p4, e1, e2, e3, Result.andThen_ok, Sem.run_pure, ne_eq, String.reduceEq, not_false_eq_true, if_true]
  cases k == k' <;> cases f == f' <;> cases t == t' <;> cases (s.toList == s'.toList) <;> cases e == e' <;> rfl

/-- Block g holds these cells. -/
structure TV (g : Nat) (cs : Array Value) (w : World) : Prop where
  lt : g < w.heap.size
  c : ∀ i, w.cell? ⟨g, i, none⟩ = cs[i]?
  z : ∀ i, w.frozen? ⟨g, i, none⟩ = false

theorem tv_new (w : World) (cs : Array Value) (e : TypeId) : TV w.heap.size cs (w.alloc (.cells cs e)) := ⟨by simp, fun i => cell_of_row _ _ _ _ _ _ (heap_alloc_new w _), fun i => frozen_of_row _ _ _ _ _ (heap_alloc_new w _)⟩
theorem TV.keep {g : Nat} {cs : Array Value} {w w' : World} (h : TV g cs w) (hb : Below w.heap.size w w') : TV g cs w' :=
  ⟨Nat.lt_of_lt_of_le h.lt hb.size, fun i => (hb.cell (p := ⟨g, i, none⟩) h.lt).trans (h.c i), fun i => (hb.frozen (p := ⟨g, i, none⟩) h.lt).trans (h.z i)⟩
theorem TV.keepB {g B : Nat} {cs : Array Value} {w w' : World} (h : TV g cs w) (hB : g < B) (hb : Below B w w') : TV g cs w' :=
  ⟨Nat.lt_of_lt_of_le h.lt hb.size, fun i => (hb.cell (p := ⟨g, i, none⟩) hB).trans (h.c i), fun i => (hb.frozen (p := ⟨g, i, none⟩) hB).trans (h.z i)⟩
theorem past_alloc {w w' : World} {o : Obj} (h : Below (w.alloc o).heap.size (w.alloc o) w') : Below w.heap.size w w' := ((Below.refl _ w).alloc (Nat.le_refl _) _).trans (h.mono (by simp))


end Go.Proofs.YtecabgmkoknbgaaDoor
