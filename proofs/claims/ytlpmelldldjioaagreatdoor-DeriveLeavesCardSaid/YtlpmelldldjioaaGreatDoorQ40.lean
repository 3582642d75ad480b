import Derived.Deep.QuietTactic
import Derived.BigQuiet
import Derived.Test.YtlpmelldldjioaaGreatDoorQ26
import Derived.Test.YtlpmelldldjioaaGreatDoorQ33
namespace Go.Proofs.YtlpmelldldjioaaGreatDoor
open Go.RowKit
theorem N5.zero (w : World) : N5 (w.alloc (.cells #[.int .i64 0, .string ⟨#[]⟩, .int .i64 0, .int .i64 0, .int .i64 0] 39)) w.heap.size ⟨0, [], 0, 0, 0⟩ := heap_alloc_new w _
theorem nint_size1 : (Tryz.prog.info? 3).map (·.size) = some 1 := by kernel_rfl
theorem store_n5 {ops : Array Oper} {rest : List Oper} {o : Oper} {a : Act} {w : World} {Q : Exit → Act → World → Prop} (hgd : o.guard = none) (x y : Operand) (ho : o.op = .store 39 x y)
  (b : Nat) (hx : a.eval x = .pointer (some ⟨b, 0, none⟩)) (v : ND) (hy : a.eval y = .agg (ndA v)) (u : ND) (h : N5 w b u)
  (k : ∀ w', N5 w' b v → Only b w w' → wpList Tryz.prog ops Q rest (a.put o.dst undef) w') : wpList Tryz.prog ops Q (o :: rest) a w :=
 wpList_store_row hgd 39 x y ho b _ hx hy _ _ h n5_info rfl (by kernel_rfl) (k _ (setRow_heap w b _ _ _ _ h) (Only.ofRow w b _))
theorem store_nf {ops : Array Oper} {rest : List Oper} {o : Oper} {A : Act} {w : World} {Q : Exit → Act → World → Prop} (hgd : o.guard = none) (x y : Operand) (ho : o.op = .store 3 x y)
  (b : Nat) (hx : A.eval x = .pointer (some ⟨b, 2, none⟩)) (v : Int) (hy : A.eval y = .int .i64 v) (k : Int) (n : Nm) (f t c : Int) (h : N5 w b ⟨k, n, f, t, c⟩)
  (kk : ∀ w', N5 w' b ⟨k, n, v, t, c⟩ → Only b w w' → wpList Tryz.prog ops Q rest (A.put o.dst undef) w') : wpList Tryz.prog ops Q (o :: rest) A w :=
 wpList_store_cell hgd 3 39 x y ho b 2 [.int .i64 k, .string (mk n), .int .i64 f, .int .i64 t, .int .i64 c] (.int .i64 v) hx hy nint_size1 rfl h (by simp) rfl fun w' h' ho' => kk w' h' ho'
theorem store_nt {ops : Array Oper} {rest : List Oper} {o : Oper} {A : Act} {w : World} {Q : Exit → Act → World → Prop} (hgd : o.guard = none) (x y : Operand) (ho : o.op = .store 3 x y)
  (b : Nat) (hx : A.eval x = .pointer (some ⟨b, 3, none⟩)) (v : Int) (hy : A.eval y = .int .i64 v) (k : Int) (n : Nm) (f t c : Int) (h : N5 w b ⟨k, n, f, t, c⟩)
  (kk : ∀ w', N5 w' b ⟨k, n, f, v, c⟩ → Only b w w' → wpList Tryz.prog ops Q rest (A.put o.dst undef) w') : wpList Tryz.prog ops Q (o :: rest) A w :=
 wpList_store_cell hgd 3 39 x y ho b 3 [.int .i64 k, .string (mk n), .int .i64 f, .int .i64 t, .int .i64 c] (.int .i64 v) hx hy nint_size1 rfl h (by simp) rfl fun w' h' ho' => kk w' h' ho'
end Go.Proofs.YtlpmelldldjioaaGreatDoor
