import Derived.Deep.QuietTactic
import Derived.BigQuiet
import Derived.Test.YtcjbhdgjcpnklaaGreatDoorN01
import Derived.Test.YtcjbhdgjcpnklaaGreatDoorN05
namespace Go.Proofs.YtcjbhdgjcpnklaaGreatDoor
open Go.RowKit
theorem N5.zero (w : World) : N5 (w.alloc (.cells #[.int .i64 0, .string ⟨#[]⟩, .int .i64 0, .int .i64 0, .int .i64 0] 85)) w.heap.size ⟨0, [], 0, 0, 0⟩ := heap_alloc_new w _
theorem zRQ : (Tryz.prog.info? 3).map (·.size) = some 1 := by kernel_rfl
theorem zS7 {ops : Array Oper} {rest : List Oper} {o : Oper} {a : Act} {w : World} {Q : Exit → Act → World → Prop} (hgd : o.guard = none) (x y : Operand) (ho : o.op = .store 85 x y)
  (b : Nat) (hx : a.eval x = .pointer (some ⟨b, 0, none⟩)) (v : ND) (hy : a.eval y = .agg (ndA v)) (u : ND) (h : N5 w b u)
  (k : ∀ w', N5 w' b v → Only b w w' → wpList Tryz.prog ops Q rest (a.put o.dst undef) w') : wpList Tryz.prog ops Q (o :: rest) a w :=
 wpList_store_row hgd 85 x y ho b _ hx hy _ _ h zTe rfl (by kernel_rfl) (k _ (setRow_heap w b _ _ _ _ h) (Only.ofRow w b _))
theorem zS8 {ops : Array Oper} {rest : List Oper} {o : Oper} {A : Act} {w : World} {Q : Exit → Act → World → Prop} (hgd : o.guard = none) (x y : Operand) (ho : o.op = .store 3 x y)
  (b : Nat) (hx : A.eval x = .pointer (some ⟨b, 2, none⟩)) (v : Int) (hy : A.eval y = .int .i64 v) (k : Int) (n : Nm) (f t c : Int) (h : N5 w b ⟨k, n, f, t, c⟩)
  (kk : ∀ w', N5 w' b ⟨k, n, v, t, c⟩ → Only b w w' → wpList Tryz.prog ops Q rest (A.put o.dst undef) w') : wpList Tryz.prog ops Q (o :: rest) A w :=
 zAm hgd 3 85 x y ho b 2 [.int .i64 k, .string (mk n), .int .i64 f, .int .i64 t, .int .i64 c] (.int .i64 v) hx hy zRQ rfl h (by simp) rfl fun w' h' ho' => kk w' h' ho'
theorem zS9 {ops : Array Oper} {rest : List Oper} {o : Oper} {A : Act} {w : World} {Q : Exit → Act → World → Prop} (hgd : o.guard = none) (x y : Operand) (ho : o.op = .store 3 x y)
  (b : Nat) (hx : A.eval x = .pointer (some ⟨b, 3, none⟩)) (v : Int) (hy : A.eval y = .int .i64 v) (k : Int) (n : Nm) (f t c : Int) (h : N5 w b ⟨k, n, f, t, c⟩)
  (kk : ∀ w', N5 w' b ⟨k, n, f, v, c⟩ → Only b w w' → wpList Tryz.prog ops Q rest (A.put o.dst undef) w') : wpList Tryz.prog ops Q (o :: rest) A w :=
 zAm hgd 3 85 x y ho b 3 [.int .i64 k, .string (mk n), .int .i64 f, .int .i64 t, .int .i64 c] (.int .i64 v) hx hy zRQ rfl h (by simp) rfl fun w' h' ho' => kk w' h' ho'
theorem zUO (k f t c k' f' t' c' : Int) (s s' : ByteArray) (w : World) :
  (Op.equalIn 10000 85 (.agg #[.int .i64 k, .string s, .int .i64 f, .int .i64 t, .int .i64 c]) (.agg #[.int .i64 k', .string s', .int .i64 f', .int .i64 t', .int .i64 c'])).run Tryz.prog w = .ok ((k == k') && ((s.toList == s'.toList) && ((f == f') && ((t == t') && (c == c'))))) w := by
 have hu : Tryz.prog.underlying 85 = some (.struct (Tryz.prog.fieldsOf 85)) := by
  unfold Program.fieldsOf
  rw [Tryz.underlying85]
 rw [run_equalIn_struct w 9999 85 _ _ hu (by kernel_rfl)]
 unfold Program.fieldsOf
 rw [Tryz.underlying85]
 have p0 : ∀ w (a b c d : Value) (q : ByteArray), (part 3 #[a, .string q, b, c, d] 0).run Tryz.prog w = .ok a w := fun _ _ _ _ _ _ => by kernel_rfl
 have p1 : ∀ w (a b c d : Value) (q : ByteArray), (part 9 #[a, .string q, b, c, d] 1).run Tryz.prog w = .ok (.string q) w := fun _ _ _ _ _ _ => by kernel_rfl
 have p2 : ∀ w (a b c d : Value) (q : ByteArray), (part 3 #[a, .string q, b, c, d] 2).run Tryz.prog w = .ok b w := fun _ _ _ _ _ _ => by kernel_rfl
 have p3 : ∀ w (a b c d : Value) (q : ByteArray), (part 3 #[a, .string q, b, c, d] 3).run Tryz.prog w = .ok c w := fun _ _ _ _ _ _ => by kernel_rfl
 have p4 : ∀ w (a b c d : Value) (q : ByteArray), (part 3 #[a, .string q, b, c, d] 4).run Tryz.prog w = .ok d w := fun _ _ _ _ _ _ => by kernel_rfl
 have e1 : ∀ w (a b : Int), (Op.equalIn 9999 3 (.int .i64 a) (.int .i64 b)).run Tryz.prog w = .ok (a == b) w := fun w a b => run_equalIn_int w 9998 _ _ _ a b Tryz.underlying3
 have e3 : ∀ w (a b : ByteArray), (Op.equalIn 9999 9 (.string a) (.string b)).run Tryz.prog w = .ok (a.toList == b.toList) w := fun w a b => run_equalIn_string w 9998 _ a b Tryz.underlying9
 simp only [Op.eqFields, Sem.run_bind, Sem.run_ite, p0, p1, p2, p3, p4, e1, e3, Result.andThen_ok, Sem.run_pure, ne_eq, String.reduceEq, not_false_eq_true, if_true]
 cases k == k' <;> cases f == f' <;> cases t == t' <;> cases (s.toList == s'.toList) <;> cases c == c' <;> rfl
set_option maxRecDepth 20000 in
theorem zRk (a : Option Addr) (len cap : Nat) (T : List ND) (a' : Option Addr) (cap' : Nat) (w : World) (h : NdS w a len cap T) (h' : NdS w a' len cap' T) :
  Calls Tryz.prog 17 #[.slice a len cap, .slice a' len cap'] w fun e w' => e = .returned (.bool true) ∧ Below w.heap.size w w' := by
 have hcm := h.cm
 have hlc := h.lc
 unfold maxLen at hcm
 have H := hid h
 have H' := hid h'
 clear h h'
 go_enter Tryz.func17, Tryz.ntmps17
 go_wp2
 go_loopw [5] (fun i wr => ∃ k : Nat, i = .int .i64 k ∧ k ≤ len ∧ Hid (Below w.heap.size w wr)) (fun i _ => len - (intOf i).toNat)
 case atStart => exact ⟨0, rfl, by omega, hid (Below.refl _ _)⟩
 case round =>
  obtain ⟨k, rfl, hk, HB⟩ := hrel
  by_cases hlt : k < len
  ·have hb := H.out.below HB.out
   have hb' := H'.out.below HB.out
   obtain ⟨b, off, rfl, _, hc⟩ := hb.at_ (by omega)
   obtain ⟨b', off', rfl, _, hc'⟩ := hb'.at_ (by omega)
   clear hc hc'
   obtain ⟨c0, c1, c2, c3, c4⟩ := NdS.at5 hb hlt
   obtain ⟨d0, d1, d2, d3, d4⟩ := NdS.at5 hb' hlt
   obtain ⟨x, hx⟩ : ∃ x, x = nA T k := ⟨_, rfl⟩
   rw [← hx] at c0 c1 c2 c3 c4 d0 d1 d2 d3 d4
   clear hb hb' hx
   obtain ⟨K, N, F, T', C⟩ := x
   dsimp only at c0 c1 c2 c3 c4 d0 d1 d2 d3 d4
   have e1 := zUO K F T' C K F T' C (mk N) (mk N)
   simp only [beq_self_eq_true, Bool.and_self] at e1
   go_wp2_with fail
   go_quiet (fail)
   go_wp2
   go_roundw
   case rel => exact ⟨k + 1, by go_num, by omega, hid (below_drewN HB.out _)⟩
   case measure => simp [intOf]; omega
  ·have hkl : k = len := by omega
   go_wp2
   go_ret
   exact ⟨rfl, HB.out⟩
end Go.Proofs.YtcjbhdgjcpnklaaGreatDoor
