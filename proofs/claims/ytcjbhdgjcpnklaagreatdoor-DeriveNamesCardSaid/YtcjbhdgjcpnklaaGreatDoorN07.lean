import Derived.Test.YtcjbhdgjcpnklaaGreatDoorV19
import Derived.Test.YtcjbhdgjcpnklaaGreatDoorV12
import Derived.Deep.MidRow
import Derived.Lib.AppendZerosOnto
import Derived.Test.YtcjbhdgjcpnklaaGreatDoorN04
import Derived.Test.YtcjbhdgjcpnklaaGreatDoorN06
namespace Go.Proofs.YtcjbhdgjcpnklaaGreatDoor
section
open Go.RowKit
def Bk (w : World) (b : Nat) (T : TypeId) (cs : Array Value) : Prop := w.heap[b]? = some (.cells cs T (0, 0))
section
variable {w w' : World} {b B : Nat} {T : TypeId} {cs : Array Value}
theorem Bk.lt (h : Bk w b T cs) : b < w.heap.size := (Array.getElem?_eq_some_iff.1 h).1
theorem Bk.keep (h : Bk w b T cs) (hb : Below B w w') (hB : b < B) : Bk w' b T cs := (hb.block b hB).trans h
theorem Bk.below (h : Bk w b T cs) (hb : Below w.heap.size w w') : Bk w' b T cs := h.keep hb h.lt
theorem Bk.alloc (h : Bk w b T cs) (o : Obj) : Bk (w.alloc o) b T cs := (Below.heap_alloc w o b h.lt).trans h
theorem Bk.drew (h : Bk w b T cs) : Bk w.drew b T cs := h
theorem Bk.new (w : World) (T : TypeId) (cs : Array Value) : Bk (w.alloc (.cells cs T)) w.heap.size T cs := heap_alloc_new w _
theorem Bk.only (h : Bk w b T cs) {g : Nat} (hg : Only g w w') (hne : b ≠ g) : Bk w' b T cs := (hg.block b hne).trans h
theorem Bk.kx {M : Nat} (h : Bk w b T cs) (hk : Kx M w w') (hm : isMap w M) : Bk w' b T cs := hk.blk hm h
theorem Bk.cell (h : Bk w b T cs) (j : Nat) : w.cell? ⟨b, j, none⟩ = cs[j]? := cell_of_row w b j _ _ _ h
end
structure RT (T : TypeId) (k : Nat) : Prop where
 d : ∃ d, Tryz.prog.underlying T = some d ∧ (match d with | .struct _ | .array _ _ => true | _ => false) = true
 i : (Tryz.prog.info? T).map (·.size) = some k
section
variable {ops : Array Oper} {rest : List Oper} {o : Oper} {A : Act} {w : World} {Q : Exit → Act → World → Prop} {K : Act → World → Prop} {E : Prop} {T : TypeId} {k : Nat}
theorem zA2 (ht : RT T k) (hw : Region.wanted o (yielded ops A.tmps) = true) (p : Operand) (ho : o.op = .load T p) (b : Nat) (hx : A.eval p = .pointer (some ⟨b, 0, none⟩)) (cs : Array Value) (hs : cs.size = k) {t : TypeId} (h : Bk w b t cs)
  (kk : wpList Tryz.prog ops Q rest (A.put o.dst (.agg cs)) w) : wpList Tryz.prog ops Q (o :: rest) A w :=
 wpList_step fun K hK => by
  rw [if_pos hw]
  obtain ⟨d, hu, hd⟩ := ht.d
  exact wp_load_row T p ho b hx _ _ _ _ h hu (by cases d <;> first | rfl | cases hd) (by rw [hs]; exact ht.i) (hK _ _ kk)
theorem zQg (ht : RT T k) (hw : Region.wanted o (yielded ops A.tmps) = true) (p : Operand) (ho : o.op = .load T p) (b : Nat) (hx : A.eval p = .pointer (some ⟨b, 0, none⟩)) (cs : Array Value) (hs : cs.size = k) {t : TypeId} (h : Bk w b t cs)
  (kk : K (A.put o.dst (.agg cs)) w) : if Region.wanted o (yielded ops A.tmps) = true then o.wp Tryz.prog A w K Q else E := by
 rw [if_pos hw]
 obtain ⟨d, hu, hd⟩ := ht.d
 exact wp_load_row T p ho b hx _ _ _ _ h hu (by cases d <;> first | rfl | cases hd) (by rw [hs]; exact ht.i) kk
theorem zAn (ht : RT T k) (hgd : o.guard = none) (p q : Operand) (ho : o.op = .store T p q) (b : Nat) (hx : A.eval p = .pointer (some ⟨b, 0, none⟩)) (cs : Array Value) (hy : A.eval q = .agg cs) (hs : cs.size = k) (h1 : cs.all (·.oneCell') = true) (us : Array Value) (hu : us.size = k) {t : TypeId} (h : Bk w b t us)
  (kk : ∀ w', Bk w' b t cs → Only b w w' → wpList Tryz.prog ops Q rest (A.put o.dst undef) w') : wpList Tryz.prog ops Q (o :: rest) A w :=
 wpList_store_row hgd T p q ho b _ hx hy _ _ h (by rw [hs]; exact ht.i) (by rw [hs, hu]) h1 (kk _ (setRow_heap w b _ _ _ _ h) (Only.ofRow w b _))
theorem zQd (ht : RT T k) (hgd : o.guard = none) (p q : Operand) (ho : o.op = .store T p q) (b : Nat) (hx : A.eval p = .pointer (some ⟨b, 0, none⟩)) (cs : Array Value) (hy : A.eval q = .agg cs) (hs : cs.size = k) (h1 : cs.all (·.oneCell') = true) (us : Array Value) (hu : us.size = k) {t : TypeId} (h : Bk w b t us)
  (kk : ∀ w', Bk w' b t cs → Only b w w' → K (A.put o.dst undef) w') : if Region.wanted o (yielded ops A.tmps) = true then o.wp Tryz.prog A w K Q else E := by
 rw [if_pos (show Region.wanted o (yielded ops A.tmps) = true by simp [Region.wanted, hgd])]
 exact wp_store_row T p q ho b _ hx hy _ _ h (by rw [hs]; exact ht.i) (by rw [hs, hu]) h1 (kk _ (setRow_heap w b _ _ _ _ h) (Only.ofRow w b _))
theorem zNr (ht : RT T k) {fn : Func} {p : Tmp} (h : fn.results = #[.cell p T]) (tmps : Array Value) (w : World) (b : Nat) (cs : Array Value) (hs : cs.size = k) (hp : tmps.getD p undef = .pointer (some ⟨b, 0, none⟩)) {t : TypeId} (hg : Bk w b t cs) : (results fn tmps).run Tryz.prog w = .ok (.agg cs) w := by
 obtain ⟨d, hu, hd⟩ := ht.d
 exact results_cell_row h tmps w b _ _ _ _ hp hg hu (by cases d <;> first | rfl | cases hd) (by rw [hs]; exact ht.i)
theorem zTl (ht : RT T k) {fn : Func} {p u : Tmp} (h : fn.results = #[.cell p T, .tmp u]) (tmps : Array Value) (w : World) (b : Nat) (cs : Array Value) (hs : cs.size = k) (hp : tmps.getD p undef = .pointer (some ⟨b, 0, none⟩)) {t : TypeId} (hg : Bk w b t cs) : (results fn tmps).run Tryz.prog w = .ok (.tuple #[.agg cs, tmps.getD u undef]) w := by
 obtain ⟨d, hu, hd⟩ := ht.d
 exact zAG h tmps w b _ _ _ _ hp hg hu (by cases d <;> first | rfl | cases hd) (by rw [hs]; exact ht.i)
theorem zBc (ht : RT T k) {d : Option Tmp} {ty : TypeId} {ps : String} {af : Array Edge} {g : Option (Tmp × Bool)} (p : Operand) (b : Nat) (hx : A.eval p = .pointer (some ⟨b, 0, none⟩)) (cs : Array Value) (hs : cs.size = k) {t : TypeId} (h : Bk w b t cs) :
  (execOp A.eval (Oper.mk d (.load T p) ty ps af g)).run Tryz.prog w = .ok (.value (.agg cs)) w := by
 obtain ⟨e, hu, hd⟩ := ht.d
 have hr := run_loadVar_row (P := Tryz.prog) w b t T cs (0, 0) e h hu (by cases e <;> first | rfl | cases hd) (by rw [hs]; exact ht.i)
 unfold execOp
 simp only [hx, Instr.loadAt, Instr.sureAddr, Sem.run_bind, Sem.run_pure, Result.andThen_ok, hr]
theorem zCI (ht : RT T k) (hw : Region.wanted o (yielded ops A.tmps) = true) (p : Operand) (ho : o.op = .load T p) (b off : Nat) (hx : A.eval p = .pointer (some ⟨b, off, none⟩)) (cs : Array Value) (hs : cs.size = k) (h : ∀ j, j < k → w.cell? ⟨b, off + j, none⟩ = cs[j]?)
  (kk : wpList Tryz.prog ops Q rest (A.put o.dst (.agg cs)) w) : wpList Tryz.prog ops Q (o :: rest) A w :=
 wpList_step fun K hK => by
  rw [if_pos hw]
  obtain ⟨d, hu, hd⟩ := ht.d
  have := wp_load_mid (P := Tryz.prog) (op := o) (a := A) (w := w) (K := K) (Q := Q) T p ho b off hx cs.toList d (fun j v hv => by
   rw [Array.getElem?_toList] at hv
   have hj := (Array.getElem?_eq_some_iff.1 hv).1
   rw [h j (by omega)]; exact hv) hu (by cases d <;> first | rfl | cases hd) (by rw [Array.length_toList, hs]; exact ht.i)
  exact this (hK _ _ kk)
theorem zEQ (ht : RT T k) {d : Option Tmp} {ty : TypeId} {ps : String} {af : Array Edge} {g : Option (Tmp × Bool)} (p : Operand) (b off : Nat) (hx : A.eval p = .pointer (some ⟨b, off, none⟩)) (cs : Array Value) (hs : cs.size = k) (h : ∀ j, j < k → w.cell? ⟨b, off + j, none⟩ = cs[j]?) :
  (execOp A.eval (Oper.mk d (.load T p) ty ps af g)).run Tryz.prog w = .ok (.value (.agg cs)) w := by
 obtain ⟨e, hu, hd⟩ := ht.d
 have hr := run_loadVar_mid (P := Tryz.prog) w b off T cs.toList e (fun j v hv => by
   rw [Array.getElem?_toList] at hv
   have hj := (Array.getElem?_eq_some_iff.1 hv).1
   rw [h j (by omega)]; exact hv) hu (by cases e <;> first | rfl | cases hd) (by rw [Array.length_toList, hs]; exact ht.i)
 unfold execOp
 simp only [hx, Instr.loadAt, Instr.sureAddr, Sem.run_bind, Sem.run_pure, Result.andThen_ok, hr]
end
def fdA (m : Nat) (a : Option Addr) (n c : Nat) : Array Value := #[.int .i64 (m : Int), .slice a n c]
def glA (f i a b : Nat) : Array Value := #[.int .i64 (f : Int), .int .i64 (i : Int), .int .i64 (a : Int), .int .i64 (b : Int)]
def fmA (f : FD) (a : Option Addr) (n c : Nat) : Array Value := #[.int .i64 f.k, .string (mk f.n), .int .i64 0, .int .i64 0, .int .i64 f.c, .string (mk f.o.1), .int .i64 f.o.2.1, .int .i64 f.o.2.2, .slice a n c]
theorem zQc : RT 80 2 := ⟨⟨_, Tryz.underlying80, rfl⟩, by kernel_rfl⟩
theorem zRA : RT 132 4 := ⟨⟨_, Tryz.underlying132, rfl⟩, by kernel_rfl⟩
theorem zQw : RT 125 2 := ⟨⟨_, Tryz.underlying125, rfl⟩, by kernel_rfl⟩
theorem zQi : RT 119 9 := ⟨⟨_, Tryz.underlying119, rfl⟩, by kernel_rfl⟩
theorem zQf : RT 78 14 := ⟨⟨_, Tryz.underlying78, rfl⟩, by kernel_rfl⟩
theorem zTm : RT 85 5 := ⟨⟨_, Tryz.underlying85, rfl⟩, by kernel_rfl⟩
theorem zBd : RT 38 3 := ⟨⟨_, Tryz.underlying38, rfl⟩, by kernel_rfl⟩
theorem zBJ : RT 51 5 := ⟨⟨_, Tryz.underlying51, rfl⟩, by kernel_rfl⟩
theorem zKz : RT 34 11 := ⟨⟨_, Tryz.underlying34, rfl⟩, by kernel_rfl⟩
theorem zQe (m : Nat) (a : Option Addr) (n c : Nat) : (fdA m a n c).all (·.oneCell') = true := by kernel_rfl
theorem zQq (f : FD) (a : Option Addr) (n c : Nat) : (fmA f a n c).all (·.oneCell') = true := by kernel_rfl
structure SR where
 a : Option Addr
 n : Nat
 c : Nat
 L : List OP
 z : List Int
 ta : Option Addr
 tn : Nat
 tc : Nat
 tok : List TK
 fa : Option Addr
 fn : Nat
 fc : Nat
 F : List FD
 M : Nat
def srL (x : SR) : List Value := (Value.slice x.a x.n x.c :: rlz x.z) ++ [.slice x.ta x.tn x.tc, .slice x.fa x.fn x.fc, .map (some x.M)]
def srA (x : SR) : Array Value := (srL x).toArray
theorem zT9 {x : SR} (hz : x.z.length = 10) : (srL x).length = 14 := by unfold srL; rw [List.length_append, List.length_cons, zH7 hz]; rfl
theorem zQj {x : SR} (hz : x.z.length = 10) : (srA x).size = 14 := by unfold srA; rw [List.size_toArray, zT9 hz]
theorem zUA {x : SR} (hz : x.z.length = 10) {j : Nat} (hj : j < 11) : (srA x)[j]? = (ev x.a x.n x.c x.z)[j]? := by
 unfold srA srL ev
 rw [List.getElem?_toArray, List.getElem?_append_left (by rw [List.length_cons, zH7 hz]; exact hj), List.getElem?_toArray]
theorem zRi {x : SR} (hz : x.z.length = 10) : (srA x)[11]? = some (.slice x.ta x.tn x.tc) ∧ (srA x)[12]? = some (.slice x.fa x.fn x.fc) ∧ (srA x)[13]? = some (.map (some x.M)) := by
 unfold srA srL
 simp only [List.getElem?_toArray]
 refine ⟨?_, ?_, ?_⟩ <;> rw [List.getElem?_append_right (by rw [List.length_cons, zH7 hz]; decide), List.length_cons, zH7 hz] <;> rfl
theorem zRP (x : SR) : (srA x).all (·.oneCell') = true := by
 refine all_oneCell_toArray fun v hv => ?_
 rcases List.mem_append.1 hv with hv | hv
 ·have := zNf x.a x.n x.c x.z
  rw [Array.all_eq_true_iff_forall_mem] at this
  exact this v (by unfold ev; simpa using hv)
 ·simp only [List.mem_cons, List.not_mem_nil, or_false] at hv
  rcases hv with rfl | rfl | rfl <;> rfl
def SdAt (w : World) (fv kv : Value) : Sd → Prop
 | .br x => ∃ X, fv = .func (.func 109) #[] #[.pointer (some ⟨X, 0, none⟩)] ∧ T5 w X 6 0 0 x 0 ∧ ∃ a n c, kv = .slice a n c
 | .pt x => ∃ X, fv = .func (.func 111) #[] #[.pointer (some ⟨X, 0, none⟩)] ∧ C1 w X 9 (.string (mk x)) ∧ ∃ a n c, kv = .slice a n c
 | .ho K => fv = .nilFunc ∧ ∃ a c, kv = .slice a K.length c ∧ Vs 1 w a K.length c (K.map fun (i : Nat) => Value.int .i64 (i : Int))
structure StS (w : World) (a : Option Addr) (n c : Nat) (S : List Sd) : Prop where
 hl : S.length = n
 lc : n ≤ c
 cm : c ≤ maxLen
 at_ : 0 < n → ∃ b off, a = some ⟨b, off, none⟩ ∧ b < w.heap.size ∧ ∀ j (h : j < S.length), ∃ fv kv, w.cell? ⟨b, off + j * 2, none⟩ = some fv ∧ w.cell? ⟨b, off + j * 2 + 1, none⟩ = some kv ∧ SdAt w fv kv S[j]
structure FmS (w : World) (a : Option Addr) (n c : Nat) (F : List FD) : Prop where
 hl : F.length = n
 lc : n ≤ c
 cm : c ≤ maxLen
 at_ : 0 < n → ∃ b off, a = some ⟨b, off, none⟩ ∧ b < w.heap.size ∧ ∀ i, i < n → ∃ sa sc, (∀ j, j < 9 → w.cell? ⟨b, off + i * 9 + j, none⟩ = (fmA (fA F i) sa (fA F i).S.length sc)[j]?) ∧ StS w sa (fA F i).S.length sc (fA F i).S
theorem SdAt.kx {M : Nat} {w w' : World} {fv kv : Value} {s : Sd} (v : SdAt w fv kv s) (h : Kx M w w') (hm : isMap w M) : SdAt w' fv kv s := by
 cases s with
 | br x => obtain ⟨X, h1, h2, h3⟩ := v; exact ⟨X, h1, h2.kx h hm, h3⟩
 | pt x => obtain ⟨X, h1, h2, h3⟩ := v; exact ⟨X, h1, h2.kx h hm, h3⟩
 | ho K => obtain ⟨h1, a, c, h2, h3⟩ := v; exact ⟨h1, a, c, h2, h3.kx h hm⟩
theorem StS.kx {M : Nat} {w w' : World} {a : Option Addr} {n c : Nat} {S : List Sd} (v : StS w a n c S) (h : Kx M w w') (hm : isMap w M) : StS w' a n c S :=
 ⟨v.hl, v.lc, v.cm, fun h0 => by
  obtain ⟨b, off, ha, hb, hc⟩ := v.at_ h0
  refine ⟨b, off, ha, Nat.lt_of_lt_of_le hb h.size, fun j hj => ?_⟩
  obtain ⟨fv, kv, h1, h2, h3⟩ := hc j hj
  exact ⟨fv, kv, h.cell hm h1, h.cell hm h2, h3.kx h hm⟩⟩
theorem FmS.kx {M : Nat} {w w' : World} {a : Option Addr} {n c : Nat} {F : List FD} (v : FmS w a n c F) (h : Kx M w w') (hm : isMap w M) : FmS w' a n c F :=
 ⟨v.hl, v.lc, v.cm, fun h0 => by
  obtain ⟨b, off, ha, hb, hc⟩ := v.at_ h0
  refine ⟨b, off, ha, Nat.lt_of_lt_of_le hb h.size, fun i hi => ?_⟩
  obtain ⟨sa, sc, h1, h3⟩ := hc i hi
  refine ⟨sa, sc, fun j hj => ?_, h3.kx h hm⟩
  have h1 := h1 j hj
  have hj' : j < (fmA (fA F i) sa (fA F i).S.length sc).size := hj
  rw [Array.getElem?_eq_getElem hj'] at h1 ⊢
  exact h.cell hm h1⟩
def MI (w : World) (x : SR) : Prop := ∃ es cl, w.heap[x.M]? = some (.map es cl) ∧ ∀ e ∈ es.toList, ∃ f i a b : Nat, ∃ v : FV, ∃ na nc, e.key = .agg (glA f i a b) ∧ e.val = .agg (fdA v.1 na v.2.length nc) ∧ NdS w na v.2.length nc v.2 ∧ Cn (DS x.L x.z x.tok x.F ((fA x.F f).S.drop i) a b) v.1 v.2
theorem MI.isMap {w : World} {x : SR} (h : MI w x) : isMap w x.M := by obtain ⟨es, cl, h, _⟩ := h; exact ⟨es, cl, h⟩
theorem MI.below {w w' : World} {x : SR} (h : MI w x) (hb : Below w.heap.size w w') : MI w' x := by
 obtain ⟨es, cl, h, h2⟩ := h
 exact ⟨es, cl, (hb.block x.M (Array.getElem?_eq_some_iff.1 h).1).trans h, fun e he => by
  obtain ⟨f, i, a, b, v, na, nc, h3, h4, h5, h6⟩ := h2 e he
  exact ⟨f, i, a, b, v, na, nc, h3, h4, h5.below hb, h6⟩⟩
structure Sit (w : World) (x : SR) : Prop where
 tab : Tab w
 ops : OpS w x.a x.n x.c x.L
 tk : Ts w x.ta x.tn x.tc x.tok
 fm : FmS w x.fa x.fn x.fc x.F
 mi : MI w x
theorem Sit.kx {w w' : World} {x : SR} (s : Sit w x) (h : Kx x.M w w') (hm : MI w' x) : Sit w' x := ⟨s.tab.kx h s.mi.isMap, s.ops.kx h s.mi.isMap, s.tk.kx h s.mi.isMap, s.fm.kx h s.mi.isMap, hm⟩
theorem Sit.below {w w' : World} {x : SR} (s : Sit w x) (hb : Below w.heap.size w w') : Sit w' x := s.kx (Kx.of hb) (s.mi.below hb)
theorem MI.only {w w' : World} {x : SR} {g : Nat} (h : MI w x) (ho : Only g w w') (hg : ∀ na n nc l, NdS w na n nc l → NdS w' na n nc l) (hne : x.M ≠ g) : MI w' x := by
 obtain ⟨es, cl, h, h2⟩ := h
 exact ⟨es, cl, (ho.block x.M hne).trans h, fun e he => by
  obtain ⟨f, i, a, b, v, na, nc, h3, h4, h5, h6⟩ := h2 e he
  exact ⟨f, i, a, b, v, na, nc, h3, h4, hg _ _ _ _ h5, h6⟩⟩
structure SOk (x : SR) : Prop where
 z : x.z.length = 10
 n : x.n ≤ 1000000
 nm : ∀ o ∈ x.L, o.1.length ≤ 1000000
 tn : x.tn ≤ 1000000
 fn : x.fn ≤ 1000000
 st : ∀ i, i < x.fn → (fA x.F i).S.length ≤ 1000000
 g : GoodF x.L x.z x.tok x.F
end
section
open Go.RowKit
theorem zRK {P : Program} {ops : Array Oper} {rest : List Oper} {w w' : World} {o : Oper} {a : Act} {Q : Exit → Act → World → Prop} {r : Value} (hw : Region.wanted o (yielded ops a.tmps) = true) (s x : Operand) (t u : TypeId)
  (ho : o.op = .call { callee := .builtin .append, args := #[s, x], argTypes := #[t, u] }) (hr : (Builtin.append_ #[t, u] o.type #[a.eval s, a.eval x]).run P w = .ok r w')
  (h : wpList P ops Q rest (a.put o.dst r) w') : wpList P ops Q (o :: rest) a w :=
 wpList_step fun K hK => by
  rw [if_pos hw]
  unfold Oper.wp execOp
  simp only [ho, resolve, invoke, builtin, Sem.run_bind, Sem.run_pure, Result.andThen_ok, List.map_toArray, List.map_cons, List.map_nil, hr]
  exact hK _ _ h
def ndZ : Value := .agg #[.int .i64 0, .string ByteArray.empty, .int .i64 0, .int .i64 0, .int .i64 0]
set_option maxRecDepth 20000 in
theorem zSb (n : Nat) (w : World) (hn : n ≤ 20000000) :
  Calls Tryz.prog 148 #[.slice none 0 0, .int .i64 n] w fun e w' => ∃ a c, e = .returned (.slice a 0 c) ∧ OwnN w.heap.size w' a 0 c [] ∧ Below w.heap.size w w' := by
 by_cases h0 : n = 0
 ·subst h0
  go_enter Tryz.func148, Tryz.ntmps148
  go_wp2
  go_ret
  exact ⟨none, 0, rfl, OwnV.none0, Below.refl _ _⟩
 ·obtain ⟨i, hi, hz, hs, hby⟩ := info_parts zSS
  have hgc := grownCap_ge w n 0 85
  have hgm := grownCap_le_maxLen w n 0 85 (by unfold maxLen; omega)
  have hnx : Builtin.nextslicecap n 0 = n := by unfold Builtin.nextslicecap; simp; omega
  have kr := Lib.run_append_grow_zeros (P := Tryz.prog) w 42 3 42 85 i ndZ .i64 .i64 Tryz.underlying42 Tryz.underlying3 hi hz none 0 0 [] (by simp [Builtin.firstCells]) n (by omega) (by omega) (by omega) (by omega) (by rw [hby]; omega) (by rw [Nat.zero_add, hnx, hby]; omega)
  obtain ⟨C, hC⟩ : ∃ C, grownCap w (0 + n) 0 85 = C := ⟨_, rfl⟩
  rw [hC] at kr
  rw [Nat.zero_add] at kr hC
  rw [hC] at hgc hgm
  obtain ⟨w1, hw1⟩ : ∃ w1, w.drew.alloc (.cells ([].toArray ++ Builtin.zeroCells ndZ.cells n ++ Builtin.zeroCells ndZ.cells (C - n)) 85) = w1 := ⟨_, rfl⟩
  rw [hw1] at kr
  have HO : Hid (OwnN w.heap.size w1 (some ⟨w.heap.size, 0, none⟩) 0 C []) := hid ⟨by simp [zTN], .inr ⟨w.heap.size, C, _, rfl, Nat.le_refl _, by rw [← hw1]; exact heap_alloc_new w.drew _, Nat.zero_le _, hgm, by simp [size_zeroCells, Value.cells, ndZ]; omega, by simp [zTN]⟩⟩
  have HB : Hid (Below w.heap.size w w1) := hid (by rw [← hw1]; exact ((Below.refl _ _).drew.alloc (Nat.le_refl _) _))
  have hn1 : ¬ ((n : Int) < 0) := by omega
  have hn2 : (n : Int) > 0 := by omega
  have hCm : C ≤ 9223372036854775807 := by unfold maxLen at hgm; omega
  have hC0 : (0 : Int) ≤ (C : Int) := by omega
  clear hi hz hs hby hgc hnx hC hw1 hgm
  go_enter Tryz.func148, Tryz.ntmps148
  have KR := hid kr
  clear kr
  go_wp2_with (at_builtin; refine zRK rfl (.tmp 20) (.tmp 21) 42 3 rfl KR.out ?_)
  go_ret
  exact ⟨_, C, rfl, HO.out, HB.out⟩
def sumN (N : Nat → Nat) : Nat → Nat
 | 0 => 0
 | k + 1 => sumN N k + N k
def catN (F : Nat → List ND) : Nat → List ND
 | 0 => []
 | k + 1 => catN F k ++ F k
theorem zSc (N : Nat → Nat) {j k : Nat} (h : j ≤ k) : sumN N j ≤ sumN N k := by
 induction k with
 | zero =>
      obtain rfl : j = 0 := by omega
      exact Nat.le_refl _
 | succ k ih =>
  by_cases hj : j = k + 1
  ·subst hj; exact Nat.le_refl _
  ·have := ih (by omega)
   simp only [sumN]
   omega
set_option maxRecDepth 20000 in
theorem zRv (g m : Nat) (A : Nat → Option Addr) (N C : Nat → Nat) (F : Nat → List ND) (w : World) (hm : m ≤ 10) (hg : ∀ i, i < m → w.cell? ⟨g, i, none⟩ = some (.slice (A i) (N i) (C i))) (hgl : g < w.heap.size)
  (hb : ∀ i, i < m → NdS w (A i) (N i) (C i) (F i)) (hsz : sumN N m ≤ 20000000) :
  Calls Tryz.prog 114 #[.slice (some ⟨g, 0, none⟩) m m] w fun e w' => ∃ a c, e = .returned (.slice a (sumN N m) c) ∧ OwnN w.heap.size w' a (sumN N m) c (catN F m) ∧ Below w.heap.size w w' := by
 have HG := hid hg
 have HF := hid hb
 have HS := hid hsz
 clear hg hb
 go_enter Tryz.func114, Tryz.ntmps114
 go_wp2
 go_loopw [3, 11] (fun v i wr => ∃ k : Nat, v = .int .i64 (sumN N k : Nat) ∧ i = .int .i64 k ∧ k ≤ m ∧ wr = w) (fun _ i _ => m - (intOf i).toNat)
 case atStart => exact ⟨0, rfl, rfl, by omega, rfl⟩
 case round =>
  obtain ⟨k, rfl, rfl, hk, rfl⟩ := hrel
  by_cases hlt : k < m
  ·have c0 := HG.out k hlt
   have hn := Nat.le_trans (zSc N (show k + 1 ≤ m by omega)) HS.out
   have h1 : sumN N (k + 1) = sumN N k + N k := rfl
   obtain ⟨s, hs⟩ : ∃ s, sumN N k = s := ⟨_, rfl⟩
   obtain ⟨x, hx⟩ : ∃ x, N k = x := ⟨_, rfl⟩
   rw [hs, hx] at h1
   rw [hs]
   rw [hx] at c0
   have HE := hid h1
   rw [h1] at hn
   have w1 : IntKind.i64.wrap ((s : Int) + (x : Int)) = (s : Int) + (x : Int) := by rw [IntKind.wrap_i64]; omega
   have hd : ¬ ((s : Int) + (x : Int) < 0) := by omega
   clear h1 hs hx
   go_wp2
   go_roundw
   case rel => exact ⟨k + 1, by rw [HE.out]; go_num, by go_num, by omega, trivial⟩
   case measure => simp [intOf]; omega
  ·obtain rfl : k = m := by omega
   have HT : Hid (sumN N k ≤ 20000000) := HS
   obtain ⟨T, hT⟩ : ∃ T, sumN N k = T := ⟨_, rfl⟩
   rw [hT] at hsz ⊢
   have HTT := hid hT
   clear hT
   go_wp2_with fail
   refine (zSb T wr hsz).mono ?_
   rintro e w1 ⟨a, c, rfl, ho, hb1⟩
   have HO := hid ho
   have HB1 := hid hb1
   clear ho hb1
   go_wp2
   go_loopw [6, 27] (fun v i w2 => ∃ a2 c2, ∃ j n : Nat, v = .slice a2 n c2 ∧ i = .int .i64 j ∧ j ≤ k ∧ n ≤ 20000000 ∧ Hid (n = sumN N j) ∧ Hid (OwnN wr.heap.size w2 a2 n c2 (catN F j)) ∧ Hid (Below wr.heap.size wr w2)) (fun _ i _ => k - (intOf i).toNat)
   case atStart => exact ⟨a, c, 0, 0, rfl, rfl, by omega, by omega, hid rfl, HO, HB1⟩
   case round =>
    rename World => w2
    obtain ⟨a2, c2, j, n, rfl, rfl, hj, hn, HN2, HO2, HB2⟩ := hrel
    by_cases hlt2 : j < k
    ·have c0 := (HB2.out.cell (p := ⟨g, j, none⟩) hgl).trans (HG.out j hlt2)
     have hle := Nat.le_trans (zSc N (show j + 1 ≤ k by omega)) HS.out
     have HBX := hid ((HF.out j hlt2).below HB2.out)
     have HE := hid (show n + N j = sumN N (j + 1) by rw [HN2.out]; rfl)
     obtain ⟨x, hx⟩ : ∃ x, N j = x := ⟨_, rfl⟩
     rw [hx] at c0 HBX HE
     have hle2 : n + x ≤ 20000000 := by rw [HE.out]; exact hle
     clear hx hle
     go_wp2_with (at_builtin; refine zAL rfl (.tmp 31) (.tmp 32) 42 rfl 85 wr.heap.size 5 48 _ Tryz.underlying42 zSS rfl (by omega) _ _ _ (cN (catN F j)) rfl HO2.out _ _ _ (cN (F j)) rfl HBX.out (zTO _) (by unfold maxLen; omega) (by omega) HB2.out.size ?_; intro a' c' w3 h1 _ h2 _; have HO3 := hid h1; have HB3 := hid (HB2.out.trans h2); clear h1 h2)
     go_roundw
     case rel => exact ⟨a', c', j + 1, n + x, rfl, by go_num, by omega, by omega, HE, hid (by unfold OwnN; rw [show catN F (j + 1) = catN F j ++ F j from rfl, zT6]; exact HO3.out), HB3⟩
     case measure => simp [intOf]; omega
    ·obtain rfl : j = k := by omega
     obtain rfl : n = T := by rw [HN2.out, HTT.out]
     go_wp2
     go_ret
     exact ⟨a2, c2, by rw [← HN2.out]; rfl, by rw [← HN2.out]; exact HO2.out, HB2.out⟩
theorem zRw (g : Nat) (a : Option Addr) (n c : Nat) (l : List ND) (a' : Option Addr) (n' c' : Nat) (l' : List ND) (w : World) (h0 : w.cell? ⟨g, 0, none⟩ = some (.slice a n c)) (h1 : w.cell? ⟨g, 1, none⟩ = some (.slice a' n' c'))
  (hb : NdS w a n c l) (hb' : NdS w a' n' c' l') (hsz : n + n' ≤ 20000000) :
  Calls Tryz.prog 114 #[.slice (some ⟨g, 0, none⟩) 2 2] w fun e w' => ∃ ra rc, e = .returned (.slice ra (l ++ l').length rc) ∧ NdS w' ra (l ++ l').length rc (l ++ l') ∧ Below w.heap.size w w' := by
 have hl := NdS.len hb
 have hl' := NdS.len hb'
 refine (zRv g 2 (fun i => if i = 0 then a else a') (fun i => if i = 0 then n else n') (fun i => if i = 0 then c else c') (fun i => if i = 0 then l else l') w (by omega) (fun i hi => ?_) (World.block_lt_of_cell? w _ h0) (fun i hi => ?_) ?_).mono ?_
 ·match i, hi with
  | 0, _ => exact h0
  | 1, _ => exact h1
 ·match i, hi with
  | 0, _ => exact hb
  | 1, _ => exact hb'
 ·show 0 + n + n' ≤ 20000000
  omega
 ·rintro e w' ⟨ra, rc, rfl, ho, hb⟩
  have e1 : sumN (fun i => if i = 0 then n else n') 2 = (l ++ l').length := by
   show 0 + n + n' = _
   rw [List.length_append, hl, hl']; omega
  rw [e1] at ho ⊢
  exact ⟨ra, rc, rfl, OwnV.vs ho, hb⟩
end
section
open Go.RowKit
theorem Vs.fnd {w w' : World} {a : Option Addr} {n c g : Nat} {L : List ND} {T : TypeId} {m : Nat} {a1 : Option Addr} {n1 c1 : Nat} (h : NdS w a n c L) (hg : Bk w g T (fdA m a1 n1 c1)) (ho : Only g w w') : NdS w' a n c L :=
 ⟨h.hl, h.lc, h.cm, fun h0 => by
  have hk := h.at_ h0
  obtain ⟨b, off, rfl, hb, hc⟩ := hk
  refine ⟨b, off, rfl, by rw [ho.size]; exact hb, fun j hj => ?_⟩
  have hne : b ≠ g := fun e => by
   subst e
   obtain ⟨h1, h2, _⟩ := NdS.at5 h (k := 0) h0
   rw [hg.cell] at h1 h2
   unfold fdA at h1 h2
   match off, h1, h2 with
   | 0, h1, h2 => cases h2
   | 1, h1, h2 => cases h1
   | off + 2, h1, h2 => cases h1
  exact (World.cell?_of_block (ho.block b hne)).trans (hc j hj)⟩
theorem MI.found {w w' : World} {x : SR} {g : Nat} {T : TypeId} {m : Nat} {a1 : Option Addr} {n1 c1 : Nat} (h : MI w x) (hg : Bk w g T (fdA m a1 n1 c1)) (ho : Only g w w') : MI w' x :=
 h.only ho (fun _ _ _ _ hn => hn.fnd hg ho) fun e => by
  obtain ⟨es, cl, h, _⟩ := h
  have := hg
  unfold Bk at this
  rw [← e, h] at this
  cases this
set_option maxRecDepth 20000 in
theorem zQ5 (a : Option Addr) (n c : Nat) (w : World) : Calls Tryz.prog 67 #[.slice a n c] w fun e w' => e = .returned (.agg (fdA 1 a n c)) ∧ Below w.heap.size w w' := by
 obtain ⟨B, hB⟩ : ∃ B, B = w.heap.size := ⟨_, rfl⟩
 obtain ⟨w1, hw1⟩ : ∃ w1, w1 = w.alloc (.cells (fdA 0 none 0 0) 80) := ⟨_, rfl⟩
 have h1 : Hid (Bk w1 B 80 (fdA 0 none 0 0)) := hid (by rw [hw1, hB]; exact Bk.new w _ _)
 have HB1 : Hid (Below B w w1) := hid (by rw [hw1, hB]; exact zAA w _)
 have HBB := hid hB
 have hz : fdA 0 none 0 0 = #[.int .i64 0, .slice none 0 0] := rfl
 have hv : fdA 1 a n c = #[.int .i64 1, .slice a n c] := rfl
 rw [hz] at hw1
 go_enter Tryz.func67, Tryz.ntmps67
 go_upto_region 1 with fail
 rw [← hw1, ← hB]
 clear hw1 hB
 go_wp2_with (refine zAn zQc rfl (.tmp 2) (.tmp 4) rfl B rfl (fdA 1 a n c) rfl rfl (zQe ..) (fdA 0 none 0 0) rfl h1.out ?_; intro w4 h4 ho4; have H4 := hid h4; have HO4 := hid ho4; clear h4 ho4)
 refine bodyPost_ret (zNr zQc rfl _ _ B (fdA 1 a n c) rfl rfl H4.out) rfl ⟨rfl, ?_⟩
 rw [← HBB.out]
 exact HB1.out.trans (HO4.out.below (Nat.le_refl _))
set_option maxRecDepth 20000 in
set_option maxHeartbeats 4000000 in
theorem zUB (m : Nat) (a : Option Addr) (n c : Nat) (m' : Nat) (a' : Option Addr) (n' c' : Nat) (w : World) :
  Calls Tryz.prog 65 #[.agg (fdA m a n c), .agg (fdA m' a' n' c')] w fun e w' => e = .returned (.agg (if m = 0 then fdA m' a' n' c' else if m' = 0 then fdA m a n c else fdA 2 none 0 0)) ∧ Below w.heap.size w w' := by
 obtain ⟨B, hB⟩ : ∃ B, B = w.heap.size := ⟨_, rfl⟩
 obtain ⟨w1, hw1⟩ : ∃ w1, w1 = w.alloc (.cells (fdA m a n c) 80) := ⟨_, rfl⟩
 obtain ⟨w2, hw2⟩ : ∃ w2, w2 = w1.alloc (.cells (fdA m' a' n' c') 80) := ⟨_, rfl⟩
 obtain ⟨w3, hw3⟩ : ∃ w3, w3 = w2.alloc (.cells (fdA 0 none 0 0) 80) := ⟨_, rfl⟩
 have s1 : w1.heap.size = B + 1 := by rw [hw1, hB]; simp
 have s2 : w2.heap.size = B + 1 + 1 := by rw [hw2]; simp [s1]
 have HX : Hid (Bk w3 B 80 (fdA m a n c)) := hid (by rw [hw3, hw2, hw1, hB]; exact ((Bk.new w _ _).alloc _).alloc _)
 have HY : Hid (Bk w3 (B + 1) 80 (fdA m' a' n' c')) := hid (by rw [hw3, hw2, ← s1]; exact (Bk.new w1 _ _).alloc _)
 have HR : Hid (Bk w3 (B + 1 + 1) 80 (fdA 0 none 0 0)) := hid (by rw [hw3, ← s2]; exact Bk.new w2 _ _)
 have HB3 : Hid (Below B w w3) := hid (by rw [hw3, hw2, hw1, hB]; exact ((zAA w _).alloc (by simp) _).alloc (by simp; omega) _)
 have HBB := hid hB
 have hz : fdA 0 none 0 0 = #[.int .i64 0, .slice none 0 0] := rfl
 have x0 : w3.cell? ⟨B, 0, none⟩ = some (.int .i64 (m : Int)) := HX.out.cell 0
 have y0 : w3.cell? ⟨B + 1, 0, none⟩ = some (.int .i64 (m' : Int)) := HY.out.cell 0
 rw [hz] at hw3
 obtain ⟨V, hV⟩ : ∃ V, V = (if m = 0 then fdA m' a' n' c' else if m' = 0 then fdA m a n c else fdA 2 none 0 0) := ⟨_, rfl⟩
 rw [← hV]
 have HV := hid hV
 clear hV hz
 obtain ⟨X, hX⟩ : ∃ X, X = fdA m a n c := ⟨_, rfl⟩
 obtain ⟨Y, hY⟩ : ∃ Y, Y = fdA m' a' n' c' := ⟨_, rfl⟩
 have HXX := hid hX
 have HYY := hid hY
 rw [← hX] at hw1 ⊢
 rw [← hY] at hw2 ⊢
 clear hX hY
 go_enter Tryz.func65, Tryz.ntmps65
 go_upto_region 1 with fail
 rw [← hw1]
 try rw [← hw2]
 try rw [← hw3]
 rw [← hB]
 try rw [s1]
 try rw [s2]
 clear hw1 hw2 hw3 s1 s2 hB
 by_cases hm : m = 0
 ·have hm' : ((m : Int) == 0) = true := by simp [hm]
  have HM := hid hm
  clear hm
  go_wp2_with (first
   | (refine zAn zQc rfl (.tmp 4) (.tmp 9) rfl (B + 1 + 1) rfl (fdA m' a' n' c') rfl rfl (zQe ..) (fdA 0 none 0 0) rfl HR.out ?_; intro w4 h4 ho4; have H4 := hid h4; have HO4 := hid ho4; clear h4 ho4)
   | (refine zA2 zQc rfl (.tmp 3) rfl (B + 1) rfl (fdA m' a' n' c') rfl HY.out ?_))
  refine bodyPost_ret (zNr zQc rfl _ _ (B + 1 + 1) (fdA m' a' n' c') rfl rfl H4.out) rfl ⟨by rw [HV.out, if_pos HM.out], ?_⟩
  rw [← HBB.out]
  exact HB3.out.trans (HO4.out.below (by omega))
 ·have hm' : ((m : Int) == 0) = false := by simp; omega
  have HM := hid hm
  clear hm
  by_cases hn : m' = 0
  ·have hn' : ((m' : Int) == 0) = true := by simp [hn]
   have HN := hid hn
   clear hn
   go_wp2_with (first
    | (refine zAn zQc rfl (.tmp 4) (.tmp 14) rfl (B + 1 + 1) rfl (fdA m a n c) rfl rfl (zQe ..) (fdA 0 none 0 0) rfl HR.out ?_; intro w4 h4 ho4; have H4 := hid h4; have HO4 := hid ho4; clear h4 ho4)
    | (refine zA2 zQc rfl (.tmp 2) rfl B rfl (fdA m a n c) rfl HX.out ?_))
   refine bodyPost_ret (zNr zQc rfl _ _ (B + 1 + 1) (fdA m a n c) rfl rfl H4.out) rfl ⟨by rw [HV.out, if_neg HM.out, if_pos HN.out], ?_⟩
   rw [← HBB.out]
   exact HB3.out.trans (HO4.out.below (by omega))
  ·have hn' : ((m' : Int) == 0) = false := by simp; omega
   have HN := hid hn
   clear hn
   go_wp2_with (refine zAn zQc rfl (.tmp 4) (.tmp 15) rfl (B + 1 + 1) rfl (fdA 2 none 0 0) rfl rfl (zQe ..) (fdA 0 none 0 0) rfl HR.out ?_; intro w4 h4 ho4; have H4 := hid h4; have HO4 := hid ho4; clear h4 ho4)
   refine bodyPost_ret (zNr zQc rfl _ _ (B + 1 + 1) (fdA 2 none 0 0) rfl rfl H4.out) rfl ⟨by rw [HV.out, if_neg HM.out, if_neg HN.out], ?_⟩
   rw [← HBB.out]
   exact HB3.out.trans (HO4.out.below (by omega))
def FdP (v : FV) (e : Ending) (w' : World) : Prop := ∃ na nc, e = .returned (.agg (fdA v.1 na v.2.length nc)) ∧ NdS w' na v.2.length nc v.2
theorem zQl (w : World) : NdS w none 0 0 [] := Vs.nil _ _ _ _ (Nat.zero_le _)
theorem zRj (x y : FV) (a : Option Addr) (c : Nat) (a' : Option Addr) (c' : Nat) (w : World) (hx : NdS w a x.2.length c x.2) (hy : NdS w a' y.2.length c' y.2) :
  Calls Tryz.prog 65 #[.agg (fdA x.1 a x.2.length c), .agg (fdA y.1 a' y.2.length c')] w fun e w' => FdP (orV x y) e w' ∧ Below w.heap.size w w' := by
 refine (zUB x.1 a x.2.length c y.1 a' y.2.length c' w).mono ?_
 rintro e w' ⟨rfl, hb⟩
 refine ⟨?_, hb⟩
 unfold orV
 by_cases h0 : x.1 = 0
 ·rw [if_pos h0, if_pos h0]; exact ⟨a', c', rfl, hy.below hb⟩
 ·rw [if_neg h0, if_neg h0]
  by_cases h1 : y.1 = 0
  ·rw [if_pos h1, if_pos h1]; exact ⟨a, c, rfl, hx.below hb⟩
  ·rw [if_neg h1, if_neg h1]; exact ⟨none, 0, rfl, zQl _⟩
set_option maxRecDepth 20000 in
set_option maxHeartbeats 4000000 in
theorem zSA (x y : FV) (a : Option Addr) (c : Nat) (a' : Option Addr) (c' : Nat) (w : World) (hx : NdS w a x.2.length c x.2) (hy : NdS w a' y.2.length c' y.2) (hsz : x.2.length + y.2.length ≤ 20000000) :
  Calls Tryz.prog 66 #[.agg (fdA x.1 a x.2.length c), .agg (fdA y.1 a' y.2.length c')] w fun e w' => FdP (andV x y) e w' ∧ Below w.heap.size w w' := by
 obtain ⟨m, l⟩ := x
 obtain ⟨m', l'⟩ := y
 dsimp only at hx hy hsz ⊢
 obtain ⟨B, hB⟩ : ∃ B, B = w.heap.size := ⟨_, rfl⟩
 obtain ⟨n, hn⟩ : ∃ n, n = l.length := ⟨_, rfl⟩
 obtain ⟨n', hn'⟩ : ∃ n', n' = l'.length := ⟨_, rfl⟩
 rw [← hn] at hx hsz ⊢
 rw [← hn'] at hy hsz ⊢
 have hc := hx.lc
 have hcm := hx.cm
 have hc' := hy.lc
 have hcm' := hy.cm
 obtain ⟨w1, hw1⟩ : ∃ w1, w1 = w.alloc (.cells (fdA m a n c) 80) := ⟨_, rfl⟩
 obtain ⟨w2, hw2⟩ : ∃ w2, w2 = w1.alloc (.cells (fdA m' a' n' c') 80) := ⟨_, rfl⟩
 obtain ⟨w3, hw3⟩ : ∃ w3, w3 = w2.alloc (.cells (fdA 0 none 0 0) 80) := ⟨_, rfl⟩
 have s1 : w1.heap.size = B + 1 := by rw [hw1, hB]; simp
 have s2 : w2.heap.size = B + 1 + 1 := by rw [hw2]; simp [s1]
 have HX : Hid (Bk w3 B 80 (fdA m a n c)) := hid (by rw [hw3, hw2, hw1, hB]; exact ((Bk.new w _ _).alloc _).alloc _)
 have HY : Hid (Bk w3 (B + 1) 80 (fdA m' a' n' c')) := hid (by rw [hw3, hw2, ← s1]; exact (Bk.new w1 _ _).alloc _)
 have HR : Hid (Bk w3 (B + 1 + 1) 80 (fdA 0 none 0 0)) := hid (by rw [hw3, ← s2]; exact Bk.new w2 _ _)
 have HB3 : Hid (Below B w w3) := hid (by rw [hw3, hw2, hw1, hB]; exact ((zAA w _).alloc (by simp) _).alloc (by simp; omega) _)
 have HS3 : Hid (B + 1 + 1 < w3.heap.size) := hid HR.out.lt
 have HBB := hid hB
 have HNX : Hid (NdS w3 a n c l) := hid (hx.below (by rw [← HBB.out]; exact HB3.out))
 have HNY : Hid (NdS w3 a' n' c' l') := hid (hy.below (by rw [← HBB.out]; exact HB3.out))
 have hz : fdA 0 none 0 0 = #[.int .i64 0, .slice none 0 0] := rfl
 have x0 : w3.cell? ⟨B, 0, none⟩ = some (.int .i64 (m : Int)) := HX.out.cell 0
 have x1 : w3.cell? ⟨B, 1, none⟩ = some (.slice a n c) := HX.out.cell 1
 have y0 : w3.cell? ⟨B + 1, 0, none⟩ = some (.int .i64 (m' : Int)) := HY.out.cell 0
 have y1 : w3.cell? ⟨B + 1, 1, none⟩ = some (.slice a' n' c') := HY.out.cell 1
 rw [hz] at hw3
 obtain ⟨V, hV⟩ : ∃ V, V = andV (m, l) (m', l') := ⟨_, rfl⟩
 rw [← hV]
 have HV := hid hV
 have HN := hid hn
 have HN' := hid hn'
 obtain ⟨X, hX⟩ : ∃ X, X = fdA m a n c := ⟨_, rfl⟩
 obtain ⟨Y, hY⟩ : ∃ Y, Y = fdA m' a' n' c' := ⟨_, rfl⟩
 rw [← hX] at hw1 ⊢
 rw [← hY] at hw2 ⊢
 clear hV hz hX hY hx hy hn hn'
 go_enter Tryz.func66, Tryz.ntmps66
 go_upto_region 1 with fail
 rw [← hw1]
 try rw [← hw2]
 try rw [← hw3]
 rw [← hB]
 try rw [s1]
 try rw [s2]
 clear hw1 hw2 hw3 s1 s2 hB
 by_cases h0 : m = 0 ∨ m' = 0
 ·have hv : Hid (V = (0, [])) := hid (by rw [HV.out]; unfold andV; rw [if_pos h0])
  by_cases hm : m = 0
  ·have hm' : ((m : Int) == 0) = true := by simp [hm]
   clear hm h0
   go_wp2_with (refine zAn zQc rfl (.tmp 4) (.tmp 14) rfl (B + 1 + 1) rfl (fdA 0 none 0 0) rfl rfl (zQe ..) (fdA 0 none 0 0) rfl HR.out ?_; intro w4 h4 ho4; have H4 := hid h4; have HO4 := hid ho4; clear h4 ho4)
   refine bodyPost_ret (zNr zQc rfl _ _ (B + 1 + 1) (fdA 0 none 0 0) rfl rfl H4.out) rfl ⟨⟨none, 0, by rw [hv.out]; rfl, by rw [hv.out]; exact zQl _⟩, ?_⟩
   rw [← HBB.out]
   exact HB3.out.trans (HO4.out.below (by omega))
  ·have hm' : ((m : Int) == 0) = false := by simp; omega
   have hn' : ((m' : Int) == 0) = true := by simp; omega
   clear hm h0
   go_wp2_with (refine zAn zQc rfl (.tmp 4) (.tmp 14) rfl (B + 1 + 1) rfl (fdA 0 none 0 0) rfl rfl (zQe ..) (fdA 0 none 0 0) rfl HR.out ?_; intro w4 h4 ho4; have H4 := hid h4; have HO4 := hid ho4; clear h4 ho4)
   refine bodyPost_ret (zNr zQc rfl _ _ (B + 1 + 1) (fdA 0 none 0 0) rfl rfl H4.out) rfl ⟨⟨none, 0, by rw [hv.out]; rfl, by rw [hv.out]; exact zQl _⟩, ?_⟩
   rw [← HBB.out]
   exact HB3.out.trans (HO4.out.below (by omega))
 ·have hm' : ((m : Int) == 0) = false := by simp; omega
  have hn' : ((m' : Int) == 0) = false := by simp; omega
  by_cases h1 : m = 1 ∧ m' = 1
  ·have hv : Hid (V = (1, l ++ l')) := hid (by rw [HV.out]; unfold andV; rw [if_neg h0, if_pos h1])
   have hm1 : ((m : Int) == 1) = true := by simp; omega
   have hn1 : ((m' : Int) == 1) = true := by simp; omega
   clear h0 h1
   go_wp2_with fail
   obtain ⟨wA, hwA⟩ : ∃ q, q = w3.alloc (.cells #[.slice a n c, .slice a' n' c'] 42) := ⟨_, rfl⟩
   obtain ⟨g, hg⟩ : ∃ g, g = w3.heap.size := ⟨_, rfl⟩
   have HG : Hid (wA.cell? ⟨g, 0, none⟩ = some (.slice a n c) ∧ wA.cell? ⟨g, 1, none⟩ = some (.slice a' n' c')) := hid (by rw [hwA, hg]; exact ⟨cell_of_row _ _ 0 _ _ _ (heap_alloc_new w3 _), cell_of_row _ _ 1 _ _ _ (heap_alloc_new w3 _)⟩)
   have HBA : Hid (Below w3.heap.size w3 wA) := hid (by rw [hwA]; exact zAA w3 _)
   rw [← hwA, ← hg]
   clear hwA hg
   refine (zRw g a n c l a' n' c' l' wA HG.out.1 HG.out.2 (HNX.out.below HBA.out) (HNY.out.below HBA.out) hsz).mono ?_
   rintro e w5 ⟨ra, rc, rfl, hn5, hb5⟩
   obtain ⟨q, hq⟩ : ∃ q, q = (l ++ l').length := ⟨_, rfl⟩
   rw [← hq] at hn5 ⊢
   have HQ := hid hq
   have HN5 := hid hn5
   have HB5 : Hid (Below w3.heap.size w3 w5) := hid (HBA.out.trans (hb5.mono HBA.out.size))
   clear hq hn5 hb5
   go_wp2_with fail
   refine (zQ5 ra q rc w5).mono ?_
   rintro e w6 ⟨rfl, hb6⟩
   have HN6 := hid (HN5.out.below hb6)
   have HB6 : Hid (Below w3.heap.size w3 w6) := hid (HB5.out.trans (hb6.mono HB5.out.size))
   have HR6 := hid (HR.out.below HB6.out)
   clear hb6
   go_wp2_with (refine zAn zQc rfl (.tmp 4) (.tmp 30) rfl (B + 1 + 1) rfl (fdA 1 ra q rc) rfl rfl (zQe ..) (fdA 0 none 0 0) rfl HR6.out ?_; intro w4 h4 ho4; have H4 := hid h4; have HO4 := hid ho4; clear h4 ho4)
   refine bodyPost_ret (zNr zQc rfl _ _ (B + 1 + 1) (fdA 1 ra q rc) rfl rfl H4.out) rfl ⟨⟨ra, rc, by rw [hv.out, ← HQ.out], by rw [hv.out, ← HQ.out]; exact HN6.out.fnd HR6.out HO4.out⟩, ?_⟩
   rw [← HBB.out]
   exact (HB3.out.trans (HB6.out.mono (by have := HS3.out; omega))).trans (HO4.out.below (by omega))
  ·have hv : Hid (V = (2, [])) := hid (by rw [HV.out]; unfold andV; rw [if_neg h0, if_neg h1])
   by_cases hm1 : m = 1
   ·have hm1' : ((m : Int) == 1) = true := by simp; omega
    have hn1' : ((m' : Int) == 1) = false := by simp; omega
    clear h0 h1 hm1
    go_wp2_with (refine zAn zQc rfl (.tmp 4) (.tmp 31) rfl (B + 1 + 1) rfl (fdA 2 none 0 0) rfl rfl (zQe ..) (fdA 0 none 0 0) rfl HR.out ?_; intro w4 h4 ho4; have H4 := hid h4; have HO4 := hid ho4; clear h4 ho4)
    refine bodyPost_ret (zNr zQc rfl _ _ (B + 1 + 1) (fdA 2 none 0 0) rfl rfl H4.out) rfl ⟨⟨none, 0, by rw [hv.out]; rfl, by rw [hv.out]; exact zQl _⟩, ?_⟩
    rw [← HBB.out]
    exact HB3.out.trans (HO4.out.below (by omega))
   ·have hm1' : ((m : Int) == 1) = false := by simp; omega
    clear h0 h1 hm1
    go_wp2_with (refine zAn zQc rfl (.tmp 4) (.tmp 31) rfl (B + 1 + 1) rfl (fdA 2 none 0 0) rfl rfl (zQe ..) (fdA 0 none 0 0) rfl HR.out ?_; intro w4 h4 ho4; have H4 := hid h4; have HO4 := hid ho4; clear h4 ho4)
    refine bodyPost_ret (zNr zQc rfl _ _ (B + 1 + 1) (fdA 2 none 0 0) rfl rfl H4.out) rfl ⟨⟨none, 0, by rw [hv.out]; rfl, by rw [hv.out]; exact zQl _⟩, ?_⟩
    rw [← HBB.out]
    exact HB3.out.trans (HO4.out.below (by omega))
end
end Go.Proofs.YtcjbhdgjcpnklaaGreatDoor
