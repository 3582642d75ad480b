import Derived.Test.YtcjbhdgjcpnklaaGreatDoorV19
import Derived.Test.YtcjbhdgjcpnklaaGreatDoorV12
import Derived.Deep.MidRow
import Derived.Lib.AppendZerosOnto
import Derived.Test.YtcjbhdgjcpnklaaGreatDoorR07
import Derived.Test.YtcjbhdgjcpnklaaGreatDoorR09
namespace Go.Proofs.YtcjbhdgjcpnklaaGreatDoor
section
open Go.RowKit
def Bk (w : World) (b : Nat) (T : TypeId) (cs : Array Value) : Prop := w.heap[b]? = some (.cells cs T (0, 0))
section
variable {w w' : World} {b B : Nat} {T : TypeId} {cs : Array Value}
theorem Bk.lt (h : Bk w b T cs) : b < w.heap.size := (Array.getElem?_eq_some_iff.1 h).1
theorem Bk.keep (h : Bk w b T cs) (hb : Below B w w') (hB : b < B) : Bk w' b T cs := (hb.block b hB).trans h
theorem Bk.below (h : Bk w b T cs) (hb : Below w.heap.size w w') : Bk w' b T cs := h.keep hb h.lt
theorem Bk.alloc (h : Bk w b T cs) (o : Obj) : Bk (w.alloc o) b T cs := (Below.heap_alloc w o b h.lt).trans h
theorem Bk.drew (h : Bk w b T cs) : Bk w.drew b T cs := h
theorem Bk.new (w : World) (T : TypeId) (cs : Array Value) : Bk (w.alloc (.cells cs T)) w.heap.size T cs := heap_alloc_new w _
theorem Bk.only (h : Bk w b T cs) {g : Nat} (hg : Only g w w') (hne : b ≠ g) : Bk w' b T cs := (hg.block b hne).trans h
theorem Bk.kx {M : Nat} (h : Bk w b T cs) (hk : Kx M w w') (hm : isMap w M) : Bk w' b T cs := hk.blk hm h
theorem Bk.cell (h : Bk w b T cs) (j : Nat) : w.cell? ⟨b, j, none⟩ = cs[j]? := cell_of_row w b j _ _ _ h
end
structure RT (T : TypeId) (k : Nat) : Prop where
 d : ∃ d, Tryz.prog.underlying T = some d ∧ (match d with | .struct _ | .array _ _ => true | _ => false) = true
 i : (Tryz.prog.info? T).map (·.size) = some k
section
variable {ops : Array Oper} {rest : List Oper} {o : Oper} {A : Act} {w : World} {Q : Exit → Act → World → Prop} {K : Act → World → Prop} {E : Prop} {T : TypeId} {k : Nat}
theorem zA2 (ht : RT T k) (hw : Region.wanted o (yielded ops A.tmps) = true) (p : Operand) (ho : o.op = .load T p) (b : Nat) (hx : A.eval p = .pointer (some ⟨b, 0, none⟩)) (cs : Array Value) (hs : cs.size = k) {t : TypeId} (h : Bk w b t cs)
  (kk : wpList Tryz.prog ops Q rest (A.put o.dst (.agg cs)) w) : wpList Tryz.prog ops Q (o :: rest) A w :=
 wpList_step fun K hK => by
  rw [if_pos hw]
  obtain ⟨d, hu, hd⟩ := ht.d
  exact wp_load_row T p ho b hx _ _ _ _ h hu (by cases d <;> first | rfl | cases hd) (by rw [hs]; exact ht.i) (hK _ _ kk)
theorem zAn (ht : RT T k) (hgd : o.guard = none) (p q : Operand) (ho : o.op = .store T p q) (b : Nat) (hx : A.eval p = .pointer (some ⟨b, 0, none⟩)) (cs : Array Value) (hy : A.eval q = .agg cs) (hs : cs.size = k) (h1 : cs.all (·.oneCell') = true) (us : Array Value) (hu : us.size = k) {t : TypeId} (h : Bk w b t us)
  (kk : ∀ w', Bk w' b t cs → Only b w w' → wpList Tryz.prog ops Q rest (A.put o.dst undef) w') : wpList Tryz.prog ops Q (o :: rest) A w :=
 wpList_store_row hgd T p q ho b _ hx hy _ _ h (by rw [hs]; exact ht.i) (by rw [hs, hu]) h1 (kk _ (setRow_heap w b _ _ _ _ h) (Only.ofRow w b _))
theorem zNr (ht : RT T k) {fn : Func} {p : Tmp} (h : fn.results = #[.cell p T]) (tmps : Array Value) (w : World) (b : Nat) (cs : Array Value) (hs : cs.size = k) (hp : tmps.getD p undef = .pointer (some ⟨b, 0, none⟩)) {t : TypeId} (hg : Bk w b t cs) : (results fn tmps).run Tryz.prog w = .ok (.agg cs) w := by
 obtain ⟨d, hu, hd⟩ := ht.d
 exact results_cell_row h tmps w b _ _ _ _ hp hg hu (by cases d <;> first | rfl | cases hd) (by rw [hs]; exact ht.i)
theorem zBc (ht : RT T k) {d : Option Tmp} {ty : TypeId} {ps : String} {af : Array Edge} {g : Option (Tmp × Bool)} (p : Operand) (b : Nat) (hx : A.eval p = .pointer (some ⟨b, 0, none⟩)) (cs : Array Value) (hs : cs.size = k) {t : TypeId} (h : Bk w b t cs) :
  (execOp A.eval (Oper.mk d (.load T p) ty ps af g)).run Tryz.prog w = .ok (.value (.agg cs)) w := by
 obtain ⟨e, hu, hd⟩ := ht.d
 have hr := run_loadVar_row (P := Tryz.prog) w b t T cs (0, 0) e h hu (by cases e <;> first | rfl | cases hd) (by rw [hs]; exact ht.i)
 unfold execOp
 simp only [hx, Instr.loadAt, Instr.sureAddr, Sem.run_bind, Sem.run_pure, Result.andThen_ok, hr]
theorem zCI (ht : RT T k) (hw : Region.wanted o (yielded ops A.tmps) = true) (p : Operand) (ho : o.op = .load T p) (b off : Nat) (hx : A.eval p = .pointer (some ⟨b, off, none⟩)) (cs : Array Value) (hs : cs.size = k) (h : ∀ j, j < k → w.cell? ⟨b, off + j, none⟩ = cs[j]?)
  (kk : wpList Tryz.prog ops Q rest (A.put o.dst (.agg cs)) w) : wpList Tryz.prog ops Q (o :: rest) A w :=
 wpList_step fun K hK => by
  rw [if_pos hw]
  obtain ⟨d, hu, hd⟩ := ht.d
  have := wp_load_mid (P := Tryz.prog) (op := o) (a := A) (w := w) (K := K) (Q := Q) T p ho b off hx cs.toList d (fun j v hv => by
   rw [Array.getElem?_toList] at hv
   have hj := (Array.getElem?_eq_some_iff.1 hv).1
   rw [h j (by omega)]; exact hv) hu (by cases d <;> first | rfl | cases hd) (by rw [Array.length_toList, hs]; exact ht.i)
  exact this (hK _ _ kk)
theorem zEQ (ht : RT T k) {d : Option Tmp} {ty : TypeId} {ps : String} {af : Array Edge} {g : Option (Tmp × Bool)} (p : Operand) (b off : Nat) (hx : A.eval p = .pointer (some ⟨b, off, none⟩)) (cs : Array Value) (hs : cs.size = k) (h : ∀ j, j < k → w.cell? ⟨b, off + j, none⟩ = cs[j]?) :
  (execOp A.eval (Oper.mk d (.load T p) ty ps af g)).run Tryz.prog w = .ok (.value (.agg cs)) w := by
 obtain ⟨e, hu, hd⟩ := ht.d
 have hr := run_loadVar_mid (P := Tryz.prog) w b off T cs.toList e (fun j v hv => by
   rw [Array.getElem?_toList] at hv
   have hj := (Array.getElem?_eq_some_iff.1 hv).1
   rw [h j (by omega)]; exact hv) hu (by cases e <;> first | rfl | cases hd) (by rw [Array.length_toList, hs]; exact ht.i)
 unfold execOp
 simp only [hx, Instr.loadAt, Instr.sureAddr, Sem.run_bind, Sem.run_pure, Result.andThen_ok, hr]
end
def fdA (m : Nat) (a : Option Addr) (n c : Nat) : Array Value := #[.int .i64 (m : Int), .slice a n c]
def glA (f i a b : Nat) : Array Value := #[.int .i64 (f : Int), .int .i64 (i : Int), .int .i64 (a : Int), .int .i64 (b : Int)]
def fmA (f : FD) (a : Option Addr) (n c : Nat) : Array Value := #[.int .i64 f.k, .string (mk f.n), .int .i64 0, .int .i64 0, .int .i64 f.c, .string (mk f.o.1), .int .i64 f.o.2.1, .int .i64 f.o.2.2, .slice a n c]
theorem zBd : RT 38 3 := ⟨⟨_, Tryz.underlying38, rfl⟩, by kernel_rfl⟩
theorem zBJ : RT 51 5 := ⟨⟨_, Tryz.underlying51, rfl⟩, by kernel_rfl⟩
theorem zKz : RT 34 11 := ⟨⟨_, Tryz.underlying34, rfl⟩, by kernel_rfl⟩
structure SR where
 a : Option Addr
 n : Nat
 c : Nat
 L : List OP
 z : List Int
 ta : Option Addr
 tn : Nat
 tc : Nat
 tok : List TK
 fa : Option Addr
 fn : Nat
 fc : Nat
 F : List FD
 M : Nat
def srL (x : SR) : List Value := (Value.slice x.a x.n x.c :: rlz x.z) ++ [.slice x.ta x.tn x.tc, .slice x.fa x.fn x.fc, .map (some x.M)]
def srA (x : SR) : Array Value := (srL x).toArray
def SdAt (w : World) (fv kv : Value) : Sd → Prop
 | .br x => ∃ X, fv = .func (.func 109) #[] #[.pointer (some ⟨X, 0, none⟩)] ∧ T5 w X 6 0 0 x 0 ∧ ∃ a n c, kv = .slice a n c
 | .pt x => ∃ X, fv = .func (.func 111) #[] #[.pointer (some ⟨X, 0, none⟩)] ∧ C1 w X 9 (.string (mk x)) ∧ ∃ a n c, kv = .slice a n c
 | .ho K => fv = .nilFunc ∧ ∃ a c, kv = .slice a K.length c ∧ Vs 1 w a K.length c (K.map fun (i : Nat) => Value.int .i64 (i : Int))
structure StS (w : World) (a : Option Addr) (n c : Nat) (S : List Sd) : Prop where
 hl : S.length = n
 lc : n ≤ c
 cm : c ≤ maxLen
 at_ : 0 < n → ∃ b off, a = some ⟨b, off, none⟩ ∧ b < w.heap.size ∧ ∀ j (h : j < S.length), ∃ fv kv, w.cell? ⟨b, off + j * 2, none⟩ = some fv ∧ w.cell? ⟨b, off + j * 2 + 1, none⟩ = some kv ∧ SdAt w fv kv S[j]
structure FmS (w : World) (a : Option Addr) (n c : Nat) (F : List FD) : Prop where
 hl : F.length = n
 lc : n ≤ c
 cm : c ≤ maxLen
 at_ : 0 < n → ∃ b off, a = some ⟨b, off, none⟩ ∧ b < w.heap.size ∧ ∀ i, i < n → ∃ sa sc, (∀ j, j < 9 → w.cell? ⟨b, off + i * 9 + j, none⟩ = (fmA (fA F i) sa (fA F i).S.length sc)[j]?) ∧ StS w sa (fA F i).S.length sc (fA F i).S
theorem SdAt.kx {M : Nat} {w w' : World} {fv kv : Value} {s : Sd} (v : SdAt w fv kv s) (h : Kx M w w') (hm : isMap w M) : SdAt w' fv kv s := by
 cases s with
 | br x => obtain ⟨X, h1, h2, h3⟩ := v; exact ⟨X, h1, h2.kx h hm, h3⟩
 | pt x => obtain ⟨X, h1, h2, h3⟩ := v; exact ⟨X, h1, h2.kx h hm, h3⟩
 | ho K => obtain ⟨h1, a, c, h2, h3⟩ := v; exact ⟨h1, a, c, h2, h3.kx h hm⟩
theorem StS.kx {M : Nat} {w w' : World} {a : Option Addr} {n c : Nat} {S : List Sd} (v : StS w a n c S) (h : Kx M w w') (hm : isMap w M) : StS w' a n c S :=
 ⟨v.hl, v.lc, v.cm, fun h0 => by
  obtain ⟨b, off, ha, hb, hc⟩ := v.at_ h0
  refine ⟨b, off, ha, Nat.lt_of_lt_of_le hb h.size, fun j hj => ?_⟩
  obtain ⟨fv, kv, h1, h2, h3⟩ := hc j hj
  exact ⟨fv, kv, h.cell hm h1, h.cell hm h2, h3.kx h hm⟩⟩
theorem FmS.kx {M : Nat} {w w' : World} {a : Option Addr} {n c : Nat} {F : List FD} (v : FmS w a n c F) (h : Kx M w w') (hm : isMap w M) : FmS w' a n c F :=
 ⟨v.hl, v.lc, v.cm, fun h0 => by
  obtain ⟨b, off, ha, hb, hc⟩ := v.at_ h0
  refine ⟨b, off, ha, Nat.lt_of_lt_of_le hb h.size, fun i hi => ?_⟩
  obtain ⟨sa, sc, h1, h3⟩ := hc i hi
  refine ⟨sa, sc, fun j hj => ?_, h3.kx h hm⟩
  have h1 := h1 j hj
  have hj' : j < (fmA (fA F i) sa (fA F i).S.length sc).size := hj
  rw [Array.getElem?_eq_getElem hj'] at h1 ⊢
  exact h.cell hm h1⟩
def MI (w : World) (x : SR) : Prop := ∃ es cl, w.heap[x.M]? = some (.map es cl) ∧ ∀ e ∈ es.toList, ∃ f i a b : Nat, ∃ v : FV, ∃ na nc, e.key = .agg (glA f i a b) ∧ e.val = .agg (fdA v.1 na v.2.length nc) ∧ NdS w na v.2.length nc v.2 ∧ Cn (DS x.L x.z x.tok x.F ((fA x.F f).S.drop i) a b) v.1 v.2
theorem MI.isMap {w : World} {x : SR} (h : MI w x) : isMap w x.M := by obtain ⟨es, cl, h, _⟩ := h; exact ⟨es, cl, h⟩
theorem MI.below {w w' : World} {x : SR} (h : MI w x) (hb : Below w.heap.size w w') : MI w' x := by
 obtain ⟨es, cl, h, h2⟩ := h
 exact ⟨es, cl, (hb.block x.M (Array.getElem?_eq_some_iff.1 h).1).trans h, fun e he => by
  obtain ⟨f, i, a, b, v, na, nc, h3, h4, h5, h6⟩ := h2 e he
  exact ⟨f, i, a, b, v, na, nc, h3, h4, h5.below hb, h6⟩⟩
structure Sit (w : World) (x : SR) : Prop where
 tab : Tab w
 ops : OpS w x.a x.n x.c x.L
 tk : Ts w x.ta x.tn x.tc x.tok
 fm : FmS w x.fa x.fn x.fc x.F
 mi : MI w x
theorem Sit.kx {w w' : World} {x : SR} (s : Sit w x) (h : Kx x.M w w') (hm : MI w' x) : Sit w' x := ⟨s.tab.kx h s.mi.isMap, s.ops.kx h s.mi.isMap, s.tk.kx h s.mi.isMap, s.fm.kx h s.mi.isMap, hm⟩
theorem Sit.below {w w' : World} {x : SR} (s : Sit w x) (hb : Below w.heap.size w w') : Sit w' x := s.kx (Kx.of hb) (s.mi.below hb)
theorem MI.only {w w' : World} {x : SR} {g : Nat} (h : MI w x) (ho : Only g w w') (hg : ∀ na n nc l, NdS w na n nc l → NdS w' na n nc l) (hne : x.M ≠ g) : MI w' x := by
 obtain ⟨es, cl, h, h2⟩ := h
 exact ⟨es, cl, (ho.block x.M hne).trans h, fun e he => by
  obtain ⟨f, i, a, b, v, na, nc, h3, h4, h5, h6⟩ := h2 e he
  exact ⟨f, i, a, b, v, na, nc, h3, h4, hg _ _ _ _ h5, h6⟩⟩
end
section
open Go.RowKit
end
section
open Go.RowKit
end
end Go.Proofs.YtcjbhdgjcpnklaaGreatDoor
