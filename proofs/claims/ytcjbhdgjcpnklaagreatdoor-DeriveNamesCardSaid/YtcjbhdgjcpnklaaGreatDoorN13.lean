import Derived.Laws.MakeOwn
import Derived.Test.YtcjbhdgjcpnklaaGreatDoorN06
import Derived.Test.YtcjbhdgjcpnklaaGreatDoorN12
namespace Go.Proofs.YtcjbhdgjcpnklaaGreatDoor
section
open Go.RowKit
def tS (t : TypeId) : Prop := t = 125
def tF (t : TypeId) : Prop := t = 125 ∨ t = 119
structure Kt (P : TypeId → Prop) (w w' : World) : Prop where
 size : w.heap.size ≤ w'.heap.size
 row : ∀ (b : Nat) (cs : Array Value) (t : TypeId), w.heap[b]? = some (.cells cs t (0, 0)) → ¬ P t → w'.heap[b]? = some (.cells cs t (0, 0))
theorem Kt.refl (P : TypeId → Prop) (w : World) : Kt P w w := ⟨Nat.le_refl _, fun _ _ _ h _ => h⟩
theorem Kt.trans {P : TypeId → Prop} {a b c : World} (h : Kt P a b) (k : Kt P b c) : Kt P a c := ⟨Nat.le_trans h.size k.size, fun q cs t hq hp => k.row q cs t (h.row q cs t hq hp) hp⟩
theorem Kt.below {P : TypeId → Prop} {w w' : World} (h : Below w.heap.size w w') : Kt P w w' := ⟨h.size, fun b _ _ hb _ => (h.block b (Array.getElem?_eq_some_iff.1 hb).1).trans hb⟩
theorem Kt.weak {w w' : World} (h : Kt tS w w') : Kt tF w w' := ⟨h.size, fun b cs t hb hp => h.row b cs t hb fun e => hp (.inl e)⟩
theorem Kt.only {P : TypeId → Prop} {w w' : World} {g : Nat} {cs : Array Value} {t : TypeId} (hg : w.heap[g]? = some (.cells cs t (0, 0))) (hp : P t) (h : Only g w w') : Kt P w w' :=
 ⟨by rw [h.size]; exact Nat.le_refl _, fun b cs' t' hb hp' => by
  by_cases hbg : b = g
  ·subst hbg
   rw [hg] at hb
   simp only [Option.some.injEq, Obj.cells.injEq] at hb
   obtain ⟨_, rfl, _⟩ := hb
   exact absurd hp hp'
  ·exact (h.block b hbg).trans hb⟩
theorem Kt.grown {P : TypeId → Prop} {w w' : World} {e : TypeId} {k base : Nat} {a : Option Addr} {n c : Nat} {xs : List Value} (h : OwnV base e k w a n c xs) (hp : P e) (hg : w.grownBy w' (Value.ownBlock (.slice a n c))) : Kt P w w' := by
 refine ⟨hg.size, fun b cs u hb hu => ?_⟩
 refine (hg.block b (Array.getElem?_eq_some_iff.1 hb).1 ?_).trans hb
 intro hbb
 rcases h.2 with ⟨hv, _⟩ | ⟨q, cp, cur, hv, _, hq, r⟩
 ·simp only [Value.slice.injEq] at hv
  obtain ⟨rfl, _⟩ := hv
  simp [Value.ownBlock] at hbb
 ·simp only [Value.slice.injEq, true_and] at hv
  obtain ⟨rfl, _⟩ := hv
  simp [Value.ownBlock] at hbb
  subst hbb
  rw [hq] at hb
  simp only [Option.some.injEq, Obj.cells.injEq] at hb
  obtain ⟨_, rfl, _⟩ := hb
  exact absurd hp hu
theorem OwnV.kt {P : TypeId → Prop} {base : Nat} {e : TypeId} {k : Nat} {w w' : World} {a : Option Addr} {n c : Nat} {xs : List Value} (h : OwnV base e k w a n c xs) (he : ¬ P e) (hk : Kt P w w') : OwnV base e k w' a n c xs := by
 refine ⟨h.1, h.2.imp id ?_⟩
 rintro ⟨q, cp, cur, hv, hq, hb, r⟩
 exact ⟨q, cp, cur, hv, hq, hk.row q _ _ hb he, r⟩
theorem OwnV.weaken {base base' : Nat} {e : TypeId} {k : Nat} {w : World} {a : Option Addr} {n c : Nat} {xs : List Value} (h : OwnV base e k w a n c xs) (hb : base' ≤ base) : OwnV base' e k w a n c xs := by
 refine ⟨h.1, h.2.imp id ?_⟩
 rintro ⟨q, cp, cur, hv, hq, r⟩
 exact ⟨q, cp, cur, hv, Nat.le_trans hb hq, r⟩
theorem C1.kt {P : TypeId → Prop} {w w' : World} {b : Nat} {t : TypeId} {v : Value} (h : C1 w b t v) (he : ¬ P t) (hk : Kt P w w') : C1 w' b t v := hk.row b _ _ h he
theorem T5.kt {P : TypeId → Prop} {w w' : World} {b : Nat} {k f t : Int} {x : Nm} {e : Int} (h : T5 w b k f t x e) (he : ¬ P 51) (hk : Kt P w w') : T5 w' b k f t x e := hk.row b _ _ h he
structure PT (P : TypeId → Prop) : Prop where
 i : ¬ P 3
 s : ¬ P 9
 t : ¬ P 51
theorem zQb : PT tS := ⟨by unfold tS; decide, by unfold tS; decide, by unfold tS; decide⟩
theorem zUC : PT tF := ⟨by unfold tF; decide, by unfold tF; decide, by unfold tF; decide⟩
abbrev VV := Value × Value
def cV (vs : List VV) : List Value := vs.flatMap fun p => [p.1, p.2]
theorem zK1 (A B : List VV) : cV (A ++ B) = cV A ++ cV B := by simp [cV]
theorem zTn : ∀ (vs : List VV) (j : Nat) (h : j < vs.length), (cV vs)[j * 2]? = some vs[j].1 ∧ (cV vs)[j * 2 + 1]? = some vs[j].2
 | p :: vs, 0, h => ⟨rfl, rfl⟩
 | p :: vs, j + 1, h => by
  have ih := zTn vs j (by simpa using h)
  rw [show (j + 1) * 2 = j * 2 + 1 + 1 by omega]
  show (p.1 :: p.2 :: cV vs)[j * 2 + 1 + 1]? = _ ∧ (p.1 :: p.2 :: cV vs)[j * 2 + 1 + 1 + 1]? = _
  simpa using ih
theorem zTS : ∀ (vs : List VV) (j : Nat) (v : Value) (h : j < vs.length), (cV vs).set (j * 2 + 1) v = cV (vs.set j ((vs[j]'h).1, v))
 | p :: vs, 0, v, h => rfl
 | p :: vs, j + 1, v, h => by
  have ih := zTS vs j v (by simpa using h)
  rw [show (j + 1) * 2 + 1 = j * 2 + 1 + 1 + 1 by omega]
  show (p.1 :: p.2 :: cV vs).set (j * 2 + 1 + 1 + 1) v = p.1 :: p.2 :: cV (vs.set j ((vs[j]'(by simpa using h)).1, v))
  simp [ih]
def SdO (w : World) (p : VV) : Sd → Prop
 | .br x => ∃ X, p.1 = .func (.func 109) #[] #[.pointer (some ⟨X, 0, none⟩)] ∧ T5 w X 6 0 0 x 0 ∧ p.2 = .slice none 0 0
 | .pt x => ∃ X, p.1 = .func (.func 111) #[] #[.pointer (some ⟨X, 0, none⟩)] ∧ C1 w X 9 (.string (mk x)) ∧ p.2 = .slice none 0 0
 | .ho K => p.1 = .nilFunc ∧ ∃ a c, p.2 = .slice a K.length c ∧ OwnV 0 3 1 w a K.length c (intsK K)
theorem SdO.kt {P : TypeId → Prop} (hP : PT P) {w w' : World} {p : VV} {s : Sd} (h : SdO w p s) (hk : Kt P w w') : SdO w' p s := by
 cases s with
 | br x => obtain ⟨X, h1, h2, h3⟩ := h; exact ⟨X, h1, h2.kt hP.t hk, h3⟩
 | pt x => obtain ⟨X, h1, h2, h3⟩ := h; exact ⟨X, h1, h2.kt hP.s hk, h3⟩
 | ho K => obtain ⟨h1, a, c, h2, h3⟩ := h; exact ⟨h1, a, c, h2, h3.kt hP.i hk⟩
theorem SdO.at {w : World} {p : VV} {s : Sd} (h : SdO w p s) : SdAt w p.1 p.2 s := by
 cases s with
 | br x => obtain ⟨X, h1, h2, h3⟩ := h; exact ⟨X, h1, h2, _, _, _, h3⟩
 | pt x => obtain ⟨X, h1, h2, h3⟩ := h; exact ⟨X, h1, h2, _, _, _, h3⟩
 | ho K => obtain ⟨h1, a, c, h2, h3⟩ := h; exact ⟨h1, a, c, h2, h3.vs⟩
def vA (vs : List VV) (j : Nat) : VV := vs.getD j (.nilFunc, .nilFunc)
theorem zTo {vs : List VV} {j : Nat} (h : j < vs.length) : vA vs j = vs[j] := by simp [vA, List.getD, h]
def sA (S : List Sd) (j : Nat) : Sd := S.getD j (.ho [])
theorem zRd {S : List Sd} {j : Nat} (h : j < S.length) : sA S j = S[j] := by simp [sA, List.getD, h]
structure StO (w : World) (a : Option Addr) (c : Nat) (S : List Sd) (vs : List VV) : Prop where
 hl : vs.length = S.length
 own : OwnV 0 125 2 w a S.length c (cV vs)
 st : ∀ j, j < S.length → SdO w (vA vs j) (sA S j)
theorem StO.below {w w' : World} {a : Option Addr} {c : Nat} {S : List Sd} {vs : List VV} (h : StO w a c S vs) (hb : Below w.heap.size w w') : StO w' a c S vs :=
 ⟨h.hl, h.own.keep hb (Nat.le_refl _), fun j hj => (h.st j hj).kt (P := tS) zQb (Kt.below hb)⟩
theorem StO.sts {w : World} {a : Option Addr} {c : Nat} {S : List Sd} {vs : List VV} (h : StO w a c S vs) : StS w a S.length c S := by
 have hv := h.own.vs
 refine ⟨rfl, hv.lc, hv.cm, fun h0 => ?_⟩
 obtain ⟨b, off, rfl, hb, hc⟩ := hv.at_ h0
 refine ⟨b, off, rfl, hb, fun j hj => ?_⟩
 have h1 := zTn vs j (by rw [h.hl]; exact hj)
 have h2 := h.st j hj
 rw [zTo (by rw [h.hl]; exact hj), zRd hj] at h2
 exact ⟨_, _, (hc (j * 2) (by omega)).trans h1.1, by rw [Nat.add_assoc]; exact (hc (j * 2 + 1) (by omega)).trans h1.2, h2.at⟩
def rawS : Sd → Sd
 | .ho _ => .ho []
 | s => s
def rawF (f : FD) : FD := ⟨f.k, f.n, f.c, f.o, f.S.map rawS⟩
abbrev GC := Nat × Nat
def gA (gs : List GC) (i : Nat) : GC := gs.getD i (0, 0)
def fmL (f : FD) (g : GC) : List Value := (fmA f (some ⟨g.1, 0, none⟩) f.S.length g.2).toList
def cF : List FD → List GC → List Value
 | f :: F, g :: G => fmL f g ++ cF F G
 | _, _ => []
theorem fmL_len (f : FD) (g : GC) : (fmL f g).length = 9 := rfl
theorem zNs : ∀ (A : List FD) (G : List GC) (B : List FD) (H : List GC), A.length = G.length → cF (A ++ B) (G ++ H) = cF A G ++ cF B H
 | [], [], B, H, _ => rfl
 | f :: A, g :: G, B, H, h => by
  show fmL f g ++ cF (A ++ B) (G ++ H) = (fmL f g ++ cF A G) ++ cF B H
  rw [zNs A G B H (by simpa using h), List.append_assoc]
theorem zPv : ∀ (F : List FD) (G : List GC) (i j : Nat), F.length = G.length → i < F.length → j < 9 → (cF F G)[i * 9 + j]? = (fmL (fA F i) (gA G i))[j]?
 | f :: F, g :: G, 0, j, h, hi, hj => by
  rw [cF, Nat.zero_mul, Nat.zero_add, List.getElem?_append_left (by rw [fmL_len]; exact hj)]
  rfl
 | f :: F, g :: G, i + 1, j, h, hi, hj => by
  rw [cF, List.getElem?_append_right (by rw [fmL_len]; omega), fmL_len, show (i + 1) * 9 + j - 9 = i * 9 + j by omega, zPv F G i j (by simpa using h) (by simpa using hi) hj]
  rfl
theorem zSf : ∀ (F F' : List FD) (G : List GC), F.map (fun f => (f.k, f.n, f.c, f.o, f.S.length)) = F'.map (fun f => (f.k, f.n, f.c, f.o, f.S.length)) → cF F G = cF F' G
 | [], [], G, _ => rfl
 | [], _ :: _, _, h => by cases h
 | _ :: _, [], _, h => by cases h
 | f :: F, f' :: F', [], h => rfl
 | f :: F, f' :: F', g :: G, h => by
  simp only [List.map_cons, List.cons.injEq, Prod.mk.injEq] at h
  obtain ⟨⟨h1, h2, h3, h4, h5⟩, h6⟩ := h
  rw [cF, cF, zSf F F' G h6]
  congr 1
  unfold fmL fmA
  rw [h1, h2, h3, h4, h5]
structure FmO (w : World) (a : Option Addr) (n c : Nat) (F : List FD) (gs : List GC) : Prop where
 hn : F.length = n
 hl : gs.length = n
 own : OwnV 0 119 9 w a n c (cF F gs)
 nd : ∀ i j, i < n → j < n → (gA gs i).1 = (gA gs j).1 → i = j
 st : ∀ i, i < n → ∃ vs, StO w (some ⟨(gA gs i).1, 0, none⟩) (gA gs i).2 (fA F i).S vs
theorem FmO.below {w w' : World} {a : Option Addr} {n c : Nat} {F : List FD} {gs : List GC} (h : FmO w a n c F gs) (hb : Below w.heap.size w w') : FmO w' a n c F gs :=
 ⟨h.hn, h.hl, h.own.keep hb (Nat.le_refl _), h.nd, fun i hi => by obtain ⟨vs, hv⟩ := h.st i hi; exact ⟨vs, hv.below hb⟩⟩
theorem zTB (f : FD) (g : GC) : ∀ u ∈ fmL f g, u.oneCell' = true := by
 intro u hu
 have := zQq f (some ⟨g.1, 0, none⟩) f.S.length g.2
 rw [Array.all_eq_true_iff_forall_mem] at this
 exact this u (by simpa [fmL] using hu)
theorem FmO.cells {w : World} {b o n c : Nat} {F : List FD} {gs : List GC} (h : FmO w (some ⟨b, o, none⟩) n c F gs) {i : Nat} (hi : i < n) : ∀ j, j < 9 → w.cell? ⟨b, o + i * 9 + j, none⟩ = (fmA (fA F i) (some ⟨(gA gs i).1, 0, none⟩) (fA F i).S.length (gA gs i).2)[j]? := fun j hj => by
 have hv := h.own.vs
 rw [Nat.add_assoc, hv.cells (by omega) (by omega), zPv F gs i j (by rw [h.hn, h.hl]) (by rw [h.hn]; exact hi) hj]
 unfold fmL
 rw [Array.getElem?_toList]
theorem FmO.fms {w : World} {a : Option Addr} {n c : Nat} {F : List FD} {gs : List GC} (h : FmO w a n c F gs) : FmS w a n c F := by
 have hv := h.own.vs
 refine ⟨h.hn, hv.lc, hv.cm, fun h0 => ?_⟩
 obtain ⟨b, off, rfl, hb, hc⟩ := hv.at_ h0
 refine ⟨b, off, rfl, hb, fun i hi => ?_⟩
 obtain ⟨vs, hs⟩ := h.st i hi
 exact ⟨_, _, h.cells hi, hs.sts⟩
end
section
open Go.RowKit
theorem splice_set' (cur : List Value) (p : Nat) (v : Value) (h : p < cur.length) : splice cur p [v] = cur.set p v := by
 unfold splice
 rw [List.set_eq_take_append_cons_drop, if_pos h]
 simp
theorem zMk {base k : Nat} {e : TypeId} {w : World} {g off n c : Nat} {xs : List Value} (h : OwnV base e k w (some ⟨g, off, none⟩) n c xs) {p : Nat} (hp : p < n * k) :
  off = 0 ∧ base ≤ g ∧ ∃ cur : List Value, w.heap[g]? = some (.cells cur.toArray e (0, 0)) ∧ p + 1 ≤ cur.length ∧ ∀ w' v, w'.heap[g]? = some (.cells (splice cur p [v]).toArray e (0, 0)) → OwnV base e k w' (some ⟨g, off, none⟩) n c (xs.set p v) := by
 have hb := h.bounds
 obtain ⟨g', cur, ha, hbg, _, hg, hcs, ht⟩ := h.form (by simp)
 simp only [Option.some.injEq, Addr.mk.injEq, and_true] at ha
 obtain ⟨rfl, rfl⟩ := ha
 have hnc : n * k ≤ c * k := Nat.mul_le_mul_right _ hb.2.1
 have hpl : p < cur.toList.length := by rw [Array.length_toList]; omega
 refine ⟨rfl, hbg, cur.toList, by simpa using hg, by omega, fun w' v hw' => ?_⟩
 refine ⟨by rw [List.length_set]; exact hb.1, .inr ⟨g, c, _, rfl, hbg, hw', hb.2.1, hb.2.2, ?_, ?_⟩⟩
 ·rw [splice_set' _ _ _ hpl]; simp; exact hcs
 ·show (splice cur.toList p [v]).take (n * k) = _
  rw [splice_set' _ _ _ hpl, List.take_set, ht]
section
variable {ops : Array Oper} {rest : List Oper} {o : Oper} {A : Act} {w : World} {Q : Exit → Act → World → Prop} {K : Act → World → Prop} {E : Prop}
theorem zSH (hgd : o.guard = none) (ty : TypeId) (hi : (Tryz.prog.info? ty).map (·.size) = some 1) (x y : Operand) (ho : o.op = .store ty x y)
  (base k : Nat) (e : TypeId) (g n c : Nat) (xs : List Value) (h : OwnV base e k w (some ⟨g, 0, none⟩) n c xs) (p : Nat) (hp : p < n * k) (v : Value) (hc : v.cells = #[v]) (h1 : v.oneCell' = true) (hx : A.eval x = .pointer (some ⟨g, p, none⟩)) (hy : A.eval y = v)
  (kk : ∀ w', OwnV base e k w' (some ⟨g, 0, none⟩) n c (xs.set p v) → Only g w w' → Kt (fun t => t = e) w w' → base ≤ g → wpList Tryz.prog ops Q rest (A.put o.dst undef) w') : wpList Tryz.prog ops Q (o :: rest) A w := by
 obtain ⟨_, hbg, cur, hg, hfit, hput⟩ := zMk h hp
 exact zAm hgd ty e x y ho g p cur v hx hy hi hc hg hfit h1 fun w' h' ho' => kk w' (hput _ _ h') ho' (Kt.only hg rfl ho') hbg
theorem zBS (hgd : o.guard = none) (ty : TypeId) (hi : (Tryz.prog.info? ty).map (·.size) = some 1) (x y : Operand) (ho : o.op = .store ty x y)
  (base k : Nat) (e : TypeId) (g n c : Nat) (xs : List Value) (h : OwnV base e k w (some ⟨g, 0, none⟩) n c xs) (p : Nat) (hp : p < n * k) (v : Value) (hc : v.cells = #[v]) (h1 : v.oneCell' = true) (hx : A.eval x = .pointer (some ⟨g, p, none⟩)) (hy : A.eval y = v)
  (kk : ∀ w', OwnV base e k w' (some ⟨g, 0, none⟩) n c (xs.set p v) → Only g w w' → Kt (fun t => t = e) w w' → base ≤ g → K (A.put o.dst undef) w') : if Region.wanted o (yielded ops A.tmps) = true then o.wp Tryz.prog A w K Q else E := by
 obtain ⟨_, hbg, cur, hg, hfit, hput⟩ := zMk h hp
 rw [if_pos (show Region.wanted o (yielded ops A.tmps) = true by simp [Region.wanted, hgd])]
 unfold Oper.wp execOp
 simp only [ho, hx, hy, Instr.storeAt, Instr.sureAddr, Sem.run_bind, Sem.run_pure, Result.andThen_ok, zBE (P := Tryz.prog) w ty e g p cur v hi hc hg hfit h1]
 have ho' := Only.ofRow w g (splice cur p [v]).toArray
 exact kk _ (hput _ _ (setRow_heap w g _ _ _ _ hg)) ho' (Kt.only hg rfl ho') hbg
end
theorem zId : (Tryz.prog.info? 3).map (fun i => (i.zero, i.size, i.bytes)) = some (some (.int .i64 0), 1, 8) := by kernel_rfl
theorem zOu : (Tryz.prog.info? 3).map (·.size) = some 1 := by kernel_rfl
theorem zSg (w : World) (q : Nat) (hq : q ≤ 4000000) : ∃ W, (Instr.makeSlice 82 (.int .i64 q) (.int .i64 q)).run Tryz.prog w = .ok (.slice (some ⟨w.heap.size, 0, none⟩) q q) W ∧ OwnV w.heap.size 3 1 W (some ⟨w.heap.size, 0, none⟩) q q (List.replicate q (.int .i64 0)) ∧ Below w.heap.size w W := by
 obtain ⟨i, hi, hz, hs, hby⟩ := info_parts zId
 have := run_make (P := Tryz.prog) w 82 3 i (.int .i64 0) Tryz.underlying82 hi hz .i64 .i64 q q (by omega) (by omega) (by rw [hby]; omega) (by omega)
 rw [hs] at this
 simp only [Int.toNat_natCast, Nat.mul_one] at this
 refine ⟨_, this, ?_, (Below.refl _ _).alloc (Nat.le_refl _) _⟩
 have hm : (madeCells (Value.int .i64 0).cells q).toList = List.replicate q (.int .i64 0) := by
  simp only [madeCells, Value.cells]
  simp
  refine List.eq_replicate_iff.2 ⟨by simp, fun b hb => ?_⟩
  obtain ⟨x, _, rfl⟩ := List.mem_map.1 hb
  rw [Nat.mod_one]; rfl
 refine ⟨by simp, .inr ⟨w.heap.size, q, _, rfl, Nat.le_refl _, heap_alloc_new w _, Nat.le_refl _, by unfold maxLen; omega, ?_, ?_⟩⟩
 ·rw [← Array.length_toList, hm]; simp
 ·rw [hm, Nat.mul_one, List.take_of_length_le (by simp)]
def upTo (n k : Nat) : List Value := intsK (List.range k) ++ List.replicate (n - k) (.int .i64 0)
theorem zTC {n k : Nat} (h : k < n) : (upTo n k).set k (.int .i64 (k : Int)) = upTo n (k + 1) := by
 have hl : (intsK (List.range k)).length = k := by simp [intsK]
 unfold upTo
 rw [List.set_append_right _ _ (by omega), hl, Nat.sub_self, show n - k = (n - (k + 1)) + 1 by omega, List.replicate_succ, List.set_cons_zero, List.range_succ]
 unfold intsK
 rw [List.map_append, List.append_assoc]
 rfl
set_option maxRecDepth 20000 in
set_option maxHeartbeats 4000000 in
theorem zRl (a : Option Addr) (n c : Nat) (w : World) (hn : n ≤ 1000000) :
  Calls Tryz.prog 38 #[.slice a n c] w fun e w' => ∃ ra rc, e = .returned (.slice ra n rc) ∧ OwnV w.heap.size 3 1 w' ra n rc (intsK (List.range n)) ∧ Below w.heap.size w w' := by
 obtain ⟨W, hmk, hown, hbw⟩ := zSg w n (by omega)
 obtain ⟨B, hB⟩ : ∃ B, B = w.heap.size := ⟨_, rfl⟩
 rw [← hB] at hmk hown hbw
 have HO : Hid (OwnV B 3 1 W (some ⟨B, 0, none⟩) n n (upTo n 0)) := hid (by unfold upTo; exact hown)
 have HB : Hid (Below B w W) := hid hbw
 have HBB := hid hB
 clear hown hbw hB
 go_enter Tryz.func38, Tryz.ntmps38
 go_wp2
 clear hmk
 go_loopw [10] (fun v wr => ∃ k : Nat, v = .int .i64 (k : Int) ∧ k ≤ n ∧ Hid (OwnV B 3 1 wr (some ⟨B, 0, none⟩) n n (upTo n k)) ∧ Hid (Below B w wr)) (fun v _ => n - (intOf v).toNat)
 case atStart => exact ⟨0, rfl, Nat.zero_le _, HO, HB⟩
 case round =>
  obtain ⟨k, rfl, hk, H, HW⟩ := hrel
  by_cases hlt : k < n
  ·have hltI : (k : Int) < (n : Int) := by omega
   have hk0 : (0 : Int) ≤ (k : Int) := Int.natCast_nonneg _
   go_wp2_with (refine zSH rfl 3 zOu (.tmp 16) (.tmp 15) rfl B 1 3 B n n (upTo n k) H.out k (by omega) (.int .i64 (k : Int)) rfl rfl (by first | rfl | (simp [Act.eval]; done)) rfl ?_; intro w5 h5 ho5 _ _; have H5 : Hid (OwnV B 3 1 w5 (some ⟨B, 0, none⟩) n n (upTo n (k + 1))) := hid (by rw [← zTC hlt]; exact h5); have HW5 : Hid (Below B w w5) := hid (HW.out.trans (ho5.below (Nat.le_refl _))); clear h5 ho5)
   go_roundw
   case rel => exact ⟨k + 1, by go_num, by omega, H5, HW5⟩
   case measure => simp [intOf]; omega
  ·obtain rfl : k = n := by omega
   go_wp2
   go_ret
   refine ⟨_, _, rfl, ?_, by rw [← HBB.out]; exact HW.out⟩
   have := H.out
   unfold upTo at this
   rw [Nat.sub_self, List.replicate_zero, List.append_nil] at this
   rw [← HBB.out]; exact this
end
end Go.Proofs.YtcjbhdgjcpnklaaGreatDoor
