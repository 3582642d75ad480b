import Derived.Deep.RegionHeld3
import Derived.Deep.QuietTactic
import Derived.BigQuiet
import Derived.MapKept
import Derived.WideKeyRuns
import Derived.Laws.StructEq
import Derived.Deep.DeepCutAuto
import Derived.Laws.MakeOwn
import Derived.Test.YtcjbhdgjcpnklaaGreatDoorV07
import Derived.Carry
import Derived.Test.YtcjbhdgjcpnklaaGreatDoorR04
import Derived.Test.YtcjbhdgjcpnklaaGreatDoorR08
import Derived.Test.YtcjbhdgjcpnklaaGreatDoorR09
import Derived.Test.YtcjbhdgjcpnklaaGreatDoorR10
namespace Go.Proofs.YtcjbhdgjcpnklaaGreatDoor
section
open Go.RowKit
theorem But.weak {m X Y : Nat} {w w' : World} (h : But m X X w w') : But m X Y w w' := ⟨h.b, fun g hg h1 _ => h.s g hg h1 h1⟩
structure Jo (tok : List TK) (x : ND) (V : Bool) (la : Option Addr) (ln lc : Nat) (ba bn bl bk m : Nat) (I : List Nm) (w1 : World) : Prop where
 j : ∃ (at_ : Nat) (K' : List ND) (ka' : Option Addr) (kc' : Nat), C1 w1 ba 3 (.int .i64 (at_ : Int)) ∧ at_ ≤ ln ∧ C1 w1 bk 42 (.slice ka' K'.length kc') ∧ NdS w1 ka' K'.length kc' K' ∧ K'.length = holN I ∧ (∀ c ∈ K', goodN tok c) ∧ alB tok x.t I at_ K' = V
 n : N5 w1 bn x
 l : C1 w1 bl 23 (.slice la ln lc)
 t : Ts w1 la ln lc tok
 s : m ≤ w1.heap.size
section
variable {tok : List TK} {x : ND} {V : Bool} {la : Option Addr} {ln lc ba bn bl bk m : Nat}
theorem Jo.below {I : List Nm} {w1 w' : World} (h : Jo tok x V la ln lc ba bn bl bk m I w1) (hb : Below w1.heap.size w1 w') : Jo tok x V la ln lc ba bn bl bk m I w' := by
 obtain ⟨at_, K', ka', kc', h1, h2, h3, h4, h5, h6, h7⟩ := h.j
 exact ⟨⟨at_, K', ka', kc', h1.below hb, h2, h3.below hb, h4.below hb, h5, h6, h7⟩, h.n.below hb, h.l.below hb, h.t.below hb, Nat.le_trans h.s hb.size⟩
end
end
section
open Go.RowKit
end
section
open Go.RowKit
def eqG (f i a b f' i' a' b' : Nat) : Bool := ((f : Int) == f') && (((i : Int) == i') && (((a : Int) == a') && ((b : Int) == b')))
theorem zHP {f i a b f' i' a' b' : Nat} : eqG f i a b f' i' a' b' = true ↔ f = f' ∧ i = i' ∧ a = a' ∧ b = b' := by
 unfold eqG
 simp only [Bool.and_eq_true, beq_iff_eq, Int.natCast_inj]
theorem zOt (f i a b f' i' a' b' : Nat) (w : World) : (Op.equal 132 (.agg (glA f i a b)) (.agg (glA f' i' a' b'))).run Tryz.prog w = .ok (eqG f i a b f' i' a' b') w := by
 show (Op.equalIn 10000 132 (.agg (glA f i a b)) (.agg (glA f' i' a' b'))).run Tryz.prog w = _
 have hu : Tryz.prog.underlying 132 = some (.struct (Tryz.prog.fieldsOf 132)) := by
  unfold Program.fieldsOf
  rw [Tryz.underlying132]
 rw [run_equalIn_struct w 9999 132 _ _ hu (by kernel_rfl)]
 unfold Program.fieldsOf
 rw [Tryz.underlying132]
 have p0 : ∀ w (a b c d : Value), (part 3 #[a, b, c, d] 0).run Tryz.prog w = .ok a w := fun _ _ _ _ _ => by kernel_rfl
 have p1 : ∀ w (a b c d : Value), (part 3 #[a, b, c, d] 1).run Tryz.prog w = .ok b w := fun _ _ _ _ _ => by kernel_rfl
 have p2 : ∀ w (a b c d : Value), (part 3 #[a, b, c, d] 2).run Tryz.prog w = .ok c w := fun _ _ _ _ _ => by kernel_rfl
 have p3 : ∀ w (a b c d : Value), (part 3 #[a, b, c, d] 3).run Tryz.prog w = .ok d w := fun _ _ _ _ _ => by kernel_rfl
 have e1 : ∀ w (a b : Int), (Op.equalIn 9999 3 (.int .i64 a) (.int .i64 b)).run Tryz.prog w = .ok (a == b) w := fun w a b => run_equalIn_int w 9998 _ _ _ a b Tryz.underlying3
 unfold glA eqG
 simp only [Op.eqFields, Sem.run_bind, Sem.run_ite, p0, p1, p2, p3, e1, Result.andThen_ok, Sem.run_pure, ne_eq, String.reduceEq, not_false_eq_true, if_true]
 cases (f : Int) == f' <;> cases (i : Int) == i' <;> cases (a : Int) == a' <;> cases (b : Int) == b' <;> rfl
def GKeys (l : List MapEntry) : Prop := ∀ e ∈ l, ∃ f i a b : Nat, e.key = .agg (glA f i a b)
theorem zER (f i a b : Nat) (w : World) : ∀ (l : List MapEntry) (n : Nat), GKeys l →
  (Instr.findAsking 132 (.agg (glA f i a b)) l n).run Tryz.prog w = .ok none w ∨ ∃ j e, (Instr.findAsking 132 (.agg (glA f i a b)) l n).run Tryz.prog w = .ok (some (n + j, e.val)) w ∧ l[j]? = some e ∧ e.key = .agg (glA f i a b)
 | [], n, _ => .inl rfl
 | e :: l, n, h => by
  obtain ⟨f', i', a', b', hk⟩ := h e (List.mem_cons_self ..)
  have he := zOt f i a b f' i' a' b' w
  cases hq : eqG f i a b f' i' a' b' with
  | true =>
   obtain ⟨rfl, rfl, rfl, rfl⟩ := zHP.1 hq
   refine .inr ⟨0, e, ?_, rfl, hk⟩
   rw [hq] at he
   unfold Instr.findAsking
   simp only [Sem.run_bind, hk, he, Result.andThen_ok, if_true, Sem.run_pure, Nat.add_zero]
  | false =>
   rw [hq] at he
   have hr : (Instr.findAsking 132 (.agg (glA f i a b)) (e :: l) n).run Tryz.prog w = (Instr.findAsking 132 (.agg (glA f i a b)) l (n + 1)).run Tryz.prog w := by
    conv => lhs; unfold Instr.findAsking
    simp only [Sem.run_bind, hk, he, Result.andThen_ok, Bool.false_eq_true, if_false]
   rcases zER f i a b w l (n + 1) (fun e he => h e (List.mem_cons_of_mem _ he)) with h1 | ⟨j, e', h1, h2, h3⟩
   ·exact .inl (by rw [hr, h1])
   ·exact .inr ⟨j + 1, e', by rw [hr, h1, show n + 1 + j = n + (j + 1) by omega], by simpa using h2, h3⟩
theorem zIc (f i a b : Nat) (em : Bool) (w : World) : (Instr.checkKey em 10000 132 (.agg (glA f i a b))).run Tryz.prog w = .ok () w := by kernel_rfl
set_option maxRecDepth 20000 in
theorem MI.look {w : World} {x : SR} (h : MI w x) (f i a b : Nat) : ∃ v ok, (Instr.lookup 76 (.map (some x.M)) (.agg (glA f i a b)) true).run Tryz.prog w = .ok (.tuple #[.agg v, .bool ok]) w ∧
  ((ok = false ∧ v = fdA 0 none 0 0) ∨ ok = true ∧ ∃ fv : FV, ∃ na nc, v = fdA fv.1 na fv.2.length nc ∧ NdS w na fv.2.length nc fv.2 ∧ Cn (DS x.L x.z x.tok x.F ((fA x.F f).S.drop i) a b) fv.1 fv.2) := by
 obtain ⟨es, cl, hb, hs⟩ := h
 have hg : GKeys es.toList := fun e he => by obtain ⟨f, i, a, b, _, _, _, hk, _⟩ := hs e he; exact ⟨f, i, a, b, hk⟩
 have hkey := zIc f i a b es.isEmpty w
 have hf := run_findKey_eq (P := Tryz.prog) (k := 132) w (by rw [Tryz.underlying132]) (.agg (glA f i a b)) es.toList
 rcases zER f i a b w es.toList 0 hg with h1 | ⟨j, e, h1, h2, h3⟩
 ·rw [h1] at hf
  refine ⟨_, false, ?_, .inl ⟨rfl, rfl⟩⟩
  simp [Instr.lookup, run_underlying Tryz.underlying76, MapKept.run_getObj_map hb, hkey, hf, Result.andThen]
  rfl
 ·rw [h1] at hf
  obtain ⟨f', i', a', b', fv, na, nc, hk, hv, hn, hc⟩ := hs e (List.mem_of_getElem? h2)
  rw [h3] at hk
  have he : eqG f i a b f' i' a' b' = true := by
   unfold glA at hk
   simp only [Value.agg.injEq, Array.mk.injEq, List.cons.injEq, Value.int.injEq, true_and, and_true, Int.natCast_inj] at hk
   exact zHP.2 hk
  obtain ⟨rfl, rfl, rfl, rfl⟩ := zHP.1 he
  refine ⟨_, true, ?_, .inr ⟨rfl, fv, na, nc, rfl, hn, hc⟩⟩
  simp [Instr.lookup, run_underlying Tryz.underlying76, MapKept.run_getObj_map hb, hkey, hf, Result.andThen, hv]
theorem zJH {es : Array MapEntry} {j : Nat} {g : MapEntry → MapEntry} {e : MapEntry} (h : e ∈ (es.modify j g).toList) : e ∈ es.toList ∨ ∃ e', e = g e' := by
 obtain ⟨n, hn, he⟩ := List.mem_iff_getElem.1 h
 rw [Array.getElem_toList, Array.getElem_modify] at he
 split at he
 ·exact .inr ⟨_, he.symm⟩
 ·exact .inl (by rw [← he]; simp)
set_option maxRecDepth 20000 in
theorem MI.put {w : World} {x : SR} (h : MI w x) (f i a b : Nat) (fv : FV) (na : Option Addr) (nc : Nat) (hn : NdS w na fv.2.length nc fv.2) (hc : Cn (DS x.L x.z x.tok x.F ((fA x.F f).S.drop i) a b) fv.1 fv.2) :
  ∃ w', (Instr.mapUpdate 76 (.map (some x.M)) (.agg (glA f i a b)) (.agg (fdA fv.1 na fv.2.length nc))).run Tryz.prog w = .ok () w' ∧ MI w' x ∧ Only x.M w w' := by
 have hm := h.isMap
 obtain ⟨es, cl, hb, hs⟩ := h
 have hg : GKeys es.toList := fun e he => by obtain ⟨f, i, a, b, _, _, _, hk, _⟩ := hs e he; exact ⟨f, i, a, b, hk⟩
 have hkey := zIc f i a b false w
 have hf := run_findKey_eq (P := Tryz.prog) (k := 132) w (by rw [Tryz.underlying132]) (.agg (glA f i a b)) es.toList
 have hput : ∀ es' cl', (∀ e ∈ Array.toList es', e ∈ es.toList ∨ (e.key = .agg (glA f i a b) ∧ e.val = .agg (fdA fv.1 na fv.2.length nc))) → MI { w with heap := w.heap.setIfInBounds x.M (.map es' cl') } x ∧ Only x.M w { w with heap := w.heap.setIfInBounds x.M (.map es' cl') } := fun es' cl' he' => by
  have ho : Only x.M w { w with heap := w.heap.setIfInBounds x.M (.map es' cl') } := ⟨rfl, rfl, rfl, by simp, fun k hk => (MapKept.heap_set hb).2 k hk⟩
  refine ⟨⟨es', cl', (MapKept.heap_set hb).1, fun e he => ?_⟩, ho⟩
  rcases he' e he with he | ⟨hk, hv⟩
  ·obtain ⟨f, i, a, b, v, na, nc, h3, h4, h5, h6⟩ := hs e he
   exact ⟨f, i, a, b, v, na, nc, h3, h4, h5.kx (Kx.only ho) hm, h6⟩
  ·exact ⟨f, i, a, b, fv, na, nc, hk, hv, hn.kx (Kx.only ho) hm, hc⟩
 rcases zER f i a b w es.toList 0 hg with h1 | ⟨j, e, h1, h2, h3⟩
 ·rw [h1] at hf
  obtain ⟨q1, q2⟩ := hput (es.push { key := .agg (glA f i a b), val := .agg (fdA fv.1 na fv.2.length nc), born := cl }) (cl + 1) fun e he => by
   rw [Array.toList_push, List.mem_append, List.mem_singleton] at he
   rcases he with he | rfl
   ·exact .inl he
   ·exact .inr ⟨rfl, rfl⟩
  refine ⟨_, ?_, q1, q2⟩
  simp [Instr.mapUpdate, run_underlying Tryz.underlying76, MapKept.run_getObj_map hb, hkey, hf, MapKept.run_setObj_map _ hb, Result.andThen]
 ·rw [h1] at hf
  rw [Nat.zero_add] at hf
  have h2' : es[j]? = some e := by rw [← Array.getElem?_toList]; exact h2
  have hsb : Instr.sameBits 10000 (.agg (glA f i a b)) (.agg (glA f i a b)) = true := by
   show Instr.sameBits (9999 + 1) (.agg (glA f i a b)) (.agg (glA f i a b)) = true
   unfold Instr.sameBits glA
   simp [Instr.sameBits]
  obtain ⟨q1, q2⟩ := hput (es.modify j fun e => { e with key := .agg (glA f i a b), val := .agg (fdA fv.1 na fv.2.length nc) }) cl fun e he => by
   rcases zJH he with he | ⟨e', rfl⟩
   ·exact .inl he
   ·exact .inr ⟨rfl, rfl⟩
  refine ⟨_, ?_, q1, q2⟩
  simp [Instr.mapUpdate, run_underlying Tryz.underlying76, MapKept.run_getObj_map hb, hkey, hf, h2', h3, Instr.keyThatStays, hsb, MapKept.run_setObj_map _ hb, Result.andThen]
end
section
open Go.RowKit
theorem N5.zero (w : World) : N5 (w.alloc (.cells #[.int .i64 0, .string ⟨#[]⟩, .int .i64 0, .int .i64 0, .int .i64 0] 85)) w.heap.size ⟨0, [], 0, 0, 0⟩ := heap_alloc_new w _
end
section
open Go.RowKit
def intsK (K : List Nat) : List Value := K.map fun (i : Nat) => Value.int .i64 (i : Int)
theorem Kx.put {M g : Nat} {w w' w'' : World} (h : Kx M w w') (ho : Only g w' w'') (hg : w.heap.size ≤ g) : Kx M w w'' :=
 ⟨ho.os.trans h.os, ho.tape.trans h.tape, ho.output.trans h.output, by rw [ho.size]; exact h.size, fun k hk hm => (ho.block k (by omega)).trans (h.block k hk hm)⟩
theorem Kx.bl {M : Nat} {w w' w'' : World} (h : Kx M w w') (hb : Below w'.heap.size w' w'') : Kx M w w'' := h.trans (Kx.of hb)
theorem N5.kx {M : Nat} {w w' : World} {b : Nat} {x : ND} (h : N5 w b x) (hk : Kx M w w') (hm : isMap w M) : N5 w' b x := hk.blk hm h
end
section
open Go.RowKit
def tS (t : TypeId) : Prop := t = 125
def tF (t : TypeId) : Prop := t = 125 ∨ t = 119
structure Kt (P : TypeId → Prop) (w w' : World) : Prop where
 size : w.heap.size ≤ w'.heap.size
 row : ∀ (b : Nat) (cs : Array Value) (t : TypeId), w.heap[b]? = some (.cells cs t (0, 0)) → ¬ P t → w'.heap[b]? = some (.cells cs t (0, 0))
theorem Kt.refl (P : TypeId → Prop) (w : World) : Kt P w w := ⟨Nat.le_refl _, fun _ _ _ h _ => h⟩
theorem Kt.trans {P : TypeId → Prop} {a b c : World} (h : Kt P a b) (k : Kt P b c) : Kt P a c := ⟨Nat.le_trans h.size k.size, fun q cs t hq hp => k.row q cs t (h.row q cs t hq hp) hp⟩
theorem Kt.below {P : TypeId → Prop} {w w' : World} (h : Below w.heap.size w w') : Kt P w w' := ⟨h.size, fun b _ _ hb _ => (h.block b (Array.getElem?_eq_some_iff.1 hb).1).trans hb⟩
theorem Kt.weak {w w' : World} (h : Kt tS w w') : Kt tF w w' := ⟨h.size, fun b cs t hb hp => h.row b cs t hb fun e => hp (.inl e)⟩
theorem Kt.only {P : TypeId → Prop} {w w' : World} {g : Nat} {cs : Array Value} {t : TypeId} (hg : w.heap[g]? = some (.cells cs t (0, 0))) (hp : P t) (h : Only g w w') : Kt P w w' :=
 ⟨by rw [h.size]; exact Nat.le_refl _, fun b cs' t' hb hp' => by
  by_cases hbg : b = g
  ·subst hbg
   rw [hg] at hb
   simp only [Option.some.injEq, Obj.cells.injEq] at hb
   obtain ⟨_, rfl, _⟩ := hb
   exact absurd hp hp'
  ·exact (h.block b hbg).trans hb⟩
theorem Kt.grown {P : TypeId → Prop} {w w' : World} {e : TypeId} {k base : Nat} {a : Option Addr} {n c : Nat} {xs : List Value} (h : OwnV base e k w a n c xs) (hp : P e) (hg : w.grownBy w' (Value.ownBlock (.slice a n c))) : Kt P w w' := by
 refine ⟨hg.size, fun b cs u hb hu => ?_⟩
 refine (hg.block b (Array.getElem?_eq_some_iff.1 hb).1 ?_).trans hb
 intro hbb
 rcases h.2 with ⟨hv, _⟩ | ⟨q, cp, cur, hv, _, hq, r⟩
 ·simp only [Value.slice.injEq] at hv
  obtain ⟨rfl, _⟩ := hv
  simp [Value.ownBlock] at hbb
 ·simp only [Value.slice.injEq, true_and] at hv
  obtain ⟨rfl, _⟩ := hv
  simp [Value.ownBlock] at hbb
  subst hbb
  rw [hq] at hb
  simp only [Option.some.injEq, Obj.cells.injEq] at hb
  obtain ⟨_, rfl, _⟩ := hb
  exact absurd hp hu
theorem OwnV.kt {P : TypeId → Prop} {base : Nat} {e : TypeId} {k : Nat} {w w' : World} {a : Option Addr} {n c : Nat} {xs : List Value} (h : OwnV base e k w a n c xs) (he : ¬ P e) (hk : Kt P w w') : OwnV base e k w' a n c xs := by
 refine ⟨h.1, h.2.imp id ?_⟩
 rintro ⟨q, cp, cur, hv, hq, hb, r⟩
 exact ⟨q, cp, cur, hv, hq, hk.row q _ _ hb he, r⟩
theorem OwnV.weaken {base base' : Nat} {e : TypeId} {k : Nat} {w : World} {a : Option Addr} {n c : Nat} {xs : List Value} (h : OwnV base e k w a n c xs) (hb : base' ≤ base) : OwnV base' e k w a n c xs := by
 refine ⟨h.1, h.2.imp id ?_⟩
 rintro ⟨q, cp, cur, hv, hq, r⟩
 exact ⟨q, cp, cur, hv, Nat.le_trans hb hq, r⟩
theorem C1.kt {P : TypeId → Prop} {w w' : World} {b : Nat} {t : TypeId} {v : Value} (h : C1 w b t v) (he : ¬ P t) (hk : Kt P w w') : C1 w' b t v := hk.row b _ _ h he
theorem T5.kt {P : TypeId → Prop} {w w' : World} {b : Nat} {k f t : Int} {x : Nm} {e : Int} (h : T5 w b k f t x e) (he : ¬ P 51) (hk : Kt P w w') : T5 w' b k f t x e := hk.row b _ _ h he
structure PT (P : TypeId → Prop) : Prop where
 i : ¬ P 3
 s : ¬ P 9
 t : ¬ P 51
theorem zQb : PT tS := ⟨by unfold tS; decide, by unfold tS; decide, by unfold tS; decide⟩
abbrev VV := Value × Value
def cV (vs : List VV) : List Value := vs.flatMap fun p => [p.1, p.2]
theorem zK0 (vs : List VV) : (cV vs).length = vs.length * 2 := by
 induction vs with
 | nil => rfl
 | cons p vs ih => show (p.1 :: p.2 :: cV vs).length = _; simp only [List.length_cons]; omega
theorem zK1 (A B : List VV) : cV (A ++ B) = cV A ++ cV B := by simp [cV]
def SdO (w : World) (p : VV) : Sd → Prop
 | .br x => ∃ X, p.1 = .func (.func 109) #[] #[.pointer (some ⟨X, 0, none⟩)] ∧ T5 w X 6 0 0 x 0 ∧ p.2 = .slice none 0 0
 | .pt x => ∃ X, p.1 = .func (.func 111) #[] #[.pointer (some ⟨X, 0, none⟩)] ∧ C1 w X 9 (.string (mk x)) ∧ p.2 = .slice none 0 0
 | .ho K => p.1 = .nilFunc ∧ ∃ a c, p.2 = .slice a K.length c ∧ OwnV 0 3 1 w a K.length c (intsK K)
theorem SdO.kt {P : TypeId → Prop} (hP : PT P) {w w' : World} {p : VV} {s : Sd} (h : SdO w p s) (hk : Kt P w w') : SdO w' p s := by
 cases s with
 | br x => obtain ⟨X, h1, h2, h3⟩ := h; exact ⟨X, h1, h2.kt hP.t hk, h3⟩
 | pt x => obtain ⟨X, h1, h2, h3⟩ := h; exact ⟨X, h1, h2.kt hP.s hk, h3⟩
 | ho K => obtain ⟨h1, a, c, h2, h3⟩ := h; exact ⟨h1, a, c, h2, h3.kt hP.i hk⟩
theorem SdO.at {w : World} {p : VV} {s : Sd} (h : SdO w p s) : SdAt w p.1 p.2 s := by
 cases s with
 | br x => obtain ⟨X, h1, h2, h3⟩ := h; exact ⟨X, h1, h2, _, _, _, h3⟩
 | pt x => obtain ⟨X, h1, h2, h3⟩ := h; exact ⟨X, h1, h2, _, _, _, h3⟩
 | ho K => obtain ⟨h1, a, c, h2, h3⟩ := h; exact ⟨h1, a, c, h2, h3.vs⟩
def vA (vs : List VV) (j : Nat) : VV := vs.getD j (.nilFunc, .nilFunc)
def sA (S : List Sd) (j : Nat) : Sd := S.getD j (.ho [])
structure StO (w : World) (a : Option Addr) (c : Nat) (S : List Sd) (vs : List VV) : Prop where
 hl : vs.length = S.length
 own : OwnV 0 125 2 w a S.length c (cV vs)
 st : ∀ j, j < S.length → SdO w (vA vs j) (sA S j)
theorem StO.below {w w' : World} {a : Option Addr} {c : Nat} {S : List Sd} {vs : List VV} (h : StO w a c S vs) (hb : Below w.heap.size w w') : StO w' a c S vs :=
 ⟨h.hl, h.own.keep hb (Nat.le_refl _), fun j hj => (h.st j hj).kt (P := tS) zQb (Kt.below hb)⟩
abbrev GC := Nat × Nat
def gA (gs : List GC) (i : Nat) : GC := gs.getD i (0, 0)
def fmL (f : FD) (g : GC) : List Value := (fmA f (some ⟨g.1, 0, none⟩) f.S.length g.2).toList
def cF : List FD → List GC → List Value
 | f :: F, g :: G => fmL f g ++ cF F G
 | _, _ => []
theorem fmL_len (f : FD) (g : GC) : (fmL f g).length = 9 := rfl
theorem zNs : ∀ (A : List FD) (G : List GC) (B : List FD) (H : List GC), A.length = G.length → cF (A ++ B) (G ++ H) = cF A G ++ cF B H
 | [], [], B, H, _ => rfl
 | f :: A, g :: G, B, H, h => by
  show fmL f g ++ cF (A ++ B) (G ++ H) = (fmL f g ++ cF A G) ++ cF B H
  rw [zNs A G B H (by simpa using h), List.append_assoc]
theorem zPv : ∀ (F : List FD) (G : List GC) (i j : Nat), F.length = G.length → i < F.length → j < 9 → (cF F G)[i * 9 + j]? = (fmL (fA F i) (gA G i))[j]?
 | f :: F, g :: G, 0, j, h, hi, hj => by
  rw [cF, Nat.zero_mul, Nat.zero_add, List.getElem?_append_left (by rw [fmL_len]; exact hj)]
  rfl
 | f :: F, g :: G, i + 1, j, h, hi, hj => by
  rw [cF, List.getElem?_append_right (by rw [fmL_len]; omega), fmL_len, show (i + 1) * 9 + j - 9 = i * 9 + j by omega, zPv F G i j (by simpa using h) (by simpa using hi) hj]
  rfl
structure FmO (w : World) (a : Option Addr) (n c : Nat) (F : List FD) (gs : List GC) : Prop where
 hn : F.length = n
 hl : gs.length = n
 own : OwnV 0 119 9 w a n c (cF F gs)
 nd : ∀ i j, i < n → j < n → (gA gs i).1 = (gA gs j).1 → i = j
 st : ∀ i, i < n → ∃ vs, StO w (some ⟨(gA gs i).1, 0, none⟩) (gA gs i).2 (fA F i).S vs
theorem FmO.below {w w' : World} {a : Option Addr} {n c : Nat} {F : List FD} {gs : List GC} (h : FmO w a n c F gs) (hb : Below w.heap.size w w') : FmO w' a n c F gs :=
 ⟨h.hn, h.hl, h.own.keep hb (Nat.le_refl _), h.nd, fun i hi => by obtain ⟨vs, hv⟩ := h.st i hi; exact ⟨vs, hv.below hb⟩⟩
theorem FmO.cells {w : World} {b o n c : Nat} {F : List FD} {gs : List GC} (h : FmO w (some ⟨b, o, none⟩) n c F gs) {i : Nat} (hi : i < n) : ∀ j, j < 9 → w.cell? ⟨b, o + i * 9 + j, none⟩ = (fmA (fA F i) (some ⟨(gA gs i).1, 0, none⟩) (fA F i).S.length (gA gs i).2)[j]? := fun j hj => by
 have hv := h.own.vs
 rw [Nat.add_assoc, hv.cells (by omega) (by omega), zPv F gs i j (by rw [h.hn, h.hl]) (by rw [h.hn]; exact hi) hj]
 unfold fmL
 rw [Array.getElem?_toList]
end
section
open Go.RowKit
theorem splice_set' (cur : List Value) (p : Nat) (v : Value) (h : p < cur.length) : splice cur p [v] = cur.set p v := by
 unfold splice
 rw [List.set_eq_take_append_cons_drop, if_pos h]
 simp
theorem zMk {base k : Nat} {e : TypeId} {w : World} {g off n c : Nat} {xs : List Value} (h : OwnV base e k w (some ⟨g, off, none⟩) n c xs) {p : Nat} (hp : p < n * k) :
  off = 0 ∧ base ≤ g ∧ ∃ cur : List Value, w.heap[g]? = some (.cells cur.toArray e (0, 0)) ∧ p + 1 ≤ cur.length ∧ ∀ w' v, w'.heap[g]? = some (.cells (splice cur p [v]).toArray e (0, 0)) → OwnV base e k w' (some ⟨g, off, none⟩) n c (xs.set p v) := by
 have hb := h.bounds
 obtain ⟨g', cur, ha, hbg, _, hg, hcs, ht⟩ := h.form (by simp)
 simp only [Option.some.injEq, Addr.mk.injEq, and_true] at ha
 obtain ⟨rfl, rfl⟩ := ha
 have hnc : n * k ≤ c * k := Nat.mul_le_mul_right _ hb.2.1
 have hpl : p < cur.toList.length := by rw [Array.length_toList]; omega
 refine ⟨rfl, hbg, cur.toList, by simpa using hg, by omega, fun w' v hw' => ?_⟩
 refine ⟨by rw [List.length_set]; exact hb.1, .inr ⟨g, c, _, rfl, hbg, hw', hb.2.1, hb.2.2, ?_, ?_⟩⟩
 ·rw [splice_set' _ _ _ hpl]; simp; exact hcs
 ·show (splice cur.toList p [v]).take (n * k) = _
  rw [splice_set' _ _ _ hpl, List.take_set, ht]
section
variable {ops : Array Oper} {rest : List Oper} {o : Oper} {A : Act} {w : World} {Q : Exit → Act → World → Prop} {K : Act → World → Prop} {E : Prop}
theorem zBS (hgd : o.guard = none) (ty : TypeId) (hi : (Tryz.prog.info? ty).map (·.size) = some 1) (x y : Operand) (ho : o.op = .store ty x y)
  (base k : Nat) (e : TypeId) (g n c : Nat) (xs : List Value) (h : OwnV base e k w (some ⟨g, 0, none⟩) n c xs) (p : Nat) (hp : p < n * k) (v : Value) (hc : v.cells = #[v]) (h1 : v.oneCell' = true) (hx : A.eval x = .pointer (some ⟨g, p, none⟩)) (hy : A.eval y = v)
  (kk : ∀ w', OwnV base e k w' (some ⟨g, 0, none⟩) n c (xs.set p v) → Only g w w' → Kt (fun t => t = e) w w' → base ≤ g → K (A.put o.dst undef) w') : if Region.wanted o (yielded ops A.tmps) = true then o.wp Tryz.prog A w K Q else E := by
 obtain ⟨_, hbg, cur, hg, hfit, hput⟩ := zMk h hp
 rw [if_pos (show Region.wanted o (yielded ops A.tmps) = true by simp [Region.wanted, hgd])]
 unfold Oper.wp execOp
 simp only [ho, hx, hy, Instr.storeAt, Instr.sureAddr, Sem.run_bind, Sem.run_pure, Result.andThen_ok, zBE (P := Tryz.prog) w ty e g p cur v hi hc hg hfit h1]
 have ho' := Only.ofRow w g (splice cur p [v]).toArray
 exact kk _ (hput _ _ (setRow_heap w g _ _ _ _ hg)) ho' (Kt.only hg rfl ho') hbg
end
theorem zId : (Tryz.prog.info? 3).map (fun i => (i.zero, i.size, i.bytes)) = some (some (.int .i64 0), 1, 8) := by kernel_rfl
theorem zOu : (Tryz.prog.info? 3).map (·.size) = some 1 := by kernel_rfl
end
section
open Go.RowKit
theorem zK2 {p : Nat → Bool} (k : Nat) : (List.range (k + 1)).filter p = (List.range k).filter p ++ (if p k = true then [k] else []) := by
 rw [List.range_succ, List.filter_append]
 congr 1
 by_cases h : p k = true
 ·rw [if_pos h, List.filter_cons_of_pos h]; rfl
 ·rw [if_neg h, List.filter_cons_of_neg h]; rfl
theorem zGc (A B : List Nat) : intsK (A ++ B) = intsK A ++ intsK B := by simp [intsK]
theorem zMl (p : Nat → Bool) (k : Nat) : ((List.range k).filter p).length ≤ k := by
 have := List.length_filter_le p (List.range k)
 rwa [List.length_range] at this
end
section
open Go.RowKit
theorem StS.from {w : World} {b off n c i : Nat} {S : List Sd} (h : StS w (some ⟨b, off, none⟩) n c S) (hi : i ≤ n) : StS w (some ⟨b, if c = i then off else off + i * 2, none⟩) (n - i) (c - i) (S.drop i) := by
 have hl := h.hl
 have hc := h.lc
 have hm := h.cm
 refine ⟨by rw [List.length_drop, hl], by omega, by omega, fun h0 => ?_⟩
 obtain ⟨b', off', ha, hb, hcs⟩ := h.at_ (by omega)
 simp only [Option.some.injEq, Addr.mk.injEq, and_true] at ha
 obtain ⟨rfl, rfl⟩ := ha
 rw [if_neg (by omega)]
 refine ⟨b, off + i * 2, rfl, hb, fun j hj => ?_⟩
 rw [List.length_drop] at hj
 obtain ⟨fv, kv, h1, h2, h3⟩ := hcs (i + j) (by omega)
 refine ⟨fv, kv, ?_, ?_, ?_⟩
 ·rw [show off + i * 2 + j * 2 = off + (i + j) * 2 by omega]; exact h1
 ·rw [show off + i * 2 + j * 2 + 1 = off + (i + j) * 2 + 1 by omega]; exact h2
 ·rw [List.getElem_drop]; exact h3
end
section
open Go.RowKit
theorem Kx.tt {w w' : World} {X : Nat} {t : Nm} (h : T5 w X 6 0 0 t 0) (hb : Below w.heap.size w w') : T5 w' X 6 0 0 t 0 := h.below hb
end
section
open Go.RowKit
def rw_ (x : Nm) : Sd := if x = [] then .ho [] else .pt x
def isHo : Sd → Bool
 | .ho _ => true
 | _ => false
def holS (S : List Sd) : Nat := (S.filter isHo).length
def opS (o : OP) (S : List Sd) : FD := ⟨3, o.1, (holS S : Nat), o, S⟩
structure OpW (w : World) (F : Nat) (o : OP) (S : List Sd) (a : Option Addr) (c : Nat) (vs : List VV) : Prop where
 bf : Bk w F 119 (fmA (opS o S) a S.length c)
 own : OwnV F 125 2 w a S.length c (cV vs)
 hl : vs.length = S.length
 st : ∀ j, j < S.length → SdO w (vA vs j) (sA S j)
theorem OpW.sto {w : World} {F : Nat} {o : OP} {S : List Sd} {a : Option Addr} {c : Nat} {vs : List VV} (h : OpW w F o S a c vs) : StO w a c S vs := ⟨h.hl, h.own.weaken (Nat.zero_le _), h.st⟩
theorem OpW.below {w w' : World} {F : Nat} {o : OP} {S : List Sd} {a : Option Addr} {c : Nat} {vs : List VV} (h : OpW w F o S a c vs) (hb : Below w.heap.size w w') : OpW w' F o S a c vs :=
 ⟨h.bf.below hb, h.own.keep hb (Nat.le_refl _), h.hl, (h.sto.below hb).st⟩
section
variable {ops : Array Oper} {rest : List Oper} {o : Oper} {A : Act} {w : World} {Q : Exit → Act → World → Prop}
end
theorem zIe : RT 157 3 := ⟨⟨_, Tryz.underlying157, rfl⟩, by kernel_rfl⟩
end
section
open Go.RowKit
end
section
open Go.RowKit
theorem OwnV.lt0 {base k : Nat} {e : TypeId} {w : World} {g n c : Nat} {xs : List Value} (h : OwnV base e k w (.some ⟨g, 0, none⟩) n c xs) : g < w.heap.size ∧ base ≤ g := by
 obtain ⟨g', cur, ha, hb, hlt, _⟩ := h.form (by simp)
 simp only [Option.some.injEq, Addr.mk.injEq, and_true] at ha
 subst ha
 exact ⟨hlt, hb⟩
theorem StO.kt {P : TypeId → Prop} (hP : PT P) (hs : ¬ P 125) {w w' : World} {a : Option Addr} {c : Nat} {S : List Sd} {vs : List VV} (h : StO w a c S vs) (hk : Kt P w w') : StO w' a c S vs := ⟨h.hl, h.own.kt hs hk, fun j hj => (h.st j hj).kt hP hk⟩
theorem Bk.kt {P : TypeId → Prop} {w w' : World} {b : Nat} {t : TypeId} {cs : Array Value} (h : Bk w b t cs) (ht : ¬ P t) (hk : Kt P w w') : Bk w' b t cs := hk.row b _ _ h ht
theorem Kt.sub {P P' : TypeId → Prop} {w w' : World} (h : Kt P w w') (hp : ∀ t, P t → P' t) : Kt P' w w' := ⟨h.size, fun b cs t hb ht => h.row b cs t hb fun e => ht (hp t e)⟩
def tO (t : TypeId) : Prop := t = 119
theorem zQV : PT tO := ⟨by unfold tO; decide, by unfold tO; decide, by unfold tO; decide⟩
theorem zES {gs : List GC} {x : GC} {i : Nat} (h : i < gs.length) : gA (gs ++ [x]) i = gA gs i := by unfold gA; simp [List.getD, List.getElem?_append_left h]
theorem zFk (gs : List GC) (x : GC) : gA (gs ++ [x]) gs.length = x := by unfold gA; simp [List.getD]
theorem zOw {F : List FD} {x : FD} {i : Nat} (h : i < F.length) : fA (F ++ [x]) i = fA F i := by unfold fA; simp [List.getD, List.getElem?_append_left h]
theorem zOx (F : List FD) (x : FD) : fA (F ++ [x]) F.length = x := by unfold fA; simp [List.getD]
structure FmB (B : Nat) (w : World) (a : Option Addr) (n c : Nat) (F : List FD) (gs : List GC) : Prop where
 fo : FmO w a n c F gs
 ob : OwnV B 119 9 w a n c (cF F gs)
 ge : ∀ i, i < n → B ≤ (gA gs i).1
theorem FmB.below {B : Nat} {w w' : World} {a : Option Addr} {n c : Nat} {F : List FD} {gs : List GC} (h : FmB B w a n c F gs) (hb : Below w.heap.size w w') : FmB B w' a n c F gs := ⟨h.fo.below hb, h.ob.keep hb (Nat.le_refl _), h.ge⟩
theorem FmB.snoc {B : Nat} {w w' : World} {a a' : Option Addr} {n c c' : Nat} {F : List FD} {gs : List GC} (h : FmB B w a n c F gs) {f : FD} {g gc : Nat} {vs : List VV} (hs : StO w (some ⟨g, 0, none⟩) gc f.S vs) (hg : ∀ i, i < n → (gA gs i).1 < g) (hB : B ≤ g) (hk : Kt tO w w')
  (ho : OwnV B 119 9 w' a' (n + 1) c' (cF F gs ++ fmL f (g, gc))) : FmB B w' a' (n + 1) c' (F ++ [f]) (gs ++ [(g, gc)]) := by
 have e1 : cF (F ++ [f]) (gs ++ [(g, gc)]) = cF F gs ++ fmL f (g, gc) := by
  rw [zNs F gs _ _ (by rw [h.fo.hn, h.fo.hl])]
  show cF F gs ++ (fmL f (g, gc) ++ []) = _
  rw [List.append_nil]
 have hgl := h.fo.hl
 have hfl := h.fo.hn
 refine ⟨⟨by rw [List.length_append, h.fo.hn]; rfl, by rw [List.length_append, h.fo.hl]; rfl, by rw [e1]; exact ho.weaken (Nat.zero_le _), fun i j hi hj e => ?_, fun i hi => ?_⟩, by rw [e1]; exact ho, fun i hi => ?_⟩
 ·by_cases h1 : i < n
  ·rw [zES (by omega)] at e
   by_cases h2 : j < n
   ·rw [zES (by omega)] at e
    exact h.fo.nd i j h1 h2 e
   ·obtain rfl : j = gs.length := by omega
    rw [zFk] at e
    have := hg i h1
    dsimp only at e
    omega
  ·obtain rfl : i = gs.length := by omega
   rw [zFk] at e
   by_cases h2 : j < n
   ·rw [zES (by omega)] at e
    have := hg j h2
    dsimp only at e
    omega
   ·omega
 ·by_cases h1 : i < n
  ·rw [zES (by omega), zOw (by omega)]
   obtain ⟨vs, hv⟩ := h.fo.st i h1
   exact ⟨vs, hv.kt zQV (by unfold tO; decide) hk⟩
  ·obtain rfl : i = n := by omega
   have e2 : gA (gs ++ [(g, gc)]) i = (g, gc) := by rw [← hgl]; exact zFk _ _
   have e3 : fA (F ++ [f]) i = f := by rw [← hfl]; exact zOx _ _
   rw [e2, e3]
   exact ⟨vs, hs.kt zQV (by unfold tO; decide) hk⟩
 ·by_cases h1 : i < n
  ·rw [zES (by omega)]; exact h.ge i h1
  ·obtain rfl : i = n := by omega
   have e2 : gA (gs ++ [(g, gc)]) i = (g, gc) := by rw [← hgl]; exact zFk _ _
   rw [e2]; exact hB
end
section
open Go.RowKit
end
section
open Go.RowKit
end
section
open Go.RowKit
structure KW (x : SR) (w : World) (B a b C D : Nat) (va : FV) (na : Option Addr) (nc i : Nat) (u : World) : Prop where
 bx : Bk u B 78 (srA x)
 br : Bk u (B + 1) 80 (fdA 0 none 0 0)
 ba : Bk u C 80 (fdA va.1 na va.2.length nc)
 na : NdS u na va.2.length nc va.2
 bd : N5 u D (ndF (fA x.F i) a b)
 mi : MI u x
 kx : Kx x.M w u
end
section
open Go.RowKit
section
variable {ops : Array Oper} {o : Oper} {A : Act} {w : World} {K : Act → World → Prop} {Q : Exit → Act → World → Prop} {E : Prop}
end
end
end Go.Proofs.YtcjbhdgjcpnklaaGreatDoor
