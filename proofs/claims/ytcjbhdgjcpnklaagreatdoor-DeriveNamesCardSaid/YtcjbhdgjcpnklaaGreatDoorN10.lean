import Derived.MapKept
import Derived.WideKeyRuns
import Derived.Laws.StructEq
import Derived.Test.YtcjbhdgjcpnklaaGreatDoorN07
namespace Go.Proofs.YtcjbhdgjcpnklaaGreatDoor
open Go.RowKit
def eqG (f i a b f' i' a' b' : Nat) : Bool := ((f : Int) == f') && (((i : Int) == i') && (((a : Int) == a') && ((b : Int) == b')))
theorem zHP {f i a b f' i' a' b' : Nat} : eqG f i a b f' i' a' b' = true ↔ f = f' ∧ i = i' ∧ a = a' ∧ b = b' := by
 unfold eqG
 simp only [Bool.and_eq_true, beq_iff_eq, Int.natCast_inj]
theorem zOt (f i a b f' i' a' b' : Nat) (w : World) : (Op.equal 132 (.agg (glA f i a b)) (.agg (glA f' i' a' b'))).run Tryz.prog w = .ok (eqG f i a b f' i' a' b') w := by
 show (Op.equalIn 10000 132 (.agg (glA f i a b)) (.agg (glA f' i' a' b'))).run Tryz.prog w = _
 have hu : Tryz.prog.underlying 132 = some (.struct (Tryz.prog.fieldsOf 132)) := by
  unfold Program.fieldsOf
  rw [Tryz.underlying132]
 rw [run_equalIn_struct w 9999 132 _ _ hu (by kernel_rfl)]
 unfold Program.fieldsOf
 rw [Tryz.underlying132]
 have p0 : ∀ w (a b c d : Value), (part 3 #[a, b, c, d] 0).run Tryz.prog w = .ok a w := fun _ _ _ _ _ => by kernel_rfl
 have p1 : ∀ w (a b c d : Value), (part 3 #[a, b, c, d] 1).run Tryz.prog w = .ok b w := fun _ _ _ _ _ => by kernel_rfl
 have p2 : ∀ w (a b c d : Value), (part 3 #[a, b, c, d] 2).run Tryz.prog w = .ok c w := fun _ _ _ _ _ => by kernel_rfl
 have p3 : ∀ w (a b c d : Value), (part 3 #[a, b, c, d] 3).run Tryz.prog w = .ok d w := fun _ _ _ _ _ => by kernel_rfl
 have e1 : ∀ w (a b : Int), (Op.equalIn 9999 3 (.int .i64 a) (.int .i64 b)).run Tryz.prog w = .ok (a == b) w := fun w a b => run_equalIn_int w 9998 _ _ _ a b Tryz.underlying3
 unfold glA eqG
 simp only [Op.eqFields, Sem.run_bind, Sem.run_ite, p0, p1, p2, p3, e1, Result.andThen_ok, Sem.run_pure, ne_eq, String.reduceEq, not_false_eq_true, if_true]
 cases (f : Int) == f' <;> cases (i : Int) == i' <;> cases (a : Int) == a' <;> cases (b : Int) == b' <;> rfl
def GKeys (l : List MapEntry) : Prop := ∀ e ∈ l, ∃ f i a b : Nat, e.key = .agg (glA f i a b)
theorem zER (f i a b : Nat) (w : World) : ∀ (l : List MapEntry) (n : Nat), GKeys l →
  (Instr.findAsking 132 (.agg (glA f i a b)) l n).run Tryz.prog w = .ok none w ∨ ∃ j e, (Instr.findAsking 132 (.agg (glA f i a b)) l n).run Tryz.prog w = .ok (some (n + j, e.val)) w ∧ l[j]? = some e ∧ e.key = .agg (glA f i a b)
 | [], n, _ => .inl rfl
 | e :: l, n, h => by
  obtain ⟨f', i', a', b', hk⟩ := h e (List.mem_cons_self ..)
  have he := zOt f i a b f' i' a' b' w
  cases hq : eqG f i a b f' i' a' b' with
  | true =>
   obtain ⟨rfl, rfl, rfl, rfl⟩ := zHP.1 hq
   refine .inr ⟨0, e, ?_, rfl, hk⟩
   rw [hq] at he
   unfold Instr.findAsking
   simp only [Sem.run_bind, hk, he, Result.andThen_ok, if_true, Sem.run_pure, Nat.add_zero]
  | false =>
   rw [hq] at he
   have hr : (Instr.findAsking 132 (.agg (glA f i a b)) (e :: l) n).run Tryz.prog w = (Instr.findAsking 132 (.agg (glA f i a b)) l (n + 1)).run Tryz.prog w := by
    conv => lhs; unfold Instr.findAsking
    simp only [Sem.run_bind, hk, he, Result.andThen_ok, Bool.false_eq_true, if_false]
   rcases zER f i a b w l (n + 1) (fun e he => h e (List.mem_cons_of_mem _ he)) with h1 | ⟨j, e', h1, h2, h3⟩
   ·exact .inl (by rw [hr, h1])
   ·exact .inr ⟨j + 1, e', by rw [hr, h1, show n + 1 + j = n + (j + 1) by omega], by simpa using h2, h3⟩
theorem zIc (f i a b : Nat) (em : Bool) (w : World) : (Instr.checkKey em 10000 132 (.agg (glA f i a b))).run Tryz.prog w = .ok () w := by kernel_rfl
set_option maxRecDepth 20000 in
theorem MI.look {w : World} {x : SR} (h : MI w x) (f i a b : Nat) : ∃ v ok, (Instr.lookup 76 (.map (some x.M)) (.agg (glA f i a b)) true).run Tryz.prog w = .ok (.tuple #[.agg v, .bool ok]) w ∧
  ((ok = false ∧ v = fdA 0 none 0 0) ∨ ok = true ∧ ∃ fv : FV, ∃ na nc, v = fdA fv.1 na fv.2.length nc ∧ NdS w na fv.2.length nc fv.2 ∧ Cn (DS x.L x.z x.tok x.F ((fA x.F f).S.drop i) a b) fv.1 fv.2) := by
 obtain ⟨es, cl, hb, hs⟩ := h
 have hg : GKeys es.toList := fun e he => by obtain ⟨f, i, a, b, _, _, _, hk, _⟩ := hs e he; exact ⟨f, i, a, b, hk⟩
 have hkey := zIc f i a b es.isEmpty w
 have hf := run_findKey_eq (P := Tryz.prog) (k := 132) w (by rw [Tryz.underlying132]) (.agg (glA f i a b)) es.toList
 rcases zER f i a b w es.toList 0 hg with h1 | ⟨j, e, h1, h2, h3⟩
 ·rw [h1] at hf
  refine ⟨_, false, ?_, .inl ⟨rfl, rfl⟩⟩
  simp [Instr.lookup, run_underlying Tryz.underlying76, MapKept.run_getObj_map hb, hkey, hf, Result.andThen]
  rfl
 ·rw [h1] at hf
  obtain ⟨f', i', a', b', fv, na, nc, hk, hv, hn, hc⟩ := hs e (List.mem_of_getElem? h2)
  rw [h3] at hk
  have he : eqG f i a b f' i' a' b' = true := by
   unfold glA at hk
   simp only [Value.agg.injEq, Array.mk.injEq, List.cons.injEq, Value.int.injEq, true_and, and_true, Int.natCast_inj] at hk
   exact zHP.2 hk
  obtain ⟨rfl, rfl, rfl, rfl⟩ := zHP.1 he
  refine ⟨_, true, ?_, .inr ⟨rfl, fv, na, nc, rfl, hn, hc⟩⟩
  simp [Instr.lookup, run_underlying Tryz.underlying76, MapKept.run_getObj_map hb, hkey, hf, Result.andThen, hv]
theorem zJH {es : Array MapEntry} {j : Nat} {g : MapEntry → MapEntry} {e : MapEntry} (h : e ∈ (es.modify j g).toList) : e ∈ es.toList ∨ ∃ e', e = g e' := by
 obtain ⟨n, hn, he⟩ := List.mem_iff_getElem.1 h
 rw [Array.getElem_toList, Array.getElem_modify] at he
 split at he
 ·exact .inr ⟨_, he.symm⟩
 ·exact .inl (by rw [← he]; simp)
set_option maxRecDepth 20000 in
theorem MI.put {w : World} {x : SR} (h : MI w x) (f i a b : Nat) (fv : FV) (na : Option Addr) (nc : Nat) (hn : NdS w na fv.2.length nc fv.2) (hc : Cn (DS x.L x.z x.tok x.F ((fA x.F f).S.drop i) a b) fv.1 fv.2) :
  ∃ w', (Instr.mapUpdate 76 (.map (some x.M)) (.agg (glA f i a b)) (.agg (fdA fv.1 na fv.2.length nc))).run Tryz.prog w = .ok () w' ∧ MI w' x ∧ Only x.M w w' := by
 have hm := h.isMap
 obtain ⟨es, cl, hb, hs⟩ := h
 have hg : GKeys es.toList := fun e he => by obtain ⟨f, i, a, b, _, _, _, hk, _⟩ := hs e he; exact ⟨f, i, a, b, hk⟩
 have hkey := zIc f i a b false w
 have hf := run_findKey_eq (P := Tryz.prog) (k := 132) w (by rw [Tryz.underlying132]) (.agg (glA f i a b)) es.toList
 have hput : ∀ es' cl', (∀ e ∈ Array.toList es', e ∈ es.toList ∨ (e.key = .agg (glA f i a b) ∧ e.val = .agg (fdA fv.1 na fv.2.length nc))) → MI { w with heap := w.heap.setIfInBounds x.M (.map es' cl') } x ∧ Only x.M w { w with heap := w.heap.setIfInBounds x.M (.map es' cl') } := fun es' cl' he' => by
  have ho : Only x.M w { w with heap := w.heap.setIfInBounds x.M (.map es' cl') } := ⟨rfl, rfl, rfl, by simp, fun k hk => (MapKept.heap_set hb).2 k hk⟩
  refine ⟨⟨es', cl', (MapKept.heap_set hb).1, fun e he => ?_⟩, ho⟩
  rcases he' e he with he | ⟨hk, hv⟩
  ·obtain ⟨f, i, a, b, v, na, nc, h3, h4, h5, h6⟩ := hs e he
   exact ⟨f, i, a, b, v, na, nc, h3, h4, h5.kx (Kx.only ho) hm, h6⟩
  ·exact ⟨f, i, a, b, fv, na, nc, hk, hv, hn.kx (Kx.only ho) hm, hc⟩
 rcases zER f i a b w es.toList 0 hg with h1 | ⟨j, e, h1, h2, h3⟩
 ·rw [h1] at hf
  obtain ⟨q1, q2⟩ := hput (es.push { key := .agg (glA f i a b), val := .agg (fdA fv.1 na fv.2.length nc), born := cl }) (cl + 1) fun e he => by
   rw [Array.toList_push, List.mem_append, List.mem_singleton] at he
   rcases he with he | rfl
   ·exact .inl he
   ·exact .inr ⟨rfl, rfl⟩
  refine ⟨_, ?_, q1, q2⟩
  simp [Instr.mapUpdate, run_underlying Tryz.underlying76, MapKept.run_getObj_map hb, hkey, hf, MapKept.run_setObj_map _ hb, Result.andThen]
 ·rw [h1] at hf
  rw [Nat.zero_add] at hf
  have h2' : es[j]? = some e := by rw [← Array.getElem?_toList]; exact h2
  have hsb : Instr.sameBits 10000 (.agg (glA f i a b)) (.agg (glA f i a b)) = true := by
   show Instr.sameBits (9999 + 1) (.agg (glA f i a b)) (.agg (glA f i a b)) = true
   unfold Instr.sameBits glA
   simp [Instr.sameBits]
  obtain ⟨q1, q2⟩ := hput (es.modify j fun e => { e with key := .agg (glA f i a b), val := .agg (fdA fv.1 na fv.2.length nc) }) cl fun e he => by
   rcases zJH he with he | ⟨e', rfl⟩
   ·exact .inl he
   ·exact .inr ⟨rfl, rfl⟩
  refine ⟨_, ?_, q1, q2⟩
  simp [Instr.mapUpdate, run_underlying Tryz.underlying76, MapKept.run_getObj_map hb, hkey, hf, h2', h3, Instr.keyThatStays, hsb, MapKept.run_setObj_map _ hb, Result.andThen]
end Go.Proofs.YtcjbhdgjcpnklaaGreatDoor
