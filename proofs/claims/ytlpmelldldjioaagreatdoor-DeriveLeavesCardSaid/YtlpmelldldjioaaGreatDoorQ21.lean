import Derived.MapKept
import Derived.Test.YtlpmelldldjioaaGreatDoorQ22
import Derived.Test.YtlpmelldldjioaaGreatDoorQ17
import Derived.Test.YtlpmelldldjioaaGreatDoorQ18
import Derived.Test.YtlpmelldldjioaaGreatDoorQ19
namespace Go.Proofs.YtlpmelldldjioaaGreatDoor
section
open Go.RowKit
def kvM (S : List Nm) : List (Value × Value) := S.map fun x => (Value.string (mk x), Value.bool true)
def MS (w : World) (g : Nat) (S : List Nm) : Prop := ∃ es clock, w.heap[g]? = some (.map es clock) ∧ es.toList.map (fun e => (e.key, e.val)) = kvM S
theorem beq_mk (x y : Nm) : (mk x == mk y) = (x == y) := by
 rw [Bool.eq_iff_iff, MapKept.bytes_beq, beq_iff_eq]
 exact ⟨mk_inj, fun h => by rw [h]⟩
theorem find_no {x : Nm} : ∀ (l : List MapEntry) (S : List Nm) (i : Nat), l.map (fun e => (e.key, e.val)) = kvM S → x ∉ S → Instr.findNow .string (.string (mk x)) l i = some none
 | [], _, _, _, _ => rfl
 | e :: l, [], i, h, _ => by simp [kvM] at h
 | e :: l, y :: S, i, h, hx => by
  simp only [kvM, List.map_cons, List.cons.injEq, Prod.mk.injEq] at h
  obtain ⟨⟨hk, _⟩, ht⟩ := h
  have hxy : (x == y) = false := beq_eq_false_iff_ne.2 fun e => hx (by rw [e]; exact List.mem_cons_self ..)
  unfold Instr.findNow
  rw [hk]
  simp only [Instr.sameNow, beq_mk, hxy]
  exact find_no l S (i + 1) ht fun h => hx (List.mem_cons_of_mem _ h)
theorem find_yes {x : Nm} : ∀ (l : List MapEntry) (S : List Nm) (i : Nat), l.map (fun e => (e.key, e.val)) = kvM S → x ∈ S → ∃ j, Instr.findNow .string (.string (mk x)) l i = some (some (j, .bool true)) ∧ i ≤ j ∧ j < i + l.length
 | [], S, i, h, hx => by
  cases S with
  | nil => cases hx
  | cons y S => simp [kvM] at h
 | e :: l, [], i, h, _ => by simp [kvM] at h
 | e :: l, y :: S, i, h, hx => by
  simp only [kvM, List.map_cons, List.cons.injEq, Prod.mk.injEq] at h
  obtain ⟨⟨hk, hv⟩, ht⟩ := h
  unfold Instr.findNow
  rw [hk]
  simp only [Instr.sameNow, beq_mk]
  cases hxy : (x == y) with
  | true => exact ⟨i, by simp [hv], Nat.le_refl _, by simp⟩
  | false =>
   obtain ⟨j, h1, h2, h3⟩ := find_yes l S (i + 1) ht ((List.mem_cons.1 hx).resolve_left (beq_eq_false_iff_ne.1 hxy))
   exact ⟨j, h1, by omega, by rw [List.length_cons]; omega⟩
theorem MS.new (w : World) : MS (w.alloc (.map #[] 0)) w.heap.size [] := ⟨#[], 0, heap_alloc_new w _, rfl⟩
theorem MS.lt {w : World} {g : Nat} {S : List Nm} (h : MS w g S) : g < w.heap.size := by obtain ⟨_, _, h, _⟩ := h; exact (Array.getElem?_eq_some_iff.1 h).1
theorem MS.below {w w' : World} {g : Nat} {S : List Nm} (h : MS w g S) (hb : Below w.heap.size w w') : MS w' g S := by
 have hl := h.lt
 obtain ⟨es, cl, h, h2⟩ := h
 exact ⟨es, cl, (hb.block g hl).trans h, h2⟩
theorem MS.look {w : World} {g : Nat} {S : List Nm} (h : MS w g S) (x : Nm) : (Instr.lookup 97 (.map (some g)) (.string (mk x)) false).run Tryz.prog w = .ok (.bool (S.contains x)) w := by
 obtain ⟨es, cl, hb, hs⟩ := h
 have hzv : (zeroValue 4).run Tryz.prog w = .ok (.bool false) w := by kernel_rfl
 have hck : (Instr.checkKey es.isEmpty 10000 9 (.string (mk x))).run Tryz.prog w = .ok () w := MapKept.run_checkKey (k := .string (mk x)) Tryz.underlying9 (by simp [MapKept.IsKey]) _ 9999
 by_cases hx : x ∈ S
 ·obtain ⟨j, hf, _⟩ := find_yes es.toList S 0 hs hx
  simp [Instr.lookup, run_underlying Tryz.underlying97, MapKept.run_getObj_map hb, hck, MapKept.run_findKey Tryz.underlying9 hf, Result.andThen, hx]
 ·have hf := find_no es.toList S 0 hs hx
  simp [Instr.lookup, run_underlying Tryz.underlying97, MapKept.run_getObj_map hb, hck, MapKept.run_findKey Tryz.underlying9 hf, Result.andThen, hx, hzv]
theorem MS.put {w : World} {g : Nat} {S : List Nm} (h : MS w g S) {x : Nm} (hx : x ∉ S) : ∃ w', (Instr.mapUpdate 97 (.map (some g)) (.string (mk x)) (.bool true)).run Tryz.prog w = .ok () w' ∧ MS w' g (S ++ [x]) ∧ Only g w w' := by
 obtain ⟨es, cl, hb, hs⟩ := h
 have hck : (Instr.checkKey false 10000 9 (.string (mk x))).run Tryz.prog w = .ok () w := MapKept.run_checkKey (k := .string (mk x)) Tryz.underlying9 (by simp [MapKept.IsKey]) _ 9999
 have hf := find_no es.toList S 0 hs hx
 refine ⟨{ w with heap := w.heap.setIfInBounds g (.map (es.push ⟨.string (mk x), .bool true, cl⟩) (cl + 1)) }, ?_, ⟨_, _, (MapKept.heap_set hb).1, ?_⟩, ⟨rfl, rfl, rfl, by simp, fun k hk => (MapKept.heap_set hb).2 k hk⟩⟩
 ·simp [Instr.mapUpdate, run_underlying Tryz.underlying97, MapKept.run_getObj_map hb, hck, MapKept.run_findKey Tryz.underlying9 hf, MapKept.run_setObj_map _ hb, Result.andThen]
 ·simp [kvM, hs]
theorem Ss.only {w w' : World} {g : Nat} {S P : List Nm} {a : Option Addr} {n c : Nat} (h : Ss w a n c P) (hm : MS w g S) (ho : Only g w w') : Ss w' a n c P :=
 ⟨h.hl, h.lc, h.cm, fun h0 => by
  obtain ⟨b, off, ha, hb, hc⟩ := h.at_ h0
  have hne : b ≠ g := fun e => by
   subst e
   obtain ⟨es, cl, hm, _⟩ := hm
   have h1 := hc 0 (by omega)
   have hl := h.hl
   rw [List.getElem?_eq_getElem (by omega)] at h1
   unfold World.cell? at h1
   dsimp only at h1
   rw [hm] at h1
   cases h1
  exact ⟨b, off, ha, by rw [ho.size]; exact hb, fun j hj => (World.cell?_of_block (ho.block b hne)).trans (hc j hj)⟩⟩
def allP (L : List OP) : List Nm := L.flatMap fun o => prt o.1
theorem allP_snoc {L : List OP} {k : Nat} (h : k < L.length) : allP (L.take (k + 1)) = allP (L.take k) ++ prt (opA L k).1 := by unfold allP; rw [opA_take h]; simp
def uniqB (L : List OP) : Bool := decide (allP L).Nodup
theorem pt_snoc {P : List Nm} {j : Nat} (h : j < P.length) : P.take (j + 1) = P.take j ++ [pt P j] := by rw [List.take_add_one]; unfold pt; simp [List.getD, h]
theorem uniq_no {L : List OP} {k j : Nat} (hk : k < L.length) (hj : j < (prt (opA L k).1).length) (h : pt (prt (opA L k).1) j ∈ allP (L.take k) ++ (prt (opA L k).1).take j) : uniqB L = false := by
 refine decide_eq_false fun hn => ?_
 have e : allP L = allP (L.take k) ++ (prt (opA L k).1).take j ++ (pt (prt (opA L k).1) j :: ((prt (opA L k).1).drop (j + 1) ++ allP (L.drop (k + 1)))) := by
  conv => lhs; rw [← List.take_append_drop k L, opA_drop hk]
  unfold allP
  rw [List.flatMap_append, List.flatMap_cons, List.append_assoc]
  congr 1
  conv => lhs; rw [← List.take_append_drop j (prt (opA L k).1)]
  rw [List.append_assoc]
  congr 1
  rw [List.drop_eq_getElem_cons hj, List.cons_append]
  congr 1
  unfold pt; simp [List.getD, hj]
 rw [e] at hn
 exact (List.nodup_append.1 hn).2.2 _ h _ (List.mem_cons_self ..) rfl
set_option maxRecDepth 20000 in
set_option maxHeartbeats 4000000 in
theorem uniq_any (a : Option Addr) (n c : Nat) (L : List OP) (z : List Int) (w : World) (ht : Tab w) (h : OpS w a n c L) (hn : n ≤ 1000000) (hp : ∀ o ∈ L, o.1.length ≤ 1000000) :
  Calls Tryz.prog 29 #[.agg (ev a n c z)] w fun e w' => e = .returned (.bool (uniqB L)) ∧ Below w.heap.size w w' := by
 have hlc := h.lc
 have hcm := h.cm
 unfold maxLen at hcm
 have hmm := @run_makeMap Tryz.prog
 obtain ⟨B, hB⟩ : ∃ B, B = w.heap.size := ⟨_, rfl⟩
 obtain ⟨w0, hw0⟩ : ∃ w0, w0 = w.alloc (.cells (ev a n c z) 26) := ⟨_, rfl⟩
 obtain ⟨w1, hw1⟩ : ∃ w1, w1 = w0.alloc (.map #[] 0) := ⟨_, rfl⟩
 obtain ⟨M, hM⟩ : ∃ M, M = B + 1 := ⟨_, rfl⟩
 have HB0 : Hid (Below B w w1) := hid (by rw [hw1, hw0, hB]; exact (below_alloc w _).alloc (by simp) _)
 have HM1 : Hid (MS w1 M []) := hid (by rw [hw1, show M = w0.heap.size by rw [hM, hw0, hB]; simp]; exact MS.new w0)
 have HMB : Hid (B ≤ M) := hid (by omega)
 have HT : Hid (Tab w) := hid ht
 have H0 : Hid (OpS w a n c L) := hid h
 have HL := hid (OpS.len h)
 have HP := hid hp
 have HBB := hid hB
 have e0 := ((EB.new w a n c z).alloc (.map #[] 0)).c0
 clear ht h hp
 go_enter Tryz.func29, Tryz.ntmps29
 go_wp2
 rw [← hw0, ← hw1, ← hB, ← hM]
 clear hw0 hw1 hB hM e0 hmm
 go_loopw [12] (fun v wr => ∃ k : Nat, v = .int .i64 k ∧ k ≤ n ∧ Hid (MS wr M (allP (L.take k))) ∧ Hid (allP (L.take k)).Nodup ∧ Hid (Below B w wr)) (fun v _ => n - (intOf v).toNat)
 case atStart => exact ⟨0, rfl, Nat.zero_le _, HM1, hid List.nodup_nil, HB0⟩
 case round =>
  obtain ⟨k, rfl, hk, HM, HN, HB⟩ := hrel
  by_cases hlt : k < n
  ·have hs := H0.out.below (HBB.out ▸ HB.out)
   obtain ⟨b, off, rfl, _, hc⟩ := hs.at_ (by omega)
   clear hc
   obtain ⟨c0, c1, c2⟩ := OpS.at3 hs hlt
   obtain ⟨o, ho⟩ : ∃ o, o = opA L k := ⟨_, rfl⟩
   have HPo : Hid (o.1.length ≤ 1000000) := hid (by rw [ho]; exact HP.out _ (opA_mem (by rw [HL.out]; exact hlt)))
   have HOA := hid ho
   rw [← ho] at c0 c1 c2
   clear hs ho
   obtain ⟨p, g, s⟩ := o
   dsimp only at c0 c1 c2
   obtain ⟨w2, hw2⟩ : ∃ w2, w2 = wr.alloc (.cells #[.string (mk p), .int .i64 g, .int .i64 s] 51) := ⟨_, rfl⟩
   obtain ⟨D, hD⟩ : ∃ D, D = wr.heap.size := ⟨_, rfl⟩
   have hD2 : D3 w2 D (p, g, s) := by rw [hw2, hD]; exact D3.new wr (p, g, s)
   have HB2 : Hid (Below B w w2) := hid (by rw [hw2]; exact HB.out.alloc (by have := HB.out.size; have := HBB.out; omega) _)
   have HM2 : Hid (MS w2 M (allP (L.take k))) := hid (by rw [hw2]; exact HM.out.below (below_alloc _ _))
   have HT2 : Hid (Tab w2) := hid (HT.out.keep (HBB.out ▸ HB2.out))
   obtain ⟨d0, d1, d2⟩ := hD2.cells
   dsimp only at d0 d1 d2
   clear hD2
   go_wp2_with fail
   rw [← hw2, ← hD]
   clear hw2 hD c0 c1 c2
   refine (parts_any p g s w2 HT2.out HPo.out).mono ?_
   rintro e w3 ⟨sa, sn, sc, rfl, hps, hb3⟩
   have HB3 : Hid (Below B w w3) := hid (HB2.out.trans (hb3.mono (by have := HB2.out.size; have := HBB.out; omega)))
   have HM3 : Hid (MS w3 M (allP (L.take k) ++ (prt p).take 0)) := hid (by rw [List.take_zero, List.append_nil]; exact HM2.out.below hb3)
   have HSP := hid hps
   have HPL := hid (Ss.len hps)
   have hsn4 : sn ≤ 4 := by have := HPL.out; have := prt_len p; omega
   have HN3 : Hid (allP (L.take k) ++ (prt p).take 0).Nodup := hid (by rw [List.take_zero, List.append_nil]; exact HN.out)
   have HEND : Hid (allP (L.take (k + 1)) = allP (L.take k) ++ (prt p).take sn) := hid (by rw [allP_snoc (by rw [HL.out]; exact hlt), ← HOA.out, List.take_of_length_le (l := prt p) (i := sn) (by rw [HPL.out]; exact Nat.le_refl _)])
   clear hps hb3 d0 d1 d2
   go_wp2
   go_loopw [19] (fun v wq => ∃ j : Nat, v = .int .i64 j ∧ j ≤ sn ∧ Hid (MS wq M (allP (L.take k) ++ (prt p).take j)) ∧ Hid (allP (L.take k) ++ (prt p).take j).Nodup ∧ Hid (Ss wq sa sn sc (prt p)) ∧ Hid (Below B w wq)) (fun v _ => sn - (intOf v).toNat)
   case atStart => exact ⟨0, rfl, Nat.zero_le _, HM3, HN3, HSP, HB3⟩
   case round =>
    rename World => wq
    obtain ⟨j, rfl, hj, HMq, HNq, HSq, HBq⟩ := hrel
    by_cases hjl : j < sn
    ·obtain ⟨bs, os, rfl, _, hc⟩ := HSq.out.at_ (by omega)
     clear hc
     have c0 := Ss.str HSq.out hjl
     obtain ⟨x, hx⟩ : ∃ x, x = pt (prt p) j := ⟨_, rfl⟩
     rw [← hx] at c0
     have HX := hid hx
     clear hx
     have hlk := HMq.out.look x
     cases hcn : (allP (L.take k) ++ (prt p).take j).contains x with
     | true =>
      rw [hcn] at hlk
      have HU : Hid (uniqB L = false) := hid (uniq_no (k := k) (j := j) (by rw [HL.out]; exact hlt) (by rw [← HOA.out, HPL.out]; exact hjl) (by rw [← HOA.out, ← HX.out]; simpa using hcn))
      clear hcn
      go_wp2
      go_ret
      exact ⟨by rw [HU.out]; rfl, by rw [← HBB.out]; exact HBq.out⟩
     | false =>
      rw [hcn] at hlk
      have hni : x ∉ allP (L.take k) ++ (prt p).take j := by
       intro h
       rw [List.contains_iff_mem.2 h] at hcn
       cases hcn
      obtain ⟨w5, hput, hm5, ho5⟩ := HMq.out.put hni
      have HEQ : Hid (allP (L.take k) ++ (prt p).take j ++ [x] = allP (L.take k) ++ (prt p).take (j + 1)) := hid (by rw [pt_snoc (by rw [HPL.out]; exact hjl), ← HX.out, List.append_assoc])
      have HM5 : Hid (MS w5 M (allP (L.take k) ++ (prt p).take (j + 1))) := hid (by rw [← HEQ.out]; exact hm5)
      have HN5 : Hid (allP (L.take k) ++ (prt p).take (j + 1)).Nodup := hid (by
       rw [← HEQ.out, List.nodup_append]
       exact ⟨HNq.out, List.nodup_cons.2 ⟨by simp, List.nodup_nil⟩, fun u hu v hv e => hni (by rw [List.mem_singleton.1 hv] at e; rw [← e]; exact hu)⟩)
      have HS5 := hid (Ss.only HSq.out HMq.out ho5)
      have HB5 := hid (HBq.out.trans (ho5.below HMB.out))
      clear hm5 ho5 hni hcn
      go_wp2
      go_roundw
      case rel => exact ⟨j + 1, by go_num, by omega, HM5, HN5, HS5, HB5⟩
      case measure => simp [intOf]; omega
    ·have HJ : Hid (j = sn) := hid (by omega)
     have HME : Hid (MS wq M (allP (L.take (k + 1)))) := hid (by rw [HEND.out, ← HJ.out]; exact HMq.out)
     have HNE : Hid (allP (L.take (k + 1))).Nodup := hid (by rw [HEND.out, ← HJ.out]; exact HNq.out)
     go_wp2
     go_roundw
     case rel => exact ⟨k + 1, by go_num, by omega, HME, HNE, HBq⟩
     case measure => simp [intOf]; omega
  ·have HU : Hid (uniqB L = true) := hid (by unfold uniqB; have := HN.out; rw [List.take_of_length_le (by rw [HL.out]; omega)] at this; exact decide_eq_true this)
   go_wp2
   go_ret
   exact ⟨by rw [HU.out]; rfl, by rw [← HBB.out]; exact HB.out⟩
end
section
open Go.RowKit Go.ChangeMaps
theorem MS.keep {w w' : World} {g B : Nat} {S : List Nm} (h : MS w g S) (hb : Below B w w') (hg : g < B) : MS w' g S := by
 obtain ⟨es, cl, h, h2⟩ := h
 exact ⟨es, cl, (hb.block g hg).trans h, h2⟩
theorem MS.alloc {w : World} {g : Nat} {S : List Nm} (h : MS w g S) (o : Obj) : MS (w.alloc o) g S := h.below (below_alloc w o)
theorem MS.len {w : World} {g : Nat} {S : List Nm} (h : MS w g S) (ty : TypeId) : (Builtin.len_ #[97] ty #[.map (some g)]).run Tryz.prog w = .ok (goInt S.length) w := by
 obtain ⟨es, cl, hb, hs⟩ := h
 have hl : es.size = S.length := by have := congrArg List.length hs; simpa [kvM] using this
 simp [Builtin.len_, run_underlying Tryz.underlying97, MapKept.run_getObj_map hb, Result.andThen, hl]
def fk (L : List OP) (p : Nm) (k : Nat) : Bool := (L.take k).any fun o => o.1 == p
def drpE (L : List OP) (p : Nm) : Int := match drpI L p with
 | none => 2
 | some _ => 0
def drpZ (L : List OP) (z : List Int) (p : Nm) : List Int := if drpE L p = 0 then z else z0
end
section
open Go.RowKit
theorem eV_rng {z : List Int} (hr : ∀ i, i < 10 → I64 (bt z i)) (g h : Int) : ∀ i, i < 10 → I64 (bt (eV z g h) i) := by
 intro i hi
 unfold eV
 split
 ·rw [eR, eTo_at _ _ _ _ hi, if_pos hi]; exact eRow_rng hr _ _ hi
 ·have : ∀ i, i < 10 → I64 (bt z0 i) := by unfold I64; decide +kernel
  exact this i hi
theorem run_build {o : Oper} {A : Act} (x y : Operand) (ho : o.op = .build 26 #[(0, x), (1, y)]) (a : Option Addr) (n c : Nat) (z : List Int) (hz : z.length = 10) (hx : A.eval x = .slice a n c) (hy : A.eval y = .agg (rv z)) (w : World) : (execOp A.eval o).run Tryz.prog w = .ok (.value (.agg (ev a n c z))) w := by
 have hb := built_env a n c hz w
 unfold execOp
 simp only [ho, List.map_toArray, List.map_cons, List.map_nil, hx, hy, hb, Sem.run_bind, Result.andThen_ok, Sem.run_pure]
theorem EB.clash {w : World} {b : Nat} {a : Option Addr} {n c : Nat} {z z' : List Int} (h : EB w b a n c z) (h' : RB w b z') : False := by
 unfold EB at h
 unfold RB at h'
 rw [h] at h'
 simp only [Option.some.injEq, Obj.cells.injEq] at h'
 exact absurd h'.2.1 (by decide)
set_option maxRecDepth 20000 in
set_option maxHeartbeats 8000000 in
theorem renvEdge_any (a : Option Addr) (n c : Nat) (L : List OP) (z : List Int) (g h : Int) (w : World) (hs : OpS w a n c L) (hz : z.length = 10) (hn : n ≤ 1000000) :
  Calls Tryz.prog 53 #[.agg (ev a n c z), .int .i64 g, .int .i64 h] w fun e w' => ∃ a' n' c', e = .returned (.tuple #[.agg (ev a' n' c' (eV z g h)), .int .i64 (eE z g h)]) ∧ OwnO w.heap.size w' a' n' c' (if eE z g h = 0 then L else []) ∧ Below w.heap.size w w' := by
 obtain ⟨B, hB⟩ : ∃ B, B = w.heap.size := ⟨_, rfl⟩
 obtain ⟨w1, hw1⟩ : ∃ w1, w1 = w.alloc (.cells (ev a n c z) 26) := ⟨_, rfl⟩
 obtain ⟨w2, hw2⟩ : ∃ w2, w2 = w1.alloc (.cells #[.slice none 0 0, .int .i64 0, .int .i64 0, .int .i64 0, .int .i64 0, .int .i64 0, .int .i64 0, .int .i64 0, .int .i64 0, .int .i64 0, .int .i64 0] 26) := ⟨_, rfl⟩
 have s1 : w1.heap.size = B + 1 := by rw [hw1, hB]; simp
 have HE2 : Hid (EB w2 B a n c z) := hid (by rw [hw2, hw1, hB]; exact (EB.new w a n c z).alloc _)
 have HR2 : Hid (EB w2 (B + 1) none 0 0 z0) := hid (by rw [hw2, ← s1, ← ev_zero]; exact EB.new w1 none 0 0 z0)
 have HB2 : Hid (Below B w w2) := hid (by rw [hw2, hw1, hB]; exact ((Below.refl _ _).alloc (Nat.le_refl _) _).alloc (by simp) _)
 have HS2 : Hid (B + 1 < w2.heap.size) := hid HR2.out.lt
 have H2 : Hid (OpS w2 a n c L) := hid (hs.below (hB ▸ HB2.out))
 have hlc := hs.lc
 have hcm := hs.cm
 unfold maxLen at hcm
 have HZ := hid hz
 have HBB := hid hB
 have he1 := (EB.new w a n c z).alloc (.cells #[.slice none 0 0, .int .i64 0, .int .i64 0, .int .i64 0, .int .i64 0, .int .i64 0, .int .i64 0, .int .i64 0, .int .i64 0, .int .i64 0, .int .i64 0] 26)
 have KE : Hid (∀ w', Calls Tryz.prog 85 #[.agg (rv z), .int .i64 g, .int .i64 h] w' fun e w'' => e = .returned (.tuple #[.agg (rv (eV z g h)), .int .i64 (eE z g h)]) ∧ Below w'.heap.size w' w'') := hid fun w' => redge_any z hz g h w'
 have HZV := hid (eV_len z g h)
 have HV0 : Hid (eE z g h ≠ 0 → eV z g h = z0) := hid fun h0 => by unfold eV; rw [if_neg h0]
 obtain ⟨V, hV⟩ : ∃ V, V = eE z g h := ⟨_, rfl⟩
 obtain ⟨Z, hZ⟩ : ∃ Z, Z = eV z g h := ⟨_, rfl⟩
 rw [← hV, ← hZ] at KE HV0 ⊢
 rw [← hZ] at HZV
 clear hs hz s1 hV hZ
 go_enter Tryz.func53, Tryz.ntmps53
 go_wp2_with (refine load_er rfl (.tmp 11) rfl _ rfl a n c z HZ.out he1 ?_)
 rw [← hw1, ← hw2, ← hB]
 clear hw1 hw2 hB he1
 refine (KE.out w2).mono ?_
 rintro e w3 ⟨rfl, hb3⟩
 have HE3 := hid (HE2.out.below hb3)
 have HR3 := hid (HR2.out.below hb3)
 have H3 := hid (H2.out.below hb3)
 have HB3 : Hid (Below B w w3) := hid (HB2.out.trans (hb3.mono (by have := HS2.out; omega)))
 have HS3 : Hid (B + 1 < w3.heap.size) := hid HR3.out.lt
 clear hb3
 obtain ⟨R, hR⟩ : ∃ R, R = w3.heap.size := ⟨_, rfl⟩
 have hrn : RB (w3.alloc (.cells #[.int .i64 0, .int .i64 0, .int .i64 0, .int .i64 0, .int .i64 0, .int .i64 0, .int .i64 0, .int .i64 0, .int .i64 0, .int .i64 0] 24)) w3.heap.size z0 := RB.new w3 z0
 by_cases h0 : V = 0
 case neg =>
  have hbu : ∀ w, (Instr.build 26 #[]).run Tryz.prog w = .ok (.agg (ev none 0 0 z0)) w := fun w => built_none w
  have HVZ : Hid (Z = z0) := hid (HV0.out h0)
  go_wp2_with (first
   | (refine store_env rfl (.tmp 6) (.tmp 20) rfl (B + 1) rfl none 0 0 z0 rfl rfl none 0 0 z0 z0_len HR4.out ?_; intro w5 he5 ho5; have HE5 := hid he5; have HO5 := hid ho5; clear he5 ho5)
   | (refine store_rows rfl (.tmp 8) (.tmp 16) rfl _ rfl Z rfl HZV.out z0 z0_len hrn ?_; intro w4 hr4 ho4; rw [← hR] at hr4 ho4; have HO4 := hid ho4; have HR4 : Hid (EB w4 (B + 1) none 0 0 z0) := hid ((HR3.out.alloc _).only ho4 (by have := HS3.out; omega)); clear hr4 ho4))
  refine bodyPost_ret (ret_envp rfl _ _ (B + 1) none 0 0 z0 z0_len rfl HE5.out) rfl ⟨none, 0, 0, by rw [HVZ.out]; rfl, (by first | (rw [if_neg h0]; exact OwnV.none0) | exact OwnV.none0), ?_⟩
  rw [← HBB.out]
  exact ((HB3.out.alloc (by have := HS3.out; omega) _).trans (HO4.out.below (by have := HS3.out; omega))).trans (HO5.out.below (by omega))
 subst h0
 go_wp2_with (refine store_rows rfl (.tmp 8) (.tmp 16) rfl _ rfl Z rfl HZV.out z0 z0_len hrn ?_; intro w4 hr4 ho4)
 rw [← hR] at hr4 ho4 ⊢
 have HR4 := hid hr4
 have HE4 : Hid (EB w4 B a n c z) := hid ((HE3.out.alloc _).only ho4 (by have := HS3.out; omega))
 have HX4 : Hid (EB w4 (B + 1) none 0 0 z0) := hid ((HR3.out.alloc _).only ho4 (by have := HS3.out; omega))
 have HB4 : Hid (Below B w w4) := hid ((HB3.out.alloc (by have := HS3.out; omega) _).trans (ho4.below (by have := HS3.out; omega)))
 have H4 : Hid (OpS w4 a n c L) := hid (H3.out.below ((below_alloc w3 _).trans (ho4.below (by rw [hR]; exact Nat.le_refl _))))
 have HS4 : Hid (B + 1 < w4.heap.size) := hid HX4.out.lt
 have HKS : Hid (∀ w', Below w4.heap.size w4 w' → w'.cell? ⟨B, 0, none⟩ = some (.slice a n c) ∧ RB w' R Z) := hid fun w' h => ⟨(HE4.out.below h).c0, HR4.out.keep h HR4.out.lt⟩
 clear hr4 ho4 hR hrn
 refine wp_region_noPanic ?_
 refine wp_region_held_drew (S := fun w' => w'.cell? ⟨B, 0, none⟩ = some (.slice a n c) ∧ RB w' R Z) (by kernel_rfl) (HKS.out _ (Below.refl _ _).drew) (fun hHeld => ?_)
 refine hTk 1 (v := ?_) rfl (by kernel_rfl) (fun _ _ _ h => h) (by rfl) ?_ (by assumption) ?_
 rotate_left
 ·intro w' hSw
  try dsimp only at hSw
  go_simp
  try with_reducible rfl
 try simp only [Act.put, aS, aZ, aC]
 refine hTk 2 (v := ?_) rfl (by kernel_rfl) (fun _ _ _ h => h) (by rfl) ?_ (by assumption) ?_
 rotate_left
 ·intro w' hSw
  try dsimp only at hSw
  go_simp
  try with_reducible rfl
 try simp only [Act.put, aS, aZ, aC]
 refine take_rows (i := 4) (oi := { dst := some 26, op := Op.load 24 (Operand.tmp 8), type := 24, pos := "ref.go:50", after := #[], guard := none }) (Operand.tmp 8) rfl (by kernel_rfl) (by kernel_rfl) (by kernel_rfl) (Z) (fun _ _ _ h => h) (by rfl) rfl (R) rfl (HZV.out) (fun _ h => h.2) (by assumption) ?_
 try simp only [Act.put, aS, aZ, aC]
 refine wpAnyH_ready (rs := [0]) (by kernel_rfl) (by simp) ?_
 refine hDo rfl (fun K hK => ?_) ?_
 ·go_simp
  refine hK.out _ _ (HKS.out _ (by first | exact (Below.refl _ _).drew.alloc (Nat.le_refl _) _ | exact ((Below.refl _ _).alloc (Nat.le_refl _) _).drew)) (fun hHeld => ?_)
  clear hK K
  try simp only [Act.put, aS, aZ, aC]
  refine wpAnyH_ready (rs := [3]) (by kernel_rfl) (by simp) ?_
  refine hDo rfl (fun K hK => ?_) ?_
  ·refine step_appv rfl (.tmp 22) (.tmp 24) 22 rfl 51 w4.heap.size 3 32 _ Tryz.underlying22 op_info rfl (by omega) _ 0 _ [] rfl (OwnV.emptyAt (by first | exact heap_alloc_new w4 _ | exact heap_alloc_new w4.drew _) (Nat.le_refl _)) _ n _ (cO L) rfl (H4.out.below (by first | exact (Below.refl _ _).drew.alloc (Nat.le_refl _) _ | exact ((Below.refl _ _).alloc (Nat.le_refl _) _).drew)) (cO_one L) (by unfold maxLen; omega) (by omega) (by simp) ?_
   intro a5 c5 w5 ho5 hg5 hb5 _
   rw [Nat.zero_add, List.nil_append] at ho5
   rw [Nat.zero_add]
   have hb5x : Below w4.heap.size w4 w5 := Below.trans (by first | exact (Below.refl _ _).drew.alloc (Nat.le_refl _) _ | exact ((Below.refl _ _).alloc (Nat.le_refl _) _).drew) hb5
   have HO5 : Hid (OwnO w4.heap.size w5 a5 n c5 L) := hid ho5
   have HB5 : Hid (Below w4.heap.size w4 w5) := hid hb5x
   have HX5 := hid (HX4.out.below hb5x)
   clear ho5 hg5 hb5 hb5x
   refine hK.out _ _ (HKS.out _ HB5.out) (fun hHeld => ?_)
   clear hK K
   try simp only [Act.put, aS, aZ, aC]
   refine hTk 5 (v := .agg (ev a5 n c5 (Z))) rfl (by kernel_rfl) (fun _ _ _ h => h) (by rfl) (fun w0 _ => run_build (Operand.tmp 25) (Operand.tmp 26) rfl a5 n c5 (Z) (HZV.out) rfl rfl w0) (by assumption) ?_
   try simp only [Act.put, aS, aZ, aC]
   refine wpAnyH_ready (rs := [6]) (by kernel_rfl) (by simp) ?_
   refine hDo rfl (fun K hK => ?_) ?_
   ·refine step_store_env rfl (.tmp 6) (.tmp 27) rfl (B + 1) rfl a5 n c5 Z rfl HZV.out none 0 0 z0 z0_len HX5.out ?_
    intro w6 he6 hq6
    have HE6 := hid he6
    have HQ6 := hid hq6
    clear he6 hq6
    refine hK.out _ _ (⟨(EB.only (HE4.out.below HB5.out) HQ6.out (by omega)).c0, HQ6.out.rows (fun e => HX5.out.clash (e ▸ (HKS.out _ HB5.out).2)) (HKS.out _ HB5.out).2⟩) (fun hHeld => ?_)
    clear hK K
    try simp only [Act.put]
    refine hTk 7 (v := ?_) rfl (by kernel_rfl) (fun _ _ _ h => h) (by rfl) ?_ (by assumption) ?_
    rotate_left
    ·intro w' hSw
     try dsimp only at hSw
     go_simp
     try with_reducible rfl
    try simp only [Act.put, aS, aZ, aC]
    refine wpAnyH_done (by kernel_rfl) ?_ _
    refine NoPanic.normal ?_
    go_wp2
    refine bodyPost_ret (ret_envp rfl _ _ (B + 1) a5 n c5 Z HZV.out rfl HE6.out) rfl ⟨a5, n, c5, rfl, ?_, ?_⟩
    ·try rw [if_pos rfl]
     exact (ownO_env HO5.out HX5.out HQ6.out).weak (by have := HS4.out; have := HBB.out; omega)
    ·rw [← HBB.out]
     exact (HB4.out.trans (HB5.out.mono (by have := HS4.out; omega))).trans (HQ6.out.below (by omega))
   ·exact AllReadyH.nil
  ·exact AllReadyH.nil
 ·exact AllReadyH.nil
end
end Go.Proofs.YtlpmelldldjioaaGreatDoor
