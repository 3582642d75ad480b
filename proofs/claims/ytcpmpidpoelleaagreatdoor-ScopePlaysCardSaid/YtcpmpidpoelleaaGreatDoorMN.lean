/- Texts laid one behind the other. -/
import Derived.Test.YtcpmpidpoelleaaGreatDoorMK
import Derived.MapKept
import Derived.Test.YtcpmpidpoelleaaGreatDoorML

/- A map of texts to true, of the call's own: what is in it; env.Unique. -/
namespace Go.Proofs.YtcpmpidpoelleaaGreatDoor
open Go.RowKit

def kvM (S : List Nm) : List (Value × Value) := S.map fun x => (Value.string (mk x), Value.bool true)
/-- The block g holds a map with true at each of these. -/
def MS (w : World) (g : Nat) (S : List Nm) : Prop := ∃ es clock, w.heap[g]? = some (.map es clock) ∧ es.toList.map (fun e => (e.key, e.val)) = kvM S

theorem beq_mk (x y : Nm) : (mk x == mk y) = (x == y) := by
  rw [Bool.eq_iff_iff, MapKept.bytes_beq, beq_iff_eq]
  exact ⟨mk_inj, fun h => by rw [h]⟩
theorem find_no {x : Nm} : ∀ (l : List MapEntry) (S : List Nm) (i : Nat), l.map (fun e => (e.key, e.val)) = kvM S → x ∉ S → Instr.findNow .string (.string (mk x)) l i = some none
  | [], _, _, _, _ => rfl
  | e :: l, [], i, h, _ => by simp [kvM] at h
  | e :: l, y :: S, i, h, hx => by
    simp only [kvM, List.map_cons, List.cons.injEq, Prod.mk.injEq] at h
    obtain ⟨⟨hk, _⟩, ht⟩ := h
    have hxy : (x == y) = false := beq_eq_false_iff_ne.2 fun e => hx (by rw [e]; exact List.mem_cons_self ..)
    unfold Instr.findNow
    rw [hk]
    simp only [Instr.sameNow, beq_mk, hxy]
    exact find_no l S (i + 1) ht fun h => hx (List.mem_cons_of_mem _ h)
theorem find_yes {x : Nm} : ∀ (l : List MapEntry) (S : List Nm) (i : Nat), l.map (fun e => (e.key, e.val)) = kvM S → x ∈ S → ∃ j, Instr.findNow .string (.string (mk x)) l i = some (some (j, .bool true)) ∧ i ≤ j ∧ j < i + l.length
  | [], S, i, h, hx => by
    cases S with
    | nil => cases hx
    | cons y S => simp [kvM] at h
  | e :: l, [], i, h, _ => by simp [kvM] at h
  | e :: l, y :: S, i, h, hx => by
    simp only [kvM, List.map_cons, List.cons.injEq, Prod.mk.injEq] at h
    obtain ⟨⟨hk, hv⟩, ht⟩ := h
    unfold Instr.findNow
    rw [hk]
    simp only [Instr.sameNow, beq_mk]
    cases hxy : (x == y) with
    | true => exact ⟨i, by simp [hv], Nat.le_refl _, by simp⟩
    | false =>
      obtain ⟨j, h1, h2, h3⟩ := find_yes l S (i + 1) ht ((List.mem_cons.1 hx).resolve_left (beq_eq_false_iff_ne.1 hxy))
      exact ⟨j, h1, by omega, by rw [List.length_cons]; omega⟩

theorem MS.new (w : World) : MS (w.alloc (.map #[] 0)) w.heap.size [] := ⟨#[], 0, heap_alloc_new w _, rfl⟩
theorem MS.lt {w : World} {g : Nat} {S : List Nm} (h : MS w g S) : g < w.heap.size := by obtain ⟨_, _, h, _⟩ := h; exact (Array.getElem?_eq_some_iff.1 h).1
theorem MS.below {w w' : World} {g : Nat} {S : List Nm} (h : MS w g S) (hb : Below w.heap.size w w') : MS w' g S := by
  have hl := h.lt
  obtain ⟨es, cl, h, h2⟩ := h
  exact ⟨es, cl, (hb.block g hl).trans h, h2⟩
theorem MS.look {w : World} {g : Nat} {S : List Nm} (h : MS w g S) (x : Nm) : (Instr.lookup 70 (.map (some g)) (.string (mk x)) false).run Tryz.prog w = .ok (.bool (S.contains x)) w := by
  obtain ⟨es, cl, hb, hs⟩ := h
  have hzv : (zeroValue 4).run Tryz.prog w = .ok (.bool false) w := by kernel_rfl
  have hck : (Instr.checkKey es.isEmpty 10000 9 (.string (mk x))).run Tryz.prog w = .ok () w := MapKept.run_checkKey (k := .string (mk x)) Tryz.underlying9 (by simp [MapKept.IsKey]) _ 9999
  by_cases hx : x ∈ S
  · obtain ⟨j, hf, _⟩ := find_yes es.toList S 0 hs hx
    simp [Instr.lookup, run_underlying Tryz.underlying70, MapKept.run_getObj_map hb, hck, MapKept.run_findKey Tryz.underlying9 hf, Result.andThen, hx]
  · have hf := find_no es.toList S 0 hs hx
    simp [Instr.lookup, run_underlying Tryz.underlying70, MapKept.run_getObj_map hb, hck, MapKept.run_findKey Tryz.underlying9 hf, Result.andThen, hx, hzv]
theorem MS.put {w : World} {g : Nat} {S : List Nm} (h : MS w g S) {x : Nm} (hx : x ∉ S) : ∃ w', (Instr.mapUpdate 70 (.map (some g)) (.string (mk x)) (.bool true)).run Tryz.prog w = .ok () w' ∧ MS w' g (S ++ [x]) ∧ Only g w w' := by
  obtain ⟨es, cl, hb, hs⟩ := h
  have hck : (Instr.checkKey false 10000 9 (.string (mk x))).run Tryz.prog w = .ok () w := MapKept.run_checkKey (k := .string (mk x)) Tryz.underlying9 (by simp [MapKept.IsKey]) _ 9999
  have hf := find_no es.toList S 0 hs hx
  refine ⟨{ w with heap := w.heap.setIfInBounds g (.map (es.push ⟨.string (mk x), .bool true, cl⟩) (cl + 1)) }, ?_, ⟨_, _, (MapKept.heap_set hb).1, ?_⟩, ⟨rfl, rfl, rfl, by simp, fun k hk => (MapKept.heap_set hb).2 k hk⟩⟩
  · simp [Instr.mapUpdate, run_underlying Tryz.underlying70, MapKept.run_getObj_map hb, hck, MapKept.run_findKey Tryz.underlying9 hf, MapKept.run_setObj_map _ hb, Result.andThen]
  · simp [kvM, hs]

/-- Texts that are read are not in the map's block. -/
theorem Ss.only {w w' : World} {g : Nat} {S P : List Nm} {a : Option Addr} {n c : Nat} (h : Ss w a n c P) (hm : MS w g S) (ho : Only g w w') : Ss w' a n c P :=
  ⟨h.hl, h.lc, h.cm, fun h0 => by
    obtain ⟨b, off, ha, hb, hc⟩ := h.at_ h0
    have hne : b ≠ g := fun e => by
      subst e
      obtain ⟨es, cl, hm, _⟩ := hm
      have h1 := hc 0 (by omega)
      have hl := h.hl
      rw [List.getElem?_eq_getElem (by omega)] at h1
      unfold World.cell? at h1
      dsimp only at h1
      rw [hm] at h1
      cases h1
    exact ⟨b, off, ha, by rw [ho.size]; exact hb, fun j hj => (World.cell?_of_block (ho.block b hne)).trans (hc j hj)⟩⟩

/-! ### env.Unique -/

def allP (L : List OP) : List Nm := L.flatMap fun o => prt o.1
theorem allP_snoc {L : List OP} {k : Nat} (h : k < L.length) : allP (L.take (k + 1)) = allP (L.take k) ++ prt (opA L k).1 := by unfold allP; rw [opA_take h]; simp
def uniqB (L : List OP) : Bool := decide (allP L).Nodup
theorem pt_snoc {P : List Nm} {j : Nat} (h : j < P.length) : P.take (j + 1) = P.take j ++ [pt P j] := by rw [List.take_add_one]; unfold pt; simp [List.getD, h]
theorem uniq_no {L : List OP} {k j : Nat} (hk : k < L.length) (hj : j < (prt (opA L k).1).length) (h : pt (prt (opA L k).1) j ∈ allP (L.take k) ++ (prt (opA L k).1).take j) : uniqB L = false := by
  refine decide_eq_false fun hn => ?_
  have e : allP L = allP (L.take k) ++ (prt (opA L k).1).take j ++ (pt (prt (opA L k).1) j :: ((prt (opA L k).1).drop (j + 1) ++ allP (L.drop (k + 1)))) := by
    conv => lhs; rw [← List.take_append_drop k L, opA_drop hk]
    unfold allP
    rw [List.flatMap_append, List.flatMap_cons, List.append_assoc]
    congr 1
    conv => lhs; rw [← List.take_append_drop j (prt (opA L k).1)]
    rw [List.append_assoc]
    congr 1
    rw [List.drop_eq_getElem_cons hj, List.cons_append]
    congr 1
    unfold pt; simp [List.getD, hj]
  rw [e] at hn
  exact (List.nodup_append.1 hn).2.2 _ h _ (List.mem_cons_self ..) rfl

end Go.Proofs.YtcpmpidpoelleaaGreatDoor

/- env.Drop. -/
namespace Go.Proofs.YtcpmpidpoelleaaGreatDoor
open Go.RowKit Go.ChangeMaps

/-! ### The map of what is due -/

theorem MS.keep {w w' : World} {g B : Nat} {S : List Nm} (h : MS w g S) (hb : Below B w w') (hg : g < B) : MS w' g S := by
  obtain ⟨es, cl, h, h2⟩ := h
  exact ⟨es, cl, (hb.block g hg).trans h, h2⟩
theorem MS.alloc {w : World} {g : Nat} {S : List Nm} (h : MS w g S) (o : Obj) : MS (w.alloc o) g S := h.below (below_alloc w o)
theorem ms_one (w : World) (p : Nm) : MS (w.alloc (.map #[⟨.string (mk p), .bool true, 0⟩] 1)) w.heap.size [p] := ⟨_, _, heap_alloc_new w _, rfl⟩
theorem ins_one (w : World) (p : Nm) : (Instr.mapUpdate 70 (.map (some w.heap.size)) (.string (mk p)) (.bool true)).run Tryz.prog (w.alloc (.map #[] 0)) = .ok () (w.alloc (.map #[⟨.string (mk p), .bool true, 0⟩] 1)) := by
  have hb : (w.alloc (.map #[] 0)).heap[w.heap.size]? = some (.map #[] 0) := heap_alloc_new w _
  have hck : (Instr.checkKey false 10000 9 (.string (mk p))).run Tryz.prog (w.alloc (.map #[] 0)) = .ok () (w.alloc (.map #[] 0)) := MapKept.run_checkKey (k := .string (mk p)) Tryz.underlying9 (by simp [MapKept.IsKey]) _ 9999
  have hf : Instr.findNow .string (.string (mk p)) (#[] : Array MapEntry).toList 0 = some none := rfl
  have hz := map_set w (.map #[] 0) (.map #[⟨.string (mk p), .bool true, 0⟩] 1)
  unfold setBlock at hz
  simp [Instr.mapUpdate, run_underlying Tryz.underlying70, MapKept.run_getObj_map hb, hck, MapKept.run_findKey Tryz.underlying9 hf, MapKept.run_setObj_map _ hb, Result.andThen]
  exact hz
theorem MS.del {w : World} {g : Nat} {p : Nm} (h : MS w g [p]) (ty : TypeId) : ∃ w', (Builtin.delete_ #[70, 9] ty #[.map (some g), .string (mk p)]).run Tryz.prog w = .ok (.tuple #[]) w' ∧ MS w' g [] ∧ Only g w w' := by
  obtain ⟨es, cl, hb, hs⟩ := h
  have hck : (Instr.checkKey es.isEmpty 10000 9 (.string (mk p))).run Tryz.prog w = .ok () w := MapKept.run_checkKey (k := .string (mk p)) Tryz.underlying9 (by simp [MapKept.IsKey]) _ 9999
  obtain ⟨j, hf, _, hj⟩ := find_yes es.toList [p] 0 hs (List.mem_singleton.2 rfl)
  have hl : es.toList.length = 1 := by have := congrArg List.length hs; simpa [kvM] using this
  obtain rfl : j = 0 := by omega
  refine ⟨{ w with heap := w.heap.setIfInBounds g (.map (es.eraseIdxIfInBounds 0) cl) }, ?_, ⟨_, _, (MapKept.heap_set hb).1, ?_⟩, ⟨rfl, rfl, rfl, by simp, fun k hk => (MapKept.heap_set hb).2 k hk⟩⟩
  · simp [Builtin.delete_, run_underlying Tryz.underlying70, MapKept.run_getObj_map hb, hck, MapKept.run_findKey Tryz.underlying9 hf, MapKept.run_setObj_map _ hb, Result.andThen]
  · have he : (es.eraseIdxIfInBounds 0).toList = [] := by
      have h0 : 0 < es.size := by have := hl; rw [Array.length_toList] at this; omega
      rw [Array.eraseIdxIfInBounds_eq, dif_pos h0, Array.toList_eraseIdx]
      match h2 : es.toList, hl with
      | [e], _ => rfl
    rw [he]; rfl
theorem MS.len {w : World} {g : Nat} {S : List Nm} (h : MS w g S) (ty : TypeId) : (Builtin.len_ #[70] ty #[.map (some g)]).run Tryz.prog w = .ok (goInt S.length) w := by
  obtain ⟨es, cl, hb, hs⟩ := h
  have hl : es.size = S.length := by have := congrArg List.length hs; simpa [kvM] using this
  simp [Builtin.len_, run_underlying Tryz.underlying70, MapKept.run_getObj_map hb, Result.andThen, hl]

/-! ### What Drop answers -/

def fk (L : List OP) (p : Nm) (k : Nat) : Bool := (L.take k).any fun o => o.1 == p
def dk (L : List OP) (p : Nm) (k : Nat) : List OP := (L.take k).eraseP fun o => o.1 == p
theorem fk_step {L : List OP} {p : Nm} {k : Nat} (h : k < L.length) : fk L p (k + 1) = (fk L p k || (opA L k).1 == p) := by unfold fk; rw [opA_take h, List.any_append]; simp
theorem dk_step {L : List OP} {p : Nm} {k : Nat} (h : k < L.length) : dk L p (k + 1) = if fk L p k = false ∧ ((opA L k).1 == p) = true then dk L p k else dk L p k ++ [opA L k] := by
  unfold dk
  rw [opA_take h, List.eraseP_append]
  have e : fk L p k = (L.take k).any fun o => o.1 == p := rfl
  rw [← e]
  cases hf : fk L p k with
  | true => simp
  | false =>
    have hn : (L.take k).eraseP (fun o => o.1 == p) = L.take k := List.eraseP_of_forall_not fun a ha => by
      have := List.any_eq_false.1 (e ▸ hf) a ha
      simpa using this
    cases hp : ((opA L k).1 == p) with
    | true => simp [hn, hp]
    | false => simp [hn, hp]
def drpE (L : List OP) (p : Nm) : Int := match drpI L p with
  | none => 2
  | some _ => 0
def drpZ (L : List OP) (z : List Int) (p : Nm) : List Int := if drpE L p = 0 then z else z0
theorem drp_yes {L : List OP} {p : Nm} (h : fk L p L.length = true) : drpE L p = 0 ∧ drpL L p = dk L p L.length := by
  unfold fk at h
  rw [List.take_length] at h
  cases hi : drpI L p with
  | none =>
    obtain ⟨x, hx, e⟩ := List.any_eq_true.1 h
    exact absurd (eq_of_beq e) (drpI_none.1 hi x hx)
  | some i =>
    refine ⟨by unfold drpE; rw [hi], ?_⟩
    have hi2 : L.findIdx? (fun o => o.1 == p) = some i := hi
    unfold drpL dk
    rw [hi, List.take_length, List.eraseP_eq_eraseIdx, hi2]
    exact (List.eraseIdx_eq_take_drop_succ L i).symm
theorem drp_no {L : List OP} {p : Nm} (h : fk L p L.length = false) : drpE L p = 2 ∧ drpL L p = [] := by
  unfold fk at h
  rw [List.take_length] at h
  have hi : drpI L p = none := drpI_none.2 fun x hx => by have := List.any_eq_false.1 h x hx; simpa using this
  exact ⟨by unfold drpE; rw [hi], by unfold drpL; rw [hi]⟩

set_option maxRecDepth 100000 in
set_option maxHeartbeats 16000000 in
theorem drop_any (a : Option Addr) (n c : Nat) (L : List OP) (z : List Int) (p : Nm) (w : World) (h : OpS w a n c L) (hz : z.length = 10) (hn : n ≤ 1000000) :
    Calls Tryz.prog 29 #[.agg (ev a n c z), .string (mk p)] w fun e w' => ∃ a' n' c', e = .returned (.tuple #[.agg (ev a' n' c' (drpZ L z p)), .int .i64 (drpE L p)]) ∧ OwnO w.heap.size w' a' n' c' (drpL L p) ∧ Below w.heap.size w w' := by
  have hmm := @run_makeMap Tryz.prog
  obtain ⟨B, hB⟩ : ∃ B, B = w.heap.size := ⟨_, rfl⟩
  obtain ⟨w1, hw1⟩ : ∃ w1, w1 = w.alloc (.cells (ev a n c z) 28) := ⟨_, rfl⟩
  obtain ⟨w2, hw2⟩ : ∃ w2, w2 = w1.alloc (.cells #[.slice none 0 0, .int .i64 0, .int .i64 0, .int .i64 0, .int .i64 0, .int .i64 0, .int .i64 0, .int .i64 0, .int .i64 0, .int .i64 0, .int .i64 0] 28) := ⟨_, rfl⟩
  obtain ⟨w3, hw3⟩ : ∃ w3, w3 = w2.alloc (.map #[⟨.string (mk p), .bool true, 0⟩] 1) := ⟨_, rfl⟩
  have s1 : w1.heap.size = B + 1 := by rw [hw1, hB]; simp
  have s2 : w2.heap.size = B + 1 + 1 := by rw [hw2]; simp [s1]
  have hins : (Instr.mapUpdate 70 (.map (some (B + 1 + 1))) (.string (mk p)) (.bool true)).run Tryz.prog (w2.alloc (.map #[] 0)) = .ok () (w2.alloc (.map #[⟨.string (mk p), .bool true, 0⟩] 1)) := by
    have := ins_one w2 p
    rw [s2] at this
    exact this
  rw [hw2, hw1, hB] at hins
  have HE3 : Hid (EB w3 B a n c z) := Lib.hid (by rw [hw3, hw2, hw1, hB]; exact ((EB.new w a n c z).alloc _).alloc _)
  have HR3 : Hid (EB w3 (B + 1) none 0 0 z0) := Lib.hid (by rw [hw3, ← s1, hw2, ← ev_zero]; exact (EB.new w1 none 0 0 z0).alloc _)
  have HB3 : Hid (Below B w w3) := Lib.hid (by rw [hw3, hw2, hw1, hB]; exact (((Below.refl _ _).alloc (Nat.le_refl _) _).alloc (by simp) _).alloc (by simp; omega) _)
  have HM3 : Hid (MS w3 (B + 1 + 1) [p]) := Lib.hid (by rw [hw3, ← s2]; exact ms_one w2 p)
  have HS3 : Hid (w3.heap.size = B + 1 + 1 + 1) := Lib.hid (by rw [hw3]; simp [s2])
  obtain ⟨M, hM⟩ : ∃ M, M = B + 1 + 1 := ⟨_, rfl⟩
  have hlc := h.lc
  have hcm := h.cm
  unfold maxLen at hcm
  have H := Lib.hid h
  have HL := Lib.hid (OpS.len h)
  have HZ := Lib.hid hz
  have HBB := Lib.hid hB
  have e0 : (((w.alloc (.cells (ev a n c z) 28)).alloc (.cells #[.slice none 0 0, .int .i64 0, .int .i64 0, .int .i64 0, .int .i64 0, .int .i64 0, .int .i64 0, .int .i64 0, .int .i64 0, .int .i64 0, .int .i64 0] 28)).alloc (.map #[⟨.string (mk p), .bool true, 0⟩] 1)).cell? ⟨w.heap.size, 0, none⟩ = some (.slice a n c) := (((EB.new w a n c z).alloc _).alloc _).c0
  clear h hz s1 s2
  go_enter Tryz.func29, Tryz.ntmps29
  go_wp2
  rw [← hw1, ← hw2, ← hw3, ← hB, ← hM]
  have HMB : Hid (M = B + 1 + 1 ∧ M < w3.heap.size) := Lib.hid ⟨hM, by have := HS3.out; omega⟩
  rw [← hM] at HM3
  clear hw1 hw2 hw3 hB hM hins hmm e0
  obtain ⟨BO, hBO⟩ : ∃ BO, BO = w3.heap.size := ⟨_, rfl⟩
  have HBO := Lib.hid hBO
  rw [← hBO] at HMB
  clear hBO
  go_loopw [7, 16] (fun v7 v16 wr => ∃ a7, ∃ m7 c7 k : Nat, v7 = .slice a7 m7 c7 ∧ v16 = .int .i64 k ∧ k ≤ n ∧ m7 ≤ k ∧ Hid (OwnO BO wr a7 m7 c7 (dk L p k)) ∧ Hid (MS wr M (if fk L p k = true then [] else [p])) ∧ Hid (EB wr B a n c z) ∧ Hid (EB wr (B + 1) none 0 0 z0) ∧ Hid (Below B w wr) ∧ Hid (BO ≤ wr.heap.size)) (fun _ v _ => n - (intOf v).toNat)
  case atStart => exact ⟨none, 0, 0, 0, rfl, rfl, Nat.zero_le _, Nat.le_refl _, Lib.hid OwnV.none0, HM3, HE3, HR3, HB3, Lib.hid (by rw [HBO.out]; exact Nat.le_refl _)⟩
  case round =>
    clear HM3 HE3 HR3 HB3
    obtain ⟨a7, m7, c7, k, rfl, rfl, hk, hmk, HO, HM, HE, HR, HB, HG⟩ := hrel
    have hbo := HO.out.bounds
    have hmc := hbo.2.1
    have hcm2 := hbo.2.2
    unfold maxLen at hcm2
    clear hbo
    by_cases hlt : k < n
    · have hs := H.out.below (HBB.out ▸ HB.out)
      obtain ⟨b, off, rfl, _, hc⟩ := hs.at_ (by omega)
      clear hc
      obtain ⟨c0, c1, c2⟩ := OpS.at3 hs hlt
      have HF := Lib.hid (fk_step (L := L) (p := p) (k := k) (by rw [HL.out]; exact hlt))
      have HD := Lib.hid (dk_step (L := L) (p := p) (k := k) (by rw [HL.out]; exact hlt))
      obtain ⟨o, ho⟩ : ∃ o, o = opA L k := ⟨_, rfl⟩
      rw [← ho] at c0 c1 c2 HF HD
      clear hs ho
      obtain ⟨x, g, s⟩ := o
      dsimp only at c0 c1 c2 HF HD
      obtain ⟨w4, hw4⟩ : ∃ w4, w4 = wr.alloc (.cells #[.string (mk x), .int .i64 g, .int .i64 s] 35) := ⟨_, rfl⟩
      obtain ⟨D, hD⟩ : ∃ D, D = wr.heap.size := ⟨_, rfl⟩
      have hD4 : D3 w4 D (x, g, s) := by rw [hw4, hD]; exact D3.new wr (x, g, s)
      have HO4 : Hid (OwnO BO w4 a7 m7 c7 (dk L p k)) := Lib.hid (by rw [hw4]; exact HO.out.alloc _)
      have HM4 := HM.out.alloc (.cells #[.string (mk x), .int .i64 g, .int .i64 s] 35)
      rw [← hw4] at HM4
      have HE4 : Hid (EB w4 B (some ⟨b, off, none⟩) n c z) := Lib.hid (by rw [hw4]; exact HE.out.alloc _)
      have HR4 : Hid (EB w4 (B + 1) none 0 0 z0) := Lib.hid (by rw [hw4]; exact HR.out.alloc _)
      have HB4 : Hid (Below B w w4) := Lib.hid (by rw [hw4]; exact HB.out.alloc (by have := HB.out.size; have := HBB.out; omega) _)
      have HG4 : Hid (BO ≤ w4.heap.size) := Lib.hid (by rw [hw4]; have := HG.out; simp; omega)
      obtain ⟨d0, d1, d2⟩ := hD4.cells
      dsimp only at d0 d1 d2
      have hlk := HM4.look x
      clear hD4
      cases hf : fk L p k with
      | true =>
        rw [hf] at HF HD HM4 hlk
        rw [if_pos rfl] at HM4 hlk
        have HF1 : Hid (fk L p (k + 1) = true) := Lib.hid (by rw [HF.out]; rfl)
        have HD1 : Hid (dk L p (k + 1) = dk L p k ++ [(x, g, s)]) := Lib.hid (by rw [HD.out, if_neg (by simp)])
        have HMx : Hid (MS w4 M (if fk L p (k + 1) = true then [] else [p])) := Lib.hid (by rw [HF1.out, if_pos rfl]; exact HM4)
        rw [show List.contains ([] : List Nm) x = false from rfl] at hlk
        clear hf HM4
        rw [hw4, hD] at d0 d1 d2
        rw [hw4] at hlk
        go_wp2_with (at_builtin; refine Hid.out ?_)
        refine Lib.hid ?_
        rw [← hw4]
        refine wpList_appv rfl (.tmp 27) (.tmp 29) 24 rfl 35 BO 3 32 _ Tryz.underlying24 op_info rfl (by omega) _ m7 _ (cO (dk L p k)) rfl (HO4.out.alloc _) _ 1 _ (cO [(x, g, s)]) rfl (Vs.lit (k := 3) (xs := cO [(x, g, s)]) w4 _ rfl rfl (by rw [hw4]; simp)) (cO_one _) (by unfold maxLen; omega) (by omega) (by have := HG4.out; simp; omega) ?_
        intro a6 c6 w6 ho6 hg6 hb6 _
        have HO6 : Hid (OwnO BO w6 a6 (m7 + 1) c6 (dk L p (k + 1))) := Lib.hid (by rw [HD1.out, OwnO, cO_app]; exact ho6)
        have HM6 := Lib.hid ((HMx.out.alloc (.cells #[.string (mk x), .int .i64 g, .int .i64 s] 35)).keep hb6 HMB.out.2)
        have HE6 := Lib.hid ((HE4.out.alloc (.cells #[.string (mk x), .int .i64 g, .int .i64 s] 35)).keep hb6 (by have := HMB.out; omega))
        have HR6 := Lib.hid ((HR4.out.alloc (.cells #[.string (mk x), .int .i64 g, .int .i64 s] 35)).keep hb6 (by have := HMB.out; omega))
        have HB6 : Hid (Below B w w6) := Lib.hid ((HB4.out.alloc (by have := HB4.out.size; have := HBB.out; omega) _).trans (hb6.mono (by have := HMB.out; omega)))
        have HG6 : Hid (BO ≤ w6.heap.size) := Lib.hid (Nat.le_trans HG4.out (Nat.le_trans (by simp) hb6.size))
        clear ho6 hg6 hb6
        go_wp2
        go_roundw
        case rel => exact ⟨a6, m7 + 1, c6, k + 1, rfl, by go_num, by omega, by omega, HO6, HM6, HE6, HR6, HB6, HG6⟩
        case measure => simp [intOf]; omega
      | false =>
        rw [hf] at HF HD HM4 hlk
        rw [if_neg (by decide)] at HM4 hlk
        cases he : (x == p) with
        | true =>
          obtain rfl : x = p := eq_of_beq he
          have HF1 : Hid (fk L x (k + 1) = true) := Lib.hid (by rw [HF.out, he]; rfl)
          have HD1 : Hid (dk L x (k + 1) = dk L x k) := Lib.hid (by rw [HD.out, if_pos ⟨rfl, he⟩])
          rw [show List.contains [x] x = true by simp] at hlk
          obtain ⟨w5, hdel, hm5, ho5⟩ := HM4.del 0
          have hdel' : ∀ ty, (Builtin.delete_ #[70, 9] ty #[.map (some M), .string (mk x)]).run Tryz.prog w4 = .ok (.tuple #[]) w5 := fun _ => hdel
          have HM5 : Hid (MS w5 M (if fk L x (k + 1) = true then [] else [x])) := Lib.hid (by rw [HF1.out, if_pos rfl]; exact hm5)
          have HO5 : Hid (OwnO BO w5 a7 m7 c7 (dk L x (k + 1))) := Lib.hid (by rw [HD1.out]; exact ownO_only HO4.out ho5 HMB.out.2)
          have HE5 : Hid (EB w5 B (some ⟨b, off, none⟩) n c z) := Lib.hid (HE4.out.only ho5 (by have := HMB.out.1; omega))
          have HR5 : Hid (EB w5 (B + 1) none 0 0 z0) := Lib.hid (HR4.out.only ho5 (by have := HMB.out.1; omega))
          have HB5 : Hid (Below B w w5) := Lib.hid (HB4.out.trans (ho5.below (by have := HMB.out.1; omega)))
          have HG5 : Hid (BO ≤ w5.heap.size) := Lib.hid (by rw [ho5.size]; exact HG4.out)
          rw [hw4, hD] at d0 d1 d2
          rw [hw4] at hlk hdel'
          clear hf HM4 hdel hm5 ho5 he
          go_wp2
          go_roundw
          case rel => exact ⟨a7, m7, c7, k + 1, rfl, by go_num, by omega, by omega, HO5, HM5, HE5, HR5, HB5, HG5⟩
          case measure => simp [intOf]; omega
        | false =>
          have HF1 : Hid (fk L p (k + 1) = false) := Lib.hid (by rw [HF.out, he]; rfl)
          have HD1 : Hid (dk L p (k + 1) = dk L p k ++ [(x, g, s)]) := Lib.hid (by rw [HD.out, if_neg (by rw [he]; simp)])
          have HMx : Hid (MS w4 M (if fk L p (k + 1) = true then [] else [p])) := Lib.hid (by rw [HF1.out, if_neg (by decide)]; exact HM4)
          rw [show List.contains [p] x = false by simpa using he] at hlk
          clear hf HM4 he
          rw [hw4, hD] at d0 d1 d2
          rw [hw4] at hlk
          go_wp2_with (at_builtin; refine Hid.out ?_)
          refine Lib.hid ?_
          rw [← hw4]
          refine wpList_appv rfl (.tmp 27) (.tmp 29) 24 rfl 35 BO 3 32 _ Tryz.underlying24 op_info rfl (by omega) _ m7 _ (cO (dk L p k)) rfl (HO4.out.alloc _) _ 1 _ (cO [(x, g, s)]) rfl (Vs.lit (k := 3) (xs := cO [(x, g, s)]) w4 _ rfl rfl (by rw [hw4]; simp)) (cO_one _) (by unfold maxLen; omega) (by omega) (by have := HG4.out; simp; omega) ?_
          intro a6 c6 w6 ho6 hg6 hb6 _
          have HO6 : Hid (OwnO BO w6 a6 (m7 + 1) c6 (dk L p (k + 1))) := Lib.hid (by rw [HD1.out, OwnO, cO_app]; exact ho6)
          have HM6 := Lib.hid ((HMx.out.alloc (.cells #[.string (mk x), .int .i64 g, .int .i64 s] 35)).keep hb6 HMB.out.2)
          have HE6 := Lib.hid ((HE4.out.alloc (.cells #[.string (mk x), .int .i64 g, .int .i64 s] 35)).keep hb6 (by have := HMB.out; omega))
          have HR6 := Lib.hid ((HR4.out.alloc (.cells #[.string (mk x), .int .i64 g, .int .i64 s] 35)).keep hb6 (by have := HMB.out; omega))
          have HB6 : Hid (Below B w w6) := Lib.hid ((HB4.out.alloc (by have := HB4.out.size; have := HBB.out; omega) _).trans (hb6.mono (by have := HMB.out; omega)))
          have HG6 : Hid (BO ≤ w6.heap.size) := Lib.hid (Nat.le_trans HG4.out (Nat.le_trans (by simp) hb6.size))
          clear ho6 hg6 hb6
          go_wp2
          go_roundw
          case rel => exact ⟨a6, m7 + 1, c6, k + 1, rfl, by go_num, by omega, by omega, HO6, HM6, HE6, HR6, HB6, HG6⟩
          case measure => simp [intOf]; omega
    · obtain rfl : k = n := by omega
      cases hf : fk L p k with
      | true =>
        obtain ⟨hE, hR⟩ := drp_yes (L := L) (p := p) (by rw [HL.out]; exact hf)
        have HE0 : Hid (drpE L p = 0 ∧ drpL L p = dk L p k) := Lib.hid ⟨hE, by rw [hR, HL.out]⟩
        rw [hf, if_pos rfl] at HM
        have hlen : ∀ ty, (Builtin.len_ #[70] ty #[.map (some M)]).run Tryz.prog wr = .ok (goInt 0) wr := fun ty => HM.out.len ty
        clear hf hE hR
        go_wp2_with (first
          | (refine load_er rfl (.tmp 37) rfl B rfl a k c z HZ.out HE.out ?_)
          | (refine build_env rfl (.tmp 36) (.tmp 38) rfl _ _ _ z HZ.out rfl rfl ?_)
          | (refine store_env rfl (.tmp 4) (.tmp 39) rfl (B + 1) rfl a7 m7 c7 z rfl HZ.out none 0 0 z0 z0_len HR.out ?_; intro wY hey hoy; have HEY := Lib.hid hey; have HOY := Lib.hid hoy; clear hey hoy))
        refine bodyPost_ret (ret_envp rfl _ _ (B + 1) a7 m7 c7 z HZ.out rfl HEY.out) rfl ⟨a7, m7, c7, ?_, ?_, ?_⟩
        · unfold drpZ; rw [if_pos HE0.out.1, HE0.out.1]; rfl
        · rw [HE0.out.2]
          exact (ownO_only HO.out HOY.out (by have := HMB.out; omega)).weak (by have := HMB.out; have := HBB.out; omega)
        · rw [← HBB.out]; exact HB.out.trans (HOY.out.below (by omega))
      | false =>
        obtain ⟨hE, hR⟩ := drp_no (L := L) (p := p) (by rw [HL.out]; exact hf)
        have HE0 : Hid (drpE L p = 2 ∧ drpL L p = []) := Lib.hid ⟨hE, hR⟩
        rw [hf, if_neg (by decide)] at HM
        have hlen : ∀ ty, (Builtin.len_ #[70] ty #[.map (some M)]).run Tryz.prog wr = .ok (goInt 1) wr := fun ty => HM.out.len ty
        have hbu : ∀ w, (Instr.build 28 #[]).run Tryz.prog w = .ok (.agg (ev none 0 0 z0)) w := fun w => built_none w
        clear hf hE hR
        go_wp2_with (refine store_env rfl (.tmp 4) (.tmp 35) rfl (B + 1) rfl none 0 0 z0 rfl rfl none 0 0 z0 z0_len HR.out ?_; intro wY hey hoy; have HEY := Lib.hid hey; have HOY := Lib.hid hoy; clear hey hoy)
        refine bodyPost_ret (ret_envp rfl _ _ (B + 1) none 0 0 z0 z0_len rfl HEY.out) rfl ⟨none, 0, 0, ?_, ?_, ?_⟩
        · unfold drpZ; rw [HE0.out.1, if_neg (by decide)]; rfl
        · rw [HE0.out.2]; exact OwnV.none0
        · rw [← HBB.out]; exact HB.out.trans (HOY.out.below (by omega))

end Go.Proofs.YtcpmpidpoelleaaGreatDoor
