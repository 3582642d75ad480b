/- A map of texts to true, of the call's own: what is in it; env.Unique. -/
import Derived.Test.YtjkjbgekpkhpfaaGreatDoorAp
import Derived.Test.YtjkjbgekpkhpfaaGreatDoorAe
import Derived.MapKept
namespace Go.Proofs.YtjkjbgekpkhpfaaGreatDoor
open Go.RowKit

def kvM (S : List Nm) : List (Value × Value) := S.map fun x => (Value.string (mk x), Value.bool true)
/-- The block g holds a map with true at each of these. -/
def MS (w : World) (g : Nat) (S : List Nm) : Prop := ∃ es clock, w.heap[g]? = some (.map es clock) ∧ es.toList.map (fun e => (e.key, e.val)) = kvM S

theorem beq_mk (x y : Nm) : (mk x == mk y) = (x == y) := by
  rw [Bool.eq_iff_iff, MapKept.bytes_beq, beq_iff_eq]
  exact ⟨mk_inj, fun h => by rw [h]⟩
theorem find_no {x : Nm} : ∀ (l : List MapEntry) (S : List Nm) (i : Nat), l.map (fun e => (e.key, e.val)) = kvM S → x ∉ S → Instr.findNow .string (.string (mk x)) l i = some none
  | [], _, _, _, _ => rfl
  | e :: l, [], i, h, _ => by simp [kvM] at h
  | e :: l, y :: S, i, h, hx => by
    simp only [kvM, List.map_cons, List.cons.injEq, Prod.mk.injEq] at h
    obtain ⟨⟨hk, _⟩, ht⟩ := h
    have hxy : (x == y) = false := beq_eq_false_iff_ne.2 fun e => hx (by rw [e]; exact List.mem_cons_self ..)
    unfold Instr.findNow
    rw [hk]
    simp only [Instr.sameNow, beq_mk, hxy]
    exact find_no l S (i + 1) ht fun h => hx (List.mem_cons_of_mem _ h)
theorem find_yes {x : Nm} : ∀ (l : List MapEntry) (S : List Nm) (i : Nat), l.map (fun e => (e.key, e.val)) = kvM S → x ∈ S → ∃ j, Instr.findNow .string (.string (mk x)) l i = some (some (j, .bool true)) ∧ i ≤ j ∧ j < i + l.length
  | [], S, i, h, hx => by
    cases S with
    | nil => cases hx
    | cons y S => simp [kvM] at h
  | e :: l, [], i, h, _ => by simp [kvM] at h
  | e :: l, y :: S, i, h, hx => by
    simp only [kvM, List.map_cons, List.cons.injEq, Prod.mk.injEq] at h
    obtain ⟨⟨hk, hv⟩, ht⟩ := h
    unfold Instr.findNow
    rw [hk]
    simp only [Instr.sameNow, beq_mk]
    cases hxy : (x == y) with
    | true => exact ⟨i, by simp [hv], Nat.le_refl _, by simp⟩
    | false =>
      obtain ⟨j, h1, h2, h3⟩ := find_yes l S (i + 1) ht ((List.mem_cons.1 hx).resolve_left (beq_eq_false_iff_ne.1 hxy))
      exact ⟨j, h1, by omega, by rw [List.length_cons]; omega⟩

theorem MS.new (w : World) : MS (w.alloc (.map #[] 0)) w.heap.size [] := ⟨#[], 0, heap_alloc_new w _, rfl⟩
theorem MS.lt {w : World} {g : Nat} {S : List Nm} (h : MS w g S) : g < w.heap.size := by obtain ⟨_, _, h, _⟩ := h; exact (Array.getElem?_eq_some_iff.1 h).1
theorem MS.below {w w' : World} {g : Nat} {S : List Nm} (h : MS w g S) (hb : Below w.heap.size w w') : MS w' g S := by
  have hl := h.lt
  obtain ⟨es, cl, h, h2⟩ := h
  exact ⟨es, cl, (hb.block g hl).trans h, h2⟩
theorem MS.look {w : World} {g : Nat} {S : List Nm} (h : MS w g S) (x : Nm) : (Instr.lookup 62 (.map (some g)) (.string (mk x)) false).run Tryz.prog w = .ok (.bool (S.contains x)) w := by
  obtain ⟨es, cl, hb, hs⟩ := h
  have hzv : (zeroValue 4).run Tryz.prog w = .ok (.bool false) w := by kernel_rfl
  have hck : (Instr.checkKey es.isEmpty 10000 9 (.string (mk x))).run Tryz.prog w = .ok () w := MapKept.run_checkKey (k := .string (mk x)) Tryz.underlying9 (by simp [MapKept.IsKey]) _ 9999
  by_cases hx : x ∈ S
  · obtain ⟨j, hf, _⟩ := find_yes es.toList S 0 hs hx
    simp [Instr.lookup, run_underlying Tryz.underlying62, MapKept.run_getObj_map hb, hck, MapKept.run_findKey Tryz.underlying9 hf, Result.andThen, hx]
  · have hf := find_no es.toList S 0 hs hx
    simp [Instr.lookup, run_underlying Tryz.underlying62, MapKept.run_getObj_map hb, hck, MapKept.run_findKey Tryz.underlying9 hf, Result.andThen, hx, hzv]
theorem MS.put {w : World} {g : Nat} {S : List Nm} (h : MS w g S) {x : Nm} (hx : x ∉ S) : ∃ w', (Instr.mapUpdate 62 (.map (some g)) (.string (mk x)) (.bool true)).run Tryz.prog w = .ok () w' ∧ MS w' g (S ++ [x]) ∧ Only g w w' := by
  obtain ⟨es, cl, hb, hs⟩ := h
  have hck : (Instr.checkKey false 10000 9 (.string (mk x))).run Tryz.prog w = .ok () w := MapKept.run_checkKey (k := .string (mk x)) Tryz.underlying9 (by simp [MapKept.IsKey]) _ 9999
  have hf := find_no es.toList S 0 hs hx
  refine ⟨{ w with heap := w.heap.setIfInBounds g (.map (es.push ⟨.string (mk x), .bool true, cl⟩) (cl + 1)) }, ?_, ⟨_, _, (MapKept.heap_set hb).1, ?_⟩, ⟨rfl, rfl, rfl, by simp, fun k hk => (MapKept.heap_set hb).2 k hk⟩⟩
  · simp [Instr.mapUpdate, run_underlying Tryz.underlying62, MapKept.run_getObj_map hb, hck, MapKept.run_findKey Tryz.underlying9 hf, MapKept.run_setObj_map _ hb, Result.andThen]
  · simp [kvM, hs]

/-- Texts that are read are not in the map's block. -/
theorem Ss.only {w w' : World} {g : Nat} {S P : List Nm} {a : Option Addr} {n c : Nat} (h : Ss w a n c P) (hm : MS w g S) (ho : Only g w w') : Ss w' a n c P :=
  ⟨h.hl, h.lc, h.cm, fun h0 => by
    obtain ⟨b, off, ha, hb, hc⟩ := h.at_ h0
    have hne : b ≠ g := fun e => by
      subst e
      obtain ⟨es, cl, hm, _⟩ := hm
      have h1 := hc 0 (by omega)
      have hl := h.hl
      rw [List.getElem?_eq_getElem (by omega)] at h1
      unfold World.cell? at h1
      dsimp only at h1
      rw [hm] at h1
      cases h1
    exact ⟨b, off, ha, by rw [ho.size]; exact hb, fun j hj => (World.cell?_of_block (ho.block b hne)).trans (hc j hj)⟩⟩

/-! ### env.Unique -/

def allP (L : List OP) : List Nm := L.flatMap fun o => prt o.1
theorem allP_snoc {L : List OP} {k : Nat} (h : k < L.length) : allP (L.take (k + 1)) = allP (L.take k) ++ prt (opA L k).1 := by unfold allP; rw [opA_take h]; simp
def uniqB (L : List OP) : Bool := decide (allP L).Nodup
theorem pt_snoc {P : List Nm} {j : Nat} (h : j < P.length) : P.take (j + 1) = P.take j ++ [pt P j] := by rw [List.take_add_one]; unfold pt; simp [List.getD, h]
theorem uniq_no {L : List OP} {k j : Nat} (hk : k < L.length) (hj : j < (prt (opA L k).1).length) (h : pt (prt (opA L k).1) j ∈ allP (L.take k) ++ (prt (opA L k).1).take j) : uniqB L = false := by
  refine decide_eq_false fun hn => ?_
  have e : allP L = allP (L.take k) ++ (prt (opA L k).1).take j ++ (pt (prt (opA L k).1) j :: ((prt (opA L k).1).drop (j + 1) ++ allP (L.drop (k + 1)))) := by
    conv => lhs; rw [← List.take_append_drop k L, opA_drop hk]
    unfold allP
    rw [List.flatMap_append, List.flatMap_cons, List.append_assoc]
    congr 1
    conv => lhs; rw [← List.take_append_drop j (prt (opA L k).1)]
    rw [List.append_assoc]
    congr 1
    rw [List.drop_eq_getElem_cons hj, List.cons_append]
    congr 1
    unfold pt; simp [List.getD, hj]
  rw [e] at hn
  exact (List.nodup_append.1 hn).2.2 _ h _ (List.mem_cons_self ..) rfl

set_option maxRecDepth 20000 in
set_option maxHeartbeats 4000000 in
theorem uniq_any (a : Option Addr) (n c : Nat) (L : List OP) (z : List Int) (w : World) (ht : Tab w) (h : OpS w a n c L) (hn : n ≤ 1000000) (hp : ∀ o ∈ L, o.1.length ≤ 1000000) :
    Calls Tryz.prog 18 #[.agg (ev a n c z)] w fun e w' => e = .returned (.bool (uniqB L)) ∧ Below w.heap.size w w' := by
  have hlc := h.lc
  have hcm := h.cm
  unfold maxLen at hcm
  have hmm := @run_makeMap Tryz.prog
  obtain ⟨B, hB⟩ : ∃ B, B = w.heap.size := ⟨_, rfl⟩
  obtain ⟨w0, hw0⟩ : ∃ w0, w0 = w.alloc (.cells (ev a n c z) 26) := ⟨_, rfl⟩
  obtain ⟨w1, hw1⟩ : ∃ w1, w1 = w0.alloc (.map #[] 0) := ⟨_, rfl⟩
  obtain ⟨M, hM⟩ : ∃ M, M = B + 1 := ⟨_, rfl⟩
  have HB0 : Hid (Below B w w1) := Lib.hid (by rw [hw1, hw0, hB]; exact (below_alloc w _).alloc (by simp) _)
  have HM1 : Hid (MS w1 M []) := Lib.hid (by rw [hw1, show M = w0.heap.size by rw [hM, hw0, hB]; simp]; exact MS.new w0)
  have HMB : Hid (B ≤ M) := Lib.hid (by omega)
  have HT : Hid (Tab w) := Lib.hid ht
  have H0 : Hid (OpS w a n c L) := Lib.hid h
  have HL := Lib.hid (OpS.len h)
  have HP := Lib.hid hp
  have HBB := Lib.hid hB
  have e0 := ((EB.new w a n c z).alloc (.map #[] 0)).c0
  clear ht h hp
  go_enter Tryz.func18, Tryz.ntmps18
  go_wp2
  rw [← hw0, ← hw1, ← hB, ← hM]
  clear hw0 hw1 hB hM e0 hmm
  go_loopw [12] (fun v wr => ∃ k : Nat, v = .int .i64 k ∧ k ≤ n ∧ Hid (MS wr M (allP (L.take k))) ∧ Hid (allP (L.take k)).Nodup ∧ Hid (Below B w wr)) (fun v _ => n - (intOf v).toNat)
  case atStart => exact ⟨0, rfl, Nat.zero_le _, HM1, Lib.hid List.nodup_nil, HB0⟩
  case round =>
    obtain ⟨k, rfl, hk, HM, HN, HB⟩ := hrel
    by_cases hlt : k < n
    · have hs := H0.out.below (HBB.out ▸ HB.out)
      obtain ⟨b, off, rfl, _, hc⟩ := hs.at_ (by omega)
      clear hc
      obtain ⟨c0, c1, c2⟩ := OpS.at3 hs hlt
      obtain ⟨o, ho⟩ : ∃ o, o = opA L k := ⟨_, rfl⟩
      have HPo : Hid (o.1.length ≤ 1000000) := Lib.hid (by rw [ho]; exact HP.out _ (opA_mem (by rw [HL.out]; exact hlt)))
      have HOA := Lib.hid ho
      rw [← ho] at c0 c1 c2
      clear hs ho
      obtain ⟨p, g, s⟩ := o
      dsimp only at c0 c1 c2
      obtain ⟨w2, hw2⟩ : ∃ w2, w2 = wr.alloc (.cells #[.string (mk p), .int .i64 g, .int .i64 s] 28) := ⟨_, rfl⟩
      obtain ⟨D, hD⟩ : ∃ D, D = wr.heap.size := ⟨_, rfl⟩
      have hD2 : D3 w2 D (p, g, s) := by rw [hw2, hD]; exact D3.new wr (p, g, s)
      have HB2 : Hid (Below B w w2) := Lib.hid (by rw [hw2]; exact HB.out.alloc (by have := HB.out.size; have := HBB.out; omega) _)
      have HM2 : Hid (MS w2 M (allP (L.take k))) := Lib.hid (by rw [hw2]; exact HM.out.below (below_alloc _ _))
      have HT2 : Hid (Tab w2) := Lib.hid (HT.out.keep (HBB.out ▸ HB2.out))
      obtain ⟨d0, d1, d2⟩ := hD2.cells
      dsimp only at d0 d1 d2
      clear hD2
      go_wp2_with fail
      rw [← hw2, ← hD]
      clear hw2 hD c0 c1 c2
      refine (parts_any p g s w2 HT2.out HPo.out).mono ?_
      rintro e w3 ⟨sa, sn, sc, rfl, hps, hb3⟩
      have HB3 : Hid (Below B w w3) := Lib.hid (HB2.out.trans (hb3.mono (by have := HB2.out.size; have := HBB.out; omega)))
      have HM3 : Hid (MS w3 M (allP (L.take k) ++ (prt p).take 0)) := Lib.hid (by rw [List.take_zero, List.append_nil]; exact HM2.out.below hb3)
      have HSP := Lib.hid hps
      have HPL := Lib.hid (Ss.len hps)
      have hsn4 : sn ≤ 4 := by have := HPL.out; have := prt_len p; omega
      have HN3 : Hid (allP (L.take k) ++ (prt p).take 0).Nodup := Lib.hid (by rw [List.take_zero, List.append_nil]; exact HN.out)
      have HEND : Hid (allP (L.take (k + 1)) = allP (L.take k) ++ (prt p).take sn) := Lib.hid (by rw [allP_snoc (by rw [HL.out]; exact hlt), ← HOA.out, List.take_of_length_le (l := prt p) (i := sn) (by rw [HPL.out]; exact Nat.le_refl _)])
      clear hps hb3 d0 d1 d2
      go_wp2
      go_loopw [19] (fun v wq => ∃ j : Nat, v = .int .i64 j ∧ j ≤ sn ∧ Hid (MS wq M (allP (L.take k) ++ (prt p).take j)) ∧ Hid (allP (L.take k) ++ (prt p).take j).Nodup ∧ Hid (Ss wq sa sn sc (prt p)) ∧ Hid (Below B w wq)) (fun v _ => sn - (intOf v).toNat)
      case atStart => exact ⟨0, rfl, Nat.zero_le _, HM3, HN3, HSP, HB3⟩
      case round =>
        rename World => wq
        obtain ⟨j, rfl, hj, HMq, HNq, HSq, HBq⟩ := hrel
        by_cases hjl : j < sn
        · obtain ⟨bs, os, rfl, _, hc⟩ := HSq.out.at_ (by omega)
          clear hc
          have c0 := Ss.str HSq.out hjl
          obtain ⟨x, hx⟩ : ∃ x, x = pt (prt p) j := ⟨_, rfl⟩
          rw [← hx] at c0
          have HX := Lib.hid hx
          clear hx
          have hlk := HMq.out.look x
          cases hcn : (allP (L.take k) ++ (prt p).take j).contains x with
          | true =>
            rw [hcn] at hlk
            have HU : Hid (uniqB L = false) := Lib.hid (uniq_no (k := k) (j := j) (by rw [HL.out]; exact hlt) (by rw [← HOA.out, HPL.out]; exact hjl) (by rw [← HOA.out, ← HX.out]; simpa using hcn))
            clear hcn
            go_wp2
            go_ret
            exact ⟨by rw [HU.out]; rfl, by rw [← HBB.out]; exact HBq.out⟩
          | false =>
            rw [hcn] at hlk
            have hni : x ∉ allP (L.take k) ++ (prt p).take j := by
              intro h
              rw [List.contains_iff_mem.2 h] at hcn
              cases hcn
            obtain ⟨w5, hput, hm5, ho5⟩ := HMq.out.put hni
            have HEQ : Hid (allP (L.take k) ++ (prt p).take j ++ [x] = allP (L.take k) ++ (prt p).take (j + 1)) := Lib.hid (by rw [pt_snoc (by rw [HPL.out]; exact hjl), ← HX.out, List.append_assoc])
            have HM5 : Hid (MS w5 M (allP (L.take k) ++ (prt p).take (j + 1))) := Lib.hid (by rw [← HEQ.out]; exact hm5)
            have HN5 : Hid (allP (L.take k) ++ (prt p).take (j + 1)).Nodup := Lib.hid (by
              rw [← HEQ.out, List.nodup_append]
              exact ⟨HNq.out, List.nodup_cons.2 ⟨by simp, List.nodup_nil⟩, fun u hu v hv e => hni (by rw [List.mem_singleton.1 hv] at e; rw [← e]; exact hu)⟩)
            have HS5 := Lib.hid (Ss.only HSq.out HMq.out ho5)
            have HB5 := Lib.hid (HBq.out.trans (ho5.below HMB.out))
            clear hm5 ho5 hni hcn
            go_wp2
            go_roundw
            case rel => exact ⟨j + 1, by go_num, by omega, HM5, HN5, HS5, HB5⟩
            case measure => simp [intOf]; omega
        · have HJ : Hid (j = sn) := Lib.hid (by omega)
          have HME : Hid (MS wq M (allP (L.take (k + 1)))) := Lib.hid (by rw [HEND.out, ← HJ.out]; exact HMq.out)
          have HNE : Hid (allP (L.take (k + 1))).Nodup := Lib.hid (by rw [HEND.out, ← HJ.out]; exact HNq.out)
          go_wp2
          go_roundw
          case rel => exact ⟨k + 1, by go_num, by omega, HME, HNE, HBq⟩
          case measure => simp [intOf]; omega
    · have HU : Hid (uniqB L = true) := Lib.hid (by unfold uniqB; have := HN.out; rw [List.take_of_length_le (by rw [HL.out]; omega)] at this; exact decide_eq_true this)
      go_wp2
      go_ret
      exact ⟨by rw [HU.out]; rfl, by rw [← HBB.out]; exact HB.out⟩

end Go.Proofs.YtjkjbgekpkhpfaaGreatDoor
