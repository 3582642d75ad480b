import Derived.Deep.DeepCutAuto
import Derived.Test.YtcjbhdgjcpnklaaGreatDoorV14
import Derived.Test.YtcjbhdgjcpnklaaGreatDoorV17
import Derived.Test.YtcjbhdgjcpnklaaGreatDoorV19
import Derived.Test.YtcjbhdgjcpnklaaGreatDoorV20
import Derived.Test.YtcjbhdgjcpnklaaGreatDoorV21
import Derived.Test.YtcjbhdgjcpnklaaGreatDoorV22
namespace Go.Proofs.YtcjbhdgjcpnklaaGreatDoor
section
open Go.RowKit
theorem zFb {w : World} {a : Option Addr} {n c k : Nat} {L : List OP} (h : OpS w a n c L) (hk : k ≤ n) : ∃ a', (∀ w0 : World, (Instr.slice 30 (.slice a n c) (some (.int .i64 k)) none none).run Tryz.prog w0 = .ok (.slice a' (n - k) (c - k)) w0) ∧ ∀ w', OpS w' a n c L → OpS w' a' (n - k) (c - k) (L.drop k) := by
 cases a with
 | none =>
  have hn : n = 0 := by
   rcases Nat.eq_zero_or_pos n with h0 | h0
   ·exact h0
   ·obtain ⟨b, o, ha, _⟩ := h.at_ h0; cases ha
  subst hn
  obtain rfl : k = 0 := by omega
  obtain ⟨i, hi, hz, hs, hby⟩ := info_parts zAJ
  refine ⟨none, fun w0 => ?_, fun w' h' => h'⟩
  have := run_slice_l (P := Tryz.prog) w0 30 none 0 c (by rw [op_elem]; exact Tryz.underlying30) .i64 ((0 : Nat) : Int) (by omega) (by omega)
  rw [this, op_elem]
  simp [sizeOf, typeInfo, hi, hs, Result.andThen, sliced]
 | some ad =>
  by_cases hn : n = 0
  ·obtain ⟨b, off, sp⟩ := ad
   subst hn
   obtain rfl : k = 0 := by omega
   obtain ⟨i, hi, hz, hs, hby⟩ := info_parts zAJ
   refine ⟨some ⟨b, off, sp⟩, fun w0 => ?_, fun w' h' => h'⟩
   have := run_slice_l (P := Tryz.prog) w0 30 (some ⟨b, off, sp⟩) 0 c (by rw [op_elem]; exact Tryz.underlying30) .i64 ((0 : Nat) : Int) (by omega) (by omega)
   rw [this, op_elem]
   simp [sizeOf, typeInfo, hi, hs, Result.andThen, sliced, Addr.add]
  ·obtain ⟨b, off, hb, _⟩ := h.at_ (by omega)
   obtain rfl := Option.some.inj hb
   refine ⟨_, fun w0 => zFK op_elem Tryz.underlying30 zAJ hk w0, fun w' h' => ?_⟩
   have := Vs.from h' hk
   rw [zHF] at this
   exact this
theorem zFc {w : World} {a : Option Addr} {n c k : Nat} {L : List OP} (h : OpS w a n c L) (hk : k ≤ n) : (∀ w0 : World, (Instr.slice 30 (.slice a n c) none (some (.int .i64 k)) none).run Tryz.prog w0 = .ok (.slice a k c) w0) ∧ ∀ w', OpS w' a n c L → OpS w' a k c (L.take k) := by
 have hlc := h.lc
 refine ⟨fun w0 => ?_, fun w' h' => ?_⟩
 ·obtain ⟨i, hi, hz, hs, hby⟩ := info_parts zAJ
  have := run_slice_h (P := Tryz.prog) w0 30 a n c (by rw [op_elem]; exact Tryz.underlying30) .i64 (k : Int) (by omega) (by omega)
  rw [this, op_elem, Int.toNat_natCast]
  cases a with
  | none => simp [sizeOf, typeInfo, hi, hs, Result.andThen, sliced]
  | some ad => by_cases h0 : c = 0 <;> simp [sizeOf, typeInfo, hi, hs, Result.andThen, sliced, h0, Addr.add]
 ·refine ⟨by rw [cO_len, List.length_take, OpS.len h']; congr 1; omega, Nat.le_trans hk hlc, h'.cm, fun h0 => ?_⟩
  obtain ⟨b, off, ha, hb, hc⟩ := h'.at_ (by omega)
  refine ⟨b, off, ha, hb, fun j hj => ?_⟩
  rw [hc j (by have : k * 3 ≤ n * 3 := Nat.mul_le_mul_right _ hk; omega), ← zHE, List.getElem?_take, if_pos hj]
set_option maxRecDepth 20000 in
set_option maxHeartbeats 8000000 in
theorem zKa (a : Option Addr) (n c : Nat) (L : List OP) (z : List Int) (p : Nm) (w : World) (h : OpS w a n c L) (hz : z.length = 10) (hn : n ≤ 1000000) :
  Calls Tryz.prog 32 #[.agg (ev a n c z), .string (mk p)] w fun e w' => ∃ a' n' c', e = .returned (.tuple #[.agg (ev a' n' c' (drpZ L z p)), .int .i64 (drpE L p)]) ∧ OwnO w.heap.size w' a' n' c' (drpL L p) ∧ Below w.heap.size w w' := by
 obtain ⟨B, hB⟩ : ∃ B, B = w.heap.size := ⟨_, rfl⟩
 obtain ⟨w1, hw1⟩ : ∃ w1, w1 = w.alloc (.cells (ev a n c z) 34) := ⟨_, rfl⟩
 obtain ⟨w2, hw2⟩ : ∃ w2, w2 = w1.alloc (.cells #[.slice none 0 0, .int .i64 0, .int .i64 0, .int .i64 0, .int .i64 0, .int .i64 0, .int .i64 0, .int .i64 0, .int .i64 0, .int .i64 0, .int .i64 0] 34) := ⟨_, rfl⟩
 have s1 : w1.heap.size = B + 1 := by rw [hw1, hB]; simp
 have HE2 : Hid (EB w2 B a n c z) := hid (by rw [hw2, hw1, hB]; exact (EB.new w a n c z).alloc _)
 have HR2 : Hid (EB w2 (B + 1) none 0 0 z0) := hid (by rw [hw2, ← s1, ← zB1]; exact EB.new w1 none 0 0 z0)
 have HB2 : Hid (Below B w w2) := hid (by rw [hw2, hw1, hB]; exact ((Below.refl _ _).alloc (Nat.le_refl _) _).alloc (by simp) _)
 have HS2 : Hid (B + 1 < w2.heap.size) := hid HR2.out.lt
 have H2 : Hid (OpS w2 a n c L) := hid (h.below (hB ▸ HB2.out))
 have hlc := h.lc
 have hcm := h.cm
 unfold maxLen at hcm
 have HL := hid (OpS.len h)
 have HZ := hid hz
 have HBB := hid hB
 clear h hz s1
 go_enter Tryz.func32, Tryz.ntmps32
 go_wp2
 rw [← hw1, ← hw2, ← hB]
 clear hw1 hw2 hB w1
 go_loopw [6] (fun v wr => ∃ k : Nat, v = .int .i64 k ∧ k ≤ n ∧ Hid (∀ x ∈ L.take k, x.1 ≠ p) ∧ wr = w2) (fun v _ => n - (intOf v).toNat)
 case atStart => exact ⟨0, rfl, Nat.zero_le _, hid (fun x hx => by cases hx), rfl⟩
 case round =>
  obtain ⟨k, rfl, hk, HN, rfl⟩ := hrel
  have e0 := HE2.out.c0
  by_cases hlt : k < n
  ·have hlt' : (k : Int) < (n : Int) := by omega
   obtain ⟨b, off, rfl, _, hc⟩ := H2.out.at_ (by omega)
   clear hc
   have c0 := (OpS.at3 H2.out hlt).1
   obtain ⟨q, hq⟩ : ∃ q, q = (opA L k).1 := ⟨_, rfl⟩
   rw [← hq] at c0
   have HQ := hid hq
   clear hq
   have hp1 := mk_toList q
   have hp2 := mk_toList p
   cases he : (q == p) with
   | false =>
    have HN1 : Hid (∀ x ∈ L.take (k + 1), x.1 ≠ p) := hid fun x hx => by
     rw [zIG (by rw [HL.out]; exact hlt)] at hx
     rcases List.mem_append.1 hx with hx | hx
     ·exact HN.out x hx
     ·rw [List.mem_singleton.1 hx, ← HQ.out]; exact beq_eq_false_iff_ne.1 he
    go_wp2
    go_roundw
    case rel => exact ⟨k + 1, by go_num, by omega, HN1, trivial⟩
    case measure => simp [intOf]; omega
   | true =>
    have HI : Hid (drpI L p = some k) := hid (List.findIdx?_eq_some_iff_getElem.2 ⟨by rw [HL.out]; exact hlt, by rw [← zBh, ← HQ.out]; exact he, fun j hj => by
     have := HN.out (L[j]'(by rw [HL.out]; omega)) (List.mem_take_iff_getElem.2 ⟨j, by rw [HL.out]; omega, rfl⟩)
     simpa using this⟩)
    have HE : Hid (drpE L p = 0 ∧ drpL L p = L.take k ++ L.drop (k + 1)) := hid ⟨by unfold drpE; rw [HI.out], by unfold drpL; rw [HI.out]⟩
    obtain ⟨hs1, hv1⟩ := zFc H2.out (k := k) (by omega)
    obtain ⟨a2, hs2, hv2⟩ := zFb H2.out (k := k + 1) (by omega)
    have hs2' : ∀ w0 : World, (Instr.slice 30 (.slice (some ⟨b, off, none⟩) n c) (some (.int .i64 ((k : Int) + 1))) none none).run Tryz.prog w0 = .ok (.slice a2 (n - (k + 1)) (c - (k + 1))) w0 := hs2
    have HV1 : Hid (∀ w', Below wr.heap.size wr w' → OpS w' (some ⟨b, off, none⟩) k c (L.take k)) := hid fun w' h => hv1 _ (H2.out.below h)
    have HV2 : Hid (∀ w', Below wr.heap.size wr w' → OpS w' a2 (n - (k + 1)) (c - (k + 1)) (L.drop (k + 1))) := hid fun w' h => hv2 _ (H2.out.below h)
    have HKS : Hid (∀ w', Below wr.heap.size wr w' → w'.cell? ⟨B, 0, none⟩ = some (.slice (some ⟨b, off, none⟩) n c) ∧ EB w' B (some ⟨b, off, none⟩) n c z) := hid fun w' h => ⟨(HE2.out.below h).c0, HE2.out.below h⟩
    have hk1 : IntKind.i64.wrap ((k : Int) + 1) = (k : Int) + 1 := IntWalk.i64_in _ (by omega)
    clear hv1 hv2 hs2 HI
    go_wp2_with fail
    clear he c0 e0
    refine wp_region_noPanic ?_
    refine wp_region_held_drew (S := fun w' => w'.cell? ⟨B, 0, none⟩ = some (.slice (some ⟨b, off, none⟩) n c) ∧ EB w' B (some ⟨b, off, none⟩) n c z) (by kernel_rfl) (HKS.out _ (Below.refl _ _).drew) (fun hHeld => ?_)
    refine zG 1 rfl ?_
    try simp only [Act.put, aS, aZ, aC]
    refine zG 2 rfl ?_
    try simp only [Act.put, aS, aZ, aC]
    refine zG 3 rfl ?_
    try simp only [Act.put, aS, aZ, aC]
    refine zG 4 rfl ?_
    try simp only [Act.put, aS, aZ, aC]
    refine zG 6 rfl ?_
    try simp only [Act.put, aS, aZ, aC]
    refine zG 7 rfl ?_
    try simp only [Act.put, aS, aZ, aC]
    refine zG 8 rfl ?_
    try simp only [Act.put, aS, aZ, aC]
    refine zG 9 rfl ?_
    try simp only [Act.put, aS, aZ, aC]
    refine zG 10 rfl ?_
    try simp only [Act.put, aS, aZ, aC]
    refine zG 12 rfl ?_
    try simp only [Act.put, aS, aZ, aC]
    refine zD9 (i := 13) (oi := { dst := some 35, op := Op.load 32 (Operand.tmp 34), type := 32, pos := "ref.go:38", after := #[{ on := 12, ground := Ground.data }], guard := none }) (Operand.tmp 34) rfl (by kernel_rfl) (by kernel_rfl) (by kernel_rfl) (z) (fun _ _ _ h => h) (by rfl) rfl (B) rfl (HZ.out) _ _ _ (fun _ h => h.2) (by assumption) ?_
    try simp only [Act.put, aS, aZ, aC]
    refine zR [0] ?_
    refine hDo rfl (fun K hK => ?_) ?_
    ·go_simp
     refine hK.out _ _ (HKS.out _ (by first | exact (Below.refl _ _).drew.alloc (Nat.le_refl _) _ | exact ((Below.refl _ _).alloc (Nat.le_refl _) _).drew)) (fun hHeld => ?_)
     clear hK K
     try simp only [Act.put, aS, aZ, aC]
     refine zR [5] ?_
     refine hDo rfl (fun K hK => ?_) ?_
     ·refine zAH rfl (.tmp 22) (.tmp 26) 30 rfl 38 wr.heap.size 3 32 _ Tryz.underlying30 zAJ rfl (by omega) _ 0 _ [] rfl (OwnV.emptyAt (by first | exact heap_alloc_new wr _ | exact heap_alloc_new wr.drew _) (Nat.le_refl _)) _ k _ (cO (L.take k)) rfl (HV1.out _ (by first | exact (Below.refl _ _).drew.alloc (Nat.le_refl _) _ | exact ((Below.refl _ _).alloc (Nat.le_refl _) _).drew)) (zAX _) (by unfold maxLen; omega) (by omega) (by simp) ?_
      intro a5 c5 w5 ho5 hg5 hb5 _
      rw [Nat.zero_add, List.nil_append] at ho5
      rw [Nat.zero_add]
      have HO5 := hid ho5
      have HB5 : Hid (Below wr.heap.size wr w5) := hid (Below.trans (by first | exact (Below.refl _ _).drew.alloc (Nat.le_refl _) _ | exact ((Below.refl _ _).alloc (Nat.le_refl _) _).drew) hb5)
      clear ho5 hg5 hb5
      refine hK.out _ _ (HKS.out _ HB5.out) (fun hHeld => ?_)
      clear hK K
      try simp only [Act.put, aS, aZ, aC]
      refine zR [11] ?_
      refine hDo rfl (fun K hK => ?_) ?_
      ·refine zAH rfl (.tmp 27) (.tmp 32) 30 rfl 38 wr.heap.size 3 32 _ Tryz.underlying30 zAJ rfl (by omega) _ k _ (cO (L.take k)) rfl HO5.out _ (n - (k + 1)) _ (cO (L.drop (k + 1))) rfl (HV2.out _ HB5.out) (zAX _) (by unfold maxLen; omega) (by omega) HB5.out.size ?_
       intro a6 c6 w6 ho6 hg6 hb6 _
       obtain ⟨n6, hn6⟩ : ∃ n6, n6 = k + (n - (k + 1)) := ⟨_, rfl⟩
       rw [← hn6] at ho6 ⊢
       have HO6 : Hid (OwnO wr.heap.size w6 a6 n6 c6 (L.take k ++ L.drop (k + 1))) := hid (by rw [OwnO, cO_app]; exact ho6)
       have HB6 : Hid (Below wr.heap.size wr w6) := hid (HB5.out.trans hb6)
       have HX6 : Hid (EB w6 (B + 1) none 0 0 z0) := hid (HR2.out.below HB6.out)
       clear ho6 hg6 hb6 hn6
       refine hK.out _ _ (HKS.out _ HB6.out) (fun hHeld => ?_)
       clear hK K
       try simp only [Act.put, aS, aZ, aC]
       refine zT 14 (v := .agg (ev a6 n6 c6 (z))) rfl (fun w0 _ => zCG (Operand.tmp 33) (Operand.tmp 35) rfl a6 n6 c6 (z) (HZ.out) rfl rfl w0) ?_
       try simp only [Act.put, aS, aZ, aC]
       refine zR [15] ?_
       refine hDo rfl (fun K hK => ?_) ?_
       ·refine zAT rfl (.tmp 4) (.tmp 36) rfl (B + 1) rfl a6 n6 c6 z rfl HZ.out none 0 0 z0 zAF HX6.out ?_
        intro w7 he7 hq7
        have HE7 := hid he7
        have HQ7 := hid hq7
        clear he7 hq7
        refine hK.out _ _ (⟨(EB.only (HE2.out.below HB6.out) HQ7.out (by omega)).c0, EB.only (HE2.out.below HB6.out) HQ7.out (by omega)⟩) (fun hHeld => ?_)
        clear hK K
        try simp only [Act.put]
        refine zG 16 rfl ?_
        try simp only [Act.put, aS, aZ, aC]
        refine wpAnyH_done (by kernel_rfl) ?_ _
        refine NoPanic.normal ?_
        go_wp2
        refine bodyPost_ret (zAb rfl _ _ (B + 1) a6 n6 c6 z HZ.out rfl HE7.out) rfl ⟨a6, n6, c6, ?_, ?_, ?_⟩
        ·unfold drpZ; rw [if_pos HE.out.1, HE.out.1]; rfl
        ·rw [HE.out.2]; exact (zAr HO6.out HX6.out HQ7.out).weak (by have := HS2.out; have := HBB.out; omega)
        ·rw [← HBB.out]; exact (HB2.out.trans (HB6.out.mono (by have := HS2.out; omega))).trans (HQ7.out.below (by omega))
       ·exact AllReadyH.nil
      ·exact AllReadyH.nil
     ·exact AllReadyH.nil
    ·exact AllReadyH.nil
  ·obtain rfl : k = n := by omega
   have hlt' : ¬ (k : Int) < (k : Int) := by omega
   have HI : Hid (drpI L p = none) := hid (zKU.2 (by have := HN.out; rw [List.take_of_length_le (by rw [HL.out]; exact Nat.le_refl _)] at this; exact this))
   have HE : Hid (drpE L p = 2 ∧ drpL L p = []) := hid ⟨by unfold drpE; rw [HI.out], by unfold drpL; rw [HI.out]⟩
   have hbu : ∀ w, (Instr.build 34 #[]).run Tryz.prog w = .ok (.agg (ev none 0 0 z0)) w := fun w => zAx w
   go_wp2_with (refine zAD rfl (.tmp 4) (.tmp 37) rfl (B + 1) rfl none 0 0 z0 rfl rfl none 0 0 z0 zAF HR2.out ?_; intro wY hey hoy; have HEY := hid hey; have HOY := hid hoy; clear hey hoy)
   refine bodyPost_ret (zAb rfl _ _ (B + 1) none 0 0 z0 zAF rfl HEY.out) rfl ⟨none, 0, 0, ?_, ?_, ?_⟩
   ·unfold drpZ; rw [HE.out.1, if_neg (by decide)]; rfl
   ·rw [HE.out.2]; exact OwnV.none0
   ·rw [← HBB.out]; exact HB2.out.trans (HOY.out.below (by omega))
theorem zBR {w w' : World} {a : Option Addr} {n c : Nat} {L : List OP} (h : OpS w a n c L) (hb : Below w.heap.size w w') : OpS w' a n c L := h.below hb
theorem zBj {base : Nat} {w w' : World} {gE gL n0 c0 : Nat} {q : OP} (h : OwnO base w (some ⟨gL, 0, none⟩) 1 1 [q]) (hne : gE ≠ gL) (hg : w.grownBy w' (Value.ownBlock (.slice (some ⟨gE, 0, none⟩) n0 c0))) : OpS w' (some ⟨gL, 0, none⟩) 1 1 [q] :=
 (OwnV.other h hg (.inr (by simp only [Value.ownBlock]; simpa using hne.symm))).vs
theorem zBM {ops : Array Oper} {o : Oper} {A : Act} {w : World} {K : Act → World → Prop} {Q : Exit → Act → World → Prop} {E : Prop} (hgd : o.guard = none) (ho : o.op = .buildSlice 30 0 #[])
  (k : ∀ w' g, g = w.heap.size → OwnO w.heap.size w' (some ⟨g, 0, none⟩) 0 0 [] → w' = w.alloc (.cells #[] 38) → K (A.put o.dst (.slice (some ⟨g, 0, none⟩) 0 0)) w') : if Region.wanted o (yielded ops A.tmps) = true then o.wp Tryz.prog A w K Q else E := by
 rw [if_pos (show Region.wanted o (yielded ops A.tmps) = true by simp [Region.wanted, hgd])]
 have h := k (w.alloc (.cells #[] 38)) w.heap.size rfl (OwnV.emptyAt (heap_alloc_new w _) (Nat.le_refl _)) rfl
 have hr : (Instr.buildSlice 30 0 #[]).run Tryz.prog w = .ok (.slice (some ⟨w.heap.size, 0, none⟩) 0 0) (w.alloc (.cells #[] 38)) := by kernel_rfl
 unfold Oper.wp execOp
 simp only [ho, List.map_toArray, List.map_nil, hr, Sem.run_bind, Result.andThen_ok, Sem.run_pure]
 exact h
theorem zBI {ops : Array Oper} {o : Oper} {A : Act} {w : World} {K : Act → World → Prop} {Q : Exit → Act → World → Prop} {E : Prop} (hgd : o.guard = none) (x : Operand) (ho : o.op = .buildSlice 30 1 #[(0, x)]) (q : OP) (hx : A.eval x = .agg #[.string (mk q.1), .int .i64 q.2.1, .int .i64 q.2.2])
  (k : ∀ w' g, g = w.heap.size → OwnO w.heap.size w' (some ⟨g, 0, none⟩) 1 1 [q] → w' = w.alloc (.cells #[.string (mk q.1), .int .i64 q.2.1, .int .i64 q.2.2] 38) → K (A.put o.dst (.slice (some ⟨g, 0, none⟩) 1 1)) w') : if Region.wanted o (yielded ops A.tmps) = true then o.wp Tryz.prog A w K Q else E := by
 rw [if_pos (show Region.wanted o (yielded ops A.tmps) = true by simp [Region.wanted, hgd])]
 have h := k (w.alloc (.cells #[.string (mk q.1), .int .i64 q.2.1, .int .i64 q.2.2] 38)) w.heap.size rfl (zIH (cur := cO [q]) (heap_alloc_new w _) (Nat.le_refl _) rfl (Nat.le_refl _) (by decide) rfl) rfl
 have hr : (Instr.buildSlice 30 1 #[(0, .agg #[.string (mk q.1), .int .i64 q.2.1, .int .i64 q.2.2])]).run Tryz.prog w = .ok (.slice (some ⟨w.heap.size, 0, none⟩) 1 1) (w.alloc (.cells #[.string (mk q.1), .int .i64 q.2.1, .int .i64 q.2.2] 38)) := by kernel_rfl
 unfold Oper.wp execOp
 simp only [ho, List.map_toArray, List.map_cons, List.map_nil, hx, hr, Sem.run_bind, Result.andThen_ok, Sem.run_pure]
 exact h
set_option maxRecDepth 100000 in
set_option maxHeartbeats 16000000 in
theorem zMW (a : Option Addr) (n c : Nat) (L : List OP) (z : List Int) (o : OP) (w : World) (h : OpS w a n c L) (hz : z.length = 10) (hn : n ≤ 1000000) (hp : o.1.length ≤ 200) :
  Calls Tryz.prog 33 #[.agg (ev a n c z), .agg #[.string (mk o.1), .int .i64 o.2.1, .int .i64 o.2.2]] w fun e w' => ∃ a' n' c', e = .returned (.tuple #[.agg (ev a' n' c' (addZ L z o)), .int .i64 (addE L o)]) ∧ OwnO w.heap.size w' a' n' c' (addR L o) ∧ Below w.heap.size w w' := by
 obtain ⟨B, hB⟩ : ∃ B, B = w.heap.size := ⟨_, rfl⟩
 obtain ⟨w1, hw1⟩ : ∃ w1, w1 = w.alloc (.cells (ev a n c z) 34) := ⟨_, rfl⟩
 obtain ⟨p, g, s⟩ := o
 dsimp only at hp ⊢
 obtain ⟨w2, hw2⟩ : ∃ w2, w2 = w1.alloc (.cells #[.string (mk p), .int .i64 g, .int .i64 s] 38) := ⟨_, rfl⟩
 obtain ⟨w3, hw3⟩ : ∃ w3, w3 = w2.alloc (.cells #[.slice none 0 0, .int .i64 0, .int .i64 0, .int .i64 0, .int .i64 0, .int .i64 0, .int .i64 0, .int .i64 0, .int .i64 0, .int .i64 0, .int .i64 0] 34) := ⟨_, rfl⟩
 have s1 : w1.heap.size = B + 1 := by rw [hw1, hB]; simp
 have s2 : w2.heap.size = B + 1 + 1 := by rw [hw2]; simp [s1]
 have HE3 : Hid (EB w3 B a n c z) := hid (by rw [hw3, hw2, hw1, hB]; exact ((EB.new w a n c z).alloc _).alloc _)
 have HD3 : Hid (D3 w3 (B + 1) (p, g, s)) := hid (by rw [hw3, ← s1, hw2]; exact (D3.new w1 (p, g, s)).below (zAA _ _))
 have HR3 : Hid (EB w3 (B + 1 + 1) none 0 0 z0) := hid (by rw [hw3, ← s2, ← zB1]; exact EB.new w2 none 0 0 z0)
 have HB3 : Hid (Below B w w3) := hid (by rw [hw3, hw2, hw1, hB]; exact (((Below.refl _ _).alloc (Nat.le_refl _) _).alloc (by simp) _).alloc (by simp; omega) _)
 have HS3 : Hid (w3.heap.size = B + 1 + 1 + 1) := hid (by rw [hw3]; simp [s2])
 have HO3 : Hid (OpS w3 a n c L) := hid (h.below (hB ▸ HB3.out))
 have hlc := h.lc
 have hcm := h.cm
 unfold maxLen at hcm
 have HL := hid (OpS.len h)
 have HZ := hid hz
 have HP := hid hp
 have HBB := hid hB
 obtain ⟨d0, d1, d2⟩ := HD3.out.cells
 dsimp only at d0 d1 d2
 clear h hz hp s1 s2
 go_enter Tryz.func33, Tryz.ntmps33
 go_wp2_with fail
 rw [← hw1, ← hw2, ← hw3, ← hB]
 clear hw1 hw2 hw3 hB
 refine (zGH p g s w3 HP.out).mono ?_
 rintro e w4 ⟨rfl, hb4⟩
 have HE4 := hid (HE3.out.below hb4)
 have HD4 := hid (HD3.out.below hb4)
 have HR4 := hid (HR3.out.below hb4)
 have HO4 := hid (HO3.out.below hb4)
 have HB4 : Hid (Below B w w4) := hid (HB3.out.trans (hb4.mono (by have := HS3.out; omega)))
 have HS4 : Hid (B + 1 + 1 < w4.heap.size) := hid HR4.out.lt
 clear hb4 d0 d1 d2
 obtain ⟨m, hm⟩ : ∃ m, m = mayV p g s := ⟨_, rfl⟩
 rw [← hm]
 by_cases hm0 : m = 0
 case neg =>
  have hbu : ∀ w, (Instr.build 34 #[]).run Tryz.prog w = .ok (.agg (ev none 0 0 z0)) w := fun w => zAx w
  have HBAD : Hid (addE L (p, g, s) = m ∧ addE L (p, g, s) ≠ 0) := hid (by rw [hm]; exact zII (by rw [← hm]; exact hm0))
  clear hm
  go_wp2_with (refine zAD rfl (.tmp 4) (.tmp 14) rfl (B + 1 + 1) rfl none 0 0 z0 rfl rfl none 0 0 z0 zAF HR4.out ?_; intro w5 he5 ho5; have HE5 := hid he5; have HO5 := hid ho5; clear he5 ho5)
  refine bodyPost_ret (zAb rfl _ _ (B + 1 + 1) none 0 0 z0 zAF rfl HE5.out) rfl ⟨none, 0, 0, ?_, ?_, ?_⟩
  ·unfold addZ; rw [if_neg HBAD.out.2, HBAD.out.1]; rfl
  ·unfold addR; rw [if_neg HBAD.out.2]; exact OwnV.none0
  ·rw [← HBB.out]; exact HB4.out.trans (HO5.out.below (by omega))
 subst hm0
 have HM0 : Hid (mayV p g s = 0) := hid hm.symm
 clear hm
 go_wp2
 go_loopw [7] (fun v wr => ∃ k : Nat, v = .int .i64 k ∧ k ≤ n ∧ Hid (k ≤ posL L p) ∧ Hid (Below w4.heap.size w4 wr)) (fun v _ => n - (intOf v).toNat)
 case atStart => exact ⟨0, rfl, Nat.zero_le _, hid (Nat.zero_le _), hid (Below.refl _ _)⟩
 case round =>
  obtain ⟨k, rfl, hk, HK, HB⟩ := hrel
  have d0 := (HD4.out.below HB.out).cells.1
  dsimp only at d0
  by_cases hlt : k < n
  ·have hgd : decide ((k : Int) < (n : Int)) = true := by simpa using hlt
   have hs := HO4.out.below HB.out
   obtain ⟨b, off, rfl, _, hc⟩ := hs.at_ (by omega)
   clear hc
   have c0 := (OpS.at3 hs hlt).1
   clear hs
   obtain ⟨q, hq⟩ : ∃ q, q = (opA L k).1 := ⟨_, rfl⟩
   rw [← hq] at c0
   have HQ := hid hq
   clear hq
   have hp1 := mk_toList q
   have hp2 := mk_toList p
   cases hb : Op.bytesLess q p with
   | true =>
    have HK1 : Hid (k + 1 ≤ posL L p) := hid (zGO HK.out (by rw [HL.out]; exact hlt) (by rw [← HQ.out]; exact hb))
    have e0 := (HE4.out.below HB.out).c0
    go_wp2_with fail
    go_region
    go_wp2
    go_roundw
    case rel => exact ⟨k + 1, by go_num, by omega, HK1, hid HB.out.drew⟩
    case measure => simp [intOf]; omega
   | false =>
    have HPO : Hid (posL L p = k) := hid (zGP HK.out (by rw [HL.out]; exact hlt) (by rw [← HQ.out]; exact hb))
    have HER := hid ((HE4.out.below HB.out).drew)
    have HDR := hid ((HD4.out.below HB.out).below (Below.refl _ _).drew)
    have HRR := hid ((HR4.out.below HB.out).drew)
    have HBR : Hid (Below w4.heap.size w4 wr.drew) := hid HB.out.drew
    have HOR := hid (HO4.out.below HBR.out)
    obtain ⟨w5, hw5⟩ : ∃ w5, w5 = wr.drew := ⟨_, rfl⟩
    rw [← hw5] at HER HDR HRR HBR HOR
    have e0 := HER.out.c0
    have r0 := (HE4.out.below HB.out).c0
    obtain ⟨a5, hs5, hv5⟩ := zFb HOR.out (k := k) hk
    have HV5 := hid (hv5 _ HOR.out)
    go_wp2_with fail
    go_region
    rw [← hw5]
    clear hw5 hv5
    go_wp2_with fail
    have HG5 : Hid (B + 1 + 1 < w5.heap.size) := hid HRR.out.lt
    have HB5 : Hid (Below B w w5) := hid (HB4.out.trans (HBR.out.mono (by have := HS4.out; omega)))
    clear c0 hb
    obtain ⟨b5, o5, rfl, _, hc⟩ := HV5.out.at_ (by omega)
    clear hc
    have c6c := (OpS.at3 HV5.out (k := 0) (by omega)).1
    rw [Nat.zero_mul, Nat.add_zero, show opA (L.drop k) 0 = opA L k by rw [zFY (by rw [HL.out]; exact hlt)]; rfl, ← HQ.out] at c6c
    have hnk : (0 : Int) < ((n - k : Nat) : Int) := by omega
    have hnk2 : 1 ≤ n - k := by omega
    obtain ⟨m, hm⟩ : ∃ m, m = n - k := ⟨_, rfl⟩
    obtain ⟨cm, hcm2⟩ : ∃ cm, cm = c - k := ⟨_, rfl⟩
    have hmn : m ≤ n := by omega
    have hmc : m ≤ cm := by omega
    have HMK := hid hm
    rw [← hm, ← hcm2] at HV5 hs5 ⊢
    rw [← hm] at hnk hnk2
    have hnk3 : decide ((0 : Int) < (m : Int)) = true := decide_eq_true hnk
    have hnk5 : 0 < m := hnk2
    clear hm hcm2
    cases he : (q == p) with
    | true =>
     have HIT : Hid (hitL L p = true) := hid (by rw [zFW HPO.out (by rw [HL.out]; exact hlt), ← zBh, ← HQ.out]; exact he)
     have HADD : Hid (addE L (p, g, s) = 0 ∧ addL L (p, g, s) = L.take k ++ [(p, g, s)] ++ L.drop (k + 1)) := hid ⟨zIJ HM0.out HIT.out, zIK HPO.out HIT.out⟩
     obtain ⟨d0, d1, d2⟩ := HDR.out.cells
     dsimp only at d0 d1 d2
     clear r0
     go_region
     obtain ⟨w6, hw6⟩ : ∃ w6, w6 = w5.drew := ⟨_, rfl⟩
     have HE6 := hid HER.out.drew
     have HD6 : Hid (D3 w5.drew (B + 1) (p, g, s)) := hid (HDR.out.below (Below.refl _ _).drew)
     have HR6 := hid HRR.out.drew
     have HO6 := hid (HOR.out.below (Below.refl _ _).drew)
     have HV6 := hid (HV5.out.below (Below.refl _ _).drew)
     have HB6 : Hid (Below B w w5.drew) := hid HB5.out.drew
     have HG6 : Hid (B + 1 + 1 < w5.drew.heap.size) := hid HG5.out
     rw [← hw6] at HE6 HD6 HR6 HO6 HV6 HB6 HG6 ⊢
     clear hw6 d0 d1 d2 e0
     have e0 := HE6.out.c0
     clear he c6c
     obtain ⟨a7, hs7, hv7⟩ := zFb HV6.out (k := 1) hnk2
     have HV7 : Hid (OpS w6 a7 (m - 1) (cm - 1) (L.drop (k + 1))) := hid (by have := hv7 _ HV6.out; rw [List.drop_drop] at this; exact this)
     have hs7' : ∀ w0 : World, (Instr.slice 30 (.slice (some ⟨b5, o5, none⟩) m cm) (some (.int .i64 1)) none none).run Tryz.prog w0 = .ok (.slice a7 (m - 1) (cm - 1)) w0 := hs7
     clear hv7 hs7
     have HVR : Hid (∀ w', Below w6.heap.size w6 w' → OpS w' a7 (m - 1) (cm - 1) (L.drop (k + 1))) := hid fun w' h => zBR HV7.out h
     obtain ⟨hs1, hv1⟩ := zFc HO6.out (k := k) hk
     have HV1 : Hid (∀ w', Below w6.heap.size w6 w' → OpS w' (some ⟨b, off, none⟩) k c (L.take k)) := hid fun w' h => hv1 _ (HO6.out.below h)
     have HKS : Hid (∀ w', Below w6.heap.size w6 w' → w'.cell? ⟨B, 0, none⟩ = some (.slice (some ⟨b, off, none⟩) n c) ∧ w'.cell? ⟨B + 1, 0, none⟩ = some (.string (mk p)) ∧ w'.cell? ⟨B + 1, 1, none⟩ = some (.int .i64 g) ∧ w'.cell? ⟨B + 1, 2, none⟩ = some (.int .i64 s)) := hid fun w' h => ⟨(HE6.out.below h).c0, (HD6.out.below h).cells⟩
     clear hv1 hs5
     go_upto_region 12 with fail
     go_cut [9] (fun u wx => ∃ a9 c9, u = .slice a9 (k + 1) c9 ∧ Hid (OwnO w6.heap.size wx a9 (k + 1) c9 (L.take k ++ [(p, g, s)])) ∧ Hid (Below w6.heap.size w6 wx))
     case first =>
      refine wp_region_noPanic ?_
      refine wp_region_held_drew (S := fun w' => w'.cell? ⟨B, 0, none⟩ = some (.slice (some ⟨b, off, none⟩) n c) ∧ w'.cell? ⟨B + 1, 0, none⟩ = some (.string (mk p)) ∧ w'.cell? ⟨B + 1, 1, none⟩ = some (.int .i64 g) ∧ w'.cell? ⟨B + 1, 2, none⟩ = some (.int .i64 s)) (by kernel_rfl) (HKS.out _ (Below.refl _ _).drew) (fun hHeld => ?_)
      refine zG 1 rfl ?_
      try simp only [Act.put, aS, aZ, aC]
      refine zG 2 rfl ?_
      try simp only [Act.put, aS, aZ, aC]
      refine zG 3 rfl ?_
      try simp only [Act.put, aS, aZ, aC]
      refine zG 4 rfl ?_
      try simp only [Act.put, aS, aZ, aC]
      refine zG 6 rfl ?_
      try simp only [Act.put, aS, aZ, aC]
      refine zR [0, 7] ?_
      refine hDo rfl (fun K hK => ?_) ?_
      ·refine zBM rfl rfl ?_
       intro wx1 gE hgE hoE hwE
       have HBx1 : Hid (Below w6.heap.size w6 wx1) := hid (by rw [hwE]; exact Below.alloc (Below.refl w6.heap.size w6).drew ((Below.refl w6.heap.size w6).drew).size _)
       have HNE : Hid (OwnO w6.heap.size wx1 (some ⟨gE, 0, none⟩) 0 0 []) := hid (OwnV.weak hoE ((Below.refl w6.heap.size w6).drew).size)
       have HLE : Hid (gE < wx1.heap.size) := hid (by rw [hwE, hgE]; simp)
       clear hgE hoE hwE
       refine hK.out _ _ (HKS.out _ HBx1.out) (fun hHeld => ?_)
       clear hK K
       try simp only [Act.put, aS, aZ, aC]
       refine zR [5, 7] ?_
       refine hDo rfl (fun K hK => ?_) ?_
       ·refine zAH rfl (.tmp 57) (.tmp 61) 30 rfl 38 w6.heap.size 3 32 _ Tryz.underlying30 zAJ rfl (by omega) _ 0 _ [] rfl HNE.out _ k _ (cO (L.take k)) rfl (HV1.out _ HBx1.out) (zAX _) (by unfold maxLen; omega) (by omega) (HBx1.out).size ?_
        intro a5x c5x wx2 ho5x hg5x hb5x _
        rw [Nat.zero_add, List.nil_append] at ho5x
        rw [Nat.zero_add]
        have HO5 : Hid (OwnO w6.heap.size wx2 a5x k c5x (L.take k)) := hid ho5x
        have HBx2 : Hid (Below w6.heap.size w6 wx2) := hid (Below.trans HBx1.out hb5x)
        clear ho5x hg5x hb5x
        refine hK.out _ _ (HKS.out _ HBx2.out) (fun hHeld => ?_)
        clear hK K
        try simp only [Act.put, aS, aZ, aC]
        refine zR [7] ?_
        refine hDo rfl (fun K hK => ?_) ?_
        ·refine zBI rfl (.tmp 63) rfl (p, g, s) rfl ?_
         intro wx3 gL hgL hoL hwL
         have HBx3 : Hid (Below w6.heap.size w6 wx3) := hid (by rw [hwL]; exact Below.alloc HBx2.out (HBx2.out).size _)
         have HNL : Hid (OwnO w6.heap.size wx3 (some ⟨gL, 0, none⟩) 1 1 [(p, g, s)]) := hid (OwnV.weak hoL (HBx2.out).size)
         have HLL : Hid (gL < wx3.heap.size) := hid (by rw [hwL, hgL]; simp)
         have HO53 : Hid (OwnO w6.heap.size wx3 a5x k c5x (L.take k)) := hid (by rw [hwL]; exact OwnV.alloc HO5.out _)
         have HV : Hid (OpS wx3 (some ⟨gL, 0, none⟩) 1 1 [(p, g, s)]) := hid HNL.out.vs
         clear hgL hoL hwL
         refine hK.out _ _ (HKS.out _ HBx3.out) (fun hHeld => ?_)
         clear hK K
         try simp only [Act.put, aS, aZ, aC]
         refine zR [8] ?_
         refine hDo rfl (fun K hK => ?_) ?_
         ·refine zAH rfl (.tmp 62) (.tmp 64) 30 rfl 38 w6.heap.size 3 32 _ Tryz.underlying30 zAJ rfl (by omega) _ k _ (cO (L.take k)) rfl HO53.out _ 1 _ (cO [(p, g, s)]) rfl HV.out (zAX _) (by unfold maxLen; omega) (by omega) (HBx3.out).size ?_
          intro a9 c9 wx4 ho9 hg9 hb9 _
          have HO9 : Hid (OwnO w6.heap.size wx4 a9 (k + 1) c9 (L.take k ++ [(p, g, s)])) := hid (by rw [OwnO, cO_app]; exact ho9)
          have HBx4 : Hid (Below w6.heap.size w6 wx4) := hid (Below.trans HBx3.out hb9)
          clear ho9 hg9 hb9
          refine hK.out _ _ (HKS.out _ HBx4.out) (fun hHeld => ?_)
          clear hK K
          try simp only [Act.put, aS, aZ, aC]
          refine zG 9 rfl ?_
          try simp only [Act.put, aS, aZ, aC]
          refine wpAnyH_done (by kernel_rfl) ?_ _
          refine NoPanic.normal ?_
          go_wp2
          go_meet
          exact ⟨_, _, rfl, HO9, HBx4⟩
         exact AllReadyH.nil
        exact AllReadyH.nil
       refine hDo rfl (fun K hK => ?_) ?_
       ·refine zBI rfl (.tmp 63) rfl (p, g, s) rfl ?_
        intro wx2 gL hgL hoL hwL
        have HBx2 : Hid (Below w6.heap.size w6 wx2) := hid (by rw [hwL]; exact Below.alloc HBx1.out (HBx1.out).size _)
        have HNL : Hid (OwnO w6.heap.size wx2 (some ⟨gL, 0, none⟩) 1 1 [(p, g, s)]) := hid (OwnV.weak hoL (HBx1.out).size)
        have HLL : Hid (gL < wx2.heap.size) := hid (by rw [hwL, hgL]; simp)
        have HNE2 : Hid (OwnO w6.heap.size wx2 (some ⟨gE, 0, none⟩) 0 0 []) := hid (by rw [hwL]; exact OwnV.alloc HNE.out _)
        have HNQ : Hid (gE ≠ gL) := hid (by have h1 := HLE.out; omega)
        clear hgL hoL hwL
        refine hK.out _ _ (HKS.out _ HBx2.out) (fun hHeld => ?_)
        clear hK K
        try simp only [Act.put, aS, aZ, aC]
        refine zR [5] ?_
        refine hDo rfl (fun K hK => ?_) ?_
        ·refine zAH rfl (.tmp 57) (.tmp 61) 30 rfl 38 w6.heap.size 3 32 _ Tryz.underlying30 zAJ rfl (by omega) _ 0 _ [] rfl HNE2.out _ k _ (cO (L.take k)) rfl (HV1.out _ HBx2.out) (zAX _) (by unfold maxLen; omega) (by omega) (HBx2.out).size ?_
         intro a5x c5x wx3 ho5x hg5x hb5x _
         rw [Nat.zero_add, List.nil_append] at ho5x
         rw [Nat.zero_add]
         have HO5 : Hid (OwnO w6.heap.size wx3 a5x k c5x (L.take k)) := hid ho5x
         have HBx3 : Hid (Below w6.heap.size w6 wx3) := hid (Below.trans HBx2.out hb5x)
         have HV : Hid (OpS wx3 (some ⟨gL, 0, none⟩) 1 1 [(p, g, s)]) := hid (zBj HNL.out HNQ.out hg5x)
         clear ho5x hg5x hb5x
         refine hK.out _ _ (HKS.out _ HBx3.out) (fun hHeld => ?_)
         clear hK K
         try simp only [Act.put, aS, aZ, aC]
         refine zR [8] ?_
         refine hDo rfl (fun K hK => ?_) ?_
         ·refine zAH rfl (.tmp 62) (.tmp 64) 30 rfl 38 w6.heap.size 3 32 _ Tryz.underlying30 zAJ rfl (by omega) _ k _ (cO (L.take k)) rfl HO5.out _ 1 _ (cO [(p, g, s)]) rfl HV.out (zAX _) (by unfold maxLen; omega) (by omega) (HBx3.out).size ?_
          intro a9 c9 wx4 ho9 hg9 hb9 _
          have HO9 : Hid (OwnO w6.heap.size wx4 a9 (k + 1) c9 (L.take k ++ [(p, g, s)])) := hid (by rw [OwnO, cO_app]; exact ho9)
          have HBx4 : Hid (Below w6.heap.size w6 wx4) := hid (Below.trans HBx3.out hb9)
          clear ho9 hg9 hb9
          refine hK.out _ _ (HKS.out _ HBx4.out) (fun hHeld => ?_)
          clear hK K
          try simp only [Act.put, aS, aZ, aC]
          refine zG 9 rfl ?_
          try simp only [Act.put, aS, aZ, aC]
          refine wpAnyH_done (by kernel_rfl) ?_ _
          refine NoPanic.normal ?_
          go_wp2
          go_meet
          exact ⟨_, _, rfl, HO9, HBx4⟩
         exact AllReadyH.nil
        exact AllReadyH.nil
       exact AllReadyH.nil
      refine hDo rfl (fun K hK => ?_) ?_
      ·refine zBI rfl (.tmp 63) rfl (p, g, s) rfl ?_
       intro wx1 gL hgL hoL hwL
       have HBx1 : Hid (Below w6.heap.size w6 wx1) := hid (by rw [hwL]; exact Below.alloc (Below.refl w6.heap.size w6).drew ((Below.refl w6.heap.size w6).drew).size _)
       have HNL : Hid (OwnO w6.heap.size wx1 (some ⟨gL, 0, none⟩) 1 1 [(p, g, s)]) := hid (OwnV.weak hoL ((Below.refl w6.heap.size w6).drew).size)
       have HLL : Hid (gL < wx1.heap.size) := hid (by rw [hwL, hgL]; simp)
       clear hgL hoL hwL
       refine hK.out _ _ (HKS.out _ HBx1.out) (fun hHeld => ?_)
       clear hK K
       try simp only [Act.put, aS, aZ, aC]
       refine zR [0] ?_
       refine hDo rfl (fun K hK => ?_) ?_
       ·refine zBM rfl rfl ?_
        intro wx2 gE hgE hoE hwE
        have HBx2 : Hid (Below w6.heap.size w6 wx2) := hid (by rw [hwE]; exact Below.alloc HBx1.out (HBx1.out).size _)
        have HNE : Hid (OwnO w6.heap.size wx2 (some ⟨gE, 0, none⟩) 0 0 []) := hid (OwnV.weak hoE (HBx1.out).size)
        have HLE : Hid (gE < wx2.heap.size) := hid (by rw [hwE, hgE]; simp)
        have HNL2 : Hid (OwnO w6.heap.size wx2 (some ⟨gL, 0, none⟩) 1 1 [(p, g, s)]) := hid (by rw [hwE]; exact OwnV.alloc HNL.out _)
        have HNQ : Hid (gE ≠ gL) := hid (by have h1 := HLL.out; omega)
        clear hgE hoE hwE
        refine hK.out _ _ (HKS.out _ HBx2.out) (fun hHeld => ?_)
        clear hK K
        try simp only [Act.put, aS, aZ, aC]
        refine zR [5] ?_
        refine hDo rfl (fun K hK => ?_) ?_
        ·refine zAH rfl (.tmp 57) (.tmp 61) 30 rfl 38 w6.heap.size 3 32 _ Tryz.underlying30 zAJ rfl (by omega) _ 0 _ [] rfl HNE.out _ k _ (cO (L.take k)) rfl (HV1.out _ HBx2.out) (zAX _) (by unfold maxLen; omega) (by omega) (HBx2.out).size ?_
         intro a5x c5x wx3 ho5x hg5x hb5x _
         rw [Nat.zero_add, List.nil_append] at ho5x
         rw [Nat.zero_add]
         have HO5 : Hid (OwnO w6.heap.size wx3 a5x k c5x (L.take k)) := hid ho5x
         have HBx3 : Hid (Below w6.heap.size w6 wx3) := hid (Below.trans HBx2.out hb5x)
         have HV : Hid (OpS wx3 (some ⟨gL, 0, none⟩) 1 1 [(p, g, s)]) := hid (zBj HNL2.out HNQ.out hg5x)
         clear ho5x hg5x hb5x
         refine hK.out _ _ (HKS.out _ HBx3.out) (fun hHeld => ?_)
         clear hK K
         try simp only [Act.put, aS, aZ, aC]
         refine zR [8] ?_
         refine hDo rfl (fun K hK => ?_) ?_
         ·refine zAH rfl (.tmp 62) (.tmp 64) 30 rfl 38 w6.heap.size 3 32 _ Tryz.underlying30 zAJ rfl (by omega) _ k _ (cO (L.take k)) rfl HO5.out _ 1 _ (cO [(p, g, s)]) rfl HV.out (zAX _) (by unfold maxLen; omega) (by omega) (HBx3.out).size ?_
          intro a9 c9 wx4 ho9 hg9 hb9 _
          have HO9 : Hid (OwnO w6.heap.size wx4 a9 (k + 1) c9 (L.take k ++ [(p, g, s)])) := hid (by rw [OwnO, cO_app]; exact ho9)
          have HBx4 : Hid (Below w6.heap.size w6 wx4) := hid (Below.trans HBx3.out hb9)
          clear ho9 hg9 hb9
          refine hK.out _ _ (HKS.out _ HBx4.out) (fun hHeld => ?_)
          clear hK K
          try simp only [Act.put, aS, aZ, aC]
          refine zG 9 rfl ?_
          try simp only [Act.put, aS, aZ, aC]
          refine wpAnyH_done (by kernel_rfl) ?_ _
          refine NoPanic.normal ?_
          go_wp2
          go_meet
          exact ⟨_, _, rfl, HO9, HBx4⟩
         exact AllReadyH.nil
        exact AllReadyH.nil
       exact AllReadyH.nil
      exact AllReadyH.nil
     case rest =>
     obtain ⟨a9, c9, rfl, HO9, HB9⟩ := hcut
     have HE9 := hid (HE6.out.below HB9.out)
     have HX9 := hid (HR6.out.below HB9.out)
     have hc9 : k + 1 ≤ n + 1 := by omega
     go_wp2_with fail
     refine wp_region_noPanic ?_
     refine wp_region_held_drew (S := fun w' => EB w' B (some ⟨b, off, none⟩) n c z) (by kernel_rfl) (HE9.out.drew) (fun hHeld => ?_)
     refine zG 0 rfl ?_
     try simp only [Act.put, aS, aZ, aC]
     refine zG 1 rfl ?_
     try simp only [Act.put, aS, aZ, aC]
     refine zG 3 rfl ?_
     try simp only [Act.put, aS, aZ, aC]
     refine zD9 (i := 4) (oi := { dst := some 70, op := Op.load 32 (Operand.tmp 69), type := 32, pos := "ref.go:31", after := #[{ on := 3, ground := Ground.data }], guard := none }) (Operand.tmp 69) rfl (by kernel_rfl) (by kernel_rfl) (by kernel_rfl) (z) (fun _ _ _ h => h) (by rfl) rfl (B) rfl (HZ.out) _ _ _ (fun _ h => h) (by assumption) ?_
     try simp only [Act.put, aS, aZ, aC]
     refine zR [2] ?_
     refine hDo rfl (fun K hK => ?_) ?_
     ·refine zAH rfl (.tmp 66) (.tmp 67) 30 rfl 38 w6.heap.size 3 32 _ Tryz.underlying30 zAJ rfl (by omega) _ (k + 1) _ (cO (L.take k ++ [(p, g, s)])) rfl HO9.out.drew _ (m - 1) _ (cO (L.drop (k + 1))) rfl (HVR.out _ HB9.out.drew) (zAX _) (by unfold maxLen; omega) (by omega) HB9.out.drew.size ?_
      intro aA cA wA hoA hgA hbA _
      have HOA := hid hoA
      have HBA := hid ((Below.refl w6.heap.size wc).drew.trans hbA)
      have HEA := hid (HE9.out.keep HBA.out (by have := HG6.out; omega))
      have HXA := hid (HX9.out.keep HBA.out HG6.out)
      clear hoA hgA hbA
      refine hK.out _ _ (HEA.out) (fun hHeld => ?_)
      clear hK K
      try simp only [Act.put, aS, aZ, aC]
      refine zT 5 (v := .agg (ev aA (k + 1 + (m - 1)) cA (z))) rfl (fun w0 _ => zCG (Operand.tmp 68) (Operand.tmp 70) rfl aA (k + 1 + (m - 1)) cA (z) (HZ.out) rfl rfl w0) ?_
      try simp only [Act.put, aS, aZ, aC]
      refine zR [6] ?_
      refine hDo rfl (fun K hK => ?_) ?_
      ·refine zAT rfl (.tmp 4) (.tmp 71) rfl (B + 1 + 1) rfl aA (k + 1 + (m - 1)) cA z rfl HZ.out none 0 0 z0 zAF HXA.out ?_
       intro wY hey hoy
       have HEY := hid hey
       have HOY := hid hoy
       clear hey hoy
       refine hK.out _ _ (HEA.out.only HOY.out (by omega)) (fun hHeld => ?_)
       clear hK K
       try simp only [Act.put]
       refine zG 7 rfl ?_
       try simp only [Act.put, aS, aZ, aC]
       refine wpAnyH_done (by kernel_rfl) ?_ _
       refine NoPanic.normal ?_
       go_wp2
       refine bodyPost_ret (zAb rfl _ _ (B + 1 + 1) aA (k + 1 + (m - 1)) cA z HZ.out rfl HEY.out) rfl ⟨aA, k + 1 + (m - 1), cA, ?_, ?_, ?_⟩
       ·unfold addZ; rw [if_pos HADD.out.1, HADD.out.1]; rfl
       ·unfold addR; rw [if_pos HADD.out.1, HADD.out.2]
        have ho : OwnO w6.heap.size wA aA (k + 1 + (m - 1)) cA (L.take k ++ [(p, g, s)] ++ L.drop (k + 1)) := by rw [OwnO, cO_app]; exact HOA.out
        exact (zBi ho HOY.out HG6.out).weak (by have := HG6.out; have := HBB.out; omega)
       ·rw [← HBB.out]; exact ((HB6.out.trans (HB9.out.mono (by have := HG6.out; omega))).trans (HBA.out.mono (by have := HG6.out; omega))).trans (HOY.out.below (by omega))
      ·exact AllReadyH.nil
     ·exact AllReadyH.nil
    | false =>
     have HNO : Hid (hitL L p = false) := hid (by rw [zFW HPO.out (by rw [HL.out]; exact hlt), ← zBh, ← HQ.out]; exact he)
     obtain ⟨d0, d1, d2⟩ := HDR.out.cells
     dsimp only at d0 d1 d2
     clear r0
     go_region
     obtain ⟨w6, hw6⟩ : ∃ w6, w6 = w5.drew := ⟨_, rfl⟩
     have HE6 := hid HER.out.drew
     have HD6 : Hid (D3 w5.drew (B + 1) (p, g, s)) := hid (HDR.out.below (Below.refl _ _).drew)
     have HR6 := hid HRR.out.drew
     have HO6 := hid (HOR.out.below (Below.refl _ _).drew)
     have HV6 := hid (HV5.out.below (Below.refl _ _).drew)
     have HB6 : Hid (Below B w w5.drew) := hid HB5.out.drew
     have HG6 : Hid (B + 1 + 1 < w5.drew.heap.size) := hid HG5.out
     rw [← hw6] at HE6 HD6 HR6 HO6 HV6 HB6 HG6 ⊢
     clear hw6 d0 d1 d2 e0
     have e0 := HE6.out.c0
     clear he c6c
     by_cases hf : 16 ≤ n
     ·have hfd : decide ((16 : Int) ≤ (n : Int)) = true := by simp; omega
      have hbu : ∀ w, (Instr.build 34 #[]).run Tryz.prog w = .ok (.agg (ev none 0 0 z0)) w := fun w => zAx w
      have HF5 : Hid (addE L (p, g, s) = 5) := hid (zCF HM0.out HNO.out (by rw [HL.out]; exact hf))
      go_wp2_with (refine zAD rfl (.tmp 4) (.tmp 56) rfl (B + 1 + 1) rfl none 0 0 z0 rfl rfl none 0 0 z0 zAF HR6.out ?_; intro wY hey hoy; have HEY := hid hey; have HOY := hid hoy; clear hey hoy)
      refine bodyPost_ret (zAb rfl _ _ (B + 1 + 1) none 0 0 z0 zAF rfl HEY.out) rfl ⟨none, 0, 0, ?_, ?_, ?_⟩
      ·unfold addZ; rw [if_neg (by rw [HF5.out]; decide), HF5.out]; rfl
      ·unfold addR; rw [if_neg (by rw [HF5.out]; decide)]; exact OwnV.none0
      ·rw [← HBB.out]; exact HB6.out.trans (HOY.out.below (by omega))
     ·have hfd : decide ((16 : Int) ≤ (n : Int)) = false := by simp; omega
      have HADD : Hid (addE L (p, g, s) = 0 ∧ addL L (p, g, s) = L.take k ++ [(p, g, s)] ++ L.drop k) := hid ⟨zCn HM0.out HNO.out (by rw [HL.out]; exact hf), zDd HPO.out HNO.out⟩
      have HVR : Hid (∀ w', Below w6.heap.size w6 w' → OpS w' (some ⟨b5, o5, none⟩) (m) (cm) (L.drop k)) := hid fun w' h => zBR HV6.out h
      obtain ⟨hs1, hv1⟩ := zFc HO6.out (k := k) hk
      have HV1 : Hid (∀ w', Below w6.heap.size w6 w' → OpS w' (some ⟨b, off, none⟩) k c (L.take k)) := hid fun w' h => hv1 _ (HO6.out.below h)
      have HKS : Hid (∀ w', Below w6.heap.size w6 w' → w'.cell? ⟨B, 0, none⟩ = some (.slice (some ⟨b, off, none⟩) n c) ∧ w'.cell? ⟨B + 1, 0, none⟩ = some (.string (mk p)) ∧ w'.cell? ⟨B + 1, 1, none⟩ = some (.int .i64 g) ∧ w'.cell? ⟨B + 1, 2, none⟩ = some (.int .i64 s)) := hid fun w' h => ⟨(HE6.out.below h).c0, (HD6.out.below h).cells⟩
      clear hv1 hs5
      go_upto_region 12 with fail
      go_cut [9] (fun u wx => ∃ a9 c9, u = .slice a9 (k + 1) c9 ∧ Hid (OwnO w6.heap.size wx a9 (k + 1) c9 (L.take k ++ [(p, g, s)])) ∧ Hid (Below w6.heap.size w6 wx))
      case first =>
       refine wp_region_noPanic ?_
       refine wp_region_held_drew (S := fun w' => w'.cell? ⟨B, 0, none⟩ = some (.slice (some ⟨b, off, none⟩) n c) ∧ w'.cell? ⟨B + 1, 0, none⟩ = some (.string (mk p)) ∧ w'.cell? ⟨B + 1, 1, none⟩ = some (.int .i64 g) ∧ w'.cell? ⟨B + 1, 2, none⟩ = some (.int .i64 s)) (by kernel_rfl) (HKS.out _ (Below.refl _ _).drew) (fun hHeld => ?_)
       refine zG 1 rfl ?_
       try simp only [Act.put, aS, aZ, aC]
       refine zG 2 rfl ?_
       try simp only [Act.put, aS, aZ, aC]
       refine zG 3 rfl ?_
       try simp only [Act.put, aS, aZ, aC]
       refine zG 4 rfl ?_
       try simp only [Act.put, aS, aZ, aC]
       refine zG 6 rfl ?_
       try simp only [Act.put, aS, aZ, aC]
       refine zR [0, 7] ?_
       refine hDo rfl (fun K hK => ?_) ?_
       ·refine zBM rfl rfl ?_
        intro wx1 gE hgE hoE hwE
        have HBx1 : Hid (Below w6.heap.size w6 wx1) := hid (by rw [hwE]; exact Below.alloc (Below.refl w6.heap.size w6).drew ((Below.refl w6.heap.size w6).drew).size _)
        have HNE : Hid (OwnO w6.heap.size wx1 (some ⟨gE, 0, none⟩) 0 0 []) := hid (OwnV.weak hoE ((Below.refl w6.heap.size w6).drew).size)
        have HLE : Hid (gE < wx1.heap.size) := hid (by rw [hwE, hgE]; simp)
        clear hgE hoE hwE
        refine hK.out _ _ (HKS.out _ HBx1.out) (fun hHeld => ?_)
        clear hK K
        try simp only [Act.put, aS, aZ, aC]
        refine zR [5, 7] ?_
        refine hDo rfl (fun K hK => ?_) ?_
        ·refine zAH rfl (.tmp 57) (.tmp 61) 30 rfl 38 w6.heap.size 3 32 _ Tryz.underlying30 zAJ rfl (by omega) _ 0 _ [] rfl HNE.out _ k _ (cO (L.take k)) rfl (HV1.out _ HBx1.out) (zAX _) (by unfold maxLen; omega) (by omega) (HBx1.out).size ?_
         intro a5x c5x wx2 ho5x hg5x hb5x _
         rw [Nat.zero_add, List.nil_append] at ho5x
         rw [Nat.zero_add]
         have HO5 : Hid (OwnO w6.heap.size wx2 a5x k c5x (L.take k)) := hid ho5x
         have HBx2 : Hid (Below w6.heap.size w6 wx2) := hid (Below.trans HBx1.out hb5x)
         clear ho5x hg5x hb5x
         refine hK.out _ _ (HKS.out _ HBx2.out) (fun hHeld => ?_)
         clear hK K
         try simp only [Act.put, aS, aZ, aC]
         refine zR [7] ?_
         refine hDo rfl (fun K hK => ?_) ?_
         ·refine zBI rfl (.tmp 63) rfl (p, g, s) rfl ?_
          intro wx3 gL hgL hoL hwL
          have HBx3 : Hid (Below w6.heap.size w6 wx3) := hid (by rw [hwL]; exact Below.alloc HBx2.out (HBx2.out).size _)
          have HNL : Hid (OwnO w6.heap.size wx3 (some ⟨gL, 0, none⟩) 1 1 [(p, g, s)]) := hid (OwnV.weak hoL (HBx2.out).size)
          have HLL : Hid (gL < wx3.heap.size) := hid (by rw [hwL, hgL]; simp)
          have HO53 : Hid (OwnO w6.heap.size wx3 a5x k c5x (L.take k)) := hid (by rw [hwL]; exact OwnV.alloc HO5.out _)
          have HV : Hid (OpS wx3 (some ⟨gL, 0, none⟩) 1 1 [(p, g, s)]) := hid HNL.out.vs
          clear hgL hoL hwL
          refine hK.out _ _ (HKS.out _ HBx3.out) (fun hHeld => ?_)
          clear hK K
          try simp only [Act.put, aS, aZ, aC]
          refine zR [8] ?_
          refine hDo rfl (fun K hK => ?_) ?_
          ·refine zAH rfl (.tmp 62) (.tmp 64) 30 rfl 38 w6.heap.size 3 32 _ Tryz.underlying30 zAJ rfl (by omega) _ k _ (cO (L.take k)) rfl HO53.out _ 1 _ (cO [(p, g, s)]) rfl HV.out (zAX _) (by unfold maxLen; omega) (by omega) (HBx3.out).size ?_
           intro a9 c9 wx4 ho9 hg9 hb9 _
           have HO9 : Hid (OwnO w6.heap.size wx4 a9 (k + 1) c9 (L.take k ++ [(p, g, s)])) := hid (by rw [OwnO, cO_app]; exact ho9)
           have HBx4 : Hid (Below w6.heap.size w6 wx4) := hid (Below.trans HBx3.out hb9)
           clear ho9 hg9 hb9
           refine hK.out _ _ (HKS.out _ HBx4.out) (fun hHeld => ?_)
           clear hK K
           try simp only [Act.put, aS, aZ, aC]
           refine zG 9 rfl ?_
           try simp only [Act.put, aS, aZ, aC]
           refine wpAnyH_done (by kernel_rfl) ?_ _
           refine NoPanic.normal ?_
           go_wp2
           go_meet
           exact ⟨_, _, rfl, HO9, HBx4⟩
          exact AllReadyH.nil
         exact AllReadyH.nil
        refine hDo rfl (fun K hK => ?_) ?_
        ·refine zBI rfl (.tmp 63) rfl (p, g, s) rfl ?_
         intro wx2 gL hgL hoL hwL
         have HBx2 : Hid (Below w6.heap.size w6 wx2) := hid (by rw [hwL]; exact Below.alloc HBx1.out (HBx1.out).size _)
         have HNL : Hid (OwnO w6.heap.size wx2 (some ⟨gL, 0, none⟩) 1 1 [(p, g, s)]) := hid (OwnV.weak hoL (HBx1.out).size)
         have HLL : Hid (gL < wx2.heap.size) := hid (by rw [hwL, hgL]; simp)
         have HNE2 : Hid (OwnO w6.heap.size wx2 (some ⟨gE, 0, none⟩) 0 0 []) := hid (by rw [hwL]; exact OwnV.alloc HNE.out _)
         have HNQ : Hid (gE ≠ gL) := hid (by have h1 := HLE.out; omega)
         clear hgL hoL hwL
         refine hK.out _ _ (HKS.out _ HBx2.out) (fun hHeld => ?_)
         clear hK K
         try simp only [Act.put, aS, aZ, aC]
         refine zR [5] ?_
         refine hDo rfl (fun K hK => ?_) ?_
         ·refine zAH rfl (.tmp 57) (.tmp 61) 30 rfl 38 w6.heap.size 3 32 _ Tryz.underlying30 zAJ rfl (by omega) _ 0 _ [] rfl HNE2.out _ k _ (cO (L.take k)) rfl (HV1.out _ HBx2.out) (zAX _) (by unfold maxLen; omega) (by omega) (HBx2.out).size ?_
          intro a5x c5x wx3 ho5x hg5x hb5x _
          rw [Nat.zero_add, List.nil_append] at ho5x
          rw [Nat.zero_add]
          have HO5 : Hid (OwnO w6.heap.size wx3 a5x k c5x (L.take k)) := hid ho5x
          have HBx3 : Hid (Below w6.heap.size w6 wx3) := hid (Below.trans HBx2.out hb5x)
          have HV : Hid (OpS wx3 (some ⟨gL, 0, none⟩) 1 1 [(p, g, s)]) := hid (zBj HNL.out HNQ.out hg5x)
          clear ho5x hg5x hb5x
          refine hK.out _ _ (HKS.out _ HBx3.out) (fun hHeld => ?_)
          clear hK K
          try simp only [Act.put, aS, aZ, aC]
          refine zR [8] ?_
          refine hDo rfl (fun K hK => ?_) ?_
          ·refine zAH rfl (.tmp 62) (.tmp 64) 30 rfl 38 w6.heap.size 3 32 _ Tryz.underlying30 zAJ rfl (by omega) _ k _ (cO (L.take k)) rfl HO5.out _ 1 _ (cO [(p, g, s)]) rfl HV.out (zAX _) (by unfold maxLen; omega) (by omega) (HBx3.out).size ?_
           intro a9 c9 wx4 ho9 hg9 hb9 _
           have HO9 : Hid (OwnO w6.heap.size wx4 a9 (k + 1) c9 (L.take k ++ [(p, g, s)])) := hid (by rw [OwnO, cO_app]; exact ho9)
           have HBx4 : Hid (Below w6.heap.size w6 wx4) := hid (Below.trans HBx3.out hb9)
           clear ho9 hg9 hb9
           refine hK.out _ _ (HKS.out _ HBx4.out) (fun hHeld => ?_)
           clear hK K
           try simp only [Act.put, aS, aZ, aC]
           refine zG 9 rfl ?_
           try simp only [Act.put, aS, aZ, aC]
           refine wpAnyH_done (by kernel_rfl) ?_ _
           refine NoPanic.normal ?_
           go_wp2
           go_meet
           exact ⟨_, _, rfl, HO9, HBx4⟩
          exact AllReadyH.nil
         exact AllReadyH.nil
        exact AllReadyH.nil
       refine hDo rfl (fun K hK => ?_) ?_
       ·refine zBI rfl (.tmp 63) rfl (p, g, s) rfl ?_
        intro wx1 gL hgL hoL hwL
        have HBx1 : Hid (Below w6.heap.size w6 wx1) := hid (by rw [hwL]; exact Below.alloc (Below.refl w6.heap.size w6).drew ((Below.refl w6.heap.size w6).drew).size _)
        have HNL : Hid (OwnO w6.heap.size wx1 (some ⟨gL, 0, none⟩) 1 1 [(p, g, s)]) := hid (OwnV.weak hoL ((Below.refl w6.heap.size w6).drew).size)
        have HLL : Hid (gL < wx1.heap.size) := hid (by rw [hwL, hgL]; simp)
        clear hgL hoL hwL
        refine hK.out _ _ (HKS.out _ HBx1.out) (fun hHeld => ?_)
        clear hK K
        try simp only [Act.put, aS, aZ, aC]
        refine zR [0] ?_
        refine hDo rfl (fun K hK => ?_) ?_
        ·refine zBM rfl rfl ?_
         intro wx2 gE hgE hoE hwE
         have HBx2 : Hid (Below w6.heap.size w6 wx2) := hid (by rw [hwE]; exact Below.alloc HBx1.out (HBx1.out).size _)
         have HNE : Hid (OwnO w6.heap.size wx2 (some ⟨gE, 0, none⟩) 0 0 []) := hid (OwnV.weak hoE (HBx1.out).size)
         have HLE : Hid (gE < wx2.heap.size) := hid (by rw [hwE, hgE]; simp)
         have HNL2 : Hid (OwnO w6.heap.size wx2 (some ⟨gL, 0, none⟩) 1 1 [(p, g, s)]) := hid (by rw [hwE]; exact OwnV.alloc HNL.out _)
         have HNQ : Hid (gE ≠ gL) := hid (by have h1 := HLL.out; omega)
         clear hgE hoE hwE
         refine hK.out _ _ (HKS.out _ HBx2.out) (fun hHeld => ?_)
         clear hK K
         try simp only [Act.put, aS, aZ, aC]
         refine zR [5] ?_
         refine hDo rfl (fun K hK => ?_) ?_
         ·refine zAH rfl (.tmp 57) (.tmp 61) 30 rfl 38 w6.heap.size 3 32 _ Tryz.underlying30 zAJ rfl (by omega) _ 0 _ [] rfl HNE.out _ k _ (cO (L.take k)) rfl (HV1.out _ HBx2.out) (zAX _) (by unfold maxLen; omega) (by omega) (HBx2.out).size ?_
          intro a5x c5x wx3 ho5x hg5x hb5x _
          rw [Nat.zero_add, List.nil_append] at ho5x
          rw [Nat.zero_add]
          have HO5 : Hid (OwnO w6.heap.size wx3 a5x k c5x (L.take k)) := hid ho5x
          have HBx3 : Hid (Below w6.heap.size w6 wx3) := hid (Below.trans HBx2.out hb5x)
          have HV : Hid (OpS wx3 (some ⟨gL, 0, none⟩) 1 1 [(p, g, s)]) := hid (zBj HNL2.out HNQ.out hg5x)
          clear ho5x hg5x hb5x
          refine hK.out _ _ (HKS.out _ HBx3.out) (fun hHeld => ?_)
          clear hK K
          try simp only [Act.put, aS, aZ, aC]
          refine zR [8] ?_
          refine hDo rfl (fun K hK => ?_) ?_
          ·refine zAH rfl (.tmp 62) (.tmp 64) 30 rfl 38 w6.heap.size 3 32 _ Tryz.underlying30 zAJ rfl (by omega) _ k _ (cO (L.take k)) rfl HO5.out _ 1 _ (cO [(p, g, s)]) rfl HV.out (zAX _) (by unfold maxLen; omega) (by omega) (HBx3.out).size ?_
           intro a9 c9 wx4 ho9 hg9 hb9 _
           have HO9 : Hid (OwnO w6.heap.size wx4 a9 (k + 1) c9 (L.take k ++ [(p, g, s)])) := hid (by rw [OwnO, cO_app]; exact ho9)
           have HBx4 : Hid (Below w6.heap.size w6 wx4) := hid (Below.trans HBx3.out hb9)
           clear ho9 hg9 hb9
           refine hK.out _ _ (HKS.out _ HBx4.out) (fun hHeld => ?_)
           clear hK K
           try simp only [Act.put, aS, aZ, aC]
           refine zG 9 rfl ?_
           try simp only [Act.put, aS, aZ, aC]
           refine wpAnyH_done (by kernel_rfl) ?_ _
           refine NoPanic.normal ?_
           go_wp2
           go_meet
           exact ⟨_, _, rfl, HO9, HBx4⟩
          exact AllReadyH.nil
         exact AllReadyH.nil
        exact AllReadyH.nil
       exact AllReadyH.nil
      case rest =>
      obtain ⟨a9, c9, rfl, HO9, HB9⟩ := hcut
      have HE9 := hid (HE6.out.below HB9.out)
      have HX9 := hid (HR6.out.below HB9.out)
      have hc9 : k + 1 ≤ n + 1 := by omega
      go_wp2_with fail
      refine wp_region_noPanic ?_
      refine wp_region_held_drew (S := fun w' => EB w' B (some ⟨b, off, none⟩) n c z) (by kernel_rfl) (HE9.out.drew) (fun hHeld => ?_)
      refine zG 0 rfl ?_
      try simp only [Act.put, aS, aZ, aC]
      refine zG 1 rfl ?_
      try simp only [Act.put, aS, aZ, aC]
      refine zG 3 rfl ?_
      try simp only [Act.put, aS, aZ, aC]
      refine zD9 (i := 4) (oi := { dst := some 70, op := Op.load 32 (Operand.tmp 69), type := 32, pos := "ref.go:31", after := #[{ on := 3, ground := Ground.data }], guard := none }) (Operand.tmp 69) rfl (by kernel_rfl) (by kernel_rfl) (by kernel_rfl) (z) (fun _ _ _ h => h) (by rfl) rfl (B) rfl (HZ.out) _ _ _ (fun _ h => h) (by assumption) ?_
      try simp only [Act.put, aS, aZ, aC]
      refine zR [2] ?_
      refine hDo rfl (fun K hK => ?_) ?_
      ·refine zAH rfl (.tmp 66) (.tmp 67) 30 rfl 38 w6.heap.size 3 32 _ Tryz.underlying30 zAJ rfl (by omega) _ (k + 1) _ (cO (L.take k ++ [(p, g, s)])) rfl HO9.out.drew _ (m) _ (cO (L.drop k)) rfl (HVR.out _ HB9.out.drew) (zAX _) (by unfold maxLen; omega) (by omega) HB9.out.drew.size ?_
       intro aA cA wA hoA hgA hbA _
       have HOA := hid hoA
       have HBA := hid ((Below.refl w6.heap.size wc).drew.trans hbA)
       have HEA := hid (HE9.out.keep HBA.out (by have := HG6.out; omega))
       have HXA := hid (HX9.out.keep HBA.out HG6.out)
       clear hoA hgA hbA
       refine hK.out _ _ (HEA.out) (fun hHeld => ?_)
       clear hK K
       try simp only [Act.put, aS, aZ, aC]
       refine zT 5 (v := .agg (ev aA (k + 1 + (m)) cA (z))) rfl (fun w0 _ => zCG (Operand.tmp 68) (Operand.tmp 70) rfl aA (k + 1 + (m)) cA (z) (HZ.out) rfl rfl w0) ?_
       try simp only [Act.put, aS, aZ, aC]
       refine zR [6] ?_
       refine hDo rfl (fun K hK => ?_) ?_
       ·refine zAT rfl (.tmp 4) (.tmp 71) rfl (B + 1 + 1) rfl aA (k + 1 + (m)) cA z rfl HZ.out none 0 0 z0 zAF HXA.out ?_
        intro wY hey hoy
        have HEY := hid hey
        have HOY := hid hoy
        clear hey hoy
        refine hK.out _ _ (HEA.out.only HOY.out (by omega)) (fun hHeld => ?_)
        clear hK K
        try simp only [Act.put]
        refine zG 7 rfl ?_
        try simp only [Act.put, aS, aZ, aC]
        refine wpAnyH_done (by kernel_rfl) ?_ _
        refine NoPanic.normal ?_
        go_wp2
        refine bodyPost_ret (zAb rfl _ _ (B + 1 + 1) aA (k + 1 + (m)) cA z HZ.out rfl HEY.out) rfl ⟨aA, k + 1 + (m), cA, ?_, ?_, ?_⟩
        ·unfold addZ; rw [if_pos HADD.out.1, HADD.out.1]; rfl
        ·unfold addR; rw [if_pos HADD.out.1, HADD.out.2]
         have ho : OwnO w6.heap.size wA aA (k + 1 + (m)) cA (L.take k ++ [(p, g, s)] ++ L.drop k) := by rw [OwnO, cO_app]; exact HOA.out
         exact (zBi ho HOY.out HG6.out).weak (by have := HG6.out; have := HBB.out; omega)
        ·rw [← HBB.out]; exact ((HB6.out.trans (HB9.out.mono (by have := HG6.out; omega))).trans (HBA.out.mono (by have := HG6.out; omega))).trans (HOY.out.below (by omega))
       ·exact AllReadyH.nil
      ·exact AllReadyH.nil
  ·have hgd : decide ((k : Int) < (n : Int)) = false := by simpa using hlt
   have HPO : Hid (posL L p = k) := hid (by have := zHD L p; have := HK.out; have := HL.out; omega)
   have HNO : Hid (hitL L p = false) := hid (zFV (by rw [HPO.out, HL.out]; omega))
   have HER := hid ((HE4.out.below HB.out).drew)
   have HDR := hid ((HD4.out.below HB.out).below (Below.refl _ _).drew)
   have HRR := hid ((HR4.out.below HB.out).drew)
   have HBR : Hid (Below w4.heap.size w4 wr.drew) := hid HB.out.drew
   have HOR := hid (HO4.out.below HBR.out)
   obtain ⟨w5, hw5⟩ : ∃ w5, w5 = wr.drew := ⟨_, rfl⟩
   rw [← hw5] at HER HDR HRR HBR HOR
   have e0 := HER.out.c0
   have r0 := (HE4.out.below HB.out).c0
   obtain ⟨a5, hs5, hv5⟩ := zFb HOR.out (k := k) hk
   have HV5 := hid (hv5 _ HOR.out)
   go_wp2_with fail
   go_region
   rw [← hw5]
   clear hw5 hv5
   go_wp2_with fail
   have HG5 : Hid (B + 1 + 1 < w5.heap.size) := hid HRR.out.lt
   have HB5 : Hid (Below B w w5) := hid (HB4.out.trans (HBR.out.mono (by have := HS4.out; omega)))
   obtain ⟨m, hm⟩ : ∃ m, m = n - k := ⟨_, rfl⟩
   obtain ⟨cm, hcm2⟩ : ∃ cm, cm = c - k := ⟨_, rfl⟩
   have hm0 : m = 0 := by omega
   have hmn : m ≤ n := by omega
   rw [← hm, ← hcm2] at HV5 hs5 ⊢
   clear hm hcm2
   subst hm0
   obtain ⟨d0, d1, d2⟩ := HDR.out.cells
   dsimp only at d0 d1 d2
   clear r0
   go_region
   obtain ⟨w6, hw6⟩ : ∃ w6, w6 = w5.drew := ⟨_, rfl⟩
   have HE6 := hid HER.out.drew
   have HD6 : Hid (D3 w5.drew (B + 1) (p, g, s)) := hid (HDR.out.below (Below.refl _ _).drew)
   have HR6 := hid HRR.out.drew
   have HO6 := hid (HOR.out.below (Below.refl _ _).drew)
   have HV6 := hid (HV5.out.below (Below.refl _ _).drew)
   have HB6 : Hid (Below B w w5.drew) := hid HB5.out.drew
   have HG6 : Hid (B + 1 + 1 < w5.drew.heap.size) := hid HG5.out
   rw [← hw6] at HE6 HD6 HR6 HO6 HV6 HB6 HG6 ⊢
   clear hw6 d0 d1 d2 e0
   have e0 := HE6.out.c0
   by_cases hf : 16 ≤ n
   ·have hfd : decide ((16 : Int) ≤ (n : Int)) = true := by simp; omega
    have hbu : ∀ w, (Instr.build 34 #[]).run Tryz.prog w = .ok (.agg (ev none 0 0 z0)) w := fun w => zAx w
    have HF5 : Hid (addE L (p, g, s) = 5) := hid (zCF HM0.out HNO.out (by rw [HL.out]; exact hf))
    go_wp2_with (refine zAD rfl (.tmp 4) (.tmp 56) rfl (B + 1 + 1) rfl none 0 0 z0 rfl rfl none 0 0 z0 zAF HR6.out ?_; intro wY hey hoy; have HEY := hid hey; have HOY := hid hoy; clear hey hoy)
    refine bodyPost_ret (zAb rfl _ _ (B + 1 + 1) none 0 0 z0 zAF rfl HEY.out) rfl ⟨none, 0, 0, ?_, ?_, ?_⟩
    ·unfold addZ; rw [if_neg (by rw [HF5.out]; decide), HF5.out]; rfl
    ·unfold addR; rw [if_neg (by rw [HF5.out]; decide)]; exact OwnV.none0
    ·rw [← HBB.out]; exact HB6.out.trans (HOY.out.below (by omega))
   ·have hfd : decide ((16 : Int) ≤ (n : Int)) = false := by simp; omega
    have HADD : Hid (addE L (p, g, s) = 0 ∧ addL L (p, g, s) = L.take k ++ [(p, g, s)] ++ L.drop k) := hid ⟨zCn HM0.out HNO.out (by rw [HL.out]; exact hf), zDd HPO.out HNO.out⟩
    have HVR : Hid (∀ w', Below w6.heap.size w6 w' → OpS w' a5 (0) (cm) (L.drop k)) := hid fun w' h => zBR HV6.out h
    obtain ⟨hs1, hv1⟩ := zFc HO6.out (k := k) hk
    have HV1 : Hid (∀ w', Below w6.heap.size w6 w' → OpS w' a k c (L.take k)) := hid fun w' h => hv1 _ (HO6.out.below h)
    have HKS : Hid (∀ w', Below w6.heap.size w6 w' → w'.cell? ⟨B, 0, none⟩ = some (.slice a n c) ∧ w'.cell? ⟨B + 1, 0, none⟩ = some (.string (mk p)) ∧ w'.cell? ⟨B + 1, 1, none⟩ = some (.int .i64 g) ∧ w'.cell? ⟨B + 1, 2, none⟩ = some (.int .i64 s)) := hid fun w' h => ⟨(HE6.out.below h).c0, (HD6.out.below h).cells⟩
    clear hv1 hs5
    go_upto_region 12 with fail
    go_cut [9] (fun u wx => ∃ a9 c9, u = .slice a9 (k + 1) c9 ∧ Hid (OwnO w6.heap.size wx a9 (k + 1) c9 (L.take k ++ [(p, g, s)])) ∧ Hid (Below w6.heap.size w6 wx))
    case first =>
     refine wp_region_noPanic ?_
     refine wp_region_held_drew (S := fun w' => w'.cell? ⟨B, 0, none⟩ = some (.slice a n c) ∧ w'.cell? ⟨B + 1, 0, none⟩ = some (.string (mk p)) ∧ w'.cell? ⟨B + 1, 1, none⟩ = some (.int .i64 g) ∧ w'.cell? ⟨B + 1, 2, none⟩ = some (.int .i64 s)) (by kernel_rfl) (HKS.out _ (Below.refl _ _).drew) (fun hHeld => ?_)
     refine zG 1 rfl ?_
     try simp only [Act.put, aS, aZ, aC]
     refine zG 2 rfl ?_
     try simp only [Act.put, aS, aZ, aC]
     refine zG 3 rfl ?_
     try simp only [Act.put, aS, aZ, aC]
     refine zG 4 rfl ?_
     try simp only [Act.put, aS, aZ, aC]
     refine zG 6 rfl ?_
     try simp only [Act.put, aS, aZ, aC]
     refine zR [0, 7] ?_
     refine hDo rfl (fun K hK => ?_) ?_
     ·refine zBM rfl rfl ?_
      intro wx1 gE hgE hoE hwE
      have HBx1 : Hid (Below w6.heap.size w6 wx1) := hid (by rw [hwE]; exact Below.alloc (Below.refl w6.heap.size w6).drew ((Below.refl w6.heap.size w6).drew).size _)
      have HNE : Hid (OwnO w6.heap.size wx1 (some ⟨gE, 0, none⟩) 0 0 []) := hid (OwnV.weak hoE ((Below.refl w6.heap.size w6).drew).size)
      have HLE : Hid (gE < wx1.heap.size) := hid (by rw [hwE, hgE]; simp)
      clear hgE hoE hwE
      refine hK.out _ _ (HKS.out _ HBx1.out) (fun hHeld => ?_)
      clear hK K
      try simp only [Act.put, aS, aZ, aC]
      refine zR [5, 7] ?_
      refine hDo rfl (fun K hK => ?_) ?_
      ·refine zAH rfl (.tmp 57) (.tmp 61) 30 rfl 38 w6.heap.size 3 32 _ Tryz.underlying30 zAJ rfl (by omega) _ 0 _ [] rfl HNE.out _ k _ (cO (L.take k)) rfl (HV1.out _ HBx1.out) (zAX _) (by unfold maxLen; omega) (by omega) (HBx1.out).size ?_
       intro a5x c5x wx2 ho5x hg5x hb5x _
       rw [Nat.zero_add, List.nil_append] at ho5x
       rw [Nat.zero_add]
       have HO5 : Hid (OwnO w6.heap.size wx2 a5x k c5x (L.take k)) := hid ho5x
       have HBx2 : Hid (Below w6.heap.size w6 wx2) := hid (Below.trans HBx1.out hb5x)
       clear ho5x hg5x hb5x
       refine hK.out _ _ (HKS.out _ HBx2.out) (fun hHeld => ?_)
       clear hK K
       try simp only [Act.put, aS, aZ, aC]
       refine zR [7] ?_
       refine hDo rfl (fun K hK => ?_) ?_
       ·refine zBI rfl (.tmp 63) rfl (p, g, s) rfl ?_
        intro wx3 gL hgL hoL hwL
        have HBx3 : Hid (Below w6.heap.size w6 wx3) := hid (by rw [hwL]; exact Below.alloc HBx2.out (HBx2.out).size _)
        have HNL : Hid (OwnO w6.heap.size wx3 (some ⟨gL, 0, none⟩) 1 1 [(p, g, s)]) := hid (OwnV.weak hoL (HBx2.out).size)
        have HLL : Hid (gL < wx3.heap.size) := hid (by rw [hwL, hgL]; simp)
        have HO53 : Hid (OwnO w6.heap.size wx3 a5x k c5x (L.take k)) := hid (by rw [hwL]; exact OwnV.alloc HO5.out _)
        have HV : Hid (OpS wx3 (some ⟨gL, 0, none⟩) 1 1 [(p, g, s)]) := hid HNL.out.vs
        clear hgL hoL hwL
        refine hK.out _ _ (HKS.out _ HBx3.out) (fun hHeld => ?_)
        clear hK K
        try simp only [Act.put, aS, aZ, aC]
        refine zR [8] ?_
        refine hDo rfl (fun K hK => ?_) ?_
        ·refine zAH rfl (.tmp 62) (.tmp 64) 30 rfl 38 w6.heap.size 3 32 _ Tryz.underlying30 zAJ rfl (by omega) _ k _ (cO (L.take k)) rfl HO53.out _ 1 _ (cO [(p, g, s)]) rfl HV.out (zAX _) (by unfold maxLen; omega) (by omega) (HBx3.out).size ?_
         intro a9 c9 wx4 ho9 hg9 hb9 _
         have HO9 : Hid (OwnO w6.heap.size wx4 a9 (k + 1) c9 (L.take k ++ [(p, g, s)])) := hid (by rw [OwnO, cO_app]; exact ho9)
         have HBx4 : Hid (Below w6.heap.size w6 wx4) := hid (Below.trans HBx3.out hb9)
         clear ho9 hg9 hb9
         refine hK.out _ _ (HKS.out _ HBx4.out) (fun hHeld => ?_)
         clear hK K
         try simp only [Act.put, aS, aZ, aC]
         refine zG 9 rfl ?_
         try simp only [Act.put, aS, aZ, aC]
         refine wpAnyH_done (by kernel_rfl) ?_ _
         refine NoPanic.normal ?_
         go_wp2
         go_meet
         exact ⟨_, _, rfl, HO9, HBx4⟩
        exact AllReadyH.nil
       exact AllReadyH.nil
      refine hDo rfl (fun K hK => ?_) ?_
      ·refine zBI rfl (.tmp 63) rfl (p, g, s) rfl ?_
       intro wx2 gL hgL hoL hwL
       have HBx2 : Hid (Below w6.heap.size w6 wx2) := hid (by rw [hwL]; exact Below.alloc HBx1.out (HBx1.out).size _)
       have HNL : Hid (OwnO w6.heap.size wx2 (some ⟨gL, 0, none⟩) 1 1 [(p, g, s)]) := hid (OwnV.weak hoL (HBx1.out).size)
       have HLL : Hid (gL < wx2.heap.size) := hid (by rw [hwL, hgL]; simp)
       have HNE2 : Hid (OwnO w6.heap.size wx2 (some ⟨gE, 0, none⟩) 0 0 []) := hid (by rw [hwL]; exact OwnV.alloc HNE.out _)
       have HNQ : Hid (gE ≠ gL) := hid (by have h1 := HLE.out; omega)
       clear hgL hoL hwL
       refine hK.out _ _ (HKS.out _ HBx2.out) (fun hHeld => ?_)
       clear hK K
       try simp only [Act.put, aS, aZ, aC]
       refine zR [5] ?_
       refine hDo rfl (fun K hK => ?_) ?_
       ·refine zAH rfl (.tmp 57) (.tmp 61) 30 rfl 38 w6.heap.size 3 32 _ Tryz.underlying30 zAJ rfl (by omega) _ 0 _ [] rfl HNE2.out _ k _ (cO (L.take k)) rfl (HV1.out _ HBx2.out) (zAX _) (by unfold maxLen; omega) (by omega) (HBx2.out).size ?_
        intro a5x c5x wx3 ho5x hg5x hb5x _
        rw [Nat.zero_add, List.nil_append] at ho5x
        rw [Nat.zero_add]
        have HO5 : Hid (OwnO w6.heap.size wx3 a5x k c5x (L.take k)) := hid ho5x
        have HBx3 : Hid (Below w6.heap.size w6 wx3) := hid (Below.trans HBx2.out hb5x)
        have HV : Hid (OpS wx3 (some ⟨gL, 0, none⟩) 1 1 [(p, g, s)]) := hid (zBj HNL.out HNQ.out hg5x)
        clear ho5x hg5x hb5x
        refine hK.out _ _ (HKS.out _ HBx3.out) (fun hHeld => ?_)
        clear hK K
        try simp only [Act.put, aS, aZ, aC]
        refine zR [8] ?_
        refine hDo rfl (fun K hK => ?_) ?_
        ·refine zAH rfl (.tmp 62) (.tmp 64) 30 rfl 38 w6.heap.size 3 32 _ Tryz.underlying30 zAJ rfl (by omega) _ k _ (cO (L.take k)) rfl HO5.out _ 1 _ (cO [(p, g, s)]) rfl HV.out (zAX _) (by unfold maxLen; omega) (by omega) (HBx3.out).size ?_
         intro a9 c9 wx4 ho9 hg9 hb9 _
         have HO9 : Hid (OwnO w6.heap.size wx4 a9 (k + 1) c9 (L.take k ++ [(p, g, s)])) := hid (by rw [OwnO, cO_app]; exact ho9)
         have HBx4 : Hid (Below w6.heap.size w6 wx4) := hid (Below.trans HBx3.out hb9)
         clear ho9 hg9 hb9
         refine hK.out _ _ (HKS.out _ HBx4.out) (fun hHeld => ?_)
         clear hK K
         try simp only [Act.put, aS, aZ, aC]
         refine zG 9 rfl ?_
         try simp only [Act.put, aS, aZ, aC]
         refine wpAnyH_done (by kernel_rfl) ?_ _
         refine NoPanic.normal ?_
         go_wp2
         go_meet
         exact ⟨_, _, rfl, HO9, HBx4⟩
        exact AllReadyH.nil
       exact AllReadyH.nil
      exact AllReadyH.nil
     refine hDo rfl (fun K hK => ?_) ?_
     ·refine zBI rfl (.tmp 63) rfl (p, g, s) rfl ?_
      intro wx1 gL hgL hoL hwL
      have HBx1 : Hid (Below w6.heap.size w6 wx1) := hid (by rw [hwL]; exact Below.alloc (Below.refl w6.heap.size w6).drew ((Below.refl w6.heap.size w6).drew).size _)
      have HNL : Hid (OwnO w6.heap.size wx1 (some ⟨gL, 0, none⟩) 1 1 [(p, g, s)]) := hid (OwnV.weak hoL ((Below.refl w6.heap.size w6).drew).size)
      have HLL : Hid (gL < wx1.heap.size) := hid (by rw [hwL, hgL]; simp)
      clear hgL hoL hwL
      refine hK.out _ _ (HKS.out _ HBx1.out) (fun hHeld => ?_)
      clear hK K
      try simp only [Act.put, aS, aZ, aC]
      refine zR [0] ?_
      refine hDo rfl (fun K hK => ?_) ?_
      ·refine zBM rfl rfl ?_
       intro wx2 gE hgE hoE hwE
       have HBx2 : Hid (Below w6.heap.size w6 wx2) := hid (by rw [hwE]; exact Below.alloc HBx1.out (HBx1.out).size _)
       have HNE : Hid (OwnO w6.heap.size wx2 (some ⟨gE, 0, none⟩) 0 0 []) := hid (OwnV.weak hoE (HBx1.out).size)
       have HLE : Hid (gE < wx2.heap.size) := hid (by rw [hwE, hgE]; simp)
       have HNL2 : Hid (OwnO w6.heap.size wx2 (some ⟨gL, 0, none⟩) 1 1 [(p, g, s)]) := hid (by rw [hwE]; exact OwnV.alloc HNL.out _)
       have HNQ : Hid (gE ≠ gL) := hid (by have h1 := HLL.out; omega)
       clear hgE hoE hwE
       refine hK.out _ _ (HKS.out _ HBx2.out) (fun hHeld => ?_)
       clear hK K
       try simp only [Act.put, aS, aZ, aC]
       refine zR [5] ?_
       refine hDo rfl (fun K hK => ?_) ?_
       ·refine zAH rfl (.tmp 57) (.tmp 61) 30 rfl 38 w6.heap.size 3 32 _ Tryz.underlying30 zAJ rfl (by omega) _ 0 _ [] rfl HNE.out _ k _ (cO (L.take k)) rfl (HV1.out _ HBx2.out) (zAX _) (by unfold maxLen; omega) (by omega) (HBx2.out).size ?_
        intro a5x c5x wx3 ho5x hg5x hb5x _
        rw [Nat.zero_add, List.nil_append] at ho5x
        rw [Nat.zero_add]
        have HO5 : Hid (OwnO w6.heap.size wx3 a5x k c5x (L.take k)) := hid ho5x
        have HBx3 : Hid (Below w6.heap.size w6 wx3) := hid (Below.trans HBx2.out hb5x)
        have HV : Hid (OpS wx3 (some ⟨gL, 0, none⟩) 1 1 [(p, g, s)]) := hid (zBj HNL2.out HNQ.out hg5x)
        clear ho5x hg5x hb5x
        refine hK.out _ _ (HKS.out _ HBx3.out) (fun hHeld => ?_)
        clear hK K
        try simp only [Act.put, aS, aZ, aC]
        refine zR [8] ?_
        refine hDo rfl (fun K hK => ?_) ?_
        ·refine zAH rfl (.tmp 62) (.tmp 64) 30 rfl 38 w6.heap.size 3 32 _ Tryz.underlying30 zAJ rfl (by omega) _ k _ (cO (L.take k)) rfl HO5.out _ 1 _ (cO [(p, g, s)]) rfl HV.out (zAX _) (by unfold maxLen; omega) (by omega) (HBx3.out).size ?_
         intro a9 c9 wx4 ho9 hg9 hb9 _
         have HO9 : Hid (OwnO w6.heap.size wx4 a9 (k + 1) c9 (L.take k ++ [(p, g, s)])) := hid (by rw [OwnO, cO_app]; exact ho9)
         have HBx4 : Hid (Below w6.heap.size w6 wx4) := hid (Below.trans HBx3.out hb9)
         clear ho9 hg9 hb9
         refine hK.out _ _ (HKS.out _ HBx4.out) (fun hHeld => ?_)
         clear hK K
         try simp only [Act.put, aS, aZ, aC]
         refine zG 9 rfl ?_
         try simp only [Act.put, aS, aZ, aC]
         refine wpAnyH_done (by kernel_rfl) ?_ _
         refine NoPanic.normal ?_
         go_wp2
         go_meet
         exact ⟨_, _, rfl, HO9, HBx4⟩
        exact AllReadyH.nil
       exact AllReadyH.nil
      exact AllReadyH.nil
     exact AllReadyH.nil
    case rest =>
    obtain ⟨a9, c9, rfl, HO9, HB9⟩ := hcut
    have HE9 := hid (HE6.out.below HB9.out)
    have HX9 := hid (HR6.out.below HB9.out)
    have hc9 : k + 1 ≤ n + 1 := by omega
    go_wp2_with fail
    refine wp_region_noPanic ?_
    refine wp_region_held_drew (S := fun w' => EB w' B a n c z) (by kernel_rfl) (HE9.out.drew) (fun hHeld => ?_)
    refine zG 0 rfl ?_
    try simp only [Act.put, aS, aZ, aC]
    refine zG 1 rfl ?_
    try simp only [Act.put, aS, aZ, aC]
    refine zG 3 rfl ?_
    try simp only [Act.put, aS, aZ, aC]
    refine zD9 (i := 4) (oi := { dst := some 70, op := Op.load 32 (Operand.tmp 69), type := 32, pos := "ref.go:31", after := #[{ on := 3, ground := Ground.data }], guard := none }) (Operand.tmp 69) rfl (by kernel_rfl) (by kernel_rfl) (by kernel_rfl) (z) (fun _ _ _ h => h) (by rfl) rfl (B) rfl (HZ.out) _ _ _ (fun _ h => h) (by assumption) ?_
    try simp only [Act.put, aS, aZ, aC]
    refine zR [2] ?_
    refine hDo rfl (fun K hK => ?_) ?_
    ·refine zAH rfl (.tmp 66) (.tmp 67) 30 rfl 38 w6.heap.size 3 32 _ Tryz.underlying30 zAJ rfl (by omega) _ (k + 1) _ (cO (L.take k ++ [(p, g, s)])) rfl HO9.out.drew _ (0) _ (cO (L.drop k)) rfl (HVR.out _ HB9.out.drew) (zAX _) (by unfold maxLen; omega) (by omega) HB9.out.drew.size ?_
     intro aA cA wA hoA hgA hbA _
     have HOA := hid hoA
     have HBA := hid ((Below.refl w6.heap.size wc).drew.trans hbA)
     have HEA := hid (HE9.out.keep HBA.out (by have := HG6.out; omega))
     have HXA := hid (HX9.out.keep HBA.out HG6.out)
     clear hoA hgA hbA
     refine hK.out _ _ (HEA.out) (fun hHeld => ?_)
     clear hK K
     try simp only [Act.put, aS, aZ, aC]
     refine zT 5 (v := .agg (ev aA (k + 1 + (0)) cA (z))) rfl (fun w0 _ => zCG (Operand.tmp 68) (Operand.tmp 70) rfl aA (k + 1 + (0)) cA (z) (HZ.out) rfl rfl w0) ?_
     try simp only [Act.put, aS, aZ, aC]
     refine zR [6] ?_
     refine hDo rfl (fun K hK => ?_) ?_
     ·refine zAT rfl (.tmp 4) (.tmp 71) rfl (B + 1 + 1) rfl aA (k + 1 + (0)) cA z rfl HZ.out none 0 0 z0 zAF HXA.out ?_
      intro wY hey hoy
      have HEY := hid hey
      have HOY := hid hoy
      clear hey hoy
      refine hK.out _ _ (HEA.out.only HOY.out (by omega)) (fun hHeld => ?_)
      clear hK K
      try simp only [Act.put]
      refine zG 7 rfl ?_
      try simp only [Act.put, aS, aZ, aC]
      refine wpAnyH_done (by kernel_rfl) ?_ _
      refine NoPanic.normal ?_
      go_wp2
      refine bodyPost_ret (zAb rfl _ _ (B + 1 + 1) aA (k + 1 + (0)) cA z HZ.out rfl HEY.out) rfl ⟨aA, k + 1 + (0), cA, ?_, ?_, ?_⟩
      ·unfold addZ; rw [if_pos HADD.out.1, HADD.out.1]; rfl
      ·unfold addR; rw [if_pos HADD.out.1, HADD.out.2]
       have ho : OwnO w6.heap.size wA aA (k + 1 + (0)) cA (L.take k ++ [(p, g, s)] ++ L.drop k) := by rw [OwnO, cO_app]; exact HOA.out
       exact (zBi ho HOY.out HG6.out).weak (by have := HG6.out; have := HBB.out; omega)
      ·rw [← HBB.out]; exact ((HB6.out.trans (HB9.out.mono (by have := HG6.out; omega))).trans (HBA.out.mono (by have := HG6.out; omega))).trans (HOY.out.below (by omega))
     ·exact AllReadyH.nil
    ·exact AllReadyH.nil
end
section
open Go.RowKit
def chK (L : List OP) (z : List Int) (k g h : Nat) (o : OP) : Int × List OP × List Int :=
 if k % 4 = 2 then (eE z (1 + (g % 9 : Nat)) (1 + (h % 9 : Nat)), (if eE z (1 + (g % 9 : Nat)) (1 + (h % 9 : Nat)) = 0 then L else []), eV z (1 + (g % 9 : Nat)) (1 + (h % 9 : Nat)))
 else if k % 4 = 3 then (drpE L o.1, drpL L o.1, drpZ L z o.1) else (addE L o, addR L o, addZ L z o)
def stq (L : List OP) (z : List Int) (k g h : Nat) (o : OP) : List OP × List Int := if (chK L z k g h o).1 = 0 then (chK L z k g h o).2 else (L, z)
theorem zOd {L : List OP} {z : List Int} (hz : z.length = 10) (k g h : Nat) (o : OP) : (chK L z k g h o).2.2.length = 10 := by
 unfold chK
 split
 ·exact zKO ..
 ·split
  ·show (drpZ L z o.1).length = 10
   unfold drpZ; split
   ·exact hz
   ·rfl
  ·show (addZ L z o).length = 10
   unfold addZ; split
   ·exact hz
   ·rfl
set_option maxRecDepth 20000 in
set_option maxHeartbeats 16000000 in
theorem zEG (B : Nat) (a : Option Addr) (n c : Nat) (L : List OP) (z : List Int) (k g h : Nat) (o : OP) (w : World) (hO : OwnO B w a n c L) (hB : B ≤ w.heap.size) (hz : z.length = 10) (hn : n ≤ 1000000) (hk : k ≤ 255) (hg : g ≤ 255) (hh : h ≤ 255) (hp : o.1.length ≤ 140737488355328) :
  Calls Tryz.prog 14 #[.agg (ev a n c z), .agg #[.int .u8 (k : Int), .int .u8 (g : Int), .int .u8 (h : Int), .string (mk o.1), .int .i64 o.2.1, .int .i64 o.2.2]] w fun e w' => ∃ a' n' c', e = .returned (.agg (ev a' n' c' (stq L z k g h (fitO o)).2)) ∧ OwnO B w' a' n' c' (stq L z k g h (fitO o)).1 ∧ Below w.heap.size w w' := by
 obtain ⟨C, hC⟩ : ∃ C, C = w.heap.size := ⟨_, rfl⟩
 obtain ⟨w1, hw1⟩ : ∃ w1, w1 = w.alloc (.cells (ev a n c z) 34) := ⟨_, rfl⟩
 obtain ⟨w2, hw2⟩ : ∃ w2, w2 = w1.alloc (.cells #[.int .u8 (k : Int), .int .u8 (g : Int), .int .u8 (h : Int), .string (mk o.1), .int .i64 o.2.1, .int .i64 o.2.2] 40) := ⟨_, rfl⟩
 obtain ⟨w3, hw3⟩ : ∃ w3, w3 = w2.alloc (.cells #[.slice none 0 0, .int .i64 0, .int .i64 0, .int .i64 0, .int .i64 0, .int .i64 0, .int .i64 0, .int .i64 0, .int .i64 0, .int .i64 0, .int .i64 0] 34) := ⟨_, rfl⟩
 have s1 : w1.heap.size = C + 1 := by rw [hw1, hC]; simp
 have s2 : w2.heap.size = C + 1 + 1 := by rw [hw2]; simp [s1]
 have HE3 : Hid (EB w3 C a n c z) := hid (by rw [hw3, hw2, hw1, hC]; exact ((EB.new w a n c z).alloc _).alloc _)
 have hC3 : w3.heap[C + 1]? = some (.cells #[.int .u8 (k : Int), .int .u8 (g : Int), .int .u8 (h : Int), .string (mk o.1), .int .i64 o.2.1, .int .i64 o.2.2] 40 (0, 0)) := by rw [hw3, ← s1, hw2]; exact (Below.heap_alloc _ _ _ (by simp)).trans (heap_alloc_new w1 _)
 have HR3 : Hid (EB w3 (C + 1 + 1) none 0 0 z0) := hid (by rw [hw3, ← s2, ← zB1]; exact EB.new w2 none 0 0 z0)
 have HB3 : Hid (Below C w w3) := hid (by rw [hw3, hw2, hw1, hC]; exact (((Below.refl _ _).alloc (Nat.le_refl _) _).alloc (by simp) _).alloc (by simp; omega) _)
 have HS3 : Hid (C + 1 + 1 < w3.heap.size) := hid HR3.out.lt
 have HX : Hid (∀ w', Below w3.heap.size w3 w' → w'.cell? ⟨C + 1, 0, none⟩ = some (.int .u8 (k : Int)) ∧ w'.cell? ⟨C + 1, 1, none⟩ = some (.int .u8 (g : Int)) ∧ w'.cell? ⟨C + 1, 2, none⟩ = some (.int .u8 (h : Int)) ∧ w'.cell? ⟨C + 1, 3, none⟩ = some (.string (mk o.1)) ∧ w'.cell? ⟨C + 1, 4, none⟩ = some (.int .i64 o.2.1) ∧ w'.cell? ⟨C + 1, 5, none⟩ = some (.int .i64 o.2.2)) := hid fun w' hb => by
  have h2 := (hb.block (C + 1) (by have := HS3.out; omega)).trans hC3
  have hc : ∀ j : Nat, w'.cell? ⟨C + 1, j, none⟩ = #[.int .u8 (k : Int), .int .u8 (g : Int), .int .u8 (h : Int), .string (mk o.1), .int .i64 o.2.1, .int .i64 o.2.2][j]? := fun j => cell_of_row w' (C + 1) j _ _ _ h2
  exact ⟨hc 0, hc 1, hc 2, hc 3, hc 4, hc 5⟩
 have HO : Hid (OwnO B w a n c L) := hid hO
 have H3 : Hid (OpS w3 a n c L) := hid (hO.vs.below (hC ▸ HB3.out))
 have HBC : Hid (B ≤ C) := hid (by rw [hC]; exact hB)
 have HZ := hid hz
 have HCC := hid hC
 have HP := hid hp
 have HFO := hid (zCp o)
 have HFE : Hid (fitO o = (pat (fitQ o.1), fitG o.2.1, fitA o.1 o.2.1 o.2.2)) := hid rfl
 obtain ⟨x0, x1, x2, x3, x4, x5⟩ := HX.out w3 (Below.refl _ _)
 rw [hw3, hw2, hw1, hC] at x3 x4 x5
 clear hO hB hz s1 s2 hC3 x0 x1 x2 hp
 go_enter Tryz.func14, Tryz.ntmps14
 go_wp2_with fail
 rw [← hw1, ← hw2, ← hw3, ← hC]
 clear hw1 hw2 hw3 hC x3 x4 x5 w1 w2
 refine (zOa o.1 o.2.1 o.2.2 w3 HP.out).mono ?_
 rintro e w4 ⟨rfl, hb4⟩
 have HE4 := hid (HE3.out.below hb4)
 have HR4 := hid (HR3.out.below hb4)
 have H4 := hid (H3.out.below hb4)
 have HB4 : Hid (Below w3.heap.size w3 w4) := hid hb4
 clear hb4
 obtain ⟨q, hq⟩ : ∃ q, q = fitO o := ⟨_, rfl⟩
 rw [← hq] at HFO HFE
 have HFQ := hid hq.symm
 clear hq
 obtain ⟨p, x, s⟩ := q
 have hq' : pat (fitQ o.1) = p ∧ fitG o.2.1 = x ∧ fitA o.1 o.2.1 o.2.2 = s := by simpa using HFE.out.symm
 rw [hq'.1, hq'.2.1, hq'.2.2]
 clear hq' HFE
 obtain ⟨D, hD⟩ : ∃ D, D = w4.heap.size := ⟨_, rfl⟩
 obtain ⟨w5, hw5⟩ : ∃ w5, w5 = w4.alloc (.cells #[.string (mk p), .int .i64 x, .int .i64 s] 38) := ⟨_, rfl⟩
 obtain ⟨w6, hw6⟩ : ∃ w6, w6 = w5.alloc (.cells #[.slice none 0 0, .int .i64 0, .int .i64 0, .int .i64 0, .int .i64 0, .int .i64 0, .int .i64 0, .int .i64 0, .int .i64 0, .int .i64 0, .int .i64 0] 34) := ⟨_, rfl⟩
 have s5 : w5.heap.size = D + 1 := by rw [hw5, hD]; simp
 have HD6 : Hid (D3 w6 D (p, x, s)) := hid (by rw [hw6, hw5, hD]; exact (D3.new w4 (p, x, s)).below (zAA _ _))
 have HN6 : Hid (EB w6 (D + 1) none 0 0 z0) := hid (by rw [hw6, ← s5, ← zB1]; exact EB.new w5 none 0 0 z0)
 have HE6 : Hid (EB w6 C a n c z) := hid (by rw [hw6, hw5]; exact (HE4.out.alloc _).alloc _)
 have HR6 : Hid (EB w6 (C + 1 + 1) none 0 0 z0) := hid (by rw [hw6, hw5]; exact (HR4.out.alloc _).alloc _)
 have HB6 : Hid (Below w3.heap.size w3 w6) := hid (by rw [hw6, hw5]; exact (HB4.out.alloc HB4.out.size _).alloc (Nat.le_trans HB4.out.size (by simp)) _)
 have H6 : Hid (OpS w6 a n c L) := hid (H3.out.below HB6.out)
 have HCD : Hid (C + 1 + 1 < D) := hid (by rw [hD]; exact HR4.out.lt)
 go_upto_region 4 with fail
 rw [← hw5, ← hw6, ← hD]
 clear hw5 hw6 hD s5 w5
 obtain ⟨x0, x1, x2, _⟩ := HX.out w6 HB6.out
 obtain ⟨κ, hκ⟩ : ∃ κ, κ = k % 4 := ⟨_, rfl⟩
 have hκ4 : κ < 4 := by omega
 have htm : Int.tmod (k : Int) 4 = (κ : Int) := by rw [Int.tmod_eq_emod_of_nonneg (by omega)]; omega
 have hem : (k : Int) % 4 = (κ : Int) := by omega
 obtain ⟨ga, hga⟩ : ∃ ga, ga = g % 9 := ⟨_, rfl⟩
 obtain ⟨ha, hha⟩ : ∃ ha, ha = h % 9 := ⟨_, rfl⟩
 have hg9 : Int.tmod (g : Int) 9 = (ga : Int) := by rw [Int.tmod_eq_emod_of_nonneg (by omega)]; omega
 have hh9 : Int.tmod (h : Int) 9 = (ha : Int) := by rw [Int.tmod_eq_emod_of_nonneg (by omega)]; omega
 have hge : (g : Int) % 9 = (ga : Int) := by omega
 have hhe : (h : Int) % 9 = (ha : Int) := by omega
 have hgr : ga ≤ 8 ∧ ha ≤ 8 := by omega
 obtain ⟨V, hV⟩ : ∃ V, V = (chK L z k g h (p, x, s)).1 := ⟨_, rfl⟩
 obtain ⟨R, hR⟩ : ∃ R, R = (chK L z k g h (p, x, s)).2.1 := ⟨_, rfl⟩
 obtain ⟨Z, hZ⟩ : ∃ Z, Z = (chK L z k g h (p, x, s)).2.2 := ⟨_, rfl⟩
 have HZL : Hid (Z.length = 10) := hid (by rw [hZ]; exact zOd HZ.out ..)
 have HST : Hid (stq L z k g h (fitO o) = if V = 0 then (R, Z) else (L, z)) := hid (by rw [HFQ.out, hV, hR, hZ]; rfl)
 have KC : Hid ((κ = 2 → ∀ w', OpS w' a n c L → Calls Tryz.prog 31 #[.agg (ev a n c z), .int .i64 (1 + (ga : Int)), .int .i64 (1 + (ha : Int))] w' fun e w'' => ∃ a' n' c', e = .returned (.tuple #[.agg (ev a' n' c' Z), .int .i64 V]) ∧ OwnO w'.heap.size w'' a' n' c' R ∧ Below w'.heap.size w' w'') ∧ (κ = 3 → ∀ w', OpS w' a n c L → Calls Tryz.prog 32 #[.agg (ev a n c z), .string (mk p)] w' fun e w'' => ∃ a' n' c', e = .returned (.tuple #[.agg (ev a' n' c' Z), .int .i64 V]) ∧ OwnO w'.heap.size w'' a' n' c' R ∧ Below w'.heap.size w' w'') ∧ (κ < 2 → ∀ w', OpS w' a n c L → Calls Tryz.prog 33 #[.agg (ev a n c z), .agg #[.string (mk p), .int .i64 x, .int .i64 s]] w' fun e w'' => ∃ a' n' c', e = .returned (.tuple #[.agg (ev a' n' c' Z), .int .i64 V]) ∧ OwnO w'.heap.size w'' a' n' c' R ∧ Below w'.heap.size w' w'')) := hid (by
  rw [hV, hR, hZ]
  unfold chK
  rw [← hκ, ← hga, ← hha]
  refine ⟨fun h2 w' hs => ?_, fun h3 w' hs => ?_, fun h1 w' hs => ?_⟩
  ·rw [if_pos h2]; exact zGS a n c L z _ _ w' hs HZ.out hn
  ·rw [if_neg (by omega), if_pos h3]; exact zKa a n c L z p w' hs HZ.out hn
  ·rw [if_neg (by omega), if_neg (by omega)]; exact zMW a n c L z (p, x, s) w' hs HZ.out hn (Nat.le_trans HFO.out.2 (by decide)))
 clear hV hR hZ hκ hga hha
 by_cases h2 : κ = 2
 ·subst h2
  go_wp2_with (first
   | (refine zAS rfl (.tmp 2) rfl C rfl a n c z HZ.out HE6.out ?_))
  refine (KC.out.1 (by first | rfl | trivial) w6 H6.out).mono ?_
  rintro e w7 ⟨a7, n7, c7, rfl, ho7, hb7⟩
  have HO7 : Hid (OwnO B w7 a7 n7 c7 R) := hid (ho7.weak (by have := HBC.out; have := HCD.out; have := HD6.out; have h9 : D < w6.heap.size := (Array.getElem?_eq_some_iff.1 this).1; omega))
  have HE7 := hid (HE6.out.below hb7)
  have HR7 := hid (HR6.out.below hb7)
  have HN7 := hid (HN6.out.below hb7)
  have HB7 : Hid (Below w3.heap.size w3 w7) := hid (HB6.out.trans (hb7.mono HB6.out.size))
  clear ho7 hb7 x0 x1 x2
  have HW7 : Hid (Below C w w7) := hid (HB3.out.trans (HB7.out.mono (by have := HS3.out; omega)))
  by_cases hv0 : V = 0
  ·subst hv0
   go_wp2_with (first
    | (refine zAD rfl (.tmp 4) (.tmp 50) rfl (C + 1 + 1) rfl a7 n7 c7 Z rfl HZL.out none 0 0 z0 zAF HR8.out ?_; intro w9 he9 hq9; have HE9 := hid he9; have HQ9 := hid hq9; clear he9 hq9)
    | (refine zAS rfl (.tmp 6) rfl (D + 1) rfl a7 n7 c7 Z HZL.out HN8.out ?_)
    | (refine zAD rfl (.tmp 6) (.tmp 36) rfl (D + 1) rfl a7 n7 c7 Z rfl HZL.out none 0 0 z0 zAF HN7.out ?_; intro w8 he8 hq8; have HN8 := hid he8; have HQ8 := hid hq8; have HR8 := hid (HR7.out.only hq8 (by have := HCD.out; omega)); clear he8 hq8))
   refine bodyPost_ret (zBa rfl _ _ (C + 1 + 1) a7 n7 c7 Z HZL.out rfl HE9.out) rfl ⟨a7, n7, c7, by rw [HST.out]; rfl, ?_, ?_⟩
   ·rw [HST.out]
    exact zAr (zAr HO7.out HN7.out HQ8.out) HR8.out HQ9.out
   ·rw [← HCC.out]; exact (HW7.out.trans (HQ8.out.below (by have := HCD.out; omega))).trans (HQ9.out.below (by omega))
  ·go_wp2_with (first
    | (refine zAD rfl (.tmp 4) (.tmp 49) rfl (C + 1 + 1) rfl a n c z rfl HZ.out none 0 0 z0 zAF HR8.out ?_; intro w9 he9 hq9; have HE9 := hid he9; have HQ9 := hid hq9; clear he9 hq9)
    | (refine zAS rfl (.tmp 2) rfl C rfl a n c z HZ.out HE8.out ?_)
    | (refine zAD rfl (.tmp 6) (.tmp 36) rfl (D + 1) rfl a7 n7 c7 Z rfl HZL.out none 0 0 z0 zAF HN7.out ?_; intro w8 he8 hq8; have HQ8 := hid hq8; have HE8 := hid (HE7.out.only hq8 (by have := HCD.out; omega)); have HR8 := hid (HR7.out.only hq8 (by have := HCD.out; omega)); clear he8 hq8))
   have HW9 : Hid (Below C w w9) := hid ((HW7.out.trans (HQ8.out.below (by have := HCD.out; omega))).trans (HQ9.out.below (by omega)))
   refine bodyPost_ret (zBa rfl _ _ (C + 1 + 1) a n c z HZ.out rfl HE9.out) rfl ⟨a, n, c, by rw [HST.out, if_neg hv0], ?_, by rw [← HCC.out]; exact HW9.out⟩
   rw [HST.out, if_neg hv0]
   exact HO.out.keep HW9.out (by rw [HCC.out]; exact Nat.le_refl _)
 by_cases h3 : κ = 3
 ·subst h3
  obtain ⟨d0, d1, d2⟩ := HD6.out.cells
  dsimp only at d0 d1 d2
  go_wp2_with (first
   | (refine zAS rfl (.tmp 2) rfl C rfl a n c z HZ.out HE6.out ?_))
  clear d0 d1 d2
  refine (KC.out.2.1 (by first | rfl | trivial) w6 H6.out).mono ?_
  rintro e w7 ⟨a7, n7, c7, rfl, ho7, hb7⟩
  have HO7 : Hid (OwnO B w7 a7 n7 c7 R) := hid (ho7.weak (by have := HBC.out; have := HCD.out; have := HD6.out; have h9 : D < w6.heap.size := (Array.getElem?_eq_some_iff.1 this).1; omega))
  have HE7 := hid (HE6.out.below hb7)
  have HR7 := hid (HR6.out.below hb7)
  have HN7 := hid (HN6.out.below hb7)
  have HB7 : Hid (Below w3.heap.size w3 w7) := hid (HB6.out.trans (hb7.mono HB6.out.size))
  clear ho7 hb7 x0 x1 x2
  have HW7 : Hid (Below C w w7) := hid (HB3.out.trans (HB7.out.mono (by have := HS3.out; omega)))
  by_cases hv0 : V = 0
  ·subst hv0
   go_wp2_with (first
    | (refine zAD rfl (.tmp 4) (.tmp 50) rfl (C + 1 + 1) rfl a7 n7 c7 Z rfl HZL.out none 0 0 z0 zAF HR8.out ?_; intro w9 he9 hq9; have HE9 := hid he9; have HQ9 := hid hq9; clear he9 hq9)
    | (refine zAS rfl (.tmp 6) rfl (D + 1) rfl a7 n7 c7 Z HZL.out HN8.out ?_)
    | (refine zAD rfl (.tmp 6) (.tmp 45) rfl (D + 1) rfl a7 n7 c7 Z rfl HZL.out none 0 0 z0 zAF HN7.out ?_; intro w8 he8 hq8; have HN8 := hid he8; have HQ8 := hid hq8; have HR8 := hid (HR7.out.only hq8 (by have := HCD.out; omega)); clear he8 hq8))
   refine bodyPost_ret (zBa rfl _ _ (C + 1 + 1) a7 n7 c7 Z HZL.out rfl HE9.out) rfl ⟨a7, n7, c7, by rw [HST.out]; rfl, ?_, ?_⟩
   ·rw [HST.out]
    exact zAr (zAr HO7.out HN7.out HQ8.out) HR8.out HQ9.out
   ·rw [← HCC.out]; exact (HW7.out.trans (HQ8.out.below (by have := HCD.out; omega))).trans (HQ9.out.below (by omega))
  ·go_wp2_with (first
    | (refine zAD rfl (.tmp 4) (.tmp 49) rfl (C + 1 + 1) rfl a n c z rfl HZ.out none 0 0 z0 zAF HR8.out ?_; intro w9 he9 hq9; have HE9 := hid he9; have HQ9 := hid hq9; clear he9 hq9)
    | (refine zAS rfl (.tmp 2) rfl C rfl a n c z HZ.out HE8.out ?_)
    | (refine zAD rfl (.tmp 6) (.tmp 45) rfl (D + 1) rfl a7 n7 c7 Z rfl HZL.out none 0 0 z0 zAF HN7.out ?_; intro w8 he8 hq8; have HQ8 := hid hq8; have HE8 := hid (HE7.out.only hq8 (by have := HCD.out; omega)); have HR8 := hid (HR7.out.only hq8 (by have := HCD.out; omega)); clear he8 hq8))
   have HW9 : Hid (Below C w w9) := hid ((HW7.out.trans (HQ8.out.below (by have := HCD.out; omega))).trans (HQ9.out.below (by omega)))
   refine bodyPost_ret (zBa rfl _ _ (C + 1 + 1) a n c z HZ.out rfl HE9.out) rfl ⟨a, n, c, by rw [HST.out, if_neg hv0], ?_, by rw [← HCC.out]; exact HW9.out⟩
   rw [HST.out, if_neg hv0]
   exact HO.out.keep HW9.out (by rw [HCC.out]; exact Nat.le_refl _)
 ·have hκ2 : κ < 2 := by omega
  have hk2 : ((κ : Int) == 2) = false := beq_eq_false_iff_ne.2 (by omega)
  have hk3 : ((κ : Int) == 3) = false := beq_eq_false_iff_ne.2 (by omega)
  obtain ⟨d0, d1, d2⟩ := HD6.out.cells
  dsimp only at d0 d1 d2
  go_wp2_with (first
   | (refine zAS rfl (.tmp 2) rfl C rfl a n c z HZ.out HE6.out ?_))
  clear d0 d1 d2
  refine (KC.out.2.2 hκ2 w6 H6.out).mono ?_
  rintro e w7 ⟨a7, n7, c7, rfl, ho7, hb7⟩
  have HO7 : Hid (OwnO B w7 a7 n7 c7 R) := hid (ho7.weak (by have := HBC.out; have := HCD.out; have := HD6.out; have h9 : D < w6.heap.size := (Array.getElem?_eq_some_iff.1 this).1; omega))
  have HE7 := hid (HE6.out.below hb7)
  have HR7 := hid (HR6.out.below hb7)
  have HN7 := hid (HN6.out.below hb7)
  have HB7 : Hid (Below w3.heap.size w3 w7) := hid (HB6.out.trans (hb7.mono HB6.out.size))
  clear ho7 hb7 x0 x1 x2
  have HW7 : Hid (Below C w w7) := hid (HB3.out.trans (HB7.out.mono (by have := HS3.out; omega)))
  by_cases hv0 : V = 0
  ·subst hv0
   go_wp2_with (first
    | (refine zAD rfl (.tmp 4) (.tmp 50) rfl (C + 1 + 1) rfl a7 n7 c7 Z rfl HZL.out none 0 0 z0 zAF HR8.out ?_; intro w9 he9 hq9; have HE9 := hid he9; have HQ9 := hid hq9; clear he9 hq9)
    | (refine zAS rfl (.tmp 6) rfl (D + 1) rfl a7 n7 c7 Z HZL.out HN8.out ?_)
    | (refine zAD rfl (.tmp 6) (.tmp 19) rfl (D + 1) rfl a7 n7 c7 Z rfl HZL.out none 0 0 z0 zAF HN7.out ?_; intro w8 he8 hq8; have HN8 := hid he8; have HQ8 := hid hq8; have HR8 := hid (HR7.out.only hq8 (by have := HCD.out; omega)); clear he8 hq8))
   refine bodyPost_ret (zBa rfl _ _ (C + 1 + 1) a7 n7 c7 Z HZL.out rfl HE9.out) rfl ⟨a7, n7, c7, by rw [HST.out]; rfl, ?_, ?_⟩
   ·rw [HST.out]
    exact zAr (zAr HO7.out HN7.out HQ8.out) HR8.out HQ9.out
   ·rw [← HCC.out]; exact (HW7.out.trans (HQ8.out.below (by have := HCD.out; omega))).trans (HQ9.out.below (by omega))
  ·go_wp2_with (first
    | (refine zAD rfl (.tmp 4) (.tmp 49) rfl (C + 1 + 1) rfl a n c z rfl HZ.out none 0 0 z0 zAF HR8.out ?_; intro w9 he9 hq9; have HE9 := hid he9; have HQ9 := hid hq9; clear he9 hq9)
    | (refine zAS rfl (.tmp 2) rfl C rfl a n c z HZ.out HE8.out ?_)
    | (refine zAD rfl (.tmp 6) (.tmp 19) rfl (D + 1) rfl a7 n7 c7 Z rfl HZL.out none 0 0 z0 zAF HN7.out ?_; intro w8 he8 hq8; have HQ8 := hid hq8; have HE8 := hid (HE7.out.only hq8 (by have := HCD.out; omega)); have HR8 := hid (HR7.out.only hq8 (by have := HCD.out; omega)); clear he8 hq8))
   have HW9 : Hid (Below C w w9) := hid ((HW7.out.trans (HQ8.out.below (by have := HCD.out; omega))).trans (HQ9.out.below (by omega)))
   refine bodyPost_ret (zBa rfl _ _ (C + 1 + 1) a n c z HZ.out rfl HE9.out) rfl ⟨a, n, c, by rw [HST.out, if_neg hv0], ?_, by rw [← HCC.out]; exact HW9.out⟩
   rw [HST.out, if_neg hv0]
   exact HO.out.keep HW9.out (by rw [HCC.out]; exact Nat.le_refl _)
end
section
open Go.RowKit
abbrev CH := Nat × Nat × Nat × OP
def chC (x : CH) : List Value := [.int .u8 (x.1 : Int), .int .u8 (x.2.1 : Int), .int .u8 (x.2.2.1 : Int), .string (mk x.2.2.2.1), .int .i64 x.2.2.2.2.1, .int .i64 x.2.2.2.2.2]
def cC (C : List CH) : List Value := C.flatMap chC
theorem zHJ (x : CH) (C : List CH) : cC (x :: C) = .int .u8 (x.1 : Int) :: .int .u8 (x.2.1 : Int) :: .int .u8 (x.2.2.1 : Int) :: .string (mk x.2.2.2.1) :: .int .i64 x.2.2.2.2.1 :: .int .i64 x.2.2.2.2.2 :: cC C := rfl
theorem zKb : ∀ C : List CH, (cC C).length = C.length * 6
 | [] => rfl
 | x :: C => by rw [zHJ]; simp only [List.length_cons, zKb C]; omega
theorem zOe : ∀ (C : List CH) (k : Nat) (h : k < C.length), ∀ j, j < 6 → (cC C)[k * 6 + j]? = (chC C[k])[j]?
 | x :: C, 0, h, j, hj => by
  rw [zHJ]
  obtain rfl | rfl | rfl | rfl | rfl | rfl : j = 0 ∨ j = 1 ∨ j = 2 ∨ j = 3 ∨ j = 4 ∨ j = 5 := by omega
  all_goals rfl
 | x :: C, k + 1, h, j, hj => by
  have ih := zOe C k (by simpa using h) j hj
  rw [show (k + 1) * 6 + j = k * 6 + j + 1 + 1 + 1 + 1 + 1 + 1 by omega, zHJ]
  simpa using ih
def chA (C : List CH) (k : Nat) : CH := C.getD k (0, 0, 0, [], 0, 0)
theorem zIL {C : List CH} {k : Nat} (h : k < C.length) : chA C k = C[k] := by simp [chA, List.getD, h]
theorem zMX {C : List CH} {k : Nat} (h : k < C.length) : C.take (k + 1) = C.take k ++ [chA C k] := by rw [List.take_add_one, zIL h]; simp [h]
abbrev ChS (w : World) (a : Option Addr) (n c : Nat) (C : List CH) : Prop := Vs 6 w a n c (cC C)
theorem ChS.len {w : World} {a : Option Addr} {n c : Nat} {C : List CH} (h : ChS w a n c C) : C.length = n := by
 have := Vs.hl h; rw [zKb] at this; omega
theorem ChS.at6 {w : World} {b o n c : Nat} {C : List CH} (h : ChS w (some ⟨b, o, none⟩) n c C) {k : Nat} (hk : k < n) :
  w.cell? ⟨b, o + k * 6, none⟩ = some (.int .u8 ((chA C k).1 : Int)) ∧ w.cell? ⟨b, o + k * 6 + 1, none⟩ = some (.int .u8 ((chA C k).2.1 : Int)) ∧ w.cell? ⟨b, o + k * 6 + 2, none⟩ = some (.int .u8 ((chA C k).2.2.1 : Int)) ∧ w.cell? ⟨b, o + k * 6 + 3, none⟩ = some (.string (mk (chA C k).2.2.2.1)) ∧ w.cell? ⟨b, o + k * 6 + 4, none⟩ = some (.int .i64 (chA C k).2.2.2.2.1) ∧ w.cell? ⟨b, o + k * 6 + 5, none⟩ = some (.int .i64 (chA C k).2.2.2.2.2) := by
 have hl := ChS.len h
 have hc : ∀ j, j < 6 → w.cell? ⟨b, o + k * 6 + j, none⟩ = (chC (chA C k))[j]? := fun j hj => by
  rw [Nat.add_assoc, Vs.cells h (by omega) (by omega), zOe C k (by omega) j hj, zIL (by omega)]
 exact ⟨hc 0 (by decide), hc 1 (by decide), hc 2 (by decide), hc 3 (by decide), hc 4 (by decide), hc 5 (by decide)⟩
def okC (x : CH) : Prop := x.1 ≤ 255 ∧ x.2.1 ≤ 255 ∧ x.2.2.1 ≤ 255 ∧ x.2.2.2.1.length ≤ 140737488355328
def okE (L : List OP) (z : List Int) : Prop := Srt L ∧ (∀ o ∈ L, mayV o.1 o.2.1 o.2.2 = 0 ∧ o.1.length ≤ 20) ∧ L.length ≤ 16 ∧ z.length = 10 ∧ ∀ i, i < 10 → I64 (bt z i)
theorem zOf : okE [] zS := ⟨srt_nil, (fun o h => by cases h), by simp, rfl, fun i hi => by have := zS_rng i hi; unfold I64; exact this⟩
theorem zOg {L : List OP} {z : List Int} (h : okE L z) {o : OP} (ho : mayV o.1 o.2.1 o.2.2 = 0 ∧ o.1.length ≤ 20) (he : addE L o = 0) : okE (addL L o) z := by
 refine ⟨zIE h.1, fun x hx => ?_, ?_, h.2.2.2⟩
 ·rcases (zFX h.1 x).1 hx with rfl | ⟨hx, _⟩
  ·exact ho
  ·exact h.2.1 x hx
 ·rw [zMN]
  have h16 := h.2.2.1
  by_cases hh : hitL L o.1 = true
  ·rw [if_pos hh]; omega
  ·have hf : hitL L o.1 = false := by simpa using hh
   rw [if_neg hh]
   by_cases hl : 16 ≤ L.length
   ·rw [zCF ho.1 hf hl] at he; cases he
   ·omega
theorem zMY {L : List OP} {z : List Int} (h : okE L z) {p : Nm} (he : drpE L p = 0) : okE (drpL L p) z := by
 cases hi : drpI L p with
 | none => unfold drpE at he; rw [hi] at he; cases he
 | some i =>
  have hl := zMQ hi
  exact ⟨zMP h.1 hi, fun x hx => h.2.1 x ((zMO h.1 hi x).1 hx).1, by have := h.2.2.1; omega, h.2.2.2⟩
theorem zKc {L : List OP} {z : List Int} (h : okE L z) (k g hh : Nat) {o : OP} (ho : mayV o.1 o.2.1 o.2.2 = 0 ∧ o.1.length ≤ 20) : okE (stq L z k g hh o).1 (stq L z k g hh o).2 := by
 unfold stq
 by_cases hv : (chK L z k g hh o).1 = 0
 ·rw [if_pos hv]
  unfold chK at hv ⊢
  by_cases h2 : k % 4 = 2
  ·rw [if_pos h2] at hv ⊢
   dsimp only at hv ⊢
   rw [if_pos hv]
   exact ⟨h.1, h.2.1, h.2.2.1, zKO .., zPr h.2.2.2.2 _ _⟩
  ·rw [if_neg h2] at hv ⊢
   by_cases h3 : k % 4 = 3
   ·rw [if_pos h3] at hv ⊢
    dsimp only at hv ⊢
    unfold drpZ
    rw [if_pos hv]
    exact zMY h hv
   ·rw [if_neg h3] at hv ⊢
    dsimp only at hv ⊢
    unfold addR addZ
    rw [if_pos hv, if_pos hv]
    exact zOg h ho hv
 ·rw [if_neg hv]; exact h
def mkE (C : List CH) : List OP × List Int := C.foldl (fun s x => stq s.1 s.2 x.1 x.2.1 x.2.2.1 (fitO x.2.2.2)) ([], zS)
theorem zMZ (C : List CH) (x : CH) : mkE (C ++ [x]) = stq (mkE C).1 (mkE C).2 x.1 x.2.1 x.2.2.1 (fitO x.2.2.2) := by unfold mkE; rw [List.foldl_append]; rfl
theorem zNj (C : List CH) : okE (mkE C).1 (mkE C).2 := by
 suffices h : ∀ (D : List CH) (s : List OP × List Int), okE s.1 s.2 → okE (D.foldl (fun s x => stq s.1 s.2 x.1 x.2.1 x.2.2.1 (fitO x.2.2.2)) s).1 (D.foldl (fun s x => stq s.1 s.2 x.1 x.2.1 x.2.2.1 (fitO x.2.2.2)) s).2 from h C _ zOf
 intro D
 induction D with
 | nil => exact fun s h => h
 | cons x D ih => exact fun s h => ih _ (zKc h _ _ _ (zCp _))
theorem zCq {ops : Array Oper} {o : Oper} {A : Act} {w : World} {K : Act → World → Prop} {Q : Exit → Act → World → Prop} {E : Prop} (hw : Region.wanted o (yielded ops A.tmps) = true) (x : Operand) (ho : o.op = .load 34 x)
  (b : Nat) (hx : A.eval x = .pointer (some ⟨b, 0, none⟩)) (a : Option Addr) (n c : Nat) (z : List Int) (hz : z.length = 10) (h : EB w b a n c z)
  (k : K (A.put o.dst (.agg (ev a n c z))) w) : if Region.wanted o (yielded ops A.tmps) = true then o.wp Tryz.prog A w K Q else E := by
 rw [if_pos hw]
 exact wp_load_row 34 x ho b hx _ _ _ _ h Tryz.underlying34 rfl (by rw [zA7 hz]; exact zB0) k
set_option maxRecDepth 20000 in
theorem zMa (w : World) : Calls Tryz.prog 29 #[] w fun e w' => e = .returned (.agg (ev none 0 0 zS)) ∧ Below w.heap.size w w' := by
 obtain ⟨w0, hw0⟩ : ∃ w0, w0 = w.alloc (.cells #[.slice none 0 0, .int .i64 0, .int .i64 0, .int .i64 0, .int .i64 0, .int .i64 0, .int .i64 0, .int .i64 0, .int .i64 0, .int .i64 0, .int .i64 0] 34) := ⟨_, rfl⟩
 obtain ⟨B, hB⟩ : ∃ B, B = w.heap.size := ⟨_, rfl⟩
 have HE0 : Hid (EB w0 B none 0 0 z0) := hid (by rw [hw0, hB, ← zB1]; exact EB.new w none 0 0 z0)
 have HB0 : Hid (Below B w w0) := hid (by rw [hw0, hB]; exact (Below.refl _ _).alloc (Nat.le_refl _) _)
 have HS : Hid (B < w0.heap.size) := hid HE0.out.lt
 have HBB := hid hB
 have hbu : ∀ w, (Instr.build 34 #[(1, .agg (rv zS))]).run Tryz.prog w = .ok (.agg (ev none 0 0 zS)) w := fun w => zEw rfl w
 go_enter Tryz.func29, Tryz.ntmps29
 go_wp2_with fail
 rw [← hw0, ← hB]
 clear hw0 hB
 refine (zI9 w0).mono ?_
 rintro e w1 ⟨rfl, hb1⟩
 have HE1 := hid (HE0.out.below hb1)
 have HB1 := hid (HB0.out.trans (hb1.mono (Nat.le_of_lt HS.out)))
 clear hb1
 go_wp2_with (refine zAD rfl (.tmp 0) (.tmp 2) rfl B rfl none 0 0 zS rfl rfl none 0 0 z0 zAF HE1.out ?_; intro w2 he2 ho2; have HE2 := hid he2; have HO2 := hid ho2; clear he2 ho2)
 exact bodyPost_ret (zBa rfl _ _ B none 0 0 zS rfl rfl HE2.out) rfl ⟨rfl, by rw [← HBB.out]; exact HB1.out.trans (HO2.out.below (Nat.le_refl _))⟩
set_option maxRecDepth 20000 in
set_option maxHeartbeats 8000000 in
theorem zKd (aC : Option Addr) (len cap : Nat) (C : List CH) (w : World) (h : ChS w aC len cap C) (hok : ∀ x ∈ C, okC x) :
  Calls Tryz.prog 13 #[.slice aC len cap] w fun e w' => ∃ a' n' c', e = .returned (.agg (ev a' n' c' (mkE (C.take 40)).2)) ∧ OwnO w.heap.size w' a' n' c' (mkE (C.take 40)).1 ∧ Below w.heap.size w w' := by
 obtain ⟨B, hB⟩ : ∃ B, B = w.heap.size := ⟨_, rfl⟩
 obtain ⟨w0, hw0⟩ : ∃ w0, w0 = w.alloc (.cells #[.slice none 0 0, .int .i64 0, .int .i64 0, .int .i64 0, .int .i64 0, .int .i64 0, .int .i64 0, .int .i64 0, .int .i64 0, .int .i64 0, .int .i64 0] 34) := ⟨_, rfl⟩
 have HR0 : Hid (EB w0 B none 0 0 z0) := hid (by rw [hw0, hB, ← zB1]; exact EB.new w none 0 0 z0)
 have HB0 : Hid (Below B w w0) := hid (by rw [hw0, hB]; exact (Below.refl _ _).alloc (Nat.le_refl _) _)
 have HH : Hid (ChS w aC len cap C) := hid h
 have HL := hid (ChS.len h)
 have HOK := hid hok
 have HBB := hid hB
 have hlc := h.lc
 have hcm := h.cm
 unfold maxLen at hcm
 have hnew : ∀ W : World, EB (W.alloc (.cells #[.slice none 0 0, .int .i64 0, .int .i64 0, .int .i64 0, .int .i64 0, .int .i64 0, .int .i64 0, .int .i64 0, .int .i64 0, .int .i64 0, .int .i64 0] 34)) W.heap.size none 0 0 z0 := fun W => EB.new W none 0 0 z0
 clear h hok
 go_enter Tryz.func13, Tryz.ntmps13
 go_wp2_with fail
 rw [← hw0, ← hB]
 clear hw0 hB
 refine (zMa w0).mono ?_
 rintro e w1 ⟨rfl, hb1⟩
 have HR1 := hid (HR0.out.below hb1)
 have HB1 : Hid (Below B w w1) := hid (HB0.out.trans (hb1.mono (by have := HR0.out.lt; omega)))
 clear hb1
 go_wp2_with (refine zAD rfl (.tmp 3) (.tmp 5) rfl _ rfl none 0 0 zS rfl rfl none 0 0 z0 zAF (hnew w1) ?_; intro w2 he2 hq2)
 obtain ⟨E, hE⟩ : ∃ E, E = w1.heap.size := ⟨_, rfl⟩
 rw [← hE] at he2 hq2 ⊢
 have HBE : Hid (B < E) := hid (by rw [hE]; exact HR1.out.lt)
 have HE2 := hid he2
 have HR2 : Hid (EB w2 B none 0 0 z0) := hid ((HR1.out.alloc _).only hq2 (by have := HBE.out; omega))
 have HB2 : Hid (Below B w w2) := hid ((HB1.out.alloc (by rw [← hE]; exact Nat.le_of_lt HBE.out) _).trans (hq2.below (Nat.le_of_lt HBE.out)))
 clear he2 hq2 hE hnew
 go_loopw [4] (fun v wr => ∃ i : Nat, v = .int .i64 i ∧ i ≤ len ∧ i ≤ 40 ∧ ∃ a1 n1 c1, Hid (EB wr E a1 n1 c1 (mkE (C.take i)).2) ∧ Hid (OwnO (B + 1) wr a1 n1 c1 (mkE (C.take i)).1) ∧ Hid (EB wr B none 0 0 z0) ∧ Hid (Below B w wr)) (fun v _ => len - (intOf v).toNat)
 case atStart => exact ⟨0, rfl, Nat.zero_le _, Nat.zero_le _, none, 0, 0, HE2, hid OwnV.none0, HR2, HB2⟩
 case round =>
  clear HE2 HR2 HB2
  obtain ⟨i, rfl, hi, hi40, a1, n1, c1, HE, HO, HR, HB⟩ := hrel
  obtain ⟨L1, z1, hs1⟩ : ∃ L1 z1, mkE (C.take i) = (L1, z1) := ⟨_, _, rfl⟩
  have HS1 := hid hs1
  have HOKE := hid (zNj (C.take i))
  rw [hs1] at HE HO HOKE
  dsimp only at HE HO HOKE
  clear hs1
  have HZ1 : Hid (z1.length = 10) := hid HOKE.out.2.2.2.1
  have HN1 : Hid (L1.length = n1) := hid (OpS.len HO.out.vs)
  by_cases hgo : i < len ∧ i < 40
  ·obtain ⟨hlt, hlt40⟩ := hgo
   have hg1 : decide ((i : Int) < (len : Int)) = true := by simpa using hlt
   have hg2 : decide ((i : Int) < 40) = true := by simp; omega
   have hs := HH.out.below (HBB.out ▸ HB.out)
   obtain ⟨b, off, rfl, _, hc⟩ := hs.at_ (by omega)
   clear hc
   have HSN := hid (zMZ (C.take i) (chA C i))
   rw [← zMX (by rw [HL.out]; exact hlt), HS1.out] at HSN
   have HCX : Hid (okC (chA C i)) := hid (HOK.out _ (by rw [zIL (by rw [HL.out]; exact hlt)]; exact List.getElem_mem _))
   have hcs := ChS.at6 hs hlt
   obtain ⟨x, hx⟩ : ∃ x, x = chA C i := ⟨_, rfl⟩
   rw [← hx] at HSN HCX hcs
   obtain ⟨k, g, hh, p, gr, s⟩ := x
   dsimp only at HSN HCX hcs
   obtain ⟨y0, y1, y2, y3, y4, y5⟩ := hcs
   have HZ6 : Hid ((stq L1 z1 k g hh (fitO (p, gr, s))).2.length = 10) := hid (zKc HOKE.out k g hh (zCp (p, gr, s))).2.2.2.1
   clear hs hx
   go_wp2_with fail
   refine wp_region_noPanic ?_
   refine wp_region_held_drew (S := fun _ => True) (by kernel_rfl) (trivial) (fun hHeld => ?_)
   refine zG 1 rfl ?_
   try simp only [Act.put, aS, aZ, aC]
   refine zG 2 rfl ?_
   try simp only [Act.put, aS, aZ, aC]
   refine zG 3 rfl ?_
   try simp only [Act.put, aS, aZ, aC]
   refine zR [0, 4] ?_
   refine hDo rfl (fun K hK => ?_) ?_
   ·refine zCq rfl (.tmp 3) rfl E rfl a1 n1 c1 z1 HZ1.out HE.out.drew ?_
    refine hK.out _ _ (trivial) (fun hHeld => ?_)
    clear hK K
    try simp only [Act.put, aS, aZ, aC]
    refine zR [4] ?_
    refine hDo rfl (fun K hK => ?_) ?_
    ·go_simp
     refine hK.out _ _ (trivial) (fun hHeld => ?_)
     clear hK K
     try simp only [Act.put, aS, aZ, aC]
     refine zR [5] ?_
     refine hDo rfl (fun K hK => ?_) ?_
     ·go_simp
      (go_at_call 14; (refine (zEG (B + 1) a1 n1 c1 L1 z1 k g hh (p, gr, s) _ HO.out.drew (by have := HE.out.lt; have := HBE.out; simp; omega) HZ1.out (by have := HN1.out; have := HOKE.out.2.2.1; omega) HCX.out.1 HCX.out.2.1 HCX.out.2.2.1 HCX.out.2.2.2).mono ?_); rintro e w6 ⟨a6, n6, c6, rfl, ho6, hb6⟩)
      have HO6 := hid ho6
      have HB6 : Hid (Below wr.heap.size wr w6) := hid ((Below.refl _ _).drew.trans hb6)
      clear ho6 hb6
      refine hK.out _ _ (trivial) (fun hHeld => ?_)
      clear hK K
      try simp only [Act.put, aS, aZ, aC]
      refine zR [6] ?_
      refine hDo rfl (fun K hK => ?_) ?_
      ·refine zAT rfl (.tmp 3) (.tmp 21) rfl E rfl a6 n6 c6 _ rfl HZ6.out a1 n1 c1 z1 HZ1.out (HE.out.below HB6.out) ?_
       intro w7 he7 hq7
       have HE7 := hid he7
       have HQ7 := hid hq7
       clear he7 hq7
       refine hK.out _ _ (trivial) (fun hHeld => ?_)
       clear hK K
       try simp only [Act.put]
       refine wpAnyH_done (by kernel_rfl) ?_ _
       refine NoPanic.normal ?_
       have HRX : Hid (EB w7 B none 0 0 z0) := hid ((HR.out.below HB6.out).only HQ7.out (by have := HBE.out; omega))
       have HBX : Hid (Below B w w7) := hid ((HB.out.trans (HB6.out.mono (by have := HB.out.size; have := HBB.out; omega))).trans (HQ7.out.below (Nat.le_of_lt HBE.out)))
       have HEX : Hid (EB w7 E a6 n6 c6 (mkE (C.take (i + 1))).2) := hid (by rw [HSN.out]; exact HE7.out)
       have HOX : Hid (OwnO (B + 1) w7 a6 n6 c6 (mkE (C.take (i + 1))).1) := hid (by rw [HSN.out]; exact zAr HO6.out (HE.out.below HB6.out) HQ7.out)
       go_wp2
       go_roundw
       case rel => exact ⟨i + 1, by go_num, by omega, by omega, a6, n6, c6, HEX, HOX, HRX, HBX⟩
       case measure => simp [intOf]; omega
      exact AllReadyH.nil
     exact AllReadyH.nil
    exact AllReadyH.nil
   refine hDo rfl (fun K hK => ?_) ?_
   ·go_simp
    refine hK.out _ _ (trivial) (fun hHeld => ?_)
    clear hK K
    try simp only [Act.put, aS, aZ, aC]
    refine zR [0] ?_
    refine hDo rfl (fun K hK => ?_) ?_
    ·refine zCq rfl (.tmp 3) rfl E rfl a1 n1 c1 z1 HZ1.out HE.out.drew ?_
     refine hK.out _ _ (trivial) (fun hHeld => ?_)
     clear hK K
     try simp only [Act.put, aS, aZ, aC]
     refine zR [5] ?_
     refine hDo rfl (fun K hK => ?_) ?_
     ·go_simp
      (go_at_call 14; (refine (zEG (B + 1) a1 n1 c1 L1 z1 k g hh (p, gr, s) _ HO.out.drew (by have := HE.out.lt; have := HBE.out; simp; omega) HZ1.out (by have := HN1.out; have := HOKE.out.2.2.1; omega) HCX.out.1 HCX.out.2.1 HCX.out.2.2.1 HCX.out.2.2.2).mono ?_); rintro e w6 ⟨a6, n6, c6, rfl, ho6, hb6⟩)
      have HO6 := hid ho6
      have HB6 : Hid (Below wr.heap.size wr w6) := hid ((Below.refl _ _).drew.trans hb6)
      clear ho6 hb6
      refine hK.out _ _ (trivial) (fun hHeld => ?_)
      clear hK K
      try simp only [Act.put, aS, aZ, aC]
      refine zR [6] ?_
      refine hDo rfl (fun K hK => ?_) ?_
      ·refine zAT rfl (.tmp 3) (.tmp 21) rfl E rfl a6 n6 c6 _ rfl HZ6.out a1 n1 c1 z1 HZ1.out (HE.out.below HB6.out) ?_
       intro w7 he7 hq7
       have HE7 := hid he7
       have HQ7 := hid hq7
       clear he7 hq7
       refine hK.out _ _ (trivial) (fun hHeld => ?_)
       clear hK K
       try simp only [Act.put]
       refine wpAnyH_done (by kernel_rfl) ?_ _
       refine NoPanic.normal ?_
       have HRX : Hid (EB w7 B none 0 0 z0) := hid ((HR.out.below HB6.out).only HQ7.out (by have := HBE.out; omega))
       have HBX : Hid (Below B w w7) := hid ((HB.out.trans (HB6.out.mono (by have := HB.out.size; have := HBB.out; omega))).trans (HQ7.out.below (Nat.le_of_lt HBE.out)))
       have HEX : Hid (EB w7 E a6 n6 c6 (mkE (C.take (i + 1))).2) := hid (by rw [HSN.out]; exact HE7.out)
       have HOX : Hid (OwnO (B + 1) w7 a6 n6 c6 (mkE (C.take (i + 1))).1) := hid (by rw [HSN.out]; exact zAr HO6.out (HE.out.below HB6.out) HQ7.out)
       go_wp2
       go_roundw
       case rel => exact ⟨i + 1, by go_num, by omega, by omega, a6, n6, c6, HEX, HOX, HRX, HBX⟩
       case measure => simp [intOf]; omega
      exact AllReadyH.nil
     exact AllReadyH.nil
    exact AllReadyH.nil
   exact AllReadyH.nil
  ·have HT : Hid (mkE (C.take 40) = (L1, z1)) := hid (by
    rw [← HS1.out]
    congr 1
    by_cases h40 : i = 40
    ·rw [h40]
    ·rw [List.take_of_length_le (by rw [HL.out]; omega), List.take_of_length_le (by rw [HL.out]; omega)])
   rcases (show (¬ i < len) ∨ (i < len ∧ ¬ i < 40) by omega) with hx | hx
   ·have hg1 : ¬ (i : Int) < (len : Int) := by omega
    clear hx hgo
    go_wp2_with (first
     | (refine zAD rfl (.tmp 2) (.tmp 22) rfl B rfl a1 n1 c1 z1 rfl HZ1.out none 0 0 z0 zAF HR.out ?_; intro w7 he7 hq7; have HE7 := hid he7; have HQ7 := hid hq7; clear he7 hq7)
     | (refine zAS rfl (.tmp 3) rfl E rfl a1 n1 c1 z1 HZ1.out HE.out ?_))
    refine bodyPost_ret (zBa rfl _ _ B a1 n1 c1 z1 HZ1.out rfl HE7.out) rfl ⟨a1, n1, c1, by rw [HT.out], ?_, ?_⟩
    ·rw [HT.out]; exact (zAr HO.out HR.out HQ7.out).weak (by have := HBB.out; omega)
    ·rw [← HBB.out]; exact HB.out.trans (HQ7.out.below (Nat.le_refl _))
   ·obtain ⟨hx1, hx2⟩ := hx
    have hg1 : (i : Int) < (len : Int) := by omega
    have hg2 : ¬ (i : Int) < 40 := by omega
    clear hx1 hx2 hgo
    go_wp2_with (first
     | (refine zAD rfl (.tmp 2) (.tmp 22) rfl B rfl a1 n1 c1 z1 rfl HZ1.out none 0 0 z0 zAF HR.out ?_; intro w7 he7 hq7; have HE7 := hid he7; have HQ7 := hid hq7; clear he7 hq7)
     | (refine zAS rfl (.tmp 3) rfl E rfl a1 n1 c1 z1 HZ1.out HE.out ?_))
    refine bodyPost_ret (zBa rfl _ _ B a1 n1 c1 z1 HZ1.out rfl HE7.out) rfl ⟨a1, n1, c1, by rw [HT.out], ?_, ?_⟩
    ·rw [HT.out]; exact (zAr HO.out HR.out HQ7.out).weak (by have := HBB.out; omega)
    ·rw [← HBB.out]; exact HB.out.trans (HQ7.out.below (Nat.le_refl _))
end
end Go.Proofs.YtcjbhdgjcpnklaaGreatDoor
