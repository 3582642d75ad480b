import Derived.Deep.DeepCutAuto
import Derived.Test.YtcjbhdgjcpnklaaGreatDoorN19
namespace Go.Proofs.YtcjbhdgjcpnklaaGreatDoor
section
open Go.RowKit
theorem zGd {ops : Array Oper} {o : Oper} {A : Act} {w : World} {K : Act → World → Prop} {Q : Exit → Act → World → Prop} {E : Prop} (hgd : o.guard = none) (ho : o.op = .alloc 34)
  (k : ∀ w' X, X = w.heap.size → EB w' X none 0 0 z0 → Below w.heap.size w w' → K (A.put o.dst (.pointer (some ⟨X, 0, none⟩))) w') : if Region.wanted o (yielded ops A.tmps) = true then o.wp Tryz.prog A w K Q else E := by
 rw [if_pos (show Region.wanted o (yielded ops A.tmps) = true by simp [Region.wanted, hgd])]
 have h := k (w.alloc (.cells (ev none 0 0 z0) 34)) w.heap.size rfl (EB.new w none 0 0 z0) (zAA w _)
 have hr : (Instr.alloc 34 true (.tuple #[])).run Tryz.prog w = .ok (.pointer (some ⟨w.heap.size, 0, none⟩)) (w.alloc (.cells (ev none 0 0 z0) 34)) := by kernel_rfl
 unfold Oper.wp execOp
 simp only [ho, hr, Sem.run_bind, Result.andThen_ok, Sem.run_pure]
 exact h
def wthS (L : List OP) (o : OP) : List OP := if addE L o = 0 then addL L o else L
def wthL (A : List OP) : List OP := A.foldl wthS []
theorem zSF {A : List OP} {k : Nat} (h : k < A.length) : wthL (A.take (k + 1)) = wthS (wthL (A.take k)) (opA A k) := by
 unfold wthL
 rw [zIG h, List.foldl_append]; rfl
theorem addL_len' (L : List OP) (o : OP) : (addL L o).length ≤ L.length + 1 := by
 rw [zMN]
 split <;> omega
theorem zSw (A : List OP) : ∀ k, k ≤ A.length → (wthL (A.take k)).length ≤ k
 | 0, _ => by rw [List.take_zero]; exact Nat.le_refl _
 | k + 1, h => by
  have ih := zSw A k (by omega)
  rw [zSF (by omega)]
  unfold wthS
  split
  ·have := addL_len' (wthL (A.take k)) (opA A k); omega
  ·omega
def tE (t : TypeId) : Prop := t = 34
set_option maxRecDepth 100000 in
set_option maxHeartbeats 16000000 in
theorem zSx (aO : Option Addr) (n c : Nat) (A : List OP) (w : World) (ht : Tab w) (h : OpS w aO n c A) (hn : n ≤ 1000) (hp : ∀ o ∈ A, o.1.length ≤ 1000000) :
  Calls Tryz.prog 25 #[.slice aO n c] w fun e w' => ∃ a m d, e = .returned (.agg (ev a m d zS)) ∧ OwnO 0 w' a m d (wthL A) ∧ Below w.heap.size w w' := by
 have hcm := h.cm
 have hlc := h.lc
 have HT := hid ht
 have H := hid h
 have HAL : Hid (A.length = n) := hid (OpS.len h)
 have HP := hid hp
 obtain ⟨B, hB⟩ : ∃ B, B = w.heap.size := ⟨_, rfl⟩
 obtain ⟨w1, hw1⟩ : ∃ w1, w1 = w.alloc (.cells (ev none 0 0 z0) 34) := ⟨_, rfl⟩
 have HR1 : Hid (EB w1 B none 0 0 z0) := hid (by rw [hw1, hB]; exact EB.new w none 0 0 z0)
 have HB1 : Hid (Below w.heap.size w w1) := hid (by rw [hw1]; exact zAA w _)
 have HBB := hid hB
 rw [zB1] at hw1
 clear ht h hp
 go_enter Tryz.func25, Tryz.ntmps25
 go_upto_region 1 with fail
 rw [← hw1, ← hB]
 clear hw1 hB
 go_wp2_with fail
 refine (zKW w1).mono ?_
 rintro e w2 ⟨rfl, hb2⟩
 have HB2 : Hid (Below w.heap.size w w2) := hid (HB1.out.trans (hb2.mono HB1.out.size))
 have HR2 := hid (HR1.out.below hb2)
 obtain ⟨E, hE⟩ : ∃ E, E = w2.heap.size := ⟨_, rfl⟩
 have HEE := hid hE
 have HEB : Hid (B < E) := hid (by rw [hE]; exact HR2.out.lt)
 have hnew : EB (w2.alloc (.cells #[.slice none 0 0, .int .i64 0, .int .i64 0, .int .i64 0, .int .i64 0, .int .i64 0, .int .i64 0, .int .i64 0, .int .i64 0, .int .i64 0, .int .i64 0] 34)) E none 0 0 z0 := by rw [hE]; exact EB.new w2 none 0 0 z0
 have HNEW := hid hnew
 clear hb2 hE hnew HB1 HR1
 go_upto_region 2 with (refine zAD rfl (.tmp 3) (.tmp 7) rfl E (by rw [HEE.out]; rfl) none 0 0 zS rfl rfl none 0 0 z0 zAF HNEW.out ?_; rw [← HEE.out]; intro w3 h3 ho3; have H3 := hid h3; have HB3 : Hid (Below w2.heap.size w2 w3) := hid ((zAA w2 _).trans (ho3.below (by rw [HEE.out]; exact Nat.le_refl _))); clear h3 ho3)
 have HB3W : Hid (Below w.heap.size w w3) := hid (HB2.out.trans (HB3.out.mono HB2.out.size))
 have HR3 := hid (HR2.out.below HB3.out)
 clear HNEW HB2 HB3 HR2 HEE
 go_wp2
 go_loopw [4] (fun v wr => ∃ k : Nat, ∃ a m d, v = .int .i64 (k : Int) ∧ k ≤ n ∧ Hid (EB wr E a m d zS) ∧ Hid (OwnO 0 wr a m d (wthL (A.take k))) ∧ Hid (EB wr B none 0 0 z0) ∧ Hid (Below w.heap.size w wr)) (fun v _ => n - (intOf v).toNat)
 case atStart => exact ⟨0, none, 0, 0, rfl, Nat.zero_le _, H3, hid (by rw [List.take_zero]; exact OwnV.none0), HR3, HB3W⟩
 case round =>
  obtain ⟨k, a, m, d, rfl, hk, HE, HO, HR, HB⟩ := hrel
  by_cases hlt : k < n
  ·have hltI : (k : Int) < (n : Int) := by omega
   have hk0 : (0 : Int) ≤ (k : Int) := Int.natCast_nonneg _
   have hs := H.out.below HB.out
   obtain ⟨b, off, rfl, _, hc⟩ := hs.at_ (by omega)
   clear hc
   obtain ⟨c0, c1, c2⟩ := OpS.at3 hs hlt
   have HSN := hid (zSF (A := A) (k := k) (by rw [HAL.out]; exact hlt))
   obtain ⟨o, hoe⟩ : ∃ o, o = opA A k := ⟨_, rfl⟩
   have HPO : Hid (o.1.length ≤ 1000000) := hid (by rw [hoe]; exact HP.out _ (zBZ (by rw [HAL.out]; exact hlt)))
   rw [← hoe] at c0 c1 c2 HSN
   clear hs hoe
   obtain ⟨p, g, s⟩ := o
   dsimp only at c0 c1 c2 HPO
   obtain ⟨L, hL⟩ : ∃ L, L = wthL (A.take k) := ⟨_, rfl⟩
   have HLL : Hid (L.length ≤ 1000000) := hid (by rw [hL]; have := zSw A k (by rw [HAL.out]; exact hk); omega)
   rw [← hL] at HO HSN
   clear hL
   have HML : Hid (L.length = m) := hid (OpS.len HO.out.vs)
   have KA : Hid (∀ u, Below wr.heap.size wr u → Calls Tryz.prog 22 #[.agg (ev a m d zS), .agg #[.string (mk p), .int .i64 g, .int .i64 s]] u fun e w' => ∃ a' n' c', e = .returned (.tuple #[.agg (ev a' n' c' (addZ L zS (p, g, s))), .int .i64 (addE L (p, g, s))]) ∧ OwnO 0 w' a' n' c' (addR L (p, g, s)) ∧ Below u.heap.size u w') := hid fun u hu => by
    refine (zHI a m d L zS (p, g, s) u (HT.out.keep (HB.out.trans (hu.mono HB.out.size))) (HO.out.vs.below hu) rfl (by rw [← HML.out]; exact HLL.out) HPO.out).mono ?_
    rintro e w' ⟨a', n', c', rfl, h1, h2⟩
    exact ⟨a', n', c', rfl, h1.weaken (Nat.zero_le _), h2⟩
   have HKS : Hid (∀ u, Below wr.heap.size wr u → EB u E a m d zS ∧ u.cell? ⟨b, off + k * 3, none⟩ = some (.string (mk p)) ∧ u.cell? ⟨b, off + k * 3 + 1, none⟩ = some (.int .i64 g) ∧ u.cell? ⟨b, off + k * 3 + 2, none⟩ = some (.int .i64 s)) := hid fun u hu => by
    have hlt : b < wr.heap.size := World.block_lt_of_cell? wr ⟨b, off + k * 3, none⟩ c0
    exact ⟨HE.out.below hu, (hu.cell hlt).trans c0, (hu.cell hlt).trans c1, (hu.cell hlt).trans c2⟩
   obtain ⟨V, hV⟩ : ∃ V, V = addE L (p, g, s) := ⟨_, rfl⟩
   have HV := hid hV
   rw [← hV] at KA
   have HZV : Hid ((addZ L zS (p, g, s)).length = 10) := hid (by unfold addZ; split <;> rfl)
   clear c0 c1 c2 hV
   go_upto_region 5 with fail
   go_cut [5, 6] from 8 to 25 (fun u v wx => ∃ F a' n' c', u = .pointer (some ⟨F, 0, none⟩) ∧ v = .int .i64 V ∧ Hid (EB wx F a' n' c' (addZ L zS (p, g, s))) ∧ Hid (OwnO 0 wx a' n' c' (addR L (p, g, s))) ∧ Hid (wr.heap.size ≤ F) ∧ Hid (Below wr.heap.size wr wx))
   case first =>
    refine wp_region_noPanic ?_
    refine wp_region_held_drew (S := fun u => EB u E a m d zS ∧ u.cell? ⟨b, off + k * 3, none⟩ = some (.string (mk p)) ∧ u.cell? ⟨b, off + k * 3 + 1, none⟩ = some (.int .i64 g) ∧ u.cell? ⟨b, off + k * 3 + 2, none⟩ = some (.int .i64 s)) (by kernel_rfl) (HKS.out _ (Below.refl _ _).drew) (fun hHeld => ?_)
    refine zT 0 (v := .agg (ev a m d zS)) rfl (fun w0 h0 => zBc zKz (.tmp 3) E rfl (ev a m d zS) (zA7 rfl) h0.1) ?_
    try simp only [Act.put, aS, aZ, aC]
    refine zG 1 rfl ?_
    try simp only [Act.put, aS, aZ, aC]
    refine zG 2 rfl ?_
    try simp only [Act.put, aS, aZ, aC]
    refine zG 3 rfl ?_
    try simp only [Act.put, aS, aZ, aC]
    refine zG 4 rfl ?_
    try simp only [Act.put, aS, aZ, aC]
    refine zR [5, 9] ?_
    refine hDo rfl (fun K hK => ?_) ?_
    ·go_simp
     (go_at_call 22; (with_reducible refine (KA.out _ (Below.refl wr.heap.size wr).drew).mono ?_); rintro e v1 ⟨a1, n1, c1, rfl, ho1, hb1⟩)
     have HX1 : Hid (Below wr.heap.size wr v1) := hid ((Below.refl wr.heap.size wr).drew.trans (hb1.mono (Below.refl wr.heap.size wr).drew.size))
     have HO1 := hid ho1
     clear ho1 hb1
     refine hK.out _ _ (HKS.out _ HX1.out) (fun hHeld => ?_)
     clear hK K
     try simp only [Act.put, aS, aZ, aC]
     refine zG 6 rfl ?_
     try simp only [Act.put, aS, aZ, aC]
     refine zG 7 rfl ?_
     try simp only [Act.put, aS, aZ, aC]
     refine zG 8 rfl ?_
     try simp only [Act.put, aS, aZ, aC]
     refine zR [9] ?_
     refine hDo rfl (fun K hK => ?_) ?_
     ·refine zGd rfl rfl ?_
      intro v2 X2 hX2 hx2 hb2
      have HX2 : Hid (Below wr.heap.size wr v2) := hid (HX1.out.trans (hb2.mono HX1.out.size))
      have HO2 := hid (HO1.out.keep hb2 (Nat.le_refl _))
      have HF2 := hid hx2
      have HG2 : Hid (wr.heap.size ≤ X2) := hid (by rw [hX2]; exact HX1.out.size)
      clear hX2 hx2 hb2
      refine hK.out _ _ (HKS.out _ HX2.out) (fun hHeld => ?_)
      clear hK K
      try simp only [Act.put, aS, aZ, aC]
      refine zR [10] ?_
      refine hDo rfl (fun K hK => ?_) ?_
      ·refine zAT rfl (.tmp 5) (.tmp 21) rfl X2 rfl a1 n1 c1 (addZ L zS (p, g, s)) rfl HZV.out none 0 0 z0 zAF HF2.out ?_
       intro v3 h3 ho3
       have H3 := hid h3
       have HP3 := hid ho3
       clear h3 ho3
       refine hK.out _ _ (HKS.out _ (HX2.out.trans (HP3.out.below HG2.out))) (fun hHeld => ?_)
       clear hK K
       try simp only [Act.put]
       refine zG 11 rfl ?_
       try simp only [Act.put, aS, aZ, aC]
       refine wpAnyH_done (by kernel_rfl) ?_ _
       refine NoPanic.normal ?_
       go_wp2
       go_meet
       exact ⟨X2, a1, n1, c1, rfl, rfl, H3, hid (HO2.out.kt (P := tE) (by unfold tE; decide) (Kt.only HF2.out rfl HP3.out)), HG2, hid (HX2.out.trans (HP3.out.below HG2.out))⟩
      exact AllReadyH.nil
     exact AllReadyH.nil
    refine hDo rfl (fun K hK => ?_) ?_
    ·refine zGd rfl rfl ?_
     intro v4 X4 hX4 hx4 hb4
     have HX4 : Hid (Below wr.heap.size wr v4) := hid ((Below.refl wr.heap.size wr).drew.trans (hb4.mono (Below.refl wr.heap.size wr).drew.size))
     have HF4 := hid hx4
     have HG4 : Hid (wr.heap.size ≤ X4) := hid (by rw [hX4]; exact (Below.refl wr.heap.size wr).drew.size)
     clear hX4 hx4 hb4
     refine hK.out _ _ (HKS.out _ HX4.out) (fun hHeld => ?_)
     clear hK K
     try simp only [Act.put, aS, aZ, aC]
     refine zR [5] ?_
     refine hDo rfl (fun K hK => ?_) ?_
     ·go_simp
      (go_at_call 22; (with_reducible refine (KA.out _ HX4.out).mono ?_); rintro e v5 ⟨a5, n5, c5, rfl, ho5, hb5⟩)
      have HX5 : Hid (Below wr.heap.size wr v5) := hid (HX4.out.trans (hb5.mono HX4.out.size))
      have HF5 := hid (HF4.out.below hb5)
      have HO5 := hid ho5
      clear ho5 hb5
      refine hK.out _ _ (HKS.out _ HX5.out) (fun hHeld => ?_)
      clear hK K
      try simp only [Act.put, aS, aZ, aC]
      refine zG 6 rfl ?_
      try simp only [Act.put, aS, aZ, aC]
      refine zG 7 rfl ?_
      try simp only [Act.put, aS, aZ, aC]
      refine zG 8 rfl ?_
      try simp only [Act.put, aS, aZ, aC]
      refine zR [10] ?_
      refine hDo rfl (fun K hK => ?_) ?_
      ·refine zAT rfl (.tmp 5) (.tmp 21) rfl X4 rfl a5 n5 c5 (addZ L zS (p, g, s)) rfl HZV.out none 0 0 z0 zAF HF5.out ?_
       intro v6 h6 ho6
       have H6 := hid h6
       have HP6 := hid ho6
       clear h6 ho6
       refine hK.out _ _ (HKS.out _ (HX5.out.trans (HP6.out.below HG4.out))) (fun hHeld => ?_)
       clear hK K
       try simp only [Act.put]
       refine zG 11 rfl ?_
       try simp only [Act.put, aS, aZ, aC]
       refine wpAnyH_done (by kernel_rfl) ?_ _
       refine NoPanic.normal ?_
       go_wp2
       go_meet
       exact ⟨X4, a5, n5, c5, rfl, rfl, H6, hid (HO5.out.kt (P := tE) (by unfold tE; decide) (Kt.only HF5.out rfl HP6.out)), HG4, hid (HX5.out.trans (HP6.out.below HG4.out))⟩
      exact AllReadyH.nil
     exact AllReadyH.nil
    exact AllReadyH.nil
   case rest =>
    obtain ⟨F, a', n', c', rfl, rfl, HF, HO', HFG, HX⟩ := hcut
    obtain ⟨wk, hwk⟩ : ∃ wk, wk = wc := ⟨_, rfl⟩
    rw [← hwk] at HF HO' HX ⊢
    clear hwk
    have HEk := hid (HE.out.below HX.out)
    have HRk := hid (HR.out.below HX.out)
    have HOk := hid (HO.out.keep HX.out (Nat.le_refl _))
    have HBk : Hid (Below w.heap.size w wk) := hid (HB.out.trans (HX.out.mono HB.out.size))
    by_cases hv : V = 0
    ·have hvI : (V == 0) = true := by simp [hv]
     have HA0 : Hid (addE L (p, g, s) = 0) := hid (by rw [← HV.out]; exact hv)
     have HZ0 : Hid (addZ L zS (p, g, s) = zS) := hid (by unfold addZ; rw [if_pos HA0.out])
     rw [HZ0.out] at HF
     have HNX : Hid (wthL (A.take (k + 1)) = addR L (p, g, s)) := hid (by rw [HSN.out]; unfold wthS addR; rw [if_pos HA0.out, if_pos HA0.out])
     clear hv
     go_wp2_with (first
      | (refine zAS rfl (.tmp 5) rfl F rfl a' n' c' zS rfl HF.out ?_)
      | (refine zAD rfl (.tmp 3) (.tmp 25) rfl E rfl a' n' c' zS rfl rfl a m d zS rfl HEk.out ?_; intro w5 h5 ho5; have H5 := hid h5; have HO5 := hid ho5; clear h5 ho5))
     go_roundw
     case rel => exact ⟨k + 1, a', n', c', by go_num, by omega, H5, hid (by rw [HNX.out]; exact HO'.out.kt (P := tE) (by unfold tE; decide) (Kt.only HEk.out rfl HO5.out)), hid (HRk.out.only HO5.out (by have := HEB.out; omega)), hid (HBk.out.trans (HO5.out.below (by have := HBB.out; have := HEB.out; omega)))⟩
     case measure => simp [intOf]; omega
    ·have hvI : (V == 0) = false := by simp [hv]
     have HNX : Hid (wthL (A.take (k + 1)) = L) := hid (by rw [HSN.out]; unfold wthS; rw [if_neg (by rw [← HV.out]; exact hv)])
     clear hv
     go_wp2
     go_roundw
     case rel => exact ⟨k + 1, a, m, d, by go_num, by omega, HEk, hid (by rw [HNX.out]; exact HOk.out), HRk, HBk⟩
     case measure => simp [intOf]; omega
  ·obtain rfl : k = n := by omega
   go_wp2_with (first
    | (refine zAS rfl (.tmp 3) rfl E rfl a m d zS rfl HE.out ?_)
    | (refine zAD rfl (.tmp 2) (.tmp 26) rfl B rfl a m d zS rfl rfl none 0 0 z0 zAF HR.out ?_; intro w5 h5 ho5; have H5 := hid h5; have HO5 := hid ho5; clear h5 ho5))
   refine bodyPost_ret (zBa rfl _ _ B a m d zS rfl rfl H5.out) rfl ⟨a, m, d, rfl, ?_, HB.out.trans (HO5.out.below (by have := HBB.out; omega))⟩
   have h := HO.out.kt (P := tE) (by unfold tE; decide) (Kt.only HR.out rfl HO5.out)
   rw [List.take_of_length_le (by rw [HAL.out]; exact Nat.le_refl _)] at h
   exact h
theorem zRI (aO : Option Addr) (n c : Nat) (A : List OP) (w : World) (ht : Tab w) (h : OpS w aO n c A) (hn : n ≤ 1000) (hp : ∀ o ∈ A, o.1.length ≤ 1000000) :
  Calls Tryz.prog 25 #[.slice aO n c] w fun e w' => ∃ a m d, e = .returned (.agg (ev a m d zS)) ∧ OpS w' a m d (wthL A) ∧ Below w.heap.size w w' := by
 refine (zSx aO n c A w ht h hn hp).mono ?_
 rintro e w' ⟨a, m, d, rfl, ho, hb⟩
 exact ⟨a, m, d, rfl, ho.vs, hb⟩
end
section
open Go.RowKit
theorem cut20 (p : Nm) (v : Nat) (hv : v = min p.length 20) : ∀ w, (Instr.slice 9 (.string (mk p)) none (some (.int .i64 (v : Int))) none).run Tryz.prog w = .ok (.string (mk (p.take 20))) w := fun w => by
 rw [zNU w p v (by omega)]
 congr 3
 rw [hv]
 by_cases h : p.length ≤ 20
 ·rw [Nat.min_eq_left h, List.take_of_length_le (Nat.le_refl _), List.take_of_length_le h]
 ·rw [Nat.min_eq_right (by omega)]
def cutU (y : TK) : TK := { y with s := mk ((txN y).take 20) }
def shortU (l : List TK) : List TK := (l.take 16).map cutU
theorem zSK (l : List TK) : (shortU l).length ≤ 16 := by unfold shortU; rw [List.length_map, List.length_take]; omega
theorem zRz {l : List TK} {k : Nat} (h : k < l.length) : (l.take (k + 1)).map cutU = (l.take k).map cutU ++ [cutU (tat l k)] := by rw [zHu h, List.map_append]; rfl
theorem zR0 {l : List TK} {k : Nat} (h : k ≤ 16) (h2 : ¬ (k < l.length ∧ k < 16)) : (l.take k).map cutU = shortU l := by
 unfold shortU
 congr 1
 by_cases h3 : k = 16
 ·rw [h3]
 ·rw [List.take_of_length_le (by omega), List.take_of_length_le (by omega)]
theorem zTK {ops : Array Oper} {rest : List Oper} {o : Oper} {A : Act} {w : World} {Q : Exit → Act → World → Prop} (hgd : o.guard = none) (x y : Operand) (ho : o.op = .store 9 x y)
  (b : Nat) (hx : A.eval x = .pointer (some ⟨b, 3, none⟩)) (s' : Nm) (hy : A.eval y = .string (mk s')) (k f t : Int) (s : Nm) (e : Int) (h : T5 w b k f t s e)
  (kk : ∀ w', T5 w' b k f t s' e → Only b w w' → wpList Tryz.prog ops Q rest (A.put o.dst undef) w') : wpList Tryz.prog ops Q (o :: rest) A w :=
 zAm hgd 9 51 x y ho b 3 [.int .i64 k, .int .i64 f, .int .i64 t, .string (mk s), .int .i64 e] (.string (mk s')) hx hy zOv rfl h (by simp) rfl fun w' h' ho' => kk w' h' ho'
theorem zSy : (Tryz.prog.info? 51).map (·.size) = some 5 := by kernel_rfl
theorem zTx {ops : Array Oper} {rest : List Oper} {o : Oper} {a : Act} {w : World} {Q : Exit → Act → World → Prop} (hw : Region.wanted o (yielded ops a.tmps) = true) (x : Operand) (ho : o.op = .load 51 x)
  (b : Nat) (hx : a.eval x = .pointer (some ⟨b, 0, none⟩)) (k f t : Int) (s : Nm) (e : Int) (h : T5 w b k f t s e)
  (kk : wpList Tryz.prog ops Q rest (a.put o.dst (.agg #[.int .i64 k, .int .i64 f, .int .i64 t, .string (mk s), .int .i64 e])) w) : wpList Tryz.prog ops Q (o :: rest) a w :=
 wpList_step fun K hK => by
  rw [if_pos hw]
  exact wp_load_row 51 x ho b hx _ _ _ _ h Tryz.underlying51 rfl zSy (hK _ _ kk)
theorem zSz {ops : Array Oper} {rest : List Oper} {o : Oper} {a : Act} {w : World} {Q : Exit → Act → World → Prop} (hgd : o.guard = none) (x y : Operand) (ho : o.op = .store 51 x y)
  (b : Nat) (hx : a.eval x = .pointer (some ⟨b, 0, none⟩)) (k f t : Int) (s : Nm) (e : Int) (hy : a.eval y = .agg #[.int .i64 k, .int .i64 f, .int .i64 t, .string (mk s), .int .i64 e]) (k0 f0 t0 : Int) (s0 : Nm) (e0 : Int) (h : T5 w b k0 f0 t0 s0 e0)
  (kk : ∀ w', T5 w' b k f t s e → Only b w w' → wpList Tryz.prog ops Q rest (a.put o.dst undef) w') : wpList Tryz.prog ops Q (o :: rest) a w :=
 wpList_store_row hgd 51 x y ho b _ hx hy _ _ h zSy rfl (by kernel_rfl) (kk _ (setRow_heap w b _ _ _ _ h) (Only.ofRow w b _))
theorem T5.zero (w : World) : T5 (w.alloc (.cells #[.int .i64 0, .int .i64 0, .int .i64 0, .string ⟨#[]⟩, .int .i64 0] 51)) w.heap.size 0 0 0 [] 0 := heap_alloc_new w _
set_option maxRecDepth 20000 in
set_option maxHeartbeats 8000000 in
theorem zTL (a : Option Addr) (n c : Nat) (l : List TK) (w : World) (h : Ts w a n c l) :
  Calls Tryz.prog 11 #[.slice a n c] w fun e w' => ∃ a' c', e = .returned (.slice a' (shortU l).length c') ∧ OwnT w.heap.size 51 w' a' (shortU l).length c' (shortU l) ∧ Below w.heap.size w w' := by
 have HL := hid h.hl
 have H := hid h
 clear h
 go_enter Tryz.func11, Tryz.ntmps11
 go_wp2
 go_loopw [3, 4] (fun u v wr => ∃ (k : Nat) (a' : Option Addr) (c' : Nat), u = .slice a' k c' ∧ v = .int .i64 k ∧ k ≤ n ∧ k ≤ 16 ∧ Hid (OwnT w.heap.size 51 wr a' k c' ((l.take k).map cutU)) ∧ Hid (Below w.heap.size w wr)) (fun _ v _ => n - (intOf v).toNat)
 case atStart => exact ⟨0, _, 0, rfl, rfl, by omega, by omega, hid (OwnT.emptyAt (heap_alloc_new w _) (Nat.le_refl _)), hid (zAA w _)⟩
 case round =>
  obtain ⟨k, a', c', rfl, rfl, hk, hk16, HO, HB⟩ := hrel
  have hk0 : (0 : Int) ≤ (k : Int) := Int.natCast_nonneg _
  by_cases hlt : k < n ∧ k < 16
  ·have hk1 : (k : Int) < (n : Int) := by omega
   have hk2 : (k : Int) < 16 := by omega
   have hkn : k < n := hlt.1
   obtain ⟨b, off, rfl, c0, c1, c2, c3, c4⟩ := zIa (H.out.below HB.out) hkn
   have HT := hid (zRz (l := l) (k := k) (by rw [HL.out]; exact hkn))
   obtain ⟨x, hx⟩ : ∃ x, x = tat l k := ⟨_, rfl⟩
   rw [← hx] at c0 c1 c2 c3 c4 HT
   clear hx
   obtain ⟨xn, hxn⟩ : ∃ q, q = txN x := ⟨_, rfl⟩
   rw [← hxn] at c3
   have HCT : Hid (cutU x = ⟨x.k, x.f, x.t, mk (xn.take 20), x.e⟩) := hid (by rw [hxn]; rfl)
   clear hxn
   obtain ⟨G, hG⟩ : ∃ G, G = wr.heap.size := ⟨_, rfl⟩
   have HG := hid hG
   clear hG
   have hsz : (mk xn).size = xn.length := mk_size xn
   obtain ⟨m, hm⟩ : ∃ m, m = xn.length := ⟨_, rfl⟩
   rw [← hm] at hsz
   obtain ⟨v, hv⟩ : ∃ v, v = min m 20 := ⟨_, rfl⟩
   have hmin : min (m : Int) 20 = (v : Int) := by omega
   have hsl := cut20 xn v (by rw [hv, hm])
   have hv0 : (0 : Int) ≤ (v : Int) := Int.natCast_nonneg _
   obtain ⟨p', hp'⟩ : ∃ q, q = xn.take 20 := ⟨_, rfl⟩
   rw [← hp'] at hsl HCT
   clear hm hv hp' hlt
   go_wp2_with (first
    | (refine zSz rfl (.tmp 5) (.tmp 20) rfl _ rfl x.k x.f x.t xn x.e rfl 0 0 0 [] 0 (T5.zero wr) ?_; rw [← HG.out]; intro w5 h5 ho5; have HB45 : Hid (Below wr.heap.size wr w5) := hid ((zAA wr _).trans (ho5.below (by rw [HG.out]; exact Nat.le_refl _))); have H5 := hid h5; have d3 := h5.cells.2.2.2.1; clear h5 ho5 c0 c1 c2 c3 c4)
    | (refine zTK rfl (.tmp 28) (.tmp 27) rfl G rfl p' rfl x.k x.f x.t xn x.e H5.out ?_; intro w7 h7 ho7; have HB67 : Hid (Below wr.heap.size wr w7) := hid (HB45.out.trans (ho7.below (by rw [HG.out]; exact Nat.le_refl _))); have H7 := hid h7; clear h7 ho7 d3)
    | (refine zTx rfl (.tmp 5) rfl G rfl x.k x.f x.t p' x.e H7.out ?_)
    | (at_builtin; refine zBt rfl (.tmp 29) (.tmp 31) rfl w.heap.size _ _ _ ((l.take k).map cutU) rfl ((HO.out.keep HB67.out (Nat.le_refl _)).alloc _) _ _ _ [⟨x.k, x.f, x.t, mk p', x.e⟩] rfl (Ts.one w7 51 ⟨x.k, x.f, x.t, mk p', x.e⟩ rfl rfl) (by omega) (by have := HB.out.size; have := HB67.out.size; simp; omega) ?_; intro a6 c6 w8 hO6 hG6 hb6; have HO6 := hid hO6; have HB6 : Hid (Below w.heap.size w w8) := hid (((HB.out.trans (HB67.out.mono HB.out.size)).alloc (by have := HB.out.size; have := HB67.out.size; omega) _).trans hb6); clear hO6 hG6 hb6))
   go_roundw
   case rel => exact ⟨k + 1, a6, c6, rfl, by go_num, by omega, by omega, hid (by rw [HT.out, HCT.out]; exact HO6.out), HB6⟩
   case measure => simp [intOf]; omega
  ·have HE : Hid ((l.take k).map cutU = shortU l ∧ k = (shortU l).length) := hid (by
    have h1 := zR0 hk16 (by rw [HL.out]; exact hlt)
    refine ⟨h1, ?_⟩
    rw [← h1, List.length_map, List.length_take, HL.out]
    omega)
   by_cases hkn : k < n
   ·have hk16' : k = 16 := by omega
    subst hk16'
    go_wp2
    go_ret
    have ho := HO.out
    rw [HE.out.1] at ho
    rw [← HE.out.2]
    exact ⟨a', c', rfl, ho, HB.out⟩
   ·go_wp2
    go_ret
    have ho := HO.out
    rw [HE.out.1] at ho
    rw [← HE.out.2]
    exact ⟨a', c', rfl, ho, HB.out⟩
end
end Go.Proofs.YtcjbhdgjcpnklaaGreatDoor
