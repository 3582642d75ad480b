import Derived.Deep.DeepCutAuto
import Derived.Test.YtcjbhdgjcpnklaaGreatDoorN11
import Derived.Test.YtcjbhdgjcpnklaaGreatDoorN20
import Derived.Test.YtcjbhdgjcpnklaaGreatDoorN22
import Derived.Test.YtcjbhdgjcpnklaaGreatDoorN23
import Derived.Test.YtcjbhdgjcpnklaaGreatDoorN24
import Derived.Test.YtcjbhdgjcpnklaaGreatDoorN25
namespace Go.Proofs.YtcjbhdgjcpnklaaGreatDoor
open Go.RowKit
theorem zPM {C : List CH} {k : Nat} (h : k < C.length) : chA C k ∈ C := by rw [zIL h]; exact List.getElem_mem h
theorem zLn {w : World} {b off n c : Nat} {M : List Nm} (h : Vs 1 w (some ⟨b, off, none⟩) n c (M.map encStr)) (hm : M.length = n) {k : Nat} (hk : k < n) : w.cell? ⟨b, off + k, none⟩ = some (.string (mk (at_ M k))) := by
 have hj : (M.map encStr)[k]? = some (.string (mk (at_ M k))) := by
  unfold at_
  rw [List.getElem?_map, List.getD_eq_getElem?_getD, List.getElem?_eq_getElem (by omega)]; rfl
 rw [← hj, ← Vs.cells h (j := k) (by omega) (by simp; omega)]
set_option maxRecDepth 100000 in
set_option maxHeartbeats 64000000 in
theorem zRJ (ca : Option Addr) (cl cc : Nat) (C : List CH) (da : Option Addr) (dl dc : Nat) (D : List CH) (la : Option Addr) (ln lc : Nat) (l : List TK) (w : World) (ht : Tab w) (hC : ChS w ca cl cc C) (hok : ∀ x ∈ C, okC x) (hD : ChS w da dl dc D) (hokD : ∀ x ∈ D, okC x) (hl : Ts w la ln lc l) :
  Calls Tryz.prog 3 #[.slice ca cl cc, .slice da dl dc, .slice la ln lc] w fun e w' => e = .returned (.bool true) ∧ Below w.heap.size w w' := by
 have HT := hid ht
 have HL := hid hl
 have HC := hid hC
 have HDD := hid hD
 have HDK := hid hokD
 have HDL := hid (ChS.len hD)
 have hdlc := hD.lc
 have hdcm := hD.cm
 unfold maxLen at hdcm
 obtain ⟨L, Z, hRO, hE, hmk⟩ := zFm ca cl cc C hok
 have HE := hid hE
 have HRO := hid hRO
 have HZL : Hid (Z.length = 10) := hid hE.2.2.2.1
 have HMK := hid hmk
 obtain ⟨tok, htok⟩ : ∃ q, q = shortU l := ⟨_, rfl⟩
 obtain ⟨m, hm⟩ : ∃ q, q = tok.length := ⟨_, rfl⟩
 have HTM : Hid (tok.length = m) := hid hm.symm
 have HTL : Hid (m ≤ 16) := hid (by rw [hm, htok]; have := zSK l; omega)
 have HTK := hid htok
 obtain ⟨nm, hnm⟩ : ∃ q, q = nmR (nms tok) := ⟨_, rfl⟩
 obtain ⟨nn, hnn⟩ : ∃ q, q = nm.length := ⟨_, rfl⟩
 have HNM := hid hnm
 have HNN : Hid (nm.length = nn) := hid hnn.symm
 have HNL : Hid (nn ≤ 16) := hid (by rw [hnn, hnm]; have := zHW (nms tok); have := zPJ tok; have := HTL.out; have := HTM.out; omega)
 have hnew : ∀ W : World, EB (W.alloc (.cells #[.slice none 0 0, .int .i64 0, .int .i64 0, .int .i64 0, .int .i64 0, .int .i64 0, .int .i64 0, .int .i64 0, .int .i64 0, .int .i64 0, .int .i64 0] 34)) W.heap.size none 0 0 z0 := fun W => EB.new W none 0 0 z0
 clear ht hl hC hok hD hokD hE hmk hRO htok hm hnm hnn
 go_enter Tryz.func3, Tryz.ntmps3
 go_wp2_with fail
 refine (zSL w HT.out).mono ?_
 rintro e w1 ⟨rfl, hb1⟩
 have HB1 := hid hb1
 clear hb1
 go_wp2_with fail
 refine (zTL la ln lc l w1 (HL.out.below HB1.out)).mono ?_
 rw [← HTK.out, HTM.out]
 rintro e w2 ⟨fa, fc, rfl, hf, hb⟩
 have HF2 : Hid (Ts w2 fa m fc tok) := hid hf.ts
 have HB2 : Hid (Below w.heap.size w w2) := hid (HB1.out.trans (hb.mono HB1.out.size))
 clear hf hb HB1
 go_wp2_with fail
 refine (zLh 0 0 0 fa m fc tok w2 HF2.out (by have := HTL.out; omega)).mono ?_
 rw [← HNM.out, HNN.out]
 rintro e w3 ⟨na, nc, rfl, hn, hb⟩
 have HN3 := hid hn
 have HF3 : Hid (Ts w3 fa m fc tok) := hid (HF2.out.below hb)
 have HB3 : Hid (Below w.heap.size w w3) := hid (HB2.out.trans (hb.mono HB2.out.size))
 have HD3 : Hid (ChS w3 da dl dc D) := hid (HDD.out.below HB3.out)
 clear hn hb HB2 HF2
 go_wp2_with fail
 refine (HMK.out w3 (HC.out.below HB3.out)).mono ?_
 rintro e w4 ⟨ea, en, ec, rfl, ho4, hb4⟩
 have HO4 := hid ho4
 have HB4 : Hid (Below w3.heap.size w3 w4) := hid hb4
 clear ho4 hb4 HC HMK HDD
 obtain ⟨E, hE⟩ : ∃ q, q = w4.heap.size := ⟨_, rfl⟩
 have HEG : Hid (w3.heap.size ≤ E) := hid (by rw [hE]; exact HB4.out.size)
 have HEE := hid hE
 clear hE
 go_wp2_with (first
  | (refine zAD rfl (.tmp 10) (.tmp 27) rfl E (by rw [HEE.out]; rfl) ea en ec Z rfl HZL.out none 0 0 z0 zAF (by rw [HEE.out]; exact hnew w4) ?_; rw [← HEE.out]; intro w5 h5 ho5; have H5 := hid h5; have HP5 : Hid (Below w4.heap.size w4 w5) := hid ((zAA w4 _).trans (ho5.below (by rw [HEE.out]; exact Nat.le_refl _))); clear h5 ho5)
  | (refine zAS rfl (.tmp 10) rfl E rfl ea en ec Z HZL.out H5.out ?_)
  | (refine zAD rfl (.tmp 11) (.tmp 28) rfl _ rfl ea en ec Z rfl HZL.out none 0 0 z0 zAF (hnew w5) ?_; intro w6 h6 ho6))
 obtain ⟨F, hF⟩ : ∃ q, q = w5.heap.size := ⟨_, rfl⟩
 rw [← hF] at h6 ho6 ⊢
 have H6 := hid h6
 have HB5 : Hid (Below w3.heap.size w3 w5) := hid (HB4.out.trans (HP5.out.mono HB4.out.size))
 have HFG : Hid (w3.heap.size ≤ F) := hid (by rw [hF]; exact HB5.out.size)
 have HEF : Hid (E < F) := hid (by rw [hF]; exact H5.out.lt)
 have HP6 : Hid (Below w5.heap.size w5 w6) := hid ((zAA w5 _).trans (ho6.below (by rw [hF]; exact Nat.le_refl _)))
 have HB6 : Hid (Below w3.heap.size w3 w6) := hid (HB5.out.trans (HP6.out.mono HB5.out.size))
 have HE6 := hid (H5.out.below HP6.out)
 have HO6 : Hid (OwnO w3.heap.size w6 ea en ec L) := hid ((HO4.out.keep HP5.out (Nat.le_refl _)).keep HP6.out (Nat.le_refl _))
 have HBW := hid HB3.out
 clear h6 ho6 hF HEE H5 HP5 HB5 HP6 HB4 HO4 HB3
 have HT3 : Hid (Tab w3) := hid (HT.out.keep HBW.out)
 have HES := hid (zLk (L := L) (z := Z) (tok := tok))
 go_loopw [12] (fun v wr => ∃ (i : Nat), v = .int .i64 i ∧ i ≤ dl ∧ i ≤ 40 ∧ ∃ (a1 : Option Addr) (n1 c1 : Nat) (L1 : List OP) (z1 : List Int), Hid (EB wr F a1 n1 c1 z1) ∧ Hid (OwnO w3.heap.size wr a1 n1 c1 L1) ∧ Hid (okE L1 z1) ∧ Hid (RowsOk z1) ∧ Hid (SameN L Z L1 z1 tok) ∧ Hid (EB wr E ea en ec Z) ∧ Hid (OwnO w3.heap.size wr ea en ec L) ∧ Hid (Below w3.heap.size w3 wr)) (fun v _ => dl - (intOf v).toNat)
 case atStart => exact ⟨0, rfl, Nat.zero_le _, Nat.zero_le _, ea, en, ec, L, Z, H6, HO6, HE, HRO, HES, HE6, HO6, HB6⟩
 case round =>
  clear H6 HO6 HE6 HB6 HES
  obtain ⟨i, rfl, hi, hi40, a1, n1, c1, L1, z1, HF1, HO1, HK1, HR1, HS1, HE1, HOE, HBr⟩ := hrel
  have hi0 : (0 : Int) ≤ (i : Int) := Int.natCast_nonneg _
  have HZ1 : Hid (z1.length = 10) := hid HK1.out.2.2.2.1
  have HN1 : Hid (n1 ≤ 16) := hid (by rw [← OpS.len HO1.out.vs]; exact HK1.out.2.2.1)
  by_cases hgo : i < dl ∧ i < 40
  ·have hi1 : (i : Int) < (dl : Int) := by omega
   have hi2 : (i : Int) < 40 := by omega
   have hidl : i < dl := hgo.1
   obtain ⟨b, off, rfl, _, _⟩ := HD3.out.at_ (by omega)
   have hc6 := fun u (hu : Below w3.heap.size w3 u) => ChS.at6 (HD3.out.below hu) hidl
   have hokx := HDK.out _ (zPM (by rw [HDL.out]; exact hidl))
   obtain ⟨x, hx⟩ : ∃ x, x = chA D i := ⟨_, rfl⟩
   rw [← hx] at hc6 hokx
   clear hx
   obtain ⟨k, g, h, p, gr, s⟩ := x
   unfold okC at hokx
   dsimp only at hc6 hokx
   have HC6 := hid hc6
   have HKX := hid hokx
   obtain ⟨S2, hS2⟩ : ∃ q, q = stq L1 z1 k g h (fitO (p, gr, s)) := ⟨_, rfl⟩
   have hok2 := zKc HK1.out k g h (zCp (p, gr, s))
   have hrw2 := zIM HR1.out k g h (L := L1) (fitO (p, gr, s))
   have hst := fun wx (hO : OwnO w3.heap.size wx a1 n1 c1 L1) (hB : w3.heap.size ≤ wx.heap.size) => zEG w3.heap.size a1 n1 c1 L1 z1 k g h (p, gr, s) wx hO hB HZ1.out (by have := HN1.out; omega) HKX.out.1 HKX.out.2.1 HKX.out.2.2.1 HKX.out.2.2.2
   dsimp only at hst
   rw [← hS2] at hok2 hrw2
   simp only [← hS2] at hst
   clear hS2
   obtain ⟨L2, z2⟩ := S2
   dsimp only at hok2 hrw2 hst
   have HK2 := hid hok2
   have HR2 := hid hrw2
   have HST := hid hst
   have HZ2 : Hid (z2.length = 10) := hid hok2.2.2.2.1
   have HKS : Hid (∀ u, Below wr.heap.size wr u → EB u F a1 n1 c1 z1 ∧ u.cell? ⟨b, off + i * 6, none⟩ = some (.int .u8 (k : Int)) ∧ u.cell? ⟨b, off + i * 6 + 1, none⟩ = some (.int .u8 (g : Int)) ∧ u.cell? ⟨b, off + i * 6 + 2, none⟩ = some (.int .u8 (h : Int)) ∧ u.cell? ⟨b, off + i * 6 + 3, none⟩ = some (.string (mk p)) ∧ u.cell? ⟨b, off + i * 6 + 4, none⟩ = some (.int .i64 gr) ∧ u.cell? ⟨b, off + i * 6 + 5, none⟩ = some (.int .i64 s)) := hid fun u hu => ⟨HF1.out.below hu, HC6.out u (HBr.out.trans (hu.mono HBr.out.size))⟩
   clear hc6 hokx hok2 hrw2 hst
   go_upto_region 9 with fail
   go_cut [13] (fun u wx => ∃ (X : Nat) (a2 : Option Addr) (n2 c2 : Nat), u = .pointer (some ⟨X, 0, none⟩) ∧ Hid (EB wx X a2 n2 c2 z2) ∧ Hid (OwnO w3.heap.size wx a2 n2 c2 L2) ∧ Hid (Below wr.heap.size wr wx) ∧ Hid (F < X))
   case first =>
    refine wp_region_noPanic ?_
    refine wp_region_held_drew (S := fun u => EB u F a1 n1 c1 z1 ∧ u.cell? ⟨b, off + i * 6, none⟩ = some (.int .u8 (k : Int)) ∧ u.cell? ⟨b, off + i * 6 + 1, none⟩ = some (.int .u8 (g : Int)) ∧ u.cell? ⟨b, off + i * 6 + 2, none⟩ = some (.int .u8 (h : Int)) ∧ u.cell? ⟨b, off + i * 6 + 3, none⟩ = some (.string (mk p)) ∧ u.cell? ⟨b, off + i * 6 + 4, none⟩ = some (.int .i64 gr) ∧ u.cell? ⟨b, off + i * 6 + 5, none⟩ = some (.int .i64 s)) (by kernel_rfl) (HKS.out _ (Below.refl _ _).drew) (fun hHeld => ?_)
    refine zAh (i := 0) (oi := { dst := some 39, op := Op.load 34 (Operand.tmp 11), type := 34, pos := "law.go:98", after := #[], guard := none }) (Operand.tmp 11) rfl (by kernel_rfl) (by kernel_rfl) (by kernel_rfl) a1 n1 c1 (z1) (fun _ _ _ h => h) (by rfl) rfl (F) rfl (HZ1.out) (fun w h => h.1) (by assumption) ?_
    try simp only [Act.put, aS, aZ, aC]
    refine zG 1 rfl ?_
    try simp only [Act.put, aS, aZ, aC]
    refine zG 2 rfl ?_
    try simp only [Act.put, aS, aZ, aC]
    refine zG 3 rfl ?_
    try simp only [Act.put, aS, aZ, aC]
    refine zG 4 rfl ?_
    try simp only [Act.put, aS, aZ, aC]
    refine zR [5, 6] ?_
    refine hDo rfl (fun K hK => ?_) ?_
    ·go_simp
     (go_at_call 14; (with_reducible refine (HST.out _ (HO1.out.keep (Below.refl wr.heap.size wr).drew (Nat.le_refl _)) (Nat.le_trans HBr.out.size (Below.refl wr.heap.size wr).drew.size)).mono ?_); rintro e v1 ⟨a1, n1, c1, rfl, ho1, hb1⟩)
     have HX1 : Hid (Below wr.heap.size wr v1) := hid ((Below.refl wr.heap.size wr).drew.trans (hb1.mono (Below.refl wr.heap.size wr).drew.size))
     have HO21 := hid ho1
     clear ho1 hb1
     refine hK.out _ _ (HKS.out _ HX1.out) (fun hHeld => ?_)
     clear hK K
     try simp only [Act.put, aS, aZ, aC]
     refine zR [6] ?_
     refine hDo rfl (fun K hK => ?_) ?_
     ·refine zGd rfl rfl ?_
      intro v2 X2 hX2 hx2 hb2
      have HX2 : Hid (Below wr.heap.size wr v2) := hid (HX1.out.trans (hb2.mono HX1.out.size))
      have HO22 := hid (HO21.out.keep hb2 (Nat.le_refl _))
      have HF2 := hid hx2
      have HG2 : Hid (wr.heap.size ≤ X2) := hid (by rw [hX2]; exact HX1.out.size)
      clear hX2 hx2 hb2
      refine hK.out _ _ (HKS.out _ HX2.out) (fun hHeld => ?_)
      clear hK K
      try simp only [Act.put, aS, aZ, aC]
      refine zR [7] ?_
      refine hDo rfl (fun K hK => ?_) ?_
      ·refine zAT rfl (.tmp 13) (.tmp 44) rfl X2 rfl a1 n1 c1 z2 rfl HZ2.out none 0 0 z0 zAF HF2.out ?_
       intro v3 h3 ho3
       have H3 := hid h3
       have HP3 := hid ho3
       clear h3 ho3
       refine hK.out _ _ (HKS.out _ (HX2.out.trans (HP3.out.below HG2.out))) (fun hHeld => ?_)
       clear hK K
       try simp only [Act.put]
       refine wpAnyH_done (by kernel_rfl) ?_ _
       refine NoPanic.normal ?_
       go_wp2
       go_meet
       exact ⟨X2, a1, n1, c1, rfl, H3, hid (HO22.out.kt (P := tE) (by unfold tE; decide) (Kt.only HF2.out rfl HP3.out)), hid (HX2.out.trans (HP3.out.below HG2.out)), hid (Nat.lt_of_lt_of_le HF1.out.lt HG2.out)⟩
      exact AllReadyH.nil
     exact AllReadyH.nil
    refine hDo rfl (fun K hK => ?_) ?_
    ·refine zGd rfl rfl ?_
     intro v4 X4 hX4 hx4 hb4
     have HX4 : Hid (Below wr.heap.size wr v4) := hid ((Below.refl wr.heap.size wr).drew.trans (hb4.mono (Below.refl wr.heap.size wr).drew.size))
     have HF4 := hid hx4
     have HG4 : Hid (wr.heap.size ≤ X4) := hid (by rw [hX4]; exact (Below.refl wr.heap.size wr).drew.size)
     clear hX4 hx4 hb4
     refine hK.out _ _ (HKS.out _ HX4.out) (fun hHeld => ?_)
     clear hK K
     try simp only [Act.put, aS, aZ, aC]
     refine zR [5] ?_
     refine hDo rfl (fun K hK => ?_) ?_
     ·go_simp
      (go_at_call 14; (with_reducible refine (HST.out _ (HO1.out.keep HX4.out (Nat.le_refl _)) (Nat.le_trans HBr.out.size HX4.out.size)).mono ?_); rintro e v5 ⟨a5, n5, c5, rfl, ho5, hb5⟩)
      have HX5 : Hid (Below wr.heap.size wr v5) := hid (HX4.out.trans (hb5.mono HX4.out.size))
      have HF5 := hid (HF4.out.below hb5)
      have HO25 := hid ho5
      clear ho5 hb5
      refine hK.out _ _ (HKS.out _ HX5.out) (fun hHeld => ?_)
      clear hK K
      try simp only [Act.put, aS, aZ, aC]
      refine zR [7] ?_
      refine hDo rfl (fun K hK => ?_) ?_
      ·refine zAT rfl (.tmp 13) (.tmp 44) rfl X4 rfl a5 n5 c5 z2 rfl HZ2.out none 0 0 z0 zAF HF5.out ?_
       intro v6 h6 ho6
       have H6 := hid h6
       have HP6 := hid ho6
       clear h6 ho6
       refine hK.out _ _ (HKS.out _ (HX5.out.trans (HP6.out.below HG4.out))) (fun hHeld => ?_)
       clear hK K
       try simp only [Act.put]
       refine wpAnyH_done (by kernel_rfl) ?_ _
       refine NoPanic.normal ?_
       go_wp2
       go_meet
       exact ⟨X4, a5, n5, c5, rfl, H6, hid (HO25.out.kt (P := tE) (by unfold tE; decide) (Kt.only HF5.out rfl HP6.out)), hid (HX5.out.trans (HP6.out.below HG4.out)), hid (Nat.lt_of_lt_of_le HF1.out.lt HG4.out)⟩
      exact AllReadyH.nil
     exact AllReadyH.nil
    exact AllReadyH.nil
   case rest =>
    obtain ⟨X, a2, n2, c2, rfl, HX2, HO2, HBc, HFX⟩ := hcut
    obtain ⟨wq, hwq⟩ : ∃ q, q = wc := ⟨_, rfl⟩
    rw [← hwq] at HX2 HO2 HBc ⊢
    clear hwq HKS HST HC6 HKX
    have HBq : Hid (Below w3.heap.size w3 wq) := hid (HBr.out.trans (HBc.out.mono HBr.out.size))
    have HFq := hid (HF1.out.below HBc.out)
    have HEq := hid (HE1.out.below HBc.out)
    have HOq : Hid (OwnO w3.heap.size wq a1 n1 c1 L1) := hid (HO1.out.keep HBc.out (Nat.le_refl _))
    have HOEq : Hid (OwnO w3.heap.size wq ea en ec L) := hid (HOE.out.keep HBc.out (Nat.le_refl _))
    have HN2 : Hid (n2 ≤ 16) := hid (by rw [← OpS.len HO2.out.vs]; exact HK2.out.2.2.1)
    have HTq : Hid (Tab wq) := hid (HT3.out.keep HBq.out)
    have HP1 : Hid (∀ o ∈ L1, o.1.length ≤ 1000000) := hid fun o ho => by have := (HK1.out.2.1 o ho).2; omega
    have HP2 : Hid (∀ o ∈ L2, o.1.length ≤ 1000000) := hid fun o ho => by have := (HK2.out.2.1 o ho).2; omega
    have HNq : Hid (Vs 1 wq na nn nc (nm.map encStr)) := hid (HN3.out.below HBq.out)
    clear HF1 HO1 HE1 HOE HBr HBc
    go_wp2_with fail
    go_loopw [14, 15] (fun u v wr2 => ∃ (q : Nat), u = .bool (allS L1 z1 L2 z2 (nm.take q)) ∧ v = .int .i64 q ∧ q ≤ nn ∧ Hid (Below wq.heap.size wq wr2)) (fun _ v _ => nn - (intOf v).toNat)
    case atStart => exact ⟨0, rfl, rfl, Nat.zero_le _, hid (Below.refl _ _)⟩
    case round =>
     rename World => wp
     obtain ⟨q, rfl, rfl, hq, HBp⟩ := hrel
     have hq0 : (0 : Int) ≤ (q : Int) := Int.natCast_nonneg _
     by_cases hqn : q < nn
     ·have hqI : (q : Int) < (nn : Int) := by omega
      have HQN := hid hqn
      have hnl := HNL.out
      have HSN := hid (zLl (L := L1) (z := z1) (L' := L2) (z' := z2) (M := nm) (k := q) (by rw [HNN.out]; exact hqn))
      obtain ⟨nb, nof, rfl, _, _⟩ := HNq.out.at_ (by omega)
      have hkp : ∀ u, Below wq.heap.size wq u → EB u F a1 n1 c1 z1 ∧ EB u X a2 n2 c2 z2 ∧ u.cell? ⟨nb, nof + q, none⟩ = some (.string (mk (at_ nm q))) := fun u hu => ⟨HFq.out.below hu, HX2.out.below hu, zLn (HNq.out.below hu) HNN.out hqn⟩
      have HKP := hid hkp
      clear hkp
      obtain ⟨xn, hxn⟩ : ∃ y, y = at_ nm q := ⟨_, rfl⟩
      rw [← hxn] at HKP HSN
      have HSA := hid (fun (wz : World) (hz : Below wq.heap.size wq wz) => zNA a1 a2 n1 n2 c1 c2 L1 L2 z1 z2 xn wz (HTq.out.keep hz) (zBR HOq.out.vs hz) (zBR HO2.out.vs hz) HZ1.out HZ2.out (by have := HN1.out; omega) (by have := HN2.out; omega) HP1.out HP2.out)
      obtain ⟨v, hv⟩ : ∃ v, v = decide (entL L1 z1 xn = entL L2 z2 xn) := ⟨_, rfl⟩
      rw [← hv] at HSA HSN
      obtain ⟨sm, hsm⟩ : ∃ v, v = allS L1 z1 L2 z2 (nm.take q) := ⟨_, rfl⟩
      rw [← hsm] at HSN ⊢
      clear hxn hv hsm
      cases sm with
      | true =>
       go_upto_region 14 with fail
       refine wp_region_noPanic ?_
       refine wp_region_held_drew (S := fun u => EB u F a1 n1 c1 z1 ∧ EB u X a2 n2 c2 z2 ∧ u.cell? ⟨nb, nof + q, none⟩ = some (.string (mk xn))) (by kernel_rfl) (HKP.out _ HBp.out.drew) (fun hHeld => ?_)
       refine zG 0 rfl ?_
       try simp only [Act.put, aS, aZ, aC]
       refine zG 1 rfl ?_
       try simp only [Act.put, aS, aZ, aC]
       refine zAh (i := 2) (oi := { dst := some 53, op := Op.load 34 (Operand.tmp 11), type := 34, pos := "law.go:101", after := #[{ on := 1, ground := Ground.guard }], guard := some (1, true) }) (Operand.tmp 11) rfl (by kernel_rfl) (by kernel_rfl) (by kernel_rfl) a1 n1 c1 (z1) (fun _ _ _ h => h) (by rfl) rfl (F) rfl (HZ1.out) (fun w h => h.1) (by assumption) ?_
       try simp only [Act.put, aS, aZ, aC]
       refine zAh (i := 3) (oi := { dst := some 54, op := Op.load 34 (Operand.tmp 13), type := 34, pos := "law.go:101", after := #[{ on := 1, ground := Ground.guard }], guard := some (1, true) }) (Operand.tmp 13) rfl (by kernel_rfl) (by kernel_rfl) (by kernel_rfl) a2 n2 c2 (z2) (fun _ _ _ h => h) (by rfl) rfl (X) rfl (HZ2.out) (fun w h => h.2.1) (by assumption) ?_
       try simp only [Act.put, aS, aZ, aC]
       refine zG 4 rfl ?_
       try simp only [Act.put, aS, aZ, aC]
       refine zG 5 rfl ?_
       try simp only [Act.put, aS, aZ, aC]
       refine zG 6 rfl ?_
       try simp only [Act.put, aS, aZ, aC]
       refine zG 7 rfl ?_
       try simp only [Act.put, aS, aZ, aC]
       refine zR [8] ?_
       refine hDo rfl (fun K hK => ?_) ?_
       ·go_simp
        (go_at_call 15; (with_reducible refine (HSA.out _ HBp.out.drew).mono ?_); rintro e ws ⟨rfl, hbs⟩)
        have HBs : Hid (Below wq.heap.size wq ws) := hid (HBp.out.drew.trans (hbs.mono HBp.out.drew.size))
        clear hbs
        refine hK.out _ _ (HKP.out _ HBs.out) (fun hHeld => ?_)
        clear hK K
        try simp only [Act.put, aS, aZ, aC]
        refine zG 9 rfl ?_
        try simp only [Act.put, aS, aZ, aC]
        refine zG 10 rfl ?_
        try simp only [Act.put, aS, aZ, aC]
        refine wpAnyH_done (by kernel_rfl) ?_ _
        refine NoPanic.normal ?_
        go_wp2
        go_roundw
        case rel => exact ⟨q + 1, by rw [HSN.out, Bool.true_and], by go_num, HQN.out, HBs⟩
        case measure => simp [intOf]; have := HQN.out; omega
       ·exact AllReadyH.nil
      | false =>
       go_upto_region 14 with fail
       refine wp_region_noPanic ?_
       refine wp_region_held_drew (S := fun _ => True) (by kernel_rfl) (trivial) (fun hHeld => ?_)
       refine zG 0 rfl ?_
       try simp only [Act.put, aS, aZ, aC]
       refine zG 1 rfl ?_
       try simp only [Act.put, aS, aZ, aC]
       refine hTn 2 rfl (by kernel_rfl) (fun _ _ _ h => h) (by rfl) (by assumption) ?_
       try simp only [Act.put, aS, aZ, aC]
       refine hTn 3 rfl (by kernel_rfl) (fun _ _ _ h => h) (by rfl) (by assumption) ?_
       try simp only [Act.put, aS, aZ, aC]
       refine hTn 4 rfl (by kernel_rfl) (fun _ _ _ h => h) (by rfl) (by assumption) ?_
       try simp only [Act.put, aS, aZ, aC]
       refine hTn 5 rfl (by kernel_rfl) (fun _ _ _ h => h) (by rfl) (by assumption) ?_
       try simp only [Act.put, aS, aZ, aC]
       refine hTn 6 rfl (by kernel_rfl) (fun _ _ _ h => h) (by rfl) (by assumption) ?_
       try simp only [Act.put, aS, aZ, aC]
       refine hTn 7 rfl (by kernel_rfl) (fun _ _ _ h => h) (by rfl) (by assumption) ?_
       try simp only [Act.put, aS, aZ, aC]
       refine hTn 8 rfl (by kernel_rfl) (fun _ _ _ h => h) (by rfl) (by assumption) ?_
       try simp only [Act.put, aS, aZ, aC]
       refine zG 9 rfl ?_
       try simp only [Act.put, aS, aZ, aC]
       refine zG 10 rfl ?_
       try simp only [Act.put, aS, aZ, aC]
       refine wpAnyH_done (by kernel_rfl) ?_ _
       refine NoPanic.normal ?_
       go_wp2
       go_roundw
       case rel => exact ⟨q + 1, by rw [HSN.out, Bool.false_and], by go_num, HQN.out, hid HBp.out.drew⟩
       case measure => simp [intOf]; have := HQN.out; omega
     ·have hqI : ¬ (q : Int) < (nn : Int) := by omega
      obtain rfl : q = nn := by omega
      have hall : nm.take q = nm := by rw [← HNN.out, List.take_length]
      rw [hall]
      cases hsm : allS L1 z1 L2 z2 nm with
      | true =>
       have HSM : Hid (SameN L Z L2 z2 tok) := hid (zJW HS1.out (zJX (by rw [← HNM.out]; exact hsm)))
       clear hsm hall
       go_wp2_with (first
        | (refine zAS rfl (.tmp 13) rfl X rfl a2 n2 c2 z2 HZ2.out (HX2.out.below HBp.out) ?_)
        | (refine zAD rfl (.tmp 11) (.tmp 62) rfl F rfl a2 n2 c2 z2 rfl HZ2.out a1 n1 c1 z1 HZ1.out (HFq.out.below HBp.out) ?_; intro w8 h8 ho8; have H8 := hid h8; have HY8 := hid ho8; clear h8 ho8))
       go_roundw
       case rel => exact ⟨i + 1, by go_num, by omega, by omega, a2, n2, c2, L2, z2, H8, hid ((HO2.out.keep HBp.out (Nat.le_refl _)).kt (P := tE) (by unfold tE; decide) (Kt.only (HFq.out.below HBp.out) rfl HY8.out)), HK2, HR2, HSM, hid ((HEq.out.below HBp.out).only HY8.out (by have := HEF.out; omega)), hid ((HOEq.out.keep HBp.out (Nat.le_refl _)).kt (P := tE) (by unfold tE; decide) (Kt.only (HFq.out.below HBp.out) rfl HY8.out)), hid ((HBq.out.trans (HBp.out.mono HBq.out.size)).trans (HY8.out.below HFG.out))⟩
       case measure => simp [intOf]; omega
      | false =>
       clear hsm hall
       go_wp2_with fail
       go_roundw
       case rel => exact ⟨i + 1, by go_num, by omega, by omega, a1, n1, c1, L1, z1, hid (HFq.out.below HBp.out), hid (HOq.out.keep HBp.out (Nat.le_refl _)), HK1, HR1, HS1, hid (HEq.out.below HBp.out), hid (HOEq.out.keep HBp.out (Nat.le_refl _)), hid (HBq.out.trans (HBp.out.mono HBq.out.size))⟩
       case measure => simp [intOf]; omega
  ·have HFr : Hid (Ts wr fa m fc tok) := hid (HF3.out.below HBr.out)
   have HTr : Hid (Tab wr) := hid (HT3.out.keep HBr.out)
   have hn1 := HN1.out
   have hml := HTL.out
   by_cases hidl : i < dl
   ·obtain rfl : i = 40 := by omega
    have hi1 : ((40 : Nat) : Int) < (dl : Int) := by omega
    go_wp2_with (refine zAS rfl (.tmp 10) rfl E rfl ea en ec Z HZL.out HE1.out ?_)
    refine (zQn ea en ec L Z fa m fc tok wr HTr.out HOE.out.vs HFr.out HZL.out HE.out.2.2.2.2 HE.out.1 (by rw [← OpS.len HOE.out.vs]; have := HE.out.2.2.1; omega) (fun o ho => by have := (HE.out.2.1 o ho).2; omega) (by omega)).mono ?_
    rintro e x1 ⟨k1, t1, ka, kc, rfl, hnd1, hcn1, hbx1⟩
    have HND1 := hid hnd1
    have HCN1 := hid hcn1
    have HX1 := hid hbx1
    clear hnd1 hcn1 hbx1
    go_wp2_with (refine zAS rfl (.tmp 11) rfl F rfl a1 n1 c1 z1 HZ1.out (HF1.out.below HX1.out) ?_)
    refine (zQn a1 n1 c1 L1 z1 fa m fc tok x1 (HTr.out.keep HX1.out) (zBR HO1.out.vs HX1.out) (HFr.out.below HX1.out) HZ1.out HK1.out.2.2.2.2 HK1.out.1 (by omega) (fun o ho => by have := (HK1.out.2.1 o ho).2; omega) (by omega)).mono ?_
    rintro e x2 ⟨k2, t2, kb, kd, rfl, hnd2, hcn2, hbx2⟩
    obtain ⟨rfl, rfl⟩ := zQz (zR4 (zEP HE.out.1) (zEP HK1.out.1) HS1.out HCN1.out) hcn2
    have HND2 := hid hnd2
    have HND3 := hid (HND1.out.below hbx2)
    have HX2 : Hid (Below wr.heap.size wr x2) := hid (HX1.out.trans (hbx2.mono HX1.out.size))
    clear hnd2 hcn2 hbx2 HCN1 HND1
    have hkk : (((k1 : Nat) : Int) == ((k1 : Nat) : Int)) = true := by simp
    go_wp2_with fail
    refine (zRk ka t1.length kc t1 kb kd x2 HND3.out HND2.out).mono ?_
    rintro e x3 ⟨rfl, hbx3⟩
    go_wp2
    go_ret
    exact ⟨rfl, HBW.out.trans ((HBr.out.trans ((HX2.out.trans (hbx3.mono HX2.out.size)).mono HBr.out.size)).mono HBW.out.size)⟩
   ·have hi1 : ¬ (i : Int) < (dl : Int) := by omega
    go_wp2_with (refine zAS rfl (.tmp 10) rfl E rfl ea en ec Z HZL.out HE1.out ?_)
    refine (zQn ea en ec L Z fa m fc tok wr HTr.out HOE.out.vs HFr.out HZL.out HE.out.2.2.2.2 HE.out.1 (by rw [← OpS.len HOE.out.vs]; have := HE.out.2.2.1; omega) (fun o ho => by have := (HE.out.2.1 o ho).2; omega) (by omega)).mono ?_
    rintro e x1 ⟨k1, t1, ka, kc, rfl, hnd1, hcn1, hbx1⟩
    have HND1 := hid hnd1
    have HCN1 := hid hcn1
    have HX1 := hid hbx1
    clear hnd1 hcn1 hbx1
    go_wp2_with (refine zAS rfl (.tmp 11) rfl F rfl a1 n1 c1 z1 HZ1.out (HF1.out.below HX1.out) ?_)
    refine (zQn a1 n1 c1 L1 z1 fa m fc tok x1 (HTr.out.keep HX1.out) (zBR HO1.out.vs HX1.out) (HFr.out.below HX1.out) HZ1.out HK1.out.2.2.2.2 HK1.out.1 (by omega) (fun o ho => by have := (HK1.out.2.1 o ho).2; omega) (by omega)).mono ?_
    rintro e x2 ⟨k2, t2, kb, kd, rfl, hnd2, hcn2, hbx2⟩
    obtain ⟨rfl, rfl⟩ := zQz (zR4 (zEP HE.out.1) (zEP HK1.out.1) HS1.out HCN1.out) hcn2
    have HND2 := hid hnd2
    have HND3 := hid (HND1.out.below hbx2)
    have HX2 : Hid (Below wr.heap.size wr x2) := hid (HX1.out.trans (hbx2.mono HX1.out.size))
    clear hnd2 hcn2 hbx2 HCN1 HND1
    have hkk : (((k1 : Nat) : Int) == ((k1 : Nat) : Int)) = true := by simp
    go_wp2_with fail
    refine (zRk ka t1.length kc t1 kb kd x2 HND3.out HND2.out).mono ?_
    rintro e x3 ⟨rfl, hbx3⟩
    go_wp2
    go_ret
    exact ⟨rfl, HBW.out.trans ((HBr.out.trans ((HX2.out.trans (hbx3.mono HX2.out.size)).mono HBr.out.size)).mono HBW.out.size)⟩
end Go.Proofs.YtcjbhdgjcpnklaaGreatDoor
