import Derived.Test.YtcjbhdgjcpnklaaGreatDoorV45
namespace Go.Proofs.YtcjbhdgjcpnklaaGreatDoor
open Go.RowKit
set_option maxRecDepth 100000 in
set_option maxHeartbeats 32000000 in
theorem zEa (ca : Option Addr) (cl cc : Nat) (C : List CH) (la : Option Addr) (ln lc : Nat) (l : List TK) (w : World) (ht : Tab w) (hC : ChS w ca cl cc C) (hok : ∀ x ∈ C, okC x) (hl : Ts w la ln lc l) :
  Calls Tryz.prog 4 #[.slice ca cl cc, .slice la ln lc] w fun e w' => e = .returned (.bool true) ∧ Below w.heap.size w w' := by
 have HT := hid ht
 have HL := hid hl
 have HC := hid hC
 obtain ⟨L, Z, hRO, hE, hmk⟩ := zFm ca cl cc C hok
 have HE := hid hE
 have HSR : Hid (Srt L) := hid hE.1
 have HSH : Hid (∀ o ∈ L, ∃ s, ofS o.1 = some s) := hid (zN1 hE)
 have HZL : Hid (Z.length = 10) := hid hE.2.2.2.1
 have HZR : Hid (∀ i, i < 10 → I64 (bt Z i)) := hid hE.2.2.2.2
 have HRO := hid hRO
 have HMK := hid hmk
 obtain ⟨tok, htok⟩ : ∃ q, q = shortV l := ⟨_, rfl⟩
 obtain ⟨m, hm⟩ : ∃ q, q = tok.length := ⟨_, rfl⟩
 have HTM : Hid (tok.length = m) := hid hm.symm
 have HTL : Hid (m ≤ 14) := hid (by rw [hm, htok]; exact zDK l)
 have HTK := hid htok
 clear ht hl hC hok hE hmk hRO htok hm
 go_enter Tryz.func4, Tryz.ntmps4
 go_wp2_with fail
 refine (zCT w HT.out).mono ?_
 rintro e w1 ⟨rfl, hb1⟩
 have HB1 := hid hb1
 clear hb1
 go_wp2_with fail
 refine (HMK.out w1 (HC.out.below HB1.out)).mono ?_
 rintro e w2 ⟨ea, en, ec, rfl, ho2, hb2⟩
 have HO2 : Hid (OpS w2 ea en ec L) := hid ho2.vs
 have HB2 : Hid (Below w.heap.size w w2) := hid (HB1.out.trans (hb2.mono HB1.out.size))
 obtain ⟨E, hE⟩ : ∃ q, q = w2.heap.size := ⟨_, rfl⟩
 have HEE := hid hE
 have hnew : EB (w2.alloc (.cells #[.slice none 0 0, .int .i64 0, .int .i64 0, .int .i64 0, .int .i64 0, .int .i64 0, .int .i64 0, .int .i64 0, .int .i64 0, .int .i64 0, .int .i64 0] 34)) E none 0 0 z0 := by rw [HEE.out]; exact EB.new w2 none 0 0 z0
 have HNEW := hid hnew
 clear ho2 hb2 hE hnew HB1
 go_wp2_with (refine zAD rfl (.tmp 6) (.tmp 12) rfl E (by rw [HEE.out]; rfl) ea en ec Z rfl HE.out.2.2.2.1 none 0 0 z0 zAF HNEW.out ?_; rw [← HEE.out]; intro w3 h3 ho3; have H3 := hid h3; have HB3 : Hid (Below w2.heap.size w2 w3) := hid ((zAA w2 _).trans (ho3.below (by rw [HEE.out]; exact Nat.le_refl _))); clear h3 ho3)
 have HB3W : Hid (Below w.heap.size w w3) := hid (HB2.out.trans (HB3.out.mono HB2.out.size))
 have HO3 : Hid (OpS w3 ea en ec L) := hid (HO2.out.below HB3.out)
 have HL3 : Hid (Ts w3 la ln lc l) := hid (HL.out.below HB3W.out)
 have HEN : Hid (en ≤ 16) := hid (by rw [← OpS.len HO3.out]; exact HE.out.2.2.1)
 have HNM : Hid (∀ o ∈ L, o.1.length ≤ 1000000) := hid fun o ho => by have := (HE.out.2.1 o ho).2; omega
 clear HNEW HEE HB2 HO2 HB3
 refine (zFv la ln lc l w3 HL3.out).mono ?_
 rw [← HTK.out, HTM.out]
 rintro e u1 ⟨fa, fc, rfl, hf, hb⟩
 have HF : Hid (Ts u1 fa m fc tok) := hid hf.ts
 have HW1 : Hid (Below w.heap.size w u1) := hid (HB3W.out.trans (hb.mono HB3W.out.size))
 have HE1 := hid (H3.out.below hb)
 have HO1 : Hid (OpS u1 ea en ec L) := hid (HO3.out.below hb)
 clear hf hb HL3 HO3 H3 HB3W
 go_wp2_with (refine zAS rfl (.tmp 6) rfl E rfl ea en ec Z HZL.out HE1.out ?_)
 refine (zAY Z HZL.out HZR.out ea en ec L fa m fc tok u1 (HT.out.keep HW1.out) HO1.out HSR.out HEN.out HSH.out HNM.out HF.out (by have := HTL.out; omega)).mono ?_
 rintro e u2 ⟨n, rfl, hlon, hb⟩
 have HLON := hid hlon
 have HWZ : Hid (Below w.heap.size w u2) := hid (HW1.out.trans (hb.mono HW1.out.size))
 have HEZ := hid (HE1.out.below hb)
 have HOZ : Hid (OpS u2 ea en ec L) := hid (HO1.out.below hb)
 have HFZ : Hid (Ts u2 fa m fc tok) := hid (HF.out.below hb)
 have HNM2 : Hid (n ≤ m) := hid (by rw [← HTM.out]; exact hlon.1)
 clear hlon hb HW1 HE1 HO1 HF
 have hn0 : (0 : Int) ≤ (n : Int) := Int.natCast_nonneg _
 have hnn : ¬ (n : Int) < 0 := by omega
 have hgt : ¬ m < n := by have := HNM2.out; omega
 have hgd : decide (m < n) = false := by simp; omega
 by_cases hm0 : 0 < m
 ·have hmd : decide (0 < m) = true := by simp; exact hm0
  have hmI : (0 : Int) < (m : Int) := by omega
  by_cases hn1 : n = 0
  ·have hnb : ((n : Int) == 0) = true := by simp; exact hn1
   have HN0 := hid hn1
   clear hn1
   have hsl : ∀ w0 : World, (Instr.slice 23 (.slice fa m fc) none (some (.int .i64 1)) none).run Tryz.prog w0 = .ok (.slice fa 1 fc) w0 := (zA3 (k := 1) HFZ.out (show 1 ≤ m by omega)).1
   go_upto_region 5 with fail
   refine wp_region_noPanic ?_
   refine wp_region_held_drew (S := fun w' => EB w' E ea en ec Z) (by kernel_rfl) (HEZ.out.below (Below.refl _ _).drew) (fun hHeld => ?_)
   refine zG 0 rfl ?_
   try simp only [Act.put, aS, aZ, aC]
   refine zG 1 rfl ?_
   try simp only [Act.put, aS, aZ, aC]
   refine zG 2 rfl ?_
   try simp only [Act.put, aS, aZ, aC]
   refine zG 3 rfl ?_
   try simp only [Act.put, aS, aZ, aC]
   refine zG 4 rfl ?_
   try simp only [Act.put, aS, aZ, aC]
   refine zG 5 rfl ?_
   try simp only [Act.put, aS, aZ, aC]
   refine zG 6 rfl ?_
   try simp only [Act.put, aS, aZ, aC]
   refine zG 7 rfl ?_
   try simp only [Act.put, aS, aZ, aC]
   refine zG 8 rfl ?_
   try simp only [Act.put, aS, aZ, aC]
   refine zG 9 rfl ?_
   try simp only [Act.put, aS, aZ, aC]
   refine zG 10 rfl ?_
   try simp only [Act.put, aS, aZ, aC]
   refine zG 11 rfl ?_
   try simp only [Act.put, aS, aZ, aC]
   refine zG 12 rfl ?_
   try simp only [Act.put, aS, aZ, aC]
   refine zG 13 rfl ?_
   try simp only [Act.put, aS, aZ, aC]
   refine zG 14 rfl ?_
   try simp only [Act.put, aS, aZ, aC]
   refine zG 15 rfl ?_
   try simp only [Act.put, aS, aZ, aC]
   refine zG 16 rfl ?_
   try simp only [Act.put, aS, aZ, aC]
   refine zG 17 rfl ?_
   try simp only [Act.put, aS, aZ, aC]
   refine zG 18 rfl ?_
   try simp only [Act.put, aS, aZ, aC]
   refine zG 19 rfl ?_
   try simp only [Act.put, aS, aZ, aC]
   refine zG 20 rfl ?_
   try simp only [Act.put, aS, aZ, aC]
   refine zAh (i := 21) (oi := { dst := some 39, op := Op.load 34 (Operand.tmp 6), type := 34, pos := "law.go:47", after := #[{ on := 20, ground := Ground.guard }], guard := some (20, true) }) (Operand.tmp 6) rfl (by kernel_rfl) (by kernel_rfl) (by kernel_rfl) ea en ec (Z) (fun _ _ _ h => h) (by rfl) rfl (E) rfl (HZL.out) (fun w h => h) (by assumption) ?_
   try simp only [Act.put, aS, aZ, aC]
   refine zG 22 rfl ?_
   try simp only [Act.put, aS, aZ, aC]
   refine zG 23 rfl ?_
   try simp only [Act.put, aS, aZ, aC]
   refine zR [24] ?_
   refine hDo rfl (fun K hK => ?_) ?_
   ·go_simp
    (go_at_call 20; (with_reducible refine (zAY Z HZL.out HZR.out ea en ec L fa 1 fc (tok.take 1) _ (HT.out.keep (HWZ.out.trans ((Below.refl u2.heap.size u2).drew.mono HWZ.out.size))) (HOZ.out.below (Below.refl u2.heap.size u2).drew) HSR.out HEN.out HSH.out HNM.out ((zA3 (k := 1) HFZ.out (show 1 ≤ m by omega)).2 _ (HFZ.out.below (Below.refl u2.heap.size u2).drew)) (by decide)).mono ?_); rintro e u3 ⟨n3, rfl, hc3, hb3⟩)
    have HV3 : Hid (Below u2.heap.size u2 u3) := hid ((Below.refl u2.heap.size u2).drew.trans (hb3.mono (Nat.le_refl _)))
    have hn30 : n3 = 0 := by (have := zBF hc3 (zC3 (i := 1) (by rw [HTM.out]; exact hm0) HLON.out); have := HN0.out; omega)
    have hn3b : ((n3 : Int) != 0) = false := by simp; exact hn30
    clear hn30 hc3 hb3
    refine hK.out _ _ (HEZ.out.below HV3.out) (fun hHeld => ?_)
    clear hK K
    try simp only [Act.put, aS, aZ, aC]
    refine zG 25 rfl ?_
    try simp only [Act.put, aS, aZ, aC]
    refine zG 26 rfl ?_
    try simp only [Act.put, aS, aZ, aC]
    refine zG 27 rfl ?_
    try simp only [Act.put, aS, aZ, aC]
    refine wpAnyH_done (by kernel_rfl) ?_ _
    refine NoPanic.normal ?_
    replace HWZ : Hid (Below w.heap.size w u3) := hid (HWZ.out.trans (HV3.out.mono HWZ.out.size))
    replace HEZ := hid (HEZ.out.below HV3.out)
    replace HOZ : Hid (OpS u3 ea en ec L) := hid (HOZ.out.below HV3.out)
    replace HFZ : Hid (Ts u3 fa m fc tok) := hid (HFZ.out.below HV3.out)
    clear HV3 hsl
    go_wp2
    go_loopw [4, 9] (fun u v wr => ∃ i : Nat, u = .bool false ∧ v = .int .i64 (i : Int) ∧ i ≤ m + 1 ∧ Hid (Below u3.heap.size u3 wr)) (fun _ v _ => m + 1 - (intOf v).toNat)
    case atStart => exact ⟨0, rfl, rfl, by omega, hid (Below.refl _ _)⟩
    case round =>
     rename World => wr
     obtain ⟨i, rfl, rfl, hi, HB⟩ := hrel
     have hi0 : (0 : Int) ≤ (i : Int) := Int.natCast_nonneg _
     have HBW : Hid (Below w.heap.size w wr) := hid (HWZ.out.trans (HB.out.mono HWZ.out.size))
     have HER := hid (HEZ.out.below HB.out)
     by_cases hle : i ≤ m
     ·have hleI : (i : Int) ≤ (m : Int) := by omega
      have hled : decide (i ≤ m) = true := by simp; exact hle
      have hi64 : IntKind.i64.wrap ((i : Int) + 1) = (i : Int) + 1 := IntWalk.i64_in _ (by have := HTL.out; omega)
      have hsl := (zA3 HFZ.out hle).1
      obtain ⟨q, hq⟩ : ∃ q, q = min i n := ⟨_, rfl⟩
      have hmin : min (i : Int) (n : Int) = (q : Int) := by omega
      have HQ := hid hq
      clear hq
      go_upto_region 10 with fail
      refine wp_region_noPanic ?_
      refine wp_region_held_drew (S := fun w' => EB w' E ea en ec Z) (by kernel_rfl) (HER.out.below (Below.refl _ _).drew) (fun hHeld => ?_)
      refine zAh (i := 0) (oi := { dst := some 52, op := Op.load 34 (Operand.tmp 6), type := 34, pos := "law.go:51", after := #[], guard := none }) (Operand.tmp 6) rfl (by kernel_rfl) (by kernel_rfl) (by kernel_rfl) ea en ec (Z) (fun _ _ _ h => h) (by rfl) rfl (E) rfl (HZL.out) (fun w h => h) (by assumption) ?_
      try simp only [Act.put, aS, aZ, aC]
      refine zG 1 rfl ?_
      try simp only [Act.put, aS, aZ, aC]
      refine zG 2 rfl ?_
      try simp only [Act.put, aS, aZ, aC]
      refine zG 3 rfl ?_
      try simp only [Act.put, aS, aZ, aC]
      refine zG 5 rfl ?_
      try simp only [Act.put, aS, aZ, aC]
      refine zG 6 rfl ?_
      try simp only [Act.put, aS, aZ, aC]
      refine zG 7 rfl ?_
      try simp only [Act.put, aS, aZ, aC]
      refine zR [4] ?_
      refine hDo rfl (fun K hK => ?_) ?_
      ·go_simp
       (go_at_call 20; (with_reducible refine (zAY Z HZL.out HZR.out ea en ec L fa i fc (tok.take i) _ (HT.out.keep (HBW.out.trans ((Below.refl wr.heap.size wr).drew.mono HBW.out.size))) (HOZ.out.below (HB.out.trans ((Below.refl wr.heap.size wr).drew.mono HB.out.size))) HSR.out HEN.out HSH.out HNM.out ((zA3 HFZ.out hle).2 _ (HFZ.out.below (HB.out.trans ((Below.refl wr.heap.size wr).drew.mono HB.out.size)))) (by have := HTL.out; omega)).mono ?_); rintro e u5 ⟨n5, rfl, hc5, hb5⟩)
       have HV5 : Hid (Below wr.heap.size wr u5) := hid ((Below.refl wr.heap.size wr).drew.trans (hb5.mono (Nat.le_refl _)))
       obtain rfl : n5 = q := by (rw [HQ.out]; exact zBF hc5 (zC3 (by rw [HTM.out]; exact hle) HLON.out))
       clear hc5 hb5
       refine hK.out _ _ (HER.out.below HV5.out) (fun hHeld => ?_)
       clear hK K
       try simp only [Act.put, aS, aZ, aC]
       refine zG 8 rfl ?_
       try simp only [Act.put, aS, aZ, aC]
       refine wpAnyH_done (by kernel_rfl) ?_ _
       refine NoPanic.normal ?_
       go_wp2
       go_roundw
       case rel => exact ⟨i + 1, rfl, by go_num, by omega, hid (HB.out.trans (HV5.out.mono HB.out.size))⟩
       case measure => simp [intOf]; omega
      ·exact AllReadyH.nil
     ·have hleI : ¬ (i : Int) ≤ (m : Int) := by omega
      have hled : decide (i ≤ m) = false := by simp; omega
      go_wp2
      go_ret
      exact ⟨rfl, HBW.out⟩
   ·exact AllReadyH.nil
  ·have hnb : ((n : Int) == 0) = false := by simp; exact hn1
   go_upto_region 5 with fail
   refine wp_region_noPanic ?_
   refine wp_region_held_drew (S := fun w' => True) (by kernel_rfl) (trivial) (fun hHeld => ?_)
   refine zG 0 rfl ?_
   try simp only [Act.put, aS, aZ, aC]
   refine zG 1 rfl ?_
   try simp only [Act.put, aS, aZ, aC]
   refine zG 2 rfl ?_
   try simp only [Act.put, aS, aZ, aC]
   refine zG 3 rfl ?_
   try simp only [Act.put, aS, aZ, aC]
   refine zG 4 rfl ?_
   try simp only [Act.put, aS, aZ, aC]
   refine zG 5 rfl ?_
   try simp only [Act.put, aS, aZ, aC]
   refine zG 6 rfl ?_
   try simp only [Act.put, aS, aZ, aC]
   refine zG 7 rfl ?_
   try simp only [Act.put, aS, aZ, aC]
   refine zG 8 rfl ?_
   try simp only [Act.put, aS, aZ, aC]
   refine zG 9 rfl ?_
   try simp only [Act.put, aS, aZ, aC]
   refine zG 10 rfl ?_
   try simp only [Act.put, aS, aZ, aC]
   refine zG 11 rfl ?_
   try simp only [Act.put, aS, aZ, aC]
   refine zG 12 rfl ?_
   try simp only [Act.put, aS, aZ, aC]
   refine zG 13 rfl ?_
   try simp only [Act.put, aS, aZ, aC]
   refine zG 14 rfl ?_
   try simp only [Act.put, aS, aZ, aC]
   refine zG 15 rfl ?_
   try simp only [Act.put, aS, aZ, aC]
   refine zG 16 rfl ?_
   try simp only [Act.put, aS, aZ, aC]
   refine zG 17 rfl ?_
   try simp only [Act.put, aS, aZ, aC]
   refine zG 18 rfl ?_
   try simp only [Act.put, aS, aZ, aC]
   refine zG 19 rfl ?_
   try simp only [Act.put, aS, aZ, aC]
   refine zG 20 rfl ?_
   try simp only [Act.put, aS, aZ, aC]
   refine hTn 21 rfl (by kernel_rfl) (fun _ _ _ h => h) (by rfl) (by assumption) ?_
   try simp only [Act.put, aS, aZ, aC]
   refine hTn 22 rfl (by kernel_rfl) (fun _ _ _ h => h) (by rfl) (by assumption) ?_
   try simp only [Act.put, aS, aZ, aC]
   refine hTn 23 rfl (by kernel_rfl) (fun _ _ _ h => h) (by rfl) (by assumption) ?_
   try simp only [Act.put, aS, aZ, aC]
   refine hTn 24 rfl (by kernel_rfl) (fun _ _ _ h => h) (by rfl) (by assumption) ?_
   try simp only [Act.put, aS, aZ, aC]
   refine hTn 25 rfl (by kernel_rfl) (fun _ _ _ h => h) (by rfl) (by assumption) ?_
   try simp only [Act.put, aS, aZ, aC]
   refine zG 26 rfl ?_
   try simp only [Act.put, aS, aZ, aC]
   refine zG 27 rfl ?_
   try simp only [Act.put, aS, aZ, aC]
   refine wpAnyH_done (by kernel_rfl) ?_ _
   refine NoPanic.normal ?_
   obtain ⟨uD, huD⟩ : ∃ q, q = u2.drew := ⟨_, rfl⟩
   rw [← huD]
   have hbD : Below u2.heap.size u2 uD := by rw [huD]; exact (Below.refl _ _).drew
   replace HWZ : Hid (Below w.heap.size w uD) := hid (HWZ.out.trans (hbD.mono HWZ.out.size))
   replace HEZ := hid (HEZ.out.below hbD)
   replace HOZ : Hid (OpS uD ea en ec L) := hid (HOZ.out.below hbD)
   replace HFZ : Hid (Ts uD fa m fc tok) := hid (HFZ.out.below hbD)
   clear hbD huD
   go_wp2
   go_loopw [4, 9] (fun u v wr => ∃ i : Nat, u = .bool false ∧ v = .int .i64 (i : Int) ∧ i ≤ m + 1 ∧ Hid (Below uD.heap.size uD wr)) (fun _ v _ => m + 1 - (intOf v).toNat)
   case atStart => exact ⟨0, rfl, rfl, by omega, hid (Below.refl _ _)⟩
   case round =>
    rename World => wr
    obtain ⟨i, rfl, rfl, hi, HB⟩ := hrel
    have hi0 : (0 : Int) ≤ (i : Int) := Int.natCast_nonneg _
    have HBW : Hid (Below w.heap.size w wr) := hid (HWZ.out.trans (HB.out.mono HWZ.out.size))
    have HER := hid (HEZ.out.below HB.out)
    by_cases hle : i ≤ m
    ·have hleI : (i : Int) ≤ (m : Int) := by omega
     have hled : decide (i ≤ m) = true := by simp; exact hle
     have hi64 : IntKind.i64.wrap ((i : Int) + 1) = (i : Int) + 1 := IntWalk.i64_in _ (by have := HTL.out; omega)
     have hsl := (zA3 HFZ.out hle).1
     obtain ⟨q, hq⟩ : ∃ q, q = min i n := ⟨_, rfl⟩
     have hmin : min (i : Int) (n : Int) = (q : Int) := by omega
     have HQ := hid hq
     clear hq
     go_upto_region 10 with fail
     refine wp_region_noPanic ?_
     refine wp_region_held_drew (S := fun w' => EB w' E ea en ec Z) (by kernel_rfl) (HER.out.below (Below.refl _ _).drew) (fun hHeld => ?_)
     refine zAh (i := 0) (oi := { dst := some 52, op := Op.load 34 (Operand.tmp 6), type := 34, pos := "law.go:51", after := #[], guard := none }) (Operand.tmp 6) rfl (by kernel_rfl) (by kernel_rfl) (by kernel_rfl) ea en ec (Z) (fun _ _ _ h => h) (by rfl) rfl (E) rfl (HZL.out) (fun w h => h) (by assumption) ?_
     try simp only [Act.put, aS, aZ, aC]
     refine zG 1 rfl ?_
     try simp only [Act.put, aS, aZ, aC]
     refine zG 2 rfl ?_
     try simp only [Act.put, aS, aZ, aC]
     refine zG 3 rfl ?_
     try simp only [Act.put, aS, aZ, aC]
     refine zG 5 rfl ?_
     try simp only [Act.put, aS, aZ, aC]
     refine zG 6 rfl ?_
     try simp only [Act.put, aS, aZ, aC]
     refine zG 7 rfl ?_
     try simp only [Act.put, aS, aZ, aC]
     refine zR [4] ?_
     refine hDo rfl (fun K hK => ?_) ?_
     ·go_simp
      (go_at_call 20; (with_reducible refine (zAY Z HZL.out HZR.out ea en ec L fa i fc (tok.take i) _ (HT.out.keep (HBW.out.trans ((Below.refl wr.heap.size wr).drew.mono HBW.out.size))) (HOZ.out.below (HB.out.trans ((Below.refl wr.heap.size wr).drew.mono HB.out.size))) HSR.out HEN.out HSH.out HNM.out ((zA3 HFZ.out hle).2 _ (HFZ.out.below (HB.out.trans ((Below.refl wr.heap.size wr).drew.mono HB.out.size)))) (by have := HTL.out; omega)).mono ?_); rintro e u5 ⟨n5, rfl, hc5, hb5⟩)
      have HV5 : Hid (Below wr.heap.size wr u5) := hid ((Below.refl wr.heap.size wr).drew.trans (hb5.mono (Nat.le_refl _)))
      obtain rfl : n5 = q := by (rw [HQ.out]; exact zBF hc5 (zC3 (by rw [HTM.out]; exact hle) HLON.out))
      clear hc5 hb5
      refine hK.out _ _ (HER.out.below HV5.out) (fun hHeld => ?_)
      clear hK K
      try simp only [Act.put, aS, aZ, aC]
      refine zG 8 rfl ?_
      try simp only [Act.put, aS, aZ, aC]
      refine wpAnyH_done (by kernel_rfl) ?_ _
      refine NoPanic.normal ?_
      go_wp2
      go_roundw
      case rel => exact ⟨i + 1, rfl, by go_num, by omega, hid (HB.out.trans (HV5.out.mono HB.out.size))⟩
      case measure => simp [intOf]; omega
     ·exact AllReadyH.nil
    ·have hleI : ¬ (i : Int) ≤ (m : Int) := by omega
     have hled : decide (i ≤ m) = false := by simp; omega
     go_wp2
     go_ret
     exact ⟨rfl, HBW.out⟩
 ·have hmd : decide (0 < m) = false := by simp; omega
  have hmI : ¬ (0 : Int) < (m : Int) := by omega
  go_upto_region 5 with fail
  refine wp_region_noPanic ?_
  refine wp_region_held_drew (S := fun w' => True) (by kernel_rfl) (trivial) (fun hHeld => ?_)
  refine zG 0 rfl ?_
  try simp only [Act.put, aS, aZ, aC]
  refine zG 1 rfl ?_
  try simp only [Act.put, aS, aZ, aC]
  refine zG 2 rfl ?_
  try simp only [Act.put, aS, aZ, aC]
  refine zG 3 rfl ?_
  try simp only [Act.put, aS, aZ, aC]
  refine zG 4 rfl ?_
  try simp only [Act.put, aS, aZ, aC]
  refine zG 5 rfl ?_
  try simp only [Act.put, aS, aZ, aC]
  refine zG 6 rfl ?_
  try simp only [Act.put, aS, aZ, aC]
  refine zG 7 rfl ?_
  try simp only [Act.put, aS, aZ, aC]
  refine zG 8 rfl ?_
  try simp only [Act.put, aS, aZ, aC]
  refine zG 9 rfl ?_
  try simp only [Act.put, aS, aZ, aC]
  refine zG 10 rfl ?_
  try simp only [Act.put, aS, aZ, aC]
  refine zG 11 rfl ?_
  try simp only [Act.put, aS, aZ, aC]
  refine zG 12 rfl ?_
  try simp only [Act.put, aS, aZ, aC]
  refine zG 13 rfl ?_
  try simp only [Act.put, aS, aZ, aC]
  refine zG 14 rfl ?_
  try simp only [Act.put, aS, aZ, aC]
  refine zG 15 rfl ?_
  try simp only [Act.put, aS, aZ, aC]
  refine zG 16 rfl ?_
  try simp only [Act.put, aS, aZ, aC]
  refine hTn 17 rfl (by kernel_rfl) (fun _ _ _ h => h) (by rfl) (by assumption) ?_
  try simp only [Act.put, aS, aZ, aC]
  refine hTn 18 rfl (by kernel_rfl) (fun _ _ _ h => h) (by rfl) (by assumption) ?_
  try simp only [Act.put, aS, aZ, aC]
  refine zG 19 rfl ?_
  try simp only [Act.put, aS, aZ, aC]
  refine zG 20 rfl ?_
  try simp only [Act.put, aS, aZ, aC]
  refine hTn 21 rfl (by kernel_rfl) (fun _ _ _ h => h) (by rfl) (by assumption) ?_
  try simp only [Act.put, aS, aZ, aC]
  refine hTn 22 rfl (by kernel_rfl) (fun _ _ _ h => h) (by rfl) (by assumption) ?_
  try simp only [Act.put, aS, aZ, aC]
  refine hTn 23 rfl (by kernel_rfl) (fun _ _ _ h => h) (by rfl) (by assumption) ?_
  try simp only [Act.put, aS, aZ, aC]
  refine hTn 24 rfl (by kernel_rfl) (fun _ _ _ h => h) (by rfl) (by assumption) ?_
  try simp only [Act.put, aS, aZ, aC]
  refine hTn 25 rfl (by kernel_rfl) (fun _ _ _ h => h) (by rfl) (by assumption) ?_
  try simp only [Act.put, aS, aZ, aC]
  refine zG 26 rfl ?_
  try simp only [Act.put, aS, aZ, aC]
  refine zG 27 rfl ?_
  try simp only [Act.put, aS, aZ, aC]
  refine wpAnyH_done (by kernel_rfl) ?_ _
  refine NoPanic.normal ?_
  obtain ⟨uD, huD⟩ : ∃ q, q = u2.drew := ⟨_, rfl⟩
  rw [← huD]
  have hbD : Below u2.heap.size u2 uD := by rw [huD]; exact (Below.refl _ _).drew
  replace HWZ : Hid (Below w.heap.size w uD) := hid (HWZ.out.trans (hbD.mono HWZ.out.size))
  replace HEZ := hid (HEZ.out.below hbD)
  replace HOZ : Hid (OpS uD ea en ec L) := hid (HOZ.out.below hbD)
  replace HFZ : Hid (Ts uD fa m fc tok) := hid (HFZ.out.below hbD)
  clear hbD huD
  go_wp2
  go_loopw [4, 9] (fun u v wr => ∃ i : Nat, u = .bool false ∧ v = .int .i64 (i : Int) ∧ i ≤ m + 1 ∧ Hid (Below uD.heap.size uD wr)) (fun _ v _ => m + 1 - (intOf v).toNat)
  case atStart => exact ⟨0, rfl, rfl, by omega, hid (Below.refl _ _)⟩
  case round =>
   rename World => wr
   obtain ⟨i, rfl, rfl, hi, HB⟩ := hrel
   have hi0 : (0 : Int) ≤ (i : Int) := Int.natCast_nonneg _
   have HBW : Hid (Below w.heap.size w wr) := hid (HWZ.out.trans (HB.out.mono HWZ.out.size))
   have HER := hid (HEZ.out.below HB.out)
   by_cases hle : i ≤ m
   ·have hleI : (i : Int) ≤ (m : Int) := by omega
    have hled : decide (i ≤ m) = true := by simp; exact hle
    have hi64 : IntKind.i64.wrap ((i : Int) + 1) = (i : Int) + 1 := IntWalk.i64_in _ (by have := HTL.out; omega)
    have hsl := (zA3 HFZ.out hle).1
    obtain ⟨q, hq⟩ : ∃ q, q = min i n := ⟨_, rfl⟩
    have hmin : min (i : Int) (n : Int) = (q : Int) := by omega
    have HQ := hid hq
    clear hq
    go_upto_region 10 with fail
    refine wp_region_noPanic ?_
    refine wp_region_held_drew (S := fun w' => EB w' E ea en ec Z) (by kernel_rfl) (HER.out.below (Below.refl _ _).drew) (fun hHeld => ?_)
    refine zAh (i := 0) (oi := { dst := some 52, op := Op.load 34 (Operand.tmp 6), type := 34, pos := "law.go:51", after := #[], guard := none }) (Operand.tmp 6) rfl (by kernel_rfl) (by kernel_rfl) (by kernel_rfl) ea en ec (Z) (fun _ _ _ h => h) (by rfl) rfl (E) rfl (HZL.out) (fun w h => h) (by assumption) ?_
    try simp only [Act.put, aS, aZ, aC]
    refine zG 1 rfl ?_
    try simp only [Act.put, aS, aZ, aC]
    refine zG 2 rfl ?_
    try simp only [Act.put, aS, aZ, aC]
    refine zG 3 rfl ?_
    try simp only [Act.put, aS, aZ, aC]
    refine zG 5 rfl ?_
    try simp only [Act.put, aS, aZ, aC]
    refine zG 6 rfl ?_
    try simp only [Act.put, aS, aZ, aC]
    refine zG 7 rfl ?_
    try simp only [Act.put, aS, aZ, aC]
    refine zR [4] ?_
    refine hDo rfl (fun K hK => ?_) ?_
    ·go_simp
     (go_at_call 20; (with_reducible refine (zAY Z HZL.out HZR.out ea en ec L fa i fc (tok.take i) _ (HT.out.keep (HBW.out.trans ((Below.refl wr.heap.size wr).drew.mono HBW.out.size))) (HOZ.out.below (HB.out.trans ((Below.refl wr.heap.size wr).drew.mono HB.out.size))) HSR.out HEN.out HSH.out HNM.out ((zA3 HFZ.out hle).2 _ (HFZ.out.below (HB.out.trans ((Below.refl wr.heap.size wr).drew.mono HB.out.size)))) (by have := HTL.out; omega)).mono ?_); rintro e u5 ⟨n5, rfl, hc5, hb5⟩)
     have HV5 : Hid (Below wr.heap.size wr u5) := hid ((Below.refl wr.heap.size wr).drew.trans (hb5.mono (Nat.le_refl _)))
     obtain rfl : n5 = q := by (rw [HQ.out]; exact zBF hc5 (zC3 (by rw [HTM.out]; exact hle) HLON.out))
     clear hc5 hb5
     refine hK.out _ _ (HER.out.below HV5.out) (fun hHeld => ?_)
     clear hK K
     try simp only [Act.put, aS, aZ, aC]
     refine zG 8 rfl ?_
     try simp only [Act.put, aS, aZ, aC]
     refine wpAnyH_done (by kernel_rfl) ?_ _
     refine NoPanic.normal ?_
     go_wp2
     go_roundw
     case rel => exact ⟨i + 1, rfl, by go_num, by omega, hid (HB.out.trans (HV5.out.mono HB.out.size))⟩
     case measure => simp [intOf]; omega
    ·exact AllReadyH.nil
   ·have hleI : ¬ (i : Int) ≤ (m : Int) := by omega
    have hled : decide (i ≤ m) = false := by simp; omega
    go_wp2
    go_ret
    exact ⟨rfl, HBW.out⟩
end Go.Proofs.YtcjbhdgjcpnklaaGreatDoor
