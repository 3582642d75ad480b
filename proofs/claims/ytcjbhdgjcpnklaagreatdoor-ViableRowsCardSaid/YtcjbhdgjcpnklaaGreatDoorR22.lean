import Derived.Deep.RegionHeld3
import Derived.Test.YtcjbhdgjcpnklaaGreatDoorR19
import Derived.Test.YtcjbhdgjcpnklaaGreatDoorR20
import Derived.Test.YtcjbhdgjcpnklaaGreatDoorR21
namespace Go.Proofs.YtcjbhdgjcpnklaaGreatDoor
section
open Go.RowKit
def tFm (t : TypeId) : Prop := t = 138
structure FsO (base : Nat) (w : World) (a : Option Addr) (c m : Nat) (R : List SLV) (F : List FD) : Prop where
 own : OwnV base 138 1 w a m c (slC R)
 rl : R.length = m
 st : ∀ i, i < m → (rA R i).n = (fA F i).S.length ∧ ∃ vs, SwO 0 w (rA R i).a (rA R i).c (fA F i).S vs
theorem FsO.below {base : Nat} {w w' : World} {a : Option Addr} {c m : Nat} {R : List SLV} {F : List FD} (h : FsO base w a c m R F) (hb : Below w.heap.size w w') : FsO base w' a c m R F :=
 ⟨h.own.keep hb (Nat.le_refl _), h.rl, fun i hi => ⟨(h.st i hi).1, by obtain ⟨vs, hv⟩ := (h.st i hi).2; exact ⟨vs, hv.below hb⟩⟩⟩
theorem FsO.fsv {base : Nat} {w : World} {a : Option Addr} {c : Nat} {R : List SLV} {F : List FD} (h : FsO base w a c F.length R F) : FsV w a c F :=
 ⟨R, h.rl, h.own.vs, fun i hi => by
  obtain ⟨h1, vs, h2⟩ := h.st i hi
  rw [h1]
  exact h2.stv⟩
theorem FsO.snoc {base : Nat} {w w' : World} {a a' : Option Addr} {c c' m : Nat} {R : List SLV} {F : List FD} (h : FsO base w a c m R F) (hk : Kt tFm w w') {r : SLV} (hr : r.n = (fA F m).S.length) (hs : ∃ vs, SwO 0 w r.a r.c (fA F m).S vs) (ho : OwnV base 138 1 w' a' (m + 1) c' (slC R ++ [.slice r.a r.n r.c])) : FsO base w' a' c' (m + 1) (R ++ [r]) F := by
 have hrl := h.rl
 refine ⟨by unfold slC at ho ⊢; rw [List.map_append]; exact ho, by rw [List.length_append, hrl]; rfl, fun i hi => ?_⟩
 by_cases hlt : i < m
 ·have e1 : rA (R ++ [r]) i = rA R i := by unfold rA; simp [List.getD, List.getElem?_append_left (show i < R.length by omega)]
  rw [e1]
  obtain ⟨h1, vs, h2⟩ := h.st i hlt
  exact ⟨h1, vs, h2.ktp (P := tFm) (by unfold tFm; decide) (by unfold tFm; decide) hk⟩
 ·obtain rfl : i = m := by omega
  have e1 : rA (R ++ [r]) i = r := by unfold rA; simp [List.getD, ← hrl]
  rw [e1]
  obtain ⟨vs, h2⟩ := hs
  exact ⟨hr, vs, h2.ktp (P := tFm) (by unfold tFm; decide) (by unfold tFm; decide) hk⟩
theorem zLW {w : World} {g : Nat} {vs : List VV} {S : List Sd} {n : Nat} (hn : vs.length = n) (hl : S.length = n) (hb : w.heap[g]? = some (.cells (cV vs).toArray 136 (0, 0))) (hm : n ≤ 1000) (hs : ∀ j, j < n → SdW w (vA vs j) (sA S j)) : SwO 0 w (some ⟨g, 0, none⟩) n S vs := by
 subst hn
 refine ⟨hl.symm, ?_, fun j hj => hs j (by omega)⟩
 rw [hl]
 refine ⟨zK0 vs, .inr ⟨g, vs.length, _, rfl, Nat.zero_le _, hb, Nat.le_refl _, by unfold maxLen; omega, ?_, ?_⟩⟩
 ·simp [zK0]
 ·show ((cV vs).toArray.toList).take _ = _
  exact List.take_of_length_le (by simp [zK0])
theorem zJS : (Tryz.prog.info? 30).map (·.size) = some 1 := by kernel_rfl
def cF0 (ra : Option Addr) (kn rc : Nat) : Array Value := #[.nilFunc, .slice ra kn rc]
def cF1 (ra : Option Addr) (kn rc : Nat) : Array Value := #[.func (.func 72) #[.string { data := #[40] }] #[], .slice none 0 0, .nilFunc, .slice ra kn rc, .func (.func 72) #[.string { data := #[41] }] #[], .slice none 0 0]
set_option maxRecDepth 100000 in
set_option maxHeartbeats 16000000 in
theorem zJT (z : List Int) (hz : z.length = 10) (hr : ∀ i, i < 10 → I64 (bt z i)) (a : Option Addr) (n c : Nat) (L : List OP) (w : World) (ht : Tab w) (hL : OpS w a n c L) (hn : n ≤ 1000) (hs : ∀ o ∈ L, ∃ s, ofS o.1 = some s) (hp : ∀ o ∈ L, o.1.length ≤ 1000000) :
  Calls Tryz.prog 39 #[.agg (ev a n c z)] w fun e w' => ∃ fa fc, e = .returned (.slice fa (FVw z L).length fc) ∧ FsV w' fa fc (FVw z L) ∧ Below w.heap.size w w' := by
 have HLN : Hid (L.length = n) := hid (OpS.len hL)
 have HS := hid hs
 have HP := hid hp
 have HT := hid ht
 have HLS := hid hL
 have HZ := hid hz
 have HR10 := hid hr
 obtain ⟨E, hE⟩ : ∃ B, B = w.heap.size := ⟨_, rfl⟩
 obtain ⟨w1, hw1⟩ : ∃ w1, w1 = w.alloc (.cells (ev a n c z) 34) := ⟨_, rfl⟩
 have HE1 : Hid (EB w1 E a n c z) := hid (by rw [hw1, hE]; exact EB.new w a n c z)
 have HB1 : Hid (Below w.heap.size w w1) := hid (by rw [hw1]; exact zAA w _)
 have e0 : w1.cell? ⟨E, 0, none⟩ = some (.slice a n c) := by
  have := Bk.cell (show Bk w1 E 34 (ev a n c z) from HE1.out) 0
  exact this
 clear ht hL hs hp hz hr
 go_enter Tryz.func39, Tryz.ntmps39
 go_upto_region 1 with fail
 rw [← hw1, ← hE]
 clear hw1 hE
 go_wp2_with fail
 refine (zJR a n c L w1 (HT.out.keep HB1.out) (HLS.out.below HB1.out) (by omega) HS.out HP.out).mono ?_
 rintro e w2 ⟨a1, c1, rfl, ho2, hb2⟩
 have HO2 := hid ho2
 have HB2 : Hid (Below w.heap.size w w2) := hid (HB1.out.trans (hb2.mono HB1.out.size))
 have HE2 := hid (EB.below HE1.out hb2)
 obtain ⟨O, hO⟩ : ∃ O, O = w2.heap.size := ⟨_, rfl⟩
 have HOO := hid hO
 clear ho2 hb2 hO e0
 go_upto_region 2 with (refine zMj rfl 30 (.tmp 3) (.tmp 11) rfl O (by rw [HOO.out]; rfl) (.slice a1 n c1) rfl zJS rfl rfl 30 (.slice none 0 0) (by rw [HOO.out]; exact C1.new w2 _ _) ?_; rw [← HOO.out]; intro w3 h3 ho3; have H3 : Hid (Bk w3 O 30 #[.slice a1 n c1]) := hid h3; have HB3 : Hid (Below w2.heap.size w2 w3) := hid ((zAA w2 _).trans (ho3.below (by rw [HOO.out]; exact Nat.le_refl _))); clear h3 ho3)
 have HBW3 : Hid (Below w.heap.size w w3) := hid (HB2.out.trans (HB3.out.mono HB2.out.size))
 have HO3 := hid (HO2.out.keep HB3.out (Nat.le_refl _))
 have HE3 := hid (EB.below HE2.out HB3.out)
 have HT3 := hid (HT.out.keep HBW3.out)
 clear HO2 HE2 HB3 HB2 HOO HE1 HB1
 have o0 := H3.out.cell 0
 rw [show (#[.slice a1 n c1] : Array Value)[0]? = some (.slice a1 n c1) from rfl] at o0
 have HKT := hid (zLU a1 n c1 L w3 HT3.out HO3.out.vs (by omega) HP.out)
 rw [show kdsL (fun _ => true) L n = allV L.length by rw [zIr, HLN.out]] at HKT
 obtain ⟨K, hK⟩ : ∃ K, K = allV L.length := ⟨_, rfl⟩
 have HK := hid hK
 rw [← hK] at HKT
 obtain ⟨kn, hkn⟩ : ∃ K', K' = K.length := ⟨_, rfl⟩
 have HKN := hid hkn
 rw [← hkn] at HKT
 clear hK hkn
 go_wp2_with fail
 refine HKT.out.mono ?_
 rintro e w4 ⟨ra, rc, rfl, ho4, hb4⟩
 have HOK := hid (ho4.weaken (Nat.zero_le _))
 have HB4 := hid hb4
 have HO4 := hid (HO3.out.keep hb4 (Nat.le_refl _))
 have HE4 := hid (EB.below HE3.out hb4)
 have H4 := hid (H3.out.below hb4)
 have HBW4 : Hid (Below w.heap.size w w4) := hid (HBW3.out.trans (hb4.mono HBW3.out.size))
 obtain ⟨Hh, hHh⟩ : ∃ O, O = w4.heap.size := ⟨_, rfl⟩
 have HHH := hid hHh
 clear ho4 hb4 hHh o0 HKT H3 HO3 HE3
 go_upto_region 3 with (refine zAn zBW rfl (.tmp 4) (.tmp 14) rfl Hh (by rw [HHH.out]; rfl) (cF0 ra kn rc) rfl rfl (by kernel_rfl) #[.nilFunc, .slice none 0 0] rfl (by rw [HHH.out]; exact Bk.new w4 _ _) ?_; rw [← HHH.out]; intro w5 h5 ho5; have H5 := hid h5; have HB5 : Hid (Below w4.heap.size w4 w5) := hid ((zAA w4 _).trans (ho5.below (by rw [HHH.out]; exact Nat.le_refl _))); clear h5 ho5)
 obtain ⟨G, hG⟩ : ∃ g, g = w5.heap.size := ⟨_, rfl⟩
 obtain ⟨wA, hwA⟩ : ∃ q, q = w5.alloc (.cells (cF0 ra kn rc) 136) := ⟨_, rfl⟩
 obtain ⟨wB, hwB⟩ : ∃ q, q = wA.alloc (.cells (cF1 ra kn rc) 136) := ⟨_, rfl⟩
 have sA1 : wA.heap.size = G + 1 := by rw [hwA, hG]; simp
 have sB1 : wB.heap.size = G + 1 + 1 := by rw [hwB]; simp [sA1]
 obtain ⟨wC, hwC⟩ : ∃ q, q = wB.alloc (.cells #[.slice (some ⟨G, 0, none⟩) 1 1, .slice (some ⟨G + 1, 0, none⟩) 3 3] 138) := ⟨_, rfl⟩
 have HBA : Hid (Below w5.heap.size w5 wA) := hid (by rw [hwA]; exact zAA w5 _)
 have HBB : Hid (Below w5.heap.size w5 wB) := hid (by rw [hwB]; exact HBA.out.alloc HBA.out.size _)
 have HBC : Hid (Below w5.heap.size w5 wC) := hid (by rw [hwC]; exact HBB.out.alloc HBB.out.size _)
 have HGA : Hid (wC.heap[G]? = some (.cells (cF0 ra kn rc) 136 (0, 0))) := hid (by
  have h1 : Bk wA G 136 (cF0 ra kn rc) := by rw [hwA, hG]; exact Bk.new w5 _ _
  rw [hwC, hwB]
  exact (h1.alloc _).alloc _)
 have HGB : Hid (wC.heap[G + 1]? = some (.cells (cF1 ra kn rc) 136 (0, 0))) := hid (by
  have h1 : Bk wB (G + 1) 136 (cF1 ra kn rc) := by rw [hwB, ← sA1]; exact Bk.new wA _ _
  rw [hwC]
  exact h1.alloc _)
 have HGC : Hid (wC.heap[G + 1 + 1]? = some (.cells #[.slice (some ⟨G, 0, none⟩) 1 1, .slice (some ⟨G + 1, 0, none⟩) 3 3] 138 (0, 0))) := hid (by
  rw [hwC, ← sB1]; exact Bk.new wB _ _)
 rw [cF0] at hwA
 rw [cF1] at hwB
 go_upto_region 4 with (refine zA2 zBW rfl (.tmp 4) rfl Hh rfl (cF0 ra kn rc) rfl (by first | exact H5.out | exact H5.out.alloc _) ?_; rw [cF0])
 rw [← hwA]
 try rw [← hG]
 try rw [← hwB]
 try rw [sA1]
 try rw [← hwC]
 try rw [sB1]
 clear hwA hwB hwC sA1 sB1
 have HBW5 : Hid (Below w.heap.size w w5) := hid (HBW4.out.trans (HB5.out.mono HBW4.out.size))
 have HGE : Hid (G = w5.heap.size) := hid hG
 clear hG
 have HOKC : Hid (OwnV 0 3 1 wC ra K.length rc (intsK K)) := hid (by have := (HOK.out.keep HB5.out (Nat.le_refl _)).keep HBC.out (Nat.le_refl _); rw [HKN.out] at this; exact this)
 have HFC : Hid (FsO G wC (some ⟨G + 1 + 1, 0, none⟩) 2 2 [⟨some ⟨G, 0, none⟩, 1, 1⟩, ⟨some ⟨G + 1, 0, none⟩, 3, 3⟩] (FVw z L)) := hid (by
  refine ⟨⟨rfl, .inr ⟨G + 1 + 1, 2, _, rfl, by omega, HGC.out, Nat.le_refl _, by decide, rfl, rfl⟩⟩, rfl, fun i hi => ?_⟩
  have h01 : i = 0 ∨ i = 1 := by omega
  rcases h01 with rfl | rfl
  ·refine ⟨rfl, [(.nilFunc, .slice ra kn rc)], ?_⟩
   refine zLW (n := 1) (vs := [(.nilFunc, .slice ra kn rc)]) (S := [.ho (allV L.length)]) rfl rfl HGA.out (by decide) fun j hj => ?_
   obtain rfl : j = 0 := by omega
   refine ⟨rfl, ra, rc, ?_, ?_⟩
   ·show Value.slice ra kn rc = _
    rw [HKN.out, HK.out]
   ·rw [← HK.out]; exact HOKC.out
  ·refine ⟨rfl, [(.func (.func 72) #[.string (mk [40])] #[], .slice none 0 0), (.nilFunc, .slice ra kn rc), (.func (.func 72) #[.string (mk [41])] #[], .slice none 0 0)], ?_⟩
   refine zLW (n := 3) (vs := [(.func (.func 72) #[.string (mk [40])] #[], .slice none 0 0), (.nilFunc, .slice ra kn rc), (.func (.func 72) #[.string (mk [41])] #[], .slice none 0 0)]) (S := [.br [40], .ho (allV L.length), .br [41]]) rfl rfl HGB.out (by decide) fun j hj => ?_
   have h3 : j = 0 ∨ j = 1 ∨ j = 2 := by omega
   rcases h3 with rfl | rfl | rfl
   ·exact ⟨rfl, rfl⟩
   ·refine ⟨rfl, ra, rc, ?_, ?_⟩
    ·show Value.slice ra kn rc = _
     rw [HKN.out, HK.out]
    ·rw [← HK.out]; exact HOKC.out
   ·exact ⟨rfl, rfl⟩)
 have HO5 := hid (HO4.out.keep HB5.out (Nat.le_refl _))
 have HE5 := hid (EB.below HE4.out HB5.out)
 have HV5 := hid (H4.out.below HB5.out)
 have HT5 := hid (HT.out.keep HBW5.out)
 have HOK5 : Hid (OwnV 0 3 1 w5 ra kn rc (intsK K)) := hid (HOK.out.keep HB5.out (Nat.le_refl _))
 have c3 := (HV5.out.below HBC.out).cell 0
 rw [show (#[.slice a1 n c1] : Array Value)[0]? = some (.slice a1 n c1) from rfl] at c3
 have HOPR : Hid (∀ (D : Nat) (xp : Nm) (xg xs : Int) (sh : SH) (u : World), ofS xp = some sh → xp.length ≤ 1000000 → Below w5.heap.size w5 u → D3 u D (xp, xg, xs) → Calls Tryz.prog 76 #[.agg #[.string (mk xp), .int .i64 xg, .int .i64 xs], .agg #[.nilFunc, .slice ra kn rc], .func (.func 73) #[] #[.pointer (some ⟨O, 0, none⟩), .pointer (some ⟨E, 0, none⟩), .pointer (some ⟨D, 0, none⟩)]] u fun e w' => ∃ ra rc, e = .returned (.slice ra (stepsV z L (xp, xg, xs) (itemsL sh) true).length rc) ∧ (∃ vs, SwO 0 w' ra rc (stepsV z L (xp, xg, xs) (itemsL sh) true) vs) ∧ Below u.heap.size u w') := hid fun D xp xg xs sh u h1 h2 h3 h4 => by
  have h := zFt z HZ.out HR10.out a1 n c1 L O E D a n c xp xg xs sh h1 ra rc u (HT5.out.keep h3) (HV5.out.below h3) (HO5.out.vs.below h3) (EB.below HE5.out h3) h4 (by have := HOK5.out.keep h3 (Nat.le_refl _); rw [HKN.out, HK.out] at this; exact this) (by omega) h2 HP.out
  rw [← HK.out, ← HKN.out] at h
  exact h
 clear HGA HGB HGC HBA HBB HOKC HOK HO4 HE4 H4 HB4 HB5 HT HBW3
 go_wp2
 go_loopw [5, 26] (fun u v wr => ∃ (a' : Option Addr) (c' m : Nat) (R : List SLV) (k : Nat), u = .slice a' m c' ∧ v = .int .i64 (k : Int) ∧ k ≤ n ∧ Hid (m = k + 2) ∧ Hid (FsO G wr a' c' m R (FVw z L)) ∧ Hid (Below w5.heap.size w5 wr)) (fun _ v _ => n - (intOf v).toNat)
 case atStart => exact ⟨_, _, 2, _, 0, rfl, rfl, Nat.zero_le _, hid rfl, HFC, HBC⟩
 case round =>
  rename World => wa
  obtain ⟨a', c', m, R, k, rfl, rfl, hk, HMK, HFS, HB⟩ := hrel
  have hk0 : (0 : Int) ≤ (k : Int) := Int.natCast_nonneg _
  by_cases hlt : k < n
  ·have hltI : (k : Int) < (n : Int) := by omega
   have ho := HO5.out.keep HB.out (Nat.le_refl _)
   obtain ⟨b, o, rfl, _, _⟩ := ho.vs.at_ (by omega)
   have HCS := hid (zDh ho.vs hlt)
   have hkl : k < L.length := by rw [HLN.out]; exact hlt
   have HKM := hid (zBZ hkl)
   have HPK := hid (HP.out _ HKM.out)
   obtain ⟨sh, hsh⟩ := HS.out _ HKM.out
   have HFK : Hid ((fA (FVw z L) (k + 2)).S = stepsV z L (opA L k) (itemsL sh) true) := hid (by rw [zCw z L hkl]; show stepsV z L (opA L k) (itemsO (opA L k)) true = _; rw [zA8 hsh])
   have HSH := hid hsh
   obtain ⟨x, hx⟩ : ∃ x, x = opA L k := ⟨_, rfl⟩
   rw [← hx] at HCS HPK HKM HFK HSH
   clear hx ho hsh hkl
   obtain ⟨xp, xg, xs⟩ := x
   dsimp only at HCS HPK HSH
   obtain ⟨D, hD⟩ : ∃ D, D = wa.heap.size := ⟨_, rfl⟩
   have HDD := hid hD
   obtain ⟨VO, hvo⟩ : ∃ V : Array Value, V = #[.string (mk xp), .int .i64 xg, .int .i64 xs] := ⟨_, rfl⟩
   have HVO := hid hvo
   rw [← hvo] at HCS
   clear hvo hD
   go_upto_region 7 with (first
    | (refine zCI zBd rfl (.tmp 28) rfl b (o + k * 3) rfl VO (by rw [HVO.out]; rfl) HCS.out ?_)
    | (refine zAn zBd rfl (.tmp 7) (.tmp 29) rfl D (by rw [HDD.out]; rfl) VO rfl (by rw [HVO.out]; rfl) (by rw [HVO.out]; kernel_rfl) #[.string ⟨#[]⟩, .int .i64 0, .int .i64 0] rfl (by rw [HDD.out]; exact Bk.new wa _ _) ?_; rw [← HDD.out]; intro w6 h6 ho6; have HB6 : Hid (Below wa.heap.size wa w6) := hid ((zAA wa _).trans (ho6.below (by rw [HDD.out]; exact Nat.le_refl _))); have H6 : Hid (Bk w6 D 38 #[.string (mk xp), .int .i64 xg, .int .i64 xs]) := hid (by rw [← HVO.out]; exact h6); clear h6 ho6))
   have HB56 : Hid (Below w5.heap.size w5 w6) := hid (HB.out.trans (HB6.out.mono HB.out.size))
   have HH6 : Hid (Bk w6 Hh 136 #[.nilFunc, .slice ra kn rc]) := hid (H5.out.below HB56.out)
   go_wp2_with (first
    | (refine zA2 zBd rfl (.tmp 7) rfl D rfl _ rfl H6.out ?_)
    | (refine zA2 zBW rfl (.tmp 4) rfl Hh rfl _ rfl HH6.out ?_))
   refine (HOPR.out D xp xg xs sh w6 HSH.out HPK.out HB56.out H6.out).mono ?_
   obtain ⟨S, hS⟩ : ∃ S, S = stepsV z L (xp, xg, xs) (itemsL sh) true := ⟨_, rfl⟩
   rw [← hS] at HFK ⊢
   obtain ⟨sl, hsl⟩ : ∃ s, s = S.length := ⟨_, rfl⟩
   have HSL := hid hsl
   rw [← hsl]
   rintro e w7 ⟨qa, qc, rfl, hsw, hb7⟩
   have HSW := hid hsw
   have HB7 : Hid (Below w5.heap.size w5 w7) := hid (HB56.out.trans (hb7.mono HB56.out.size))
   have HF7 := hid ((HFS.out.below HB6.out).below hb7)
   clear hsw hb7 hS hsl
   have hm3 : m ≤ 2000 := by have := HMK.out; omega
   go_wp2_with (at_builtin; refine zAL rfl (.tmp 31) (.tmp 36) 86 rfl 138 G 1 24 _ Tryz.underlying86 zJL rfl (by omega) a' m c' (slC R) rfl (HF7.out.own.alloc _) _ _ _ [.slice qa sl qc] rfl (Vs.lit (k := 1) (xs := [.slice qa sl qc]) _ _ rfl rfl rfl) (by intro u hu; rw [List.mem_singleton.1 hu]; rfl) (by unfold maxLen; omega) (by omega) (by have := HB7.out.size; have := HGE.out; simp; omega) ?_; intro a9 c9 w9 hO9 hG9 hb9 _; have HO9 := hid hO9; have HK9 : Hid (Kt tFm w7 w9) := hid ((Kt.below (zAA w7 _)).trans (Kt.grown (HF7.out.own.alloc _) rfl hG9)); have HB9 : Hid (Below w5.heap.size w5 w9) := hid ((HB7.out.alloc HB7.out.size _).trans (hb9.mono (by have := HGE.out; omega))); clear hO9 hG9 hb9)
   have HF9 := hid (HF7.out.snoc (r := ⟨qa, sl, qc⟩) HK9.out (by show sl = _; rw [HMK.out, HFK.out, HSL.out]) (by rw [HMK.out, HFK.out]; exact HSW.out) HO9.out)
   go_roundw
   case rel => exact ⟨a9, c9, m + 1, _, k + 1, rfl, by go_num, by omega, hid (by rw [HMK.out]), HF9, HB9⟩
   case measure => simp [intOf]; omega
  ·obtain rfl : k = n := by omega
   have hltI : ¬ (k : Int) < (k : Int) := by omega
   go_wp2
   go_ret
   have hfl : m = (FVw z L).length := by rw [zCX, HMK.out, HLN.out]
   rw [← hfl]
   refine ⟨a', c', rfl, ?_, HBW5.out.trans (HB.out.mono HBW5.out.size)⟩
   have := HFS.out
   rw [hfl] at this
   exact this.fsv
end
section
open Go.RowKit
theorem zLX : ∀ P : List Nm, (sepL P).length ≤ 2 * P.length
 | [] => Nat.zero_le _
 | [p] => by simp [sepL]
 | p :: q :: P => by
  have := zLX (q :: P)
  show (p :: [] :: sepL (q :: P)).length ≤ _
  simp only [List.length_cons] at this ⊢
  omega
theorem zLY (o : OP) : (itemsO o).length ≤ 12 := by
 unfold itemsO
 cases hs : ofS o.1 with
 | none => exact Nat.zero_le _
 | some s =>
  obtain ⟨_, _, hsm, _⟩ := zCh hs
  have h4 : s.P.length ≤ 4 := by
   refine Nat.le_of_not_lt fun hcc => ?_
   rw [zFN hcc] at hsm; cases hsm
  have := zLX s.P
  show (itemsL s).length ≤ 12
  unfold itemsL
  rw [List.length_append, List.length_append]
  have k1 : ∀ b : Bool, (if b = true then [([] : Nm)] else []).length ≤ 1 := fun b => by cases b <;> simp
  have := k1 s.l
  have := k1 s.r
  omega
theorem zFu (z : List Int) (L : List OP) (f : Nat) : (fA (FVw z L) f).S.length ≤ 100 := by
 obtain ⟨q, rfl | rfl | rfl⟩ : ∃ q, f = 0 ∨ f = 1 ∨ f = q + 2 := ⟨f - 2, by omega⟩
 ·show ([_] : List Sd).length ≤ 100
  simp
 ·show ([_, _, _] : List Sd).length ≤ 100
  simp
 ·by_cases hq : q < L.length
  ·rw [zCw z L hq]
   show (stepsV z L (opA L q) (itemsO (opA L q)) true).length ≤ 100
   rw [zDF]
   have := zLY (opA L q)
   omega
  ·have : fA (FVw z L) (q + 2) = ⟨0, [], 0, ([], 0, 0), []⟩ := by
    unfold fA
    rw [List.getD_eq_getElem?_getD, List.getElem?_eq_none (by rw [zCX]; omega)]
    rfl
   rw [this]
   exact Nat.zero_le _
theorem zDi (n : Nat) : (allV n).length = n + 1 := by unfold allV; rw [List.length_range']
theorem zGq (z : List Int) (O : List OP) (o : OP) : ∀ (I : List Nm) (first : Bool) (K : List Nat), .ho K ∈ stepsV z O o I first → K.length ≤ O.length + 1
 | [], _, K, h => by cases h
 | x :: r, first, K, h => by
  rw [stepsV] at h
  rcases List.mem_cons.1 h with h | h
  ·split at h
   ·cases h
    split
    ·have := List.length_filter_le (fun j => j == 1 || fitsB z o (opA O (j - 2)) (!first)) (allV O.length)
     rw [zDi] at this
     exact this
    ·rw [zDi]; exact Nat.le_refl _
   ·cases h
  ·exact zGq z O o r false K h
theorem zN0 (z : List Int) (L : List OP) (x : IT) : (kdsF (FVw z L) x).length ≤ L.length + 1 := by
 unfold kdsF
 split
 ·rename_i K r h
  have hm := (zAf h).2.2.2
  obtain ⟨q, hq⟩ : ∃ q, x.1 = 0 ∨ x.1 = 1 ∨ x.1 = q + 2 := ⟨x.1 - 2, by omega⟩
  rcases hq with h0 | h0 | h0
  ·rw [h0, zK8] at hm
   simp only [rwV, List.mem_cons, Sd.ho.injEq, List.not_mem_nil, or_false] at hm
   rw [hm, zDi]; exact Nat.le_refl _
  ·rw [h0, zGe] at hm
   simp only [brV, List.mem_cons, Sd.ho.injEq, reduceCtorEq, false_or, or_false, List.not_mem_nil] at hm
   rw [hm, zDi]; exact Nat.le_refl _
  ·by_cases hq : q < L.length
   ·rw [h0, zCw z L hq] at hm
    exact zGq z L _ _ _ _ hm
   ·have : fA (FVw z L) (q + 2) = ⟨0, [], 0, ([], 0, 0), []⟩ := by
     unfold fA
     rw [List.getD_eq_getElem?_getD, List.getElem?_eq_none (by rw [zCX]; omega)]
     rfl
    rw [h0, this] at hm
    cases hm
 ·exact Nat.zero_le _
theorem zP1 {L : List OP} (h : ∀ o ∈ L, ∃ s, ofS o.1 = some s) : OV L = L := List.filter_eq_self.2 fun o ho => by
 obtain ⟨s, hs⟩ := h o ho
 rw [hs]; rfl
theorem zPA {L : List OP} {z : List Int} {tok : List TK} {F : List FD} {n : Nat} (h : ∀ f s a d r, It L z tok F n f s a → n < tok.length → (fA F f).S.drop s = d :: r → letsB L z d (tat tok n) ≠ true) : ¬ ∃ f s a, It L z tok F (n + 1) f s a := by
 rintro ⟨f, s, a, hi⟩
 exact zNu (at_ := n + 1) (I := fun _ _ _ => False) (fun e => by cases e) (fun n' f s a d r e hi hl hd hls => by
  obtain rfl : n = n' := by omega
  exact h f s a d r hi hl hd hls) (fun _ _ _ _ _ _ h => h.elim) (fun _ _ _ _ _ _ _ h => h.elim) f s a hi
section
variable {ops : Array Oper} {rest : List Oper} {o : Oper} {A : Act} {w : World} {Q : Exit → Act → World → Prop}
theorem zEg (hgd : o.guard = none) (p : Operand) (ho : o.op = .buildSlice 94 1 #[(0, p)]) (x : IT) (hx : A.eval p = .agg (itA x))
  (kk : ∀ w' g, OwnV 0 93 3 w' (some ⟨g, 0, none⟩) 1 1 (itC [x]) → Below w.heap.size w w' → wpList Tryz.prog ops Q rest (A.put o.dst (.slice (some ⟨g, 0, none⟩) 1 1)) w') : wpList Tryz.prog ops Q (o :: rest) A w :=
 wpList_plain hgd fun K hK => by
  have h := kk (w.alloc (.cells (itA x) 93)) w.heap.size ⟨by rw [itC_one]; rfl, .inr ⟨w.heap.size, 1, itA x, rfl, Nat.zero_le _, heap_alloc_new w _, Nat.le_refl _, by decide, rfl, by rw [itC_one]; rfl⟩⟩ (zAA w _)
  have hr := zDJ w x
  unfold Oper.wp execOp
  simp only [ho, List.map_toArray, List.map_cons, List.map_nil, hx, hr, Sem.run_bind, Result.andThen_ok, Sem.run_pure]
  exact hK _ _ h
end
set_option maxRecDepth 100000 in
set_option maxHeartbeats 32000000 in
theorem zAY (z : List Int) (hz : z.length = 10) (hr : ∀ i, i < 10 → I64 (bt z i)) (ea : Option Addr) (en ec : Nat) (L : List OP) (la : Option Addr) (ln lc : Nat) (tok : List TK) (w : World) (ht : Tab w) (hL : OpS w ea en ec L) (hS : Srt L) (hn : en ≤ 16) (hs : ∀ o ∈ L, ∃ s, ofS o.1 = some s) (hp : ∀ o ∈ L, o.1.length ≤ 1000000) (hl : Ts w la ln lc tok) (hln : ln ≤ 90) :
  Calls Tryz.prog 20 #[.agg (ev ea en ec z), .slice la ln lc] w fun e w' => ∃ n : Nat, e = .returned (.int .i64 (n : Int)) ∧ LonP L z tok n ∧ Below w.heap.size w w' := by
 have HT := hid ht
 have HOL := hid hL
 have HS := hid hs
 have HP := hid hp
 have HTL := hid hl
 have HZ := hid hz
 have HR10 := hid hr
 have HLN : Hid (tok.length = ln) := hid hl.hl
 have HL16 : Hid (L.length ≤ 16) := hid (by rw [OpS.len hL]; exact hn)
 obtain ⟨F, hF⟩ : ∃ F, F = FVw z L := ⟨_, rfl⟩
 have HFE := hid hF
 have HG : Hid (GoodV L z F) := hid (by
  have := zO1 (L := L) (z := z) (zEP hS)
  rw [zP1 hs] at this
  rw [hF]; exact this)
 have HFN : Hid (F.length ≤ 100) := hid (by rw [hF, zCX]; have := HL16.out; omega)
 obtain ⟨E, hE⟩ : ∃ B, B = w.heap.size := ⟨_, rfl⟩
 obtain ⟨w1, hw1⟩ : ∃ w1, w1 = w.alloc (.cells (ev ea en ec z) 34) := ⟨_, rfl⟩
 have HE1 : Hid (EB w1 E ea en ec z) := hid (by rw [hw1, hE]; exact EB.new w ea en ec z)
 have HB1 : Hid (Below w.heap.size w w1) := hid (by rw [hw1]; exact zAA w _)
 clear ht hL hS hs hp hl hz hr
 go_enter Tryz.func20, Tryz.ntmps20
 go_upto_region 1 with fail
 rw [← hw1, ← hE]
 clear hw1 hE
 go_wp2_with (refine zAS rfl (.tmp 2) rfl E rfl ea en ec z HZ.out HE1.out ?_)
 refine (zJT z HZ.out HR10.out ea en ec L w1 (HT.out.keep HB1.out) (HOL.out.below HB1.out) (by omega) HS.out HP.out).mono ?_
 rw [← hF]
 rintro e wf ⟨fa, fc, rfl, hfs, hbf⟩
 have HFS := hid hfs
 have HB0 : Hid (Below w.heap.size w wf) := hid (HB1.out.trans (hbf.mono HB1.out.size))
 have HEF := hid (EB.below HE1.out hbf)
 have HTF := hid (HT.out.keep HB0.out)
 have HOF := hid (HOL.out.below HB0.out)
 have HLF := hid (HTL.out.below HB0.out)
 obtain ⟨fn, hfn⟩ : ∃ n, n = F.length := ⟨_, rfl⟩
 have HFNE := hid hfn
 obtain ⟨W, hW⟩ : ∃ O, O = wf.heap.size := ⟨_, rfl⟩
 have HWW := hid hW
 rw [← hfn]
 clear hfs hbf hfn hW hF HE1 HB1
 go_upto_region 2 with (refine zAn zO3 rfl (.tmp 5) (.tmp 11) rfl W (by rw [HWW.out]; rfl) (wkA fa fn fc none 0 0) rfl rfl (by kernel_rfl) #[.slice none 0 0, .slice none 0 0] rfl (by rw [HWW.out]; exact Bk.new wf _ _) ?_; rw [← HWW.out]; intro w2 h2 ho2; have H2 := hid h2; have HB2 : Hid (Below wf.heap.size wf w2) := hid ((zAA wf _).trans (ho2.below (by rw [HWW.out]; exact Nat.le_refl _))); clear h2 ho2)
 go_wp2_with (refine zEg rfl (.tmp 12) rfl (0, 0, 0) rfl ?_; intro w3 g3 hv3 hb3; have HV3 := hid hv3; have HB3 := hid hb3; clear hv3 hb3)
 have HB23 : Hid (Below wf.heap.size wf w3) := hid (HB2.out.trans (HB3.out.mono HB2.out.size))
 have HWK3 : Hid (WkS wf.heap.size w3 W fa F.length fc none 0 [] [] []) := hid ⟨by rw [← HFNE.out]; exact H2.out.below HB3.out, OwnV.none0, rfl, rfl, (fun i hi => by cases hi), by rw [HWW.out]; exact Nat.le_refl _⟩
 refine (zGm (tok := tok) HG.out HFN.out (fun f _ => by rw [HFE.out]; exact zFu z L f) (fun x => by rw [HFE.out]; have := zN0 z L x; have := HL16.out; omega) wf fa fc HFS.out W none 0 [] [] [] (some ⟨g3, 0, none⟩) 1 1 [(0, 0, 0)] w3 HWK3.out HB23.out HV3.out (by omega) (by simp) (fun i hi => by cases hi) (fun x hx => by rw [List.mem_singleton.1 hx]; exact .start) (fun _ => List.mem_singleton.2 rfl) (fun n' f s a d r e => by cases e)).mono ?_
 rintro e4 w4 ⟨rfl, p4, I4, A4, pa4, pc4, hwk, hps, hb4⟩
 have HW4 := hid hwk
 have HP4 := hid hps
 have HB4 : Hid (Below wf.heap.size wf w4) := hid (HB23.out.trans hb4)
 have HFN' := HFN
 clear hwk hps hb4 HV3 HB3 HWK3 H2 HB2 HB23
 go_wp2
 go_loopw [17] (fun v wr => ∃ (i : Nat) (pa : Option Addr) (pc : Nat) (Ps : List Nat) (Is : List (List IT)) (As : List (List (List IT))), v = .int .i64 (i : Int) ∧ i ≤ ln ∧ Hid (Ps.length = i + 1) ∧ Hid (WkS wf.heap.size wr W fa F.length fc pa pc Ps Is As) ∧ Hid (∀ j, j ≤ i → PlS L z tok F j (Is.getD j []) (As.getD j [])) ∧ Hid (∃ f s a, It L z tok F i f s a) ∧ Hid (Below wf.heap.size wf wr)) (fun v _ => ln - (intOf v).toNat)
 case atStart => exact ⟨0, pa4, pc4, [p4], [I4], [A4], rfl, Nat.zero_le _, hid rfl, HW4, hid (fun j hj => by (obtain rfl : j = 0 := by omega); exact HP4.out), hid ⟨0, 0, 0, .start⟩, HB4⟩
 case round =>
  rename World => wa
  obtain ⟨i, pa, pc, Ps, Is, As, rfl, hi, HPS, HWK, HSE, HNE, HB⟩ := hrel
  have hi0 : (0 : Int) ≤ (i : Int) := Int.natCast_nonneg _
  by_cases hlt : i < ln
  ·have hltI : (i : Int) < (ln : Int) := by omega
   have hts := HLF.out.below HB.out
   obtain ⟨tb, to_, rfl, c0, c1, c2, c3, c4⟩ := zIa hts hlt
   obtain ⟨t, hte⟩ : ∃ t, t = tat tok i := ⟨_, rfl⟩
   have HTE := hid hte
   rw [← hte] at c0 c1 c2 c3 c4
   obtain ⟨VT, hvt⟩ : ∃ V : Array Value, V = #[.int .i64 t.k, .int .i64 t.f, .int .i64 t.t, .string (mk (txN t)), .int .i64 t.e] := ⟨_, rfl⟩
   have HVT := hid hvt
   have HCS : Hid (∀ j, j < 5 → wa.cell? ⟨tb, to_ + i * 5 + j, none⟩ = VT[j]?) := hid fun j hj => by
    rw [hvt]
    have h5 : j = 0 ∨ j = 1 ∨ j = 2 ∨ j = 3 ∨ j = 4 := by omega
    rcases h5 with rfl | rfl | rfl | rfl | rfl
    ·exact c0
    ·exact c1
    ·exact c2
    ·exact c3
    ·exact c4
   obtain ⟨D, hD⟩ : ∃ D, D = wa.heap.size := ⟨_, rfl⟩
   have HDD := hid hD
   clear hts hte hvt hD c0 c1 c2 c3 c4
   go_upto_region 6 with (first
    | (refine zCI zBJ rfl (.tmp 20) rfl tb (to_ + i * 5) rfl VT (by rw [HVT.out]; rfl) HCS.out ?_)
    | (refine zAn zBJ rfl (.tmp 7) (.tmp 21) rfl D (by rw [HDD.out]; rfl) VT rfl (by rw [HVT.out]; rfl) (by rw [HVT.out]; kernel_rfl) #[.int .i64 0, .int .i64 0, .int .i64 0, .string ⟨#[]⟩, .int .i64 0] rfl (by rw [HDD.out]; exact Bk.new wa _ _) ?_; rw [← HDD.out]; intro w5 h5 ho5; have HB5 : Hid (Below wa.heap.size wa w5) := hid ((zAA wa _).trans (ho5.below (by rw [HDD.out]; exact Nat.le_refl _))); have H5 : Hid (Bk w5 D 51 #[.int .i64 t.k, .int .i64 t.f, .int .i64 t.t, .string (mk (txN t)), .int .i64 t.e]) := hid (by rw [← HVT.out]; exact h5); clear h5 ho5))
   have HBF5 : Hid (Below wf.heap.size wf w5) := hid (HB.out.trans (HB5.out.mono HB.out.size))
   have HE5 := hid (EB.below HEF.out HBF5.out)
   have HW5 := hid (HWK.out.below HB5.out)
   obtain ⟨II, hII⟩ : ∃ I, I = Is.getD i [] := ⟨_, rfl⟩
   have HII := hid hII
   clear hII
   obtain ⟨al, hal⟩ : ∃ b, b = leafB t.k (freeB L z (txN t)) := ⟨_, rfl⟩
   have HALE := hid hal
   have HQ : Hid (∀ u, Below w5.heap.size w5 u → Bk u D 51 #[.int .i64 t.k, .int .i64 t.f, .int .i64 t.t, .string (mk (txN t)), .int .i64 t.e] ∧ EB u E ea en ec z) := hid fun u hu => ⟨H5.out.below hu, EB.below HE5.out hu⟩
   clear hal HCS HVT HDD
   refine wp_region_noPanic ?_
   refine wp_region_held_drew (S := fun u => Bk u D 51 #[.int .i64 t.k, .int .i64 t.f, .int .i64 t.t, .string (mk (txN t)), .int .i64 t.e] ∧ EB u E ea en ec z) (by kernel_rfl) (HQ.out _ (Below.refl _ _).drew) (fun hHeld => ?_)
   refine zT 0 (v := .agg #[.int .i64 t.k, .int .i64 t.f, .int .i64 t.t, .string (mk (txN t)), .int .i64 t.e]) rfl (fun w0 h0 => zBc zBJ (.tmp 7) D rfl _ rfl h0.1) ?_
   try simp only [Act.put, aS, aZ, aC]
   refine zAh (i := 1) (oi := { dst := some 23, op := Op.load 34 (Operand.tmp 2), type := 34, pos := "viable.go:55", after := #[], guard := none }) (Operand.tmp 2) rfl (by kernel_rfl) (by kernel_rfl) (by kernel_rfl) ea en ec (z) (fun _ _ _ h => h) (by rfl) rfl (E) rfl (HZ.out) (fun w h => h.2) (by assumption) ?_
   try simp only [Act.put, aS, aZ, aC]
   refine zT 2 (v := .agg #[.int .i64 t.k, .int .i64 t.f, .int .i64 t.t, .string (mk (txN t)), .int .i64 t.e]) rfl (fun w0 h0 => zBc zBJ (.tmp 7) D rfl _ rfl h0.1) ?_
   try simp only [Act.put, aS, aZ, aC]
   refine zR [3] ?_
   refine hDo rfl (fun K hK => ?_) ?_
   ·go_simp
    (go_at_call 42; (with_reducible refine (zKk ea en ec L z t.k t.f t.t (txN t) t.e w5.drew (HTF.out.keep (HBF5.out.trans ((Below.refl w5.heap.size w5).drew.mono HBF5.out.size))) (HOF.out.below (HBF5.out.trans ((Below.refl w5.heap.size w5).drew.mono HBF5.out.size))) HZ.out (by omega) HP.out).mono ?_); rintro e6 w6 ⟨rfl, hb6⟩)
    have HB56 : Hid (Below w5.heap.size w5 w6) := hid ((Below.refl w5.heap.size w5).drew.trans (hb6.mono (Below.refl w5.heap.size w5).drew.size))
    clear hb6
    rw [← HALE.out]
    refine hK.out _ _ (HQ.out _ HB56.out) (fun hHeld => ?_)
    clear hK K
    try simp only [Act.put, aS, aZ, aC]
    refine zR [4] ?_
    refine hDo rfl (fun K hK => ?_) ?_
    ·go_simp
     (go_at_call 41; (with_reducible refine (zLQ F wf fa fc HFS.out W pa pc Ps Is As t al w6 (HW5.out.below HB56.out) (HBF5.out.trans (HB56.out.mono HBF5.out.size)) i HPS.out (by rw [HPS.out]; omega) II HII.out.symm (by rw [HII.out]; exact (HSE.out i (Nat.le_refl _)).li) (fun x hx => by rw [HII.out] at hx; obtain ⟨_, _, q1, q2, _⟩ := zAu HG.out (((HSE.out i (Nat.le_refl _)).it x.1 x.2.1 x.2.2).1 hx); exact ⟨q1, q2⟩) HG.out.ne (fun f _ => by rw [HFE.out]; exact zFu z L f)).mono ?_); obtain ⟨PL, hPL⟩ : ∃ Y, Y = pastL F t al II := ⟨_, rfl⟩; have HPLE := hid hPL; rw [← hPL]; obtain ⟨pn, hpn⟩ : ∃ m, m = PL.length := ⟨_, rfl⟩; have HPN := hid hpn; rw [← hpn]; have HPI : Hid (pn ≤ 2000000) := hid (by rw [hpn, hPL, HII.out]; exact Nat.le_trans (zGn ..) (HSE.out i (Nat.le_refl _)).li); clear hPL hpn; rintro e7 wP ⟨pb, pcc, rfl, hop, hb7⟩)
     have HOP := hid hop
     have HB57 : Hid (Below w5.heap.size w5 wP) := hid (HB56.out.trans (hb7.mono HB56.out.size))
     clear hop hb7
     refine hK.out _ _ (HQ.out _ HB57.out) (fun hHeld => ?_)
     clear hK K
     try simp only [Act.put, aS, aZ, aC]
     refine zG 5 rfl ?_
     try simp only [Act.put, aS, aZ, aC]
     refine wpAnyH_done (by kernel_rfl) ?_ _
     refine NoPanic.normal ?_
     have HBFP : Hid (Below wf.heap.size wf wP) := hid (HBF5.out.trans (HB57.out.mono HBF5.out.size))
     have HBP := HBFP
     have HWP := hid (HW5.out.below HB57.out)
     by_cases hp0 : pn = 0
     ·have hpe : ((pn : Int) == 0) = true := by simp [hp0]
      go_wp2
      go_ret
      have hnil : PL = [] := List.eq_nil_of_length_eq_zero (by rw [← HPN.out]; exact hp0)
      refine ⟨i, rfl, zIg (by rw [HLN.out]; omega) ((zO2 HG.out (by rw [HLN.out]; omega)).2 HNE.out) (fun _ hv => ?_), HB0.out.trans (HBP.out.mono HB0.out.size)⟩
      refine zPA (n := i) (F := F) (fun f s a' d r hi hl hd hls => ?_) ((zO2 HG.out (by rw [HLN.out]; omega)).1 hv)
      have hm : nexI (f, s, a') ∈ PL := by
       rw [HPLE.out, HII.out]
       exact zC2.2 ⟨(f, s, a'), ((HSE.out i (Nat.le_refl _)).it f s a').2 hi, d, r, hd, by rw [HALE.out, HTE.out, ← zCy]; exact hls, rfl⟩
      rw [hnil] at hm
      cases hm
     ·have hpe : ((pn : Int) == 0) = false := by simp [hp0]
      have hnx : ∃ f s a', It L z tok F (i + 1) f s a' := by
       obtain ⟨y, hy⟩ : ∃ y, y ∈ PL := by
        cases hPL : PL with
        | nil => have := HPN.out; rw [hPL] at this; exact absurd this hp0
        | cons y Y => exact ⟨y, List.mem_cons_self ..⟩
       rw [HPLE.out, HII.out] at hy
       obtain ⟨x, hx, d, r, hd, hl, rfl⟩ := zC2.1 hy
       exact ⟨_, _, _, .scan (((HSE.out i (Nat.le_refl _)).it x.1 x.2.1 x.2.2).1 hx) (by rw [HLN.out]; exact hlt) hd (by rw [zCy, ← HTE.out, ← HALE.out]; exact hl)⟩
      have HNX := hid hnx
      clear hnx
      go_wp2_with fail
      refine (zGm (tok := tok) HG.out HFN.out (fun f _ => by rw [HFE.out]; exact zFu z L f) (fun x => by rw [HFE.out]; have := zN0 z L x; have := HL16.out; omega) wf fa fc HFS.out W pa pc Ps Is As pb pn pcc PL wP (HWP.out) (HBFP.out) (HOP.out.weaken (Nat.zero_le _)) HPI.out (by rw [HPS.out]; omega) (fun j hj => HSE.out j (by rw [HPS.out] at hj; omega)) (fun x hx => ?_) (fun e => by rw [HPS.out] at e; cases e) (fun n' f s a' d r e hi hl hd hls => ?_)).mono ?_
      ·rw [HPLE.out, HII.out] at hx
       obtain ⟨y, hy, d, r, hd, hl, rfl⟩ := zC2.1 hx
       rw [HPS.out]
       exact .scan (((HSE.out i (Nat.le_refl _)).it y.1 y.2.1 y.2.2).1 hy) (by rw [HLN.out]; exact hlt) hd (by rw [zCy, ← HTE.out, ← HALE.out]; exact hl)
      ·obtain rfl : i = n' := by rw [HPS.out] at e; omega
       rw [HPLE.out, HII.out]
       exact zC2.2 ⟨(f, s, a'), ((HSE.out i (Nat.le_refl _)).it f s a').2 hi, d, r, hd, by rw [HALE.out, HTE.out, ← zCy]; exact hls, rfl⟩
      rintro e9 w9 ⟨rfl, p9, I9, A9, pa9, pc9, hwk, hps, hb9⟩
      have HW9 := hid hwk
      have HP9 := hid hps
      have HB9 := hid hb9
      clear hwk hps hb9
      go_wp2
      go_roundw
      case rel =>
       refine ⟨i + 1, pa9, pc9, Ps ++ [p9], Is ++ [I9], As ++ [A9], by go_num, by omega, hid (by rw [List.length_append, HPS.out]; rfl), HW9, hid fun j hj => ?_, HNX, hid ?_⟩
       ·have hil := HWP.out.il
        have hal := HWP.out.al
        by_cases hji : j ≤ i
        ·have e2 : (Is ++ [I9]).getD j [] = Is.getD j [] := by simp [List.getD, List.getElem?_append_left (show j < Is.length by rw [hil, HPS.out]; omega)]
         have e3 : (As ++ [A9]).getD j [] = As.getD j [] := by simp [List.getD, List.getElem?_append_left (show j < As.length by rw [hal, HPS.out]; omega)]
         rw [e2, e3]
         exact HSE.out j hji
        ·obtain rfl : j = i + 1 := by omega
         have e2 : (Is ++ [I9]).getD (i + 1) [] = I9 := by rw [show i + 1 = Is.length by rw [hil, HPS.out]]; simp [List.getD]
         have e3 : (As ++ [A9]).getD (i + 1) [] = A9 := by rw [show i + 1 = As.length by rw [hal, HPS.out]]; simp [List.getD]
         rw [e2, e3]
         have := HP9.out
         rw [HPS.out] at this
         exact this
       ·exact HBFP.out.trans HB9.out
      case measure => simp [intOf]; omega
    ·exact AllReadyH.nil
   ·exact AllReadyH.nil
  ·obtain rfl : i = ln := by omega
   have hltI : ¬ (i : Int) < (i : Int) := by omega
   go_wp2
   go_ret
   exact ⟨i, rfl, zIg (by rw [HLN.out]; exact Nat.le_refl _) ((zO2 HG.out (by rw [HLN.out]; exact Nat.le_refl _)).2 HNE.out) (fun h => by rw [HLN.out] at h; omega), HB0.out.trans (HB.out.mono HB0.out.size)⟩
end
section
open Go.RowKit
end
end Go.Proofs.YtcjbhdgjcpnklaaGreatDoor
