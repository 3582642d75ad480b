import Derived.Test.YtcjbhdgjcpnklaaGreatDoorN14
namespace Go.Proofs.YtcjbhdgjcpnklaaGreatDoor
open Go.RowKit
structure KW (x : SR) (w : World) (B a b C D : Nat) (va : FV) (na : Option Addr) (nc i : Nat) (u : World) : Prop where
 bx : Bk u B 78 (srA x)
 br : Bk u (B + 1) 80 (fdA 0 none 0 0)
 ba : Bk u C 80 (fdA va.1 na va.2.length nc)
 na : NdS u na va.2.length nc va.2
 bd : N5 u D (ndF (fA x.F i) a b)
 mi : MI u x
 kx : Kx x.M w u
theorem KW.mv {x : SR} {w : World} {B a b C D : Nat} {va : FV} {na : Option Addr} {nc i : Nat} {u u' : World} (h : KW x w B a b C D va na nc i u) (hk : Kx x.M u u') (hm : MI u' x) : KW x w B a b C D va na nc i u' :=
 ⟨h.bx.kx hk h.mi.isMap, h.br.kx hk h.mi.isMap, h.ba.kx hk h.mi.isMap, h.na.kx hk h.mi.isMap, h.bd.kx hk h.mi.isMap, hm, h.kx.trans hk⟩
theorem zRq {ops : Array Oper} {o : Oper} {A : Act} {w : World} {K : Act → World → Prop} {Q : Exit → Act → World → Prop} {E : Prop} (hgd : o.guard = none) (p : Operand) (ho : o.op = .buildSlice 42 1 #[(0, p)]) (y : ND) (hx : A.eval p = .agg (ndA y))
  (k : ∀ w' g, NdS w' (some ⟨g, 0, none⟩) 1 1 [y] → Below w.heap.size w w' → K (A.put o.dst (.slice (some ⟨g, 0, none⟩) 1 1)) w') : if Region.wanted o (yielded ops A.tmps) = true then o.wp Tryz.prog A w K Q else E := by
 rw [if_pos (show Region.wanted o (yielded ops A.tmps) = true by simp [Region.wanted, hgd])]
 have h := k (w.alloc (.cells (ndA y) 85)) w.heap.size (zTP w y rfl) (zAA w _)
 have hr : (Instr.buildSlice 42 1 #[(0, .agg (ndA y))]).run Tryz.prog w = .ok (.slice (some ⟨w.heap.size, 0, none⟩) 1 1) (w.alloc (.cells (ndA y) 85)) := by
  obtain ⟨k, n, f, t, c⟩ := y
  kernel_rfl
 unfold Oper.wp execOp
 simp only [ho, List.map_toArray, List.map_cons, List.map_nil, hx, hr, Sem.run_bind, Result.andThen_ok, Sem.run_pure]
 exact h
theorem zRG (nd : ND) (my : Nat) (ly : List ND) (a : Option Addr) (c : Nat) (a' : Option Addr) (c' : Nat) (w : World) (hx : NdS w a 1 c [nd]) (hy : NdS w a' ly.length c' ly) (hsz : ly.length ≤ 1000000) :
  Calls Tryz.prog 66 #[.agg (fdA 1 a 1 c), .agg (fdA my a' ly.length c')] w fun e w' => FdP (andV (1, [nd]) (my, ly)) e w' ∧ Below w.heap.size w w' :=
 zSA (1, [nd]) (my, ly) a c a' c' w hx hy (by simp only [List.length_singleton]; omega)
set_option maxRecDepth 100000 in
set_option maxHeartbeats 16000000 in
theorem zTJ (x : SR) (hx : SOk x) (N : Nat) (HR0 : RestC x N) (K : List Nat) (ka : Option Addr) (kc a b : Nat) (w : World) (s : Sit w x) (hKv : ∀ i ∈ K, i < x.F.length) (hKN : K.Nodup) (hab : a ≤ b) (hb : b ≤ x.tn) (hN : 3 * (b - a) + 1 ≤ N) (hk : Vs 1 w ka K.length kc (intsK K)) :
  Calls Tryz.prog 37 #[.agg (srA x), .slice ka K.length kc, .int .i64 (a : Int), .int .i64 (b : Int)] w (RecP x w (KD x.L x.z x.tok x.F K a b)) := by
 have hfn : x.F.length = x.fn := s.fm.hl
 have ht6 := hx.tn
 have hf6 := hx.fn
 have hb6 : b ≤ 1000000 := by omega
 obtain ⟨kn, hkn⟩ : ∃ kn, kn = K.length := ⟨_, rfl⟩
 rw [← hkn] at hk ⊢
 have HKNN := hid hkn
 have hkc := hk.lc
 have hkm := hk.cm
 unfold maxLen at hkm
 obtain ⟨B, hB⟩ : ∃ B, B = w.heap.size := ⟨_, rfl⟩
 obtain ⟨w1, hw1⟩ : ∃ w1, w1 = w.alloc (.cells (srA x) 78) := ⟨_, rfl⟩
 obtain ⟨w2, hw2⟩ : ∃ w2, w2 = w1.alloc (.cells (fdA 0 none 0 0) 80) := ⟨_, rfl⟩
 have s1 : w1.heap.size = B + 1 := by rw [hw1, hB]; simp
 have HX2 : Hid (Bk w2 B 78 (srA x)) := hid (by rw [hw2, hw1, hB]; exact (Bk.new w _ _).alloc _)
 have HR2 : Hid (Bk w2 (B + 1) 80 (fdA 0 none 0 0)) := hid (by rw [hw2, ← s1]; exact Bk.new w1 _ _)
 have HBB := hid hB
 have HBW : Hid (Below w.heap.size w w2) := hid (by rw [hw2, hw1]; exact (zAA w _).alloc (by simp) _)
 have HLF := hid (zSd x hx a b hab hb w2 (s.below HBW.out))
 have hz : fdA 0 none 0 0 = #[.int .i64 0, .slice none 0 0] := rfl
 rw [hz] at hw2
 have HS := hid s
 have HOK := hid hx
 have HKV := hid hKv
 have HKN := hid hKN
 have HKK := hid hk
 have HNN := hid hN
 have HR1 := hid HR0
 have HFN := hid hfn
 have HZB := hid hb6
 have HBT := hid (show a ≤ b ∧ b ≤ x.tn from ⟨hab, hb⟩)
 clear s hKv hKN hk hkn hx hN hz HR0 hfn
 go_enter Tryz.func37, Tryz.ntmps37
 go_upto_region 1 with fail
 rw [← hw1]
 try rw [← hw2]
 rw [← hB]
 try rw [s1]
 clear hw1 hw2 s1 hB
 go_wp2_with (refine zA2 zQf rfl (.tmp 4) rfl B rfl (srA x) (zQj HOK.out.z) HX2.out ?_)
 refine HLF.out.mono ?_
 obtain ⟨vl, hvl⟩ : ∃ v, v = leafV x a b := ⟨_, rfl⟩
 rw [← hvl]
 have HVL := hid hvl
 clear hvl
 obtain ⟨ml, ll⟩ := vl
 rintro e w3 ⟨⟨nl, cl, rfl, hnl⟩, hb3⟩
 dsimp only at hnl ⊢
 have HNL := hid hnl
 have HB3 := hid hb3
 have HX3 := hid (HX2.out.below hb3)
 have HR3 := hid (HR2.out.below hb3)
 obtain ⟨C, hC⟩ : ∃ C, C = w3.heap.size := ⟨_, rfl⟩
 have HCC := hid hC
 have HC3 : Hid (Bk (w3.alloc (.cells #[.int .i64 0, .slice none 0 0] 80)) C 80 (fdA 0 none 0 0)) := hid (by rw [hC]; exact Bk.new w3 _ _)
 have HCB : Hid (B + 1 < C) := hid (by rw [hC]; exact HR3.out.lt)
 clear hnl hb3 hC
 go_upto_region 2 with (refine zAn zQc rfl (.tmp 9) (.tmp 16) rfl C (by rw [HCC.out]; rfl) (fdA ml nl ll.length cl) rfl rfl (zQe ..) (fdA 0 none 0 0) rfl HC3.out ?_; rw [← HCC.out]; intro w5 h5 ho5; have H5 := hid h5; have HB5 : Hid (Below w3.heap.size w3 w5) := hid ((zAA w3 _).trans (ho5.below (by rw [HCC.out]; exact Nat.le_refl _))); clear h5 ho5)
 have HBW5 : Hid (Below w.heap.size w w5) := hid (HBW.out.trans ((HB3.out.trans (HB5.out.mono HB3.out.size)).mono HBW.out.size))
 have HX5 := hid (HX3.out.below HB5.out)
 have HR5 := hid (HR3.out.below HB5.out)
 have HN5 := hid (HNL.out.below HB5.out)
 clear HX2 HR2 HX3 HR3 HC3 HB5 HB3 HNL HLF HCC
 go_wp2
 go_loopw [19] (fun v wr => ∃ k : Nat, ∃ va : FV, ∃ na nc, v = .int .i64 (k : Int) ∧ k ≤ kn ∧ Hid (Bk wr C 80 (fdA va.1 na va.2.length nc)) ∧ Hid (NdS wr na va.2.length nc va.2) ∧ Hid (Cn (KD x.L x.z x.tok x.F (K.take k) a b) va.1 va.2) ∧ Hid (MI wr x) ∧ Hid (Kx x.M w wr) ∧ Hid (Bk wr B 78 (srA x)) ∧ Hid (Bk wr (B + 1) 80 (fdA 0 none 0 0))) (fun v _ => kn - (intOf v).toNat)
 case atStart => exact ⟨0, (ml, ll), nl, cl, by go_num, Nat.zero_le _, H5, HN5, hid (zSV (ml, ll) (by rw [HVL.out]; rfl)), hid (HS.out.mi.below HBW5.out), hid (Kx.of HBW5.out), HX5, HR5⟩
 case round =>
  obtain ⟨k, ⟨m, l⟩, na, nc, rfl, hkk, HA, HNA, HCA, HMI, HKX, HX, HR⟩ := hrel
  dsimp only at HA HNA HCA
  by_cases hlt : k < kn
  ·have hvk := HKK.out.kx HKX.out HS.out.mi.isMap
   obtain ⟨kb, ko, rfl, _, hc⟩ := hvk.at_ (by omega)
   clear hc
   have ck := zTA hvk hlt
   obtain ⟨i, hi⟩ : ∃ i, i = K.getD k 0 := ⟨_, rfl⟩
   rw [← hi] at ck
   have hkK : k < K.length := by rw [← HKNN.out]; exact hlt
   have hiF : i < x.F.length := HKV.out i (by rw [hi]; simp [List.getD, hkK])
   have hifn : i < x.fn := by rw [← HFN.out]; exact hiF
   have HKS : Hid (∀ u y : FV, Cn (KD x.L x.z x.tok x.F (K.take k) a b) u.1 u.2 → Cn (DS x.L x.z x.tok x.F (fA x.F i).S a b) y.1 y.2 → Cn (KD x.L x.z x.tok x.F (K.take (k + 1)) a b) (orV u (andV (1, [ndF (fA x.F i) a b]) y)).1 (orV u (andV (1, [ndF (fA x.F i) a b]) y)).2) := hid fun u y h1 h2 => by
    rw [hi] at h2 ⊢
    exact zS5 HOK.out.g HKV.out HKN.out hkK h1 h2
   have HIF := hid hiF
   obtain ⟨fb, fo, hfa, _, hfm⟩ := (HS.out.fm.kx HKX.out HS.out.mi.isMap).at_ (by omega)
   obtain ⟨sa, sc, hc9, _⟩ := hfm i hifn
   have f0 : wr.cell? ⟨fb, fo + i * 9, none⟩ = some (.int .i64 (fA x.F i).k) := hc9 0 (by omega)
   have f1 : wr.cell? ⟨fb, fo + i * 9 + 1, none⟩ = some (.string (mk (fA x.F i).n)) := hc9 1 (by omega)
   have f2 : wr.cell? ⟨fb, fo + i * 9 + 2, none⟩ = some (.int .i64 0) := hc9 2 (by omega)
   have f3 : wr.cell? ⟨fb, fo + i * 9 + 3, none⟩ = some (.int .i64 0) := hc9 3 (by omega)
   have f4 : wr.cell? ⟨fb, fo + i * 9 + 4, none⟩ = some (.int .i64 (fA x.F i).c) := hc9 4 (by omega)
   have x12 : wr.cell? ⟨B, 12, none⟩ = some (.slice (some ⟨fb, fo, none⟩) x.fn x.fc) := by rw [HX.out.cell, (zRi HOK.out.z).2.1, hfa]
   obtain ⟨fd, hfd⟩ : ∃ fd, fd = fA x.F i := ⟨_, rfl⟩
   have HFD := hid hfd
   rw [← hfd] at f0 f1 f4
   have hltf : (i : Int) < (x.fn : Int) := by omega
   have hi0 : (0 : Int) ≤ (i : Int) := Int.natCast_nonneg _
   obtain ⟨D, hD⟩ : ∃ D, D = wr.heap.size := ⟨_, rfl⟩
   have HDD := hid hD
   have HD : Hid (C < D) := hid (by rw [hD]; exact HA.out.lt)
   clear hvk hi hkK hiF hfa hfm hc9 hfd hD hifn
   go_upto_region 7 with (first
    | (refine zS7 rfl (.tmp 12) (.tmp 28) rfl D (by rw [HDD.out]; rfl) ⟨fd.k, fd.n, 0, 0, fd.c⟩ rfl ⟨0, [], 0, 0, 0⟩ (by rw [HDD.out]; exact N5.zero wr) ?_; rw [← HDD.out]; intro w6 h6 ho6; have HB6 : Hid (Below wr.heap.size wr w6) := hid ((zAA wr _).trans (ho6.below (by rw [HDD.out]; exact Nat.le_refl _))); have H6 := hid h6; clear h6 ho6 f0 f1 f2 f3 f4 x12 ck)
    | (refine zS8 rfl (.tmp 31) (.tmp 29) rfl D rfl (a : Int) rfl fd.k fd.n 0 0 fd.c H6.out ?_; intro w7 h7 ho7; have HB7 : Hid (Below wr.heap.size wr w7) := hid (HB6.out.trans (ho7.below (by rw [HDD.out]; exact Nat.le_refl _))); have H7 := hid h7; clear h7 ho7)
    | (refine zS9 rfl (.tmp 32) (.tmp 30) rfl D rfl (b : Int) rfl fd.k fd.n (a : Int) 0 fd.c H7.out ?_; intro w8 h8 ho8; have HB8 : Hid (Below wr.heap.size wr w8) := hid (HB7.out.trans (ho8.below (by rw [HDD.out]; exact Nat.le_refl _))); have H8 := hid h8; clear h8 ho8))
   have HNF : Hid (N5 w8 D (ndF (fA x.F i) a b)) := hid (by rw [← HFD.out]; exact H8.out)
   have hf8 : KW x w B a b C D (m, l) na nc i w8 := ⟨HX.out.below HB8.out, HR.out.below HB8.out, HA.out.below HB8.out, HNA.out.below HB8.out, HNF.out, HMI.out.below HB8.out, HKX.out.bl HB8.out⟩
   have HF0 : Hid (KW x w B a b C D (m, l) na nc i w8.drew) := hid (hf8.mv (Kx.of (Below.refl _ _).drew) (hf8.mi.below (Below.refl _ _).drew))
   have KR : Hid (∀ u, KW x w B a b C D (m, l) na nc i u → Calls Tryz.prog 68 #[.agg (srA x), .agg (glA i 0 a b)] u (RecP x u (DS x.L x.z x.tok x.F (fA x.F i).S a b))) := hid fun u hu => by
    have := HR1.out i 0 a b u HIF.out (Nat.zero_le _) HBT.out.1 HBT.out.2 (by have := HNN.out; unfold rk; rw [if_pos rfl]; omega) (HS.out.kx hu.kx hu.mi)
    rwa [List.drop_zero] at this
   have KZ : Hid (∀ t, DS x.L x.z x.tok x.F (fA x.F i).S a b t → t.length ≤ 1000000) := hid fun t ht => by have := zQ8 _ _ _ _ ht; have := HZB.out; omega
   clear hf8 HB6 HB7 HB8 H6 H7 H8 HA HNA HX HR HKX HMI HDD HFD HNF
   try simp only [Act.put]
   go_cut [] from 20 to 48 (fun wx => ∃ va : FV, ∃ nv cv, Hid (Bk wx C 80 (fdA va.1 nv va.2.length cv)) ∧ Hid (NdS wx nv va.2.length cv va.2) ∧ Hid (Cn (KD x.L x.z x.tok x.F (K.take (k + 1)) a b) va.1 va.2) ∧ Hid (MI wx x) ∧ Hid (Kx x.M w wx) ∧ Hid (Bk wx B 78 (srA x)) ∧ Hid (Bk wx (B + 1) 80 (fdA 0 none 0 0)))
   case first =>
    refine wp_region_noPanic ?_
    refine wp_region_held_drew (S := fun u => Bk u B 78 (srA x) ∧ N5 u D (ndF (fA x.F i) a b)) (by kernel_rfl) (⟨HF0.out.bx, HF0.out.bd⟩) (fun hHeld => ?_)
    refine zT 1 (v := .agg (ndA (ndF (fA x.F i) a b))) rfl (fun w0 h0 => zBc zTm (.tmp 12) D rfl (ndA (ndF (fA x.F i) a b)) rfl h0.2) ?_
    try simp only [Act.put, aS, aZ, aC]
    refine zT 4 (v := .agg (srA x)) rfl (fun w0 h0 => zBc zQf (.tmp 4) B rfl (srA x) (zQj HOK.out.z) h0.1) ?_
    try simp only [Act.put, aS, aZ, aC]
    refine zG 5 rfl ?_
    try simp only [Act.put, aS, aZ, aC]
    refine zG 6 rfl ?_
    try simp only [Act.put, aS, aZ, aC]
    refine zG 7 rfl ?_
    try simp only [Act.put, aS, aZ, aC]
    refine zT 8 (v := .agg (glA i 0 a b)) rfl (fun w0 h0 => by kernel_rfl) ?_
    try simp only [Act.put, aS, aZ, aC]
    refine zR [0, 2] ?_
    refine hDo rfl (fun K hK => ?_) ?_
    ·refine zQg zQc rfl (.tmp 9) rfl C rfl (fdA m na l.length nc) rfl HF0.out.ba ?_
     refine hK.out _ _ (⟨HF0.out.bx, HF0.out.bd⟩) (fun hHeld => ?_)
     clear hK K
     try simp only [Act.put, aS, aZ, aC]
     refine zR [2] ?_
     refine hDo rfl (fun K hK => ?_) ?_
     ·refine zRq rfl (.tmp 34) rfl (ndF (fA x.F i) a b) rfl ?_
      intro w8 g8 hn8 hb8
      have HF8 : Hid (KW x w B a b C D (m, l) na nc i w8) := hid (HF0.out.mv (Kx.of hb8) (HF0.out.mi.below hb8))
      have HN8 := hid hn8
      clear hn8 hb8
      refine hK.out _ _ (⟨HF8.out.bx, HF8.out.bd⟩) (fun hHeld => ?_)
      clear hK K
      try simp only [Act.put, aS, aZ, aC]
      refine zR [3] ?_
      refine hDo rfl (fun K hK => ?_) ?_
      ·go_simp
       (go_at_call 67; (with_reducible refine (zQ5 (some ⟨g8, 0, none⟩) 1 1 _).mono ?_); rintro e9 w9 ⟨rfl, hb9⟩)
       have HF9 : Hid (KW x w B a b C D (m, l) na nc i w9) := hid (HF8.out.mv (Kx.of hb9) (HF8.out.mi.below hb9))
       have HN9 := hid (HN8.out.below hb9)
       clear hb9
       refine hK.out _ _ (⟨HF9.out.bx, HF9.out.bd⟩) (fun hHeld => ?_)
       clear hK K
       try simp only [Act.put, aS, aZ, aC]
       refine zR [9] ?_
       refine hDo rfl (fun K hK => ?_) ?_
       ·go_simp
        (go_at_call 68; (with_reducible refine (KR.out _ HF9.out).mono ?_); rintro e10 w10 ⟨⟨my, ly⟩, ⟨ny, cy, rfl, hny⟩, hcy, hmy, hky⟩)
        have HF10 : Hid (KW x w B a b C D (m, l) na nc i w10) := hid (HF9.out.mv hky hmy)
        have HN10 := hid hny
        have HC10 := hid hcy
        have HM10 := hid (HN9.out.kx hky HF9.out.mi.isMap)
        clear hny hcy hmy hky
        dsimp only at HN10 HC10 ⊢
        refine hK.out _ _ (⟨HF10.out.bx, HF10.out.bd⟩) (fun hHeld => ?_)
        clear hK K
        try simp only [Act.put, aS, aZ, aC]
        refine zR [10] ?_
        refine hDo rfl (fun K hK => ?_) ?_
        ·go_simp
         (go_at_call 66; (with_reducible refine (zRG (ndF (fA x.F i) a b) my ly (some ⟨g8, 0, none⟩) 1 ny cy _ HM10.out HN10.out (zQ0 HC10.out KZ.out)).mono ?_); rintro e11 w11 ⟨⟨nz, cz, rfl, hnz⟩, hb11⟩)
         have HF11 : Hid (KW x w B a b C D (m, l) na nc i w11) := hid (HF10.out.mv (Kx.of hb11) (HF10.out.mi.below hb11))
         have HN11 := hid hnz
         clear hnz hb11
         refine hK.out _ _ (⟨HF11.out.bx, HF11.out.bd⟩) (fun hHeld => ?_)
         clear hK K
         try simp only [Act.put, aS, aZ, aC]
         refine zR [11] ?_
         refine hDo rfl (fun K hK => ?_) ?_
         ·go_simp
          (go_at_call 65; (with_reducible refine (zRj (m, l) (andV (1, [ndF (fA x.F i) a b]) (my, ly)) na nc nz cz _ HF11.out.na HN11.out).mono ?_); rintro e12 w12 ⟨⟨nv, cv, rfl, hnv⟩, hb12⟩)
          have HF12 : Hid (KW x w B a b C D (m, l) na nc i w12) := hid (HF11.out.mv (Kx.of hb12) (HF11.out.mi.below hb12))
          have HN12 := hid hnv
          clear hnv hb12
          refine hK.out _ _ (⟨HF12.out.bx, HF12.out.bd⟩) (fun hHeld => ?_)
          clear hK K
          try simp only [Act.put, aS, aZ, aC]
          refine zR [12] ?_
          refine hDo rfl (fun K hK => ?_) ?_
          ·refine zQd zQc rfl (.tmp 9) (.tmp 44) rfl C rfl (fdA (orV (m, l) (andV (1, [ndF (fA x.F i) a b]) (my, ly))).1 nv (orV (m, l) (andV (1, [ndF (fA x.F i) a b]) (my, ly))).2.length cv) rfl rfl (zQe ..) (fdA m na l.length nc) rfl HF12.out.ba ?_
           intro w13 h13 ho13
           have H13 := hid h13
           have HO13 := hid ho13
           clear h13 ho13
           refine hK.out _ _ (⟨HF12.out.bx.only HO13.out (by have := HCB.out; omega), HF12.out.bd.only HO13.out (by have := HD.out; omega)⟩) (fun hHeld => ?_)
           clear hK K
           try simp only [Act.put]
           refine wpAnyH_done (by kernel_rfl) ?_ _
           refine NoPanic.normal ?_
           go_wp2
           go_meet
           exact ⟨(orV (m, l) (andV (1, [ndF (fA x.F i) a b]) (my, ly))), nv, cv, H13, hid (HN12.out.fnd HF12.out.ba HO13.out), hid (HKS.out (m, l) (my, ly) HCA.out HC10.out), hid (HF12.out.mi.found HF12.out.ba HO13.out), hid (HF12.out.kx.put HO13.out (by have := HCB.out; have := HBB.out; omega)), hid (HF12.out.bx.only HO13.out (by have := HCB.out; omega)), hid (HF12.out.br.only HO13.out (by have := HCB.out; omega))⟩
          exact AllReadyH.nil
         exact AllReadyH.nil
        exact AllReadyH.nil
       exact AllReadyH.nil
      exact AllReadyH.nil
     exact AllReadyH.nil
    refine hDo rfl (fun K hK => ?_) ?_
    ·refine zRq rfl (.tmp 34) rfl (ndF (fA x.F i) a b) rfl ?_
     intro w8 g8 hn8 hb8
     have HF8 : Hid (KW x w B a b C D (m, l) na nc i w8) := hid (HF0.out.mv (Kx.of hb8) (HF0.out.mi.below hb8))
     have HN8 := hid hn8
     clear hn8 hb8
     refine hK.out _ _ (⟨HF8.out.bx, HF8.out.bd⟩) (fun hHeld => ?_)
     clear hK K
     try simp only [Act.put, aS, aZ, aC]
     refine zR [0, 3] ?_
     refine hDo rfl (fun K hK => ?_) ?_
     ·refine zQg zQc rfl (.tmp 9) rfl C rfl (fdA m na l.length nc) rfl HF8.out.ba ?_
      refine hK.out _ _ (⟨HF8.out.bx, HF8.out.bd⟩) (fun hHeld => ?_)
      clear hK K
      try simp only [Act.put, aS, aZ, aC]
      refine zR [3] ?_
      refine hDo rfl (fun K hK => ?_) ?_
      ·go_simp
       (go_at_call 67; (with_reducible refine (zQ5 (some ⟨g8, 0, none⟩) 1 1 _).mono ?_); rintro e9 w9 ⟨rfl, hb9⟩)
       have HF9 : Hid (KW x w B a b C D (m, l) na nc i w9) := hid (HF8.out.mv (Kx.of hb9) (HF8.out.mi.below hb9))
       have HN9 := hid (HN8.out.below hb9)
       clear hb9
       refine hK.out _ _ (⟨HF9.out.bx, HF9.out.bd⟩) (fun hHeld => ?_)
       clear hK K
       try simp only [Act.put, aS, aZ, aC]
       refine zR [9] ?_
       refine hDo rfl (fun K hK => ?_) ?_
       ·go_simp
        (go_at_call 68; (with_reducible refine (KR.out _ HF9.out).mono ?_); rintro e10 w10 ⟨⟨my, ly⟩, ⟨ny, cy, rfl, hny⟩, hcy, hmy, hky⟩)
        have HF10 : Hid (KW x w B a b C D (m, l) na nc i w10) := hid (HF9.out.mv hky hmy)
        have HN10 := hid hny
        have HC10 := hid hcy
        have HM10 := hid (HN9.out.kx hky HF9.out.mi.isMap)
        clear hny hcy hmy hky
        dsimp only at HN10 HC10 ⊢
        refine hK.out _ _ (⟨HF10.out.bx, HF10.out.bd⟩) (fun hHeld => ?_)
        clear hK K
        try simp only [Act.put, aS, aZ, aC]
        refine zR [10] ?_
        refine hDo rfl (fun K hK => ?_) ?_
        ·go_simp
         (go_at_call 66; (with_reducible refine (zRG (ndF (fA x.F i) a b) my ly (some ⟨g8, 0, none⟩) 1 ny cy _ HM10.out HN10.out (zQ0 HC10.out KZ.out)).mono ?_); rintro e11 w11 ⟨⟨nz, cz, rfl, hnz⟩, hb11⟩)
         have HF11 : Hid (KW x w B a b C D (m, l) na nc i w11) := hid (HF10.out.mv (Kx.of hb11) (HF10.out.mi.below hb11))
         have HN11 := hid hnz
         clear hnz hb11
         refine hK.out _ _ (⟨HF11.out.bx, HF11.out.bd⟩) (fun hHeld => ?_)
         clear hK K
         try simp only [Act.put, aS, aZ, aC]
         refine zR [11] ?_
         refine hDo rfl (fun K hK => ?_) ?_
         ·go_simp
          (go_at_call 65; (with_reducible refine (zRj (m, l) (andV (1, [ndF (fA x.F i) a b]) (my, ly)) na nc nz cz _ HF11.out.na HN11.out).mono ?_); rintro e12 w12 ⟨⟨nv, cv, rfl, hnv⟩, hb12⟩)
          have HF12 : Hid (KW x w B a b C D (m, l) na nc i w12) := hid (HF11.out.mv (Kx.of hb12) (HF11.out.mi.below hb12))
          have HN12 := hid hnv
          clear hnv hb12
          refine hK.out _ _ (⟨HF12.out.bx, HF12.out.bd⟩) (fun hHeld => ?_)
          clear hK K
          try simp only [Act.put, aS, aZ, aC]
          refine zR [12] ?_
          refine hDo rfl (fun K hK => ?_) ?_
          ·refine zQd zQc rfl (.tmp 9) (.tmp 44) rfl C rfl (fdA (orV (m, l) (andV (1, [ndF (fA x.F i) a b]) (my, ly))).1 nv (orV (m, l) (andV (1, [ndF (fA x.F i) a b]) (my, ly))).2.length cv) rfl rfl (zQe ..) (fdA m na l.length nc) rfl HF12.out.ba ?_
           intro w13 h13 ho13
           have H13 := hid h13
           have HO13 := hid ho13
           clear h13 ho13
           refine hK.out _ _ (⟨HF12.out.bx.only HO13.out (by have := HCB.out; omega), HF12.out.bd.only HO13.out (by have := HD.out; omega)⟩) (fun hHeld => ?_)
           clear hK K
           try simp only [Act.put]
           refine wpAnyH_done (by kernel_rfl) ?_ _
           refine NoPanic.normal ?_
           go_wp2
           go_meet
           exact ⟨(orV (m, l) (andV (1, [ndF (fA x.F i) a b]) (my, ly))), nv, cv, H13, hid (HN12.out.fnd HF12.out.ba HO13.out), hid (HKS.out (m, l) (my, ly) HCA.out HC10.out), hid (HF12.out.mi.found HF12.out.ba HO13.out), hid (HF12.out.kx.put HO13.out (by have := HCB.out; have := HBB.out; omega)), hid (HF12.out.bx.only HO13.out (by have := HCB.out; omega)), hid (HF12.out.br.only HO13.out (by have := HCB.out; omega))⟩
          exact AllReadyH.nil
         exact AllReadyH.nil
        exact AllReadyH.nil
       exact AllReadyH.nil
      exact AllReadyH.nil
     refine hDo rfl (fun K hK => ?_) ?_
     ·go_simp
      (go_at_call 67; (with_reducible refine (zQ5 (some ⟨g8, 0, none⟩) 1 1 _).mono ?_); rintro e9 w9 ⟨rfl, hb9⟩)
      have HF9 : Hid (KW x w B a b C D (m, l) na nc i w9) := hid (HF8.out.mv (Kx.of hb9) (HF8.out.mi.below hb9))
      have HN9 := hid (HN8.out.below hb9)
      clear hb9
      refine hK.out _ _ (⟨HF9.out.bx, HF9.out.bd⟩) (fun hHeld => ?_)
      clear hK K
      try simp only [Act.put, aS, aZ, aC]
      refine zR [0, 9] ?_
      refine hDo rfl (fun K hK => ?_) ?_
      ·refine zQg zQc rfl (.tmp 9) rfl C rfl (fdA m na l.length nc) rfl HF9.out.ba ?_
       refine hK.out _ _ (⟨HF9.out.bx, HF9.out.bd⟩) (fun hHeld => ?_)
       clear hK K
       try simp only [Act.put, aS, aZ, aC]
       refine zR [9] ?_
       refine hDo rfl (fun K hK => ?_) ?_
       ·go_simp
        (go_at_call 68; (with_reducible refine (KR.out _ HF9.out).mono ?_); rintro e10 w10 ⟨⟨my, ly⟩, ⟨ny, cy, rfl, hny⟩, hcy, hmy, hky⟩)
        have HF10 : Hid (KW x w B a b C D (m, l) na nc i w10) := hid (HF9.out.mv hky hmy)
        have HN10 := hid hny
        have HC10 := hid hcy
        have HM10 := hid (HN9.out.kx hky HF9.out.mi.isMap)
        clear hny hcy hmy hky
        dsimp only at HN10 HC10 ⊢
        refine hK.out _ _ (⟨HF10.out.bx, HF10.out.bd⟩) (fun hHeld => ?_)
        clear hK K
        try simp only [Act.put, aS, aZ, aC]
        refine zR [10] ?_
        refine hDo rfl (fun K hK => ?_) ?_
        ·go_simp
         (go_at_call 66; (with_reducible refine (zRG (ndF (fA x.F i) a b) my ly (some ⟨g8, 0, none⟩) 1 ny cy _ HM10.out HN10.out (zQ0 HC10.out KZ.out)).mono ?_); rintro e11 w11 ⟨⟨nz, cz, rfl, hnz⟩, hb11⟩)
         have HF11 : Hid (KW x w B a b C D (m, l) na nc i w11) := hid (HF10.out.mv (Kx.of hb11) (HF10.out.mi.below hb11))
         have HN11 := hid hnz
         clear hnz hb11
         refine hK.out _ _ (⟨HF11.out.bx, HF11.out.bd⟩) (fun hHeld => ?_)
         clear hK K
         try simp only [Act.put, aS, aZ, aC]
         refine zR [11] ?_
         refine hDo rfl (fun K hK => ?_) ?_
         ·go_simp
          (go_at_call 65; (with_reducible refine (zRj (m, l) (andV (1, [ndF (fA x.F i) a b]) (my, ly)) na nc nz cz _ HF11.out.na HN11.out).mono ?_); rintro e12 w12 ⟨⟨nv, cv, rfl, hnv⟩, hb12⟩)
          have HF12 : Hid (KW x w B a b C D (m, l) na nc i w12) := hid (HF11.out.mv (Kx.of hb12) (HF11.out.mi.below hb12))
          have HN12 := hid hnv
          clear hnv hb12
          refine hK.out _ _ (⟨HF12.out.bx, HF12.out.bd⟩) (fun hHeld => ?_)
          clear hK K
          try simp only [Act.put, aS, aZ, aC]
          refine zR [12] ?_
          refine hDo rfl (fun K hK => ?_) ?_
          ·refine zQd zQc rfl (.tmp 9) (.tmp 44) rfl C rfl (fdA (orV (m, l) (andV (1, [ndF (fA x.F i) a b]) (my, ly))).1 nv (orV (m, l) (andV (1, [ndF (fA x.F i) a b]) (my, ly))).2.length cv) rfl rfl (zQe ..) (fdA m na l.length nc) rfl HF12.out.ba ?_
           intro w13 h13 ho13
           have H13 := hid h13
           have HO13 := hid ho13
           clear h13 ho13
           refine hK.out _ _ (⟨HF12.out.bx.only HO13.out (by have := HCB.out; omega), HF12.out.bd.only HO13.out (by have := HD.out; omega)⟩) (fun hHeld => ?_)
           clear hK K
           try simp only [Act.put]
           refine wpAnyH_done (by kernel_rfl) ?_ _
           refine NoPanic.normal ?_
           go_wp2
           go_meet
           exact ⟨(orV (m, l) (andV (1, [ndF (fA x.F i) a b]) (my, ly))), nv, cv, H13, hid (HN12.out.fnd HF12.out.ba HO13.out), hid (HKS.out (m, l) (my, ly) HCA.out HC10.out), hid (HF12.out.mi.found HF12.out.ba HO13.out), hid (HF12.out.kx.put HO13.out (by have := HCB.out; have := HBB.out; omega)), hid (HF12.out.bx.only HO13.out (by have := HCB.out; omega)), hid (HF12.out.br.only HO13.out (by have := HCB.out; omega))⟩
          exact AllReadyH.nil
         exact AllReadyH.nil
        exact AllReadyH.nil
       exact AllReadyH.nil
      refine hDo rfl (fun K hK => ?_) ?_
      ·go_simp
       (go_at_call 68; (with_reducible refine (KR.out _ HF9.out).mono ?_); rintro e10 w10 ⟨⟨my, ly⟩, ⟨ny, cy, rfl, hny⟩, hcy, hmy, hky⟩)
       have HF10 : Hid (KW x w B a b C D (m, l) na nc i w10) := hid (HF9.out.mv hky hmy)
       have HN10 := hid hny
       have HC10 := hid hcy
       have HM10 := hid (HN9.out.kx hky HF9.out.mi.isMap)
       clear hny hcy hmy hky
       dsimp only at HN10 HC10 ⊢
       refine hK.out _ _ (⟨HF10.out.bx, HF10.out.bd⟩) (fun hHeld => ?_)
       clear hK K
       try simp only [Act.put, aS, aZ, aC]
       refine zR [0, 10] ?_
       refine hDo rfl (fun K hK => ?_) ?_
       ·refine zQg zQc rfl (.tmp 9) rfl C rfl (fdA m na l.length nc) rfl HF10.out.ba ?_
        refine hK.out _ _ (⟨HF10.out.bx, HF10.out.bd⟩) (fun hHeld => ?_)
        clear hK K
        try simp only [Act.put, aS, aZ, aC]
        refine zR [10] ?_
        refine hDo rfl (fun K hK => ?_) ?_
        ·go_simp
         (go_at_call 66; (with_reducible refine (zRG (ndF (fA x.F i) a b) my ly (some ⟨g8, 0, none⟩) 1 ny cy _ HM10.out HN10.out (zQ0 HC10.out KZ.out)).mono ?_); rintro e11 w11 ⟨⟨nz, cz, rfl, hnz⟩, hb11⟩)
         have HF11 : Hid (KW x w B a b C D (m, l) na nc i w11) := hid (HF10.out.mv (Kx.of hb11) (HF10.out.mi.below hb11))
         have HN11 := hid hnz
         clear hnz hb11
         refine hK.out _ _ (⟨HF11.out.bx, HF11.out.bd⟩) (fun hHeld => ?_)
         clear hK K
         try simp only [Act.put, aS, aZ, aC]
         refine zR [11] ?_
         refine hDo rfl (fun K hK => ?_) ?_
         ·go_simp
          (go_at_call 65; (with_reducible refine (zRj (m, l) (andV (1, [ndF (fA x.F i) a b]) (my, ly)) na nc nz cz _ HF11.out.na HN11.out).mono ?_); rintro e12 w12 ⟨⟨nv, cv, rfl, hnv⟩, hb12⟩)
          have HF12 : Hid (KW x w B a b C D (m, l) na nc i w12) := hid (HF11.out.mv (Kx.of hb12) (HF11.out.mi.below hb12))
          have HN12 := hid hnv
          clear hnv hb12
          refine hK.out _ _ (⟨HF12.out.bx, HF12.out.bd⟩) (fun hHeld => ?_)
          clear hK K
          try simp only [Act.put, aS, aZ, aC]
          refine zR [12] ?_
          refine hDo rfl (fun K hK => ?_) ?_
          ·refine zQd zQc rfl (.tmp 9) (.tmp 44) rfl C rfl (fdA (orV (m, l) (andV (1, [ndF (fA x.F i) a b]) (my, ly))).1 nv (orV (m, l) (andV (1, [ndF (fA x.F i) a b]) (my, ly))).2.length cv) rfl rfl (zQe ..) (fdA m na l.length nc) rfl HF12.out.ba ?_
           intro w13 h13 ho13
           have H13 := hid h13
           have HO13 := hid ho13
           clear h13 ho13
           refine hK.out _ _ (⟨HF12.out.bx.only HO13.out (by have := HCB.out; omega), HF12.out.bd.only HO13.out (by have := HD.out; omega)⟩) (fun hHeld => ?_)
           clear hK K
           try simp only [Act.put]
           refine wpAnyH_done (by kernel_rfl) ?_ _
           refine NoPanic.normal ?_
           go_wp2
           go_meet
           exact ⟨(orV (m, l) (andV (1, [ndF (fA x.F i) a b]) (my, ly))), nv, cv, H13, hid (HN12.out.fnd HF12.out.ba HO13.out), hid (HKS.out (m, l) (my, ly) HCA.out HC10.out), hid (HF12.out.mi.found HF12.out.ba HO13.out), hid (HF12.out.kx.put HO13.out (by have := HCB.out; have := HBB.out; omega)), hid (HF12.out.bx.only HO13.out (by have := HCB.out; omega)), hid (HF12.out.br.only HO13.out (by have := HCB.out; omega))⟩
          exact AllReadyH.nil
         exact AllReadyH.nil
        exact AllReadyH.nil
       refine hDo rfl (fun K hK => ?_) ?_
       ·go_simp
        (go_at_call 66; (with_reducible refine (zRG (ndF (fA x.F i) a b) my ly (some ⟨g8, 0, none⟩) 1 ny cy _ HM10.out HN10.out (zQ0 HC10.out KZ.out)).mono ?_); rintro e11 w11 ⟨⟨nz, cz, rfl, hnz⟩, hb11⟩)
        have HF11 : Hid (KW x w B a b C D (m, l) na nc i w11) := hid (HF10.out.mv (Kx.of hb11) (HF10.out.mi.below hb11))
        have HN11 := hid hnz
        clear hnz hb11
        refine hK.out _ _ (⟨HF11.out.bx, HF11.out.bd⟩) (fun hHeld => ?_)
        clear hK K
        try simp only [Act.put, aS, aZ, aC]
        refine zR [0] ?_
        refine hDo rfl (fun K hK => ?_) ?_
        ·refine zQg zQc rfl (.tmp 9) rfl C rfl (fdA m na l.length nc) rfl HF11.out.ba ?_
         refine hK.out _ _ (⟨HF11.out.bx, HF11.out.bd⟩) (fun hHeld => ?_)
         clear hK K
         try simp only [Act.put, aS, aZ, aC]
         refine zR [11] ?_
         refine hDo rfl (fun K hK => ?_) ?_
         ·go_simp
          (go_at_call 65; (with_reducible refine (zRj (m, l) (andV (1, [ndF (fA x.F i) a b]) (my, ly)) na nc nz cz _ HF11.out.na HN11.out).mono ?_); rintro e12 w12 ⟨⟨nv, cv, rfl, hnv⟩, hb12⟩)
          have HF12 : Hid (KW x w B a b C D (m, l) na nc i w12) := hid (HF11.out.mv (Kx.of hb12) (HF11.out.mi.below hb12))
          have HN12 := hid hnv
          clear hnv hb12
          refine hK.out _ _ (⟨HF12.out.bx, HF12.out.bd⟩) (fun hHeld => ?_)
          clear hK K
          try simp only [Act.put, aS, aZ, aC]
          refine zR [12] ?_
          refine hDo rfl (fun K hK => ?_) ?_
          ·refine zQd zQc rfl (.tmp 9) (.tmp 44) rfl C rfl (fdA (orV (m, l) (andV (1, [ndF (fA x.F i) a b]) (my, ly))).1 nv (orV (m, l) (andV (1, [ndF (fA x.F i) a b]) (my, ly))).2.length cv) rfl rfl (zQe ..) (fdA m na l.length nc) rfl HF12.out.ba ?_
           intro w13 h13 ho13
           have H13 := hid h13
           have HO13 := hid ho13
           clear h13 ho13
           refine hK.out _ _ (⟨HF12.out.bx.only HO13.out (by have := HCB.out; omega), HF12.out.bd.only HO13.out (by have := HD.out; omega)⟩) (fun hHeld => ?_)
           clear hK K
           try simp only [Act.put]
           refine wpAnyH_done (by kernel_rfl) ?_ _
           refine NoPanic.normal ?_
           go_wp2
           go_meet
           exact ⟨(orV (m, l) (andV (1, [ndF (fA x.F i) a b]) (my, ly))), nv, cv, H13, hid (HN12.out.fnd HF12.out.ba HO13.out), hid (HKS.out (m, l) (my, ly) HCA.out HC10.out), hid (HF12.out.mi.found HF12.out.ba HO13.out), hid (HF12.out.kx.put HO13.out (by have := HCB.out; have := HBB.out; omega)), hid (HF12.out.bx.only HO13.out (by have := HCB.out; omega)), hid (HF12.out.br.only HO13.out (by have := HCB.out; omega))⟩
          exact AllReadyH.nil
         exact AllReadyH.nil
        exact AllReadyH.nil
       exact AllReadyH.nil
      exact AllReadyH.nil
     exact AllReadyH.nil
    exact AllReadyH.nil
   case rest =>
    obtain ⟨⟨mv, lv⟩, nv, cv, q1, q2, q3, q4, q5, q6, q7⟩ := hcut
    dsimp only at q1 q2 q3
    obtain ⟨wk, hwk⟩ : ∃ wk, wk = wc := ⟨_, rfl⟩
    rw [← hwk] at q1 q2 q4 q5 q6 q7 ⊢
    clear hwk
    have y0 : wk.cell? ⟨C, 0, none⟩ = some (.int .i64 (mv : Int)) := q1.out.cell 0
    by_cases h2 : mv = 2
    ·have h2I : ((mv : Int) == 2) = true := by simp [h2]
     have HCN : Hid (Cn (KD x.L x.z x.tok x.F K a b) mv lv) := hid (zSW (by omega) q3.out)
     clear h2
     go_wp2_with (first
      | (refine zAn zQc rfl (.tmp 8) (.tmp 49) rfl (B + 1) rfl (fdA mv nv lv.length cv) rfl rfl (zQe ..) (fdA 0 none 0 0) rfl q7.out ?_; intro wz hz hoz; have HZ := hid hz; have HOZ := hid hoz; clear hz hoz)
      | (refine zA2 zQc rfl (.tmp 9) rfl C rfl (fdA mv nv lv.length cv) rfl q1.out ?_))
     refine bodyPost_ret (zNr zQc rfl _ _ (B + 1) (fdA mv nv lv.length cv) rfl rfl HZ.out) rfl ⟨(mv, lv), ⟨nv, cv, rfl, q2.out.fnd q7.out HOZ.out⟩, HCN.out, q4.out.found q7.out HOZ.out, q5.out.put HOZ.out (by have := HBB.out; omega)⟩
    ·have h2I : ((mv : Int) == 2) = false := by simp; omega
     clear h2
     go_wp2
     go_roundw
     case rel => exact ⟨k + 1, (mv, lv), nv, cv, by go_num, by omega, q1, q2, q3, q4, q5, q6, q7⟩
     case measure => simp [intOf]; omega
  ·have HCN : Hid (Cn (KD x.L x.z x.tok x.F K a b) m l) := hid (zTg (k := k) (by rw [← HKNN.out]; omega) HCA.out)
   go_wp2_with (first
    | (refine zAn zQc rfl (.tmp 8) (.tmp 49) rfl (B + 1) rfl (fdA m na l.length nc) rfl rfl (zQe ..) (fdA 0 none 0 0) rfl HR.out ?_; intro wz hz hoz; have HZ := hid hz; have HOZ := hid hoz; clear hz hoz)
    | (refine zA2 zQc rfl (.tmp 9) rfl C rfl (fdA m na l.length nc) rfl HA.out ?_))
   refine bodyPost_ret (zNr zQc rfl _ _ (B + 1) (fdA m na l.length nc) rfl rfl HZ.out) rfl ⟨(m, l), ⟨na, nc, rfl, HNA.out.fnd HR.out HOZ.out⟩, HCN.out, HMI.out.found HR.out HOZ.out, HKX.out.put HOZ.out (by have := HBB.out; omega)⟩
set_option maxRecDepth 100000 in
set_option maxHeartbeats 16000000 in
theorem zSv (x : SR) (hx : SOk x) (N : Nat) (HK0 : KidC x N) (HR0 : RestC x N) (f i a b : Nat) (w : World) (s : Sit w x) (hf : f < x.F.length) (hi : i ≤ (fA x.F f).S.length) (hab : a ≤ b) (hb : b ≤ x.tn) (hN : 3 * (b - a) + rk i ≤ N) :
  Calls Tryz.prog 68 #[.agg (srA x), .agg (glA f i a b)] w (RecP x w (DS x.L x.z x.tok x.F ((fA x.F f).S.drop i) a b)) := by
 obtain ⟨B, hB⟩ : ∃ B, B = w.heap.size := ⟨_, rfl⟩
 obtain ⟨w1, hw1⟩ : ∃ w1, w1 = w.alloc (.cells (srA x) 78) := ⟨_, rfl⟩
 obtain ⟨w2, hw2⟩ : ∃ w2, w2 = w1.alloc (.cells (glA f i a b) 132) := ⟨_, rfl⟩
 obtain ⟨w3, hw3⟩ : ∃ w3, w3 = w2.alloc (.cells (fdA 0 none 0 0) 80) := ⟨_, rfl⟩
 have s1 : w1.heap.size = B + 1 := by rw [hw1, hB]; simp
 have s2 : w2.heap.size = B + 1 + 1 := by rw [hw2]; simp [s1]
 have s3 : w3.heap.size = B + 3 := by rw [hw3]; simp [s2]
 have HX3 : Hid (Bk w3 B 78 (srA x)) := hid (by rw [hw3, hw2, hw1, hB]; exact ((Bk.new w _ _).alloc _).alloc _)
 have HG3 : Hid (Bk w3 (B + 1) 132 (glA f i a b)) := hid (by rw [hw3, hw2, ← s1]; exact (Bk.new w1 _ _).alloc _)
 have HR3 : Hid (Bk w3 (B + 1 + 1) 80 (fdA 0 none 0 0)) := hid (by rw [hw3, ← s2]; exact Bk.new w2 _ _)
 have HA3 : Hid (Bk (w3.alloc (.cells #[.int .i64 0, .slice none 0 0] 80)) (B + 3) 80 (fdA 0 none 0 0)) := hid (by rw [← s3]; exact Bk.new w3 _ _)
 have HS3 := hid s3
 have HB3 : Hid (Below B w w3) := hid (by rw [hw3, hw2, hw1, hB]; exact ((zAA w _).alloc (by simp) _).alloc (by simp; omega) _)
 have HBB := hid hB
 have HBW : Hid (Below w.heap.size w w3) := hid (by rw [← HBB.out]; exact HB3.out)
 have HMI3 : Hid (MI w3 x) := hid (s.mi.below HBW.out)
 have HS := hid s
 have HOK := hid hx
 have x13 : w3.cell? ⟨B, 13, none⟩ = some (.map (some x.M)) := by rw [HX3.out.cell, (zRi hx.z).2.2]
 have hz : fdA 0 none 0 0 = #[.int .i64 0, .slice none 0 0] := rfl
 rw [hz] at hw3
 obtain ⟨v, ok, hlk, hv⟩ := HMI3.out.look f i a b
 have HSK : Hid (∀ u, Sit u x → Calls Tryz.prog 115 #[.agg (srA x), .agg (glA f i a b)] u (RecP x u (DS x.L x.z x.tok x.F ((fA x.F f).S.drop i) a b))) := hid fun u hu => zSj x hx N HK0 HR0 f i a b u hu hf hi hab hb hN
 obtain ⟨G, hG⟩ : ∃ G, G = glA f i a b := ⟨_, rfl⟩
 have HGG := hid hG
 rw [← hG] at hw2 hlk HG3 HSK ⊢
 clear s hx hz HK0 HR0 hf hi hab hb hN hG
 go_enter Tryz.func68, Tryz.ntmps68
 go_upto_region 1 with fail
 rw [← hw1]
 try rw [← hw2]
 try rw [← hw3]
 rw [← hB]
 try rw [s1]
 try rw [s2]
 clear hw1 hw2 hw3 s1 s2 s3 hB
 rcases hv with ⟨rfl, rfl⟩ | ⟨rfl, ⟨m, l⟩, na, nc, rfl, hn, hc⟩
 ·go_wp2_with (first
   | (refine zA2 zQf rfl (.tmp 2) rfl B rfl (srA x) (zQj HOK.out.z) H4X.out ?_)
   | (refine zA2 zRA rfl (.tmp 3) rfl (B + 1) rfl G (by rw [HGG.out]; rfl) H4G.out ?_)
   | (refine zA2 zRA rfl (.tmp 3) rfl (B + 1) rfl G (by rw [HGG.out]; rfl) HG3.out ?_)
   | (refine zAn zQc rfl (.tmp 5) (.tmp 12) rfl (B + 3) (by rw [← HS3.out]; rfl) (fdA 0 none 0 0) rfl rfl (zQe ..) (fdA 0 none 0 0) rfl HA3.out ?_; rw [HS3.out]; intro w4 h4 ho4; have H4 := hid h4; have HB4 : Hid (Below w3.heap.size w3 w4) := hid ((zAA w3 _).trans (ho4.below (by rw [HS3.out]; exact Nat.le_refl _))); have H4G := hid (HG3.out.below HB4.out); have H4X := hid (HX3.out.below HB4.out); clear h4 ho4 x13 hlk))
  have HKX4 : Hid (Kx x.M w w4) := hid ((Kx.of HBW.out).bl HB4.out)
  have HM4 : Hid (MI w4 x) := hid (HMI3.out.below HB4.out)
  have HR4 := hid (HR3.out.below HB4.out)
  refine (HSK.out w4 (HS.out.kx HKX4.out HM4.out)).mono ?_
  rintro e w5 ⟨⟨m, l⟩, ⟨na, nc, rfl, hn5⟩, hc5, hm5, hk5⟩
  dsimp only at hn5 hc5 ⊢
  have HI4 := hid HM4.out.isMap
  have HX5 := hid (H4X.out.kx hk5 HI4.out)
  have HG5 := hid (H4G.out.kx hk5 HI4.out)
  have HR5 := hid (HR4.out.kx hk5 HI4.out)
  have HA5 := hid (H4.out.kx hk5 HI4.out)
  have HN5 := hid hn5
  have HC5 := hid hc5
  have HM5 := hid hm5
  have HKX5 := hid (HKX4.out.trans hk5)
  clear hn5 hc5 hm5 hk5 H4 H4X H4G HR4 HM4 HKX4
  go_upto_region 4 with (refine zAn zQc rfl (.tmp 5) (.tmp 18) rfl (B + 3) rfl (fdA m na l.length nc) rfl rfl (zQe ..) (fdA 0 none 0 0) rfl HA5.out ?_; intro w6 h6 ho6; have H6 := hid h6; have HO6 := hid ho6; clear h6 ho6)
  have HX6 := hid (HX5.out.only HO6.out (by omega))
  have HG6 := hid (HG5.out.only HO6.out (by omega))
  have HR6 := hid (HR5.out.only HO6.out (by omega))
  have HN6 : Hid (NdS w6 na l.length nc l) := hid (HN5.out.fnd HA5.out HO6.out)
  have HM6 : Hid (MI w6 x) := hid (HM5.out.found HA5.out HO6.out)
  have HKX6 : Hid (Kx x.M w w6) := hid (HKX5.out.put HO6.out (by have := HBB.out; omega))
  obtain ⟨w7, hput, hm7, ho7⟩ := HM6.out.put f i a b (m, l) na nc HN6.out HC5.out
  dsimp only at hput
  rw [← HGG.out] at hput
  have hk67 : Kx x.M w6 w7 := Kx.only ho7
  have HIS := hid HM6.out.isMap
  have HR7 := hid (HR6.out.kx hk67 HIS.out)
  have HA7 := hid (H6.out.kx hk67 HIS.out)
  have HN7 := hid (HN6.out.kx hk67 HIS.out)
  have HM7 := hid hm7
  have HKX7 := hid (HKX6.out.trans hk67)
  have x13 : w6.cell? ⟨B, 13, none⟩ = some (.map (some x.M)) := by rw [HX6.out.cell, (zRi HOK.out.z).2.2]
  clear hm7 ho7 hk67
  go_wp2_with (first
   | (refine zA2 zRA rfl (.tmp 3) rfl (B + 1) rfl G (by rw [HGG.out]; rfl) HG6.out ?_)
   | (refine zA2 zQc rfl (.tmp 5) rfl (B + 3) rfl (fdA m na l.length nc) rfl H6.out ?_)
   | (refine zA2 zQc rfl (.tmp 5) rfl (B + 3) rfl (fdA m na l.length nc) rfl HA7.out ?_)
   | (refine zAn zQc rfl (.tmp 4) (.tmp 23) rfl (B + 1 + 1) rfl (fdA m na l.length nc) rfl rfl (zQe ..) (fdA 0 none 0 0) rfl HR7.out ?_; intro wz hz hoz; have HZ := hid hz; have HOZ := hid hoz; clear hz hoz))
  refine bodyPost_ret (zNr zQc rfl _ _ (B + 1 + 1) (fdA m na l.length nc) rfl rfl HZ.out) rfl ⟨(m, l), ⟨na, nc, rfl, HN7.out.fnd HR7.out HOZ.out⟩, HC5.out, HM7.out.found HR7.out HOZ.out, HKX7.out.put HOZ.out (by have := HBB.out; omega)⟩
 ·dsimp only at hn hc hlk
  have HN := hid hn
  have HC := hid hc
  clear hn hc
  go_wp2_with (first
   | (refine zA2 zQc rfl (.tmp 5) rfl (B + 3) rfl (fdA m na l.length nc) rfl H4.out ?_)
   | (refine zA2 zRA rfl (.tmp 3) rfl (B + 1) rfl G (by rw [HGG.out]; rfl) HG3.out ?_)
   | (refine zAn zQc rfl (.tmp 5) (.tmp 12) rfl (B + 3) (by rw [← HS3.out]; rfl) (fdA m na l.length nc) rfl rfl (zQe ..) (fdA 0 none 0 0) rfl HA3.out ?_; rw [HS3.out]; intro w4 h4 ho4; have H4 := hid h4; have HB4 : Hid (Below w3.heap.size w3 w4) := hid ((zAA w3 _).trans (ho4.below (by rw [HS3.out]; exact Nat.le_refl _))); clear h4 ho4 x13 hlk)
   | (refine zAn zQc rfl (.tmp 4) (.tmp 23) rfl (B + 1 + 1) rfl (fdA m na l.length nc) rfl rfl (zQe ..) (fdA 0 none 0 0) rfl (HR3.out.below HB4.out) ?_; intro wz hz hoz; have HZ := hid hz; have HOZ := hid hoz; clear hz hoz))
  refine bodyPost_ret (zNr zQc rfl _ _ (B + 1 + 1) (fdA m na l.length nc) rfl rfl HZ.out) rfl ⟨(m, l), ⟨na, nc, rfl, (HN.out.below HB4.out).fnd (HR3.out.below HB4.out) HOZ.out⟩, HC.out, (HMI3.out.below HB4.out).found (HR3.out.below HB4.out) HOZ.out, ((Kx.of HBW.out).bl HB4.out).put HOZ.out (by have := HBB.out; omega)⟩
theorem zRX (x : SR) (hx : SOk x) : ∀ r, KidC x r ∧ RestC x r
 | 0 => ⟨fun _ _ _ _ _ _ _ _ _ _ h => by omega, fun _ _ _ _ _ _ _ _ _ h => by omega⟩
 | r + 1 => by
  have ih := zRX x hx r
  exact ⟨fun K ka kc a b w h1 h2 h3 h4 h5 s hk => zTJ x hx r ih.2 K ka kc a b w s h1 h2 h3 h4 (by omega) hk, fun f i a b w h1 h2 h3 h4 h5 s => zSv x hx r ih.1 ih.2 f i a b w s h1 h2 h3 h4 (by omega)⟩
end Go.Proofs.YtcjbhdgjcpnklaaGreatDoor
