import Derived.Carry
import Derived.Deep.DeepCutAuto
import Derived.Test.YtcjbhdgjcpnklaaGreatDoorN17
import Derived.Test.YtcjbhdgjcpnklaaGreatDoorN18
namespace Go.Proofs.YtcjbhdgjcpnklaaGreatDoor
open Go.RowKit
def srZ : Array Value := #[.slice none 0 0, .int .i64 0, .int .i64 0, .int .i64 0, .int .i64 0, .int .i64 0, .int .i64 0, .int .i64 0, .int .i64 0, .int .i64 0, .int .i64 0, .slice none 0 0, .slice none 0 0, .map none]
section
variable {ops : Array Oper} {o : Oper} {A : Act} {w : World} {K : Act → World → Prop} {Q : Exit → Act → World → Prop} {E : Prop}
theorem zQ3 (hgd : o.guard = none) (ho : o.op = .makeMap 76 none)
  (k : ∀ w' M, M = w.heap.size → w'.heap[M]? = some (.map #[] 0) → Below w.heap.size w w' → K (A.put o.dst (.map (some M))) w') : if Region.wanted o (yielded ops A.tmps) = true then o.wp Tryz.prog A w K Q else E := by
 rw [if_pos (show Region.wanted o (yielded ops A.tmps) = true by simp [Region.wanted, hgd])]
 have h := k (w.alloc (.map #[] 0)) w.heap.size rfl (heap_alloc_new w _) (zAA w _)
 unfold Oper.wp execOp
 simp only [ho, Sem.run_bind, Sem.run_pure]
 exact h
theorem zQr (hgd : o.guard = none) (ho : o.op = .alloc 78)
  (k : ∀ w' X, X = w.heap.size → Bk w' X 78 srZ → Below w.heap.size w w' → K (A.put o.dst (.pointer (some ⟨X, 0, none⟩))) w') : if Region.wanted o (yielded ops A.tmps) = true then o.wp Tryz.prog A w K Q else E := by
 rw [if_pos (show Region.wanted o (yielded ops A.tmps) = true by simp [Region.wanted, hgd])]
 have h := k (w.alloc (.cells srZ 78)) w.heap.size rfl (Bk.new w _ srZ) (zAA w _)
 have hr : (Instr.alloc 78 true (.tuple #[])).run Tryz.prog w = .ok (.pointer (some ⟨w.heap.size, 0, none⟩)) (w.alloc (.cells srZ 78)) := by kernel_rfl
 unfold Oper.wp execOp
 simp only [ho, hr, Sem.run_bind, Result.andThen_ok, Sem.run_pure]
 exact h
theorem zRH (hgd : o.guard = none) (ho : o.op = .alloc 80)
  (k : ∀ w' X, X = w.heap.size → Bk w' X 80 (fdA 0 none 0 0) → Below w.heap.size w w' → K (A.put o.dst (.pointer (some ⟨X, 0, none⟩))) w') : if Region.wanted o (yielded ops A.tmps) = true then o.wp Tryz.prog A w K Q else E := by
 rw [if_pos (show Region.wanted o (yielded ops A.tmps) = true by simp [Region.wanted, hgd])]
 have h := k (w.alloc (.cells (fdA 0 none 0 0) 80)) w.heap.size rfl (Bk.new w _ (fdA 0 none 0 0)) (zAA w _)
 have hr : (Instr.alloc 80 true (.tuple #[])).run Tryz.prog w = .ok (.pointer (some ⟨w.heap.size, 0, none⟩)) (w.alloc (.cells (fdA 0 none 0 0) 80)) := by kernel_rfl
 unfold Oper.wp execOp
 simp only [ho, hr, Sem.run_bind, Result.andThen_ok, Sem.run_pure]
 exact h
end
theorem zRr (x : SR) (hz : x.z.length = 10) (w : World) : (Instr.build 78 #[(0, .agg (ev x.a x.n x.c x.z)), (1, .slice x.ta x.tn x.tc), (2, .slice x.fa x.fn x.fc), (3, .map (some x.M))]).run Tryz.prog w = .ok (.agg (srA x)) w := by
 obtain ⟨a, n, c, L, z, ta, tn, tc, tok, fa, fn, fc, F, M⟩ := x
 obtain ⟨z0, z1, z2, z3, z4, z5, z6, z7, z8, z9, rfl⟩ := ten hz
 kernel_rfl
theorem zQt {A : Act} {w : World} (x : SR) (hz : x.z.length = 10) {d : Option Tmp} {ty : TypeId} {ps : String} {af : Array Edge} {g : Option (Tmp × Bool)} (p q r s : Operand) (hp : A.eval p = .agg (ev x.a x.n x.c x.z)) (hq : A.eval q = .slice x.ta x.tn x.tc) (hr : A.eval r = .slice x.fa x.fn x.fc) (hs : A.eval s = .map (some x.M)) :
  (execOp A.eval (Oper.mk d (.build 78 #[(0, p), (1, q), (2, r), (3, s)]) ty ps af g)).run Tryz.prog w = .ok (.value (.agg (srA x))) w := by
 unfold execOp
 simp only [List.map_toArray, List.map_cons, List.map_nil, hp, hq, hr, hs, zRr x hz, Sem.run_bind, Result.andThen_ok, Sem.run_pure]
def tR (t : TypeId) : Prop := t = 78
theorem zUX : PT tR := ⟨by unfold tR; decide, by unfold tR; decide, by unfold tR; decide⟩
theorem zQu {w w' : World} {fa : Option Addr} {fn fc : Nat} {F : List FD} {gs : List GC} {X : Nat} {cs : Array Value} (h : FmO w fa fn fc F gs) (hX : Bk w X 78 cs) (ho : Only X w w') : FmO w' fa fn fc F gs := by
 have hk : Kt tR w w' := Kt.only hX rfl ho
 exact ⟨h.hn, h.hl, h.own.kt (by unfold tR; decide) hk, h.nd, fun i hi => by obtain ⟨vs, hv⟩ := h.st i hi; exact ⟨vs, hv.kt zUX (by unfold tR; decide) hk⟩⟩
theorem zTw {x : SR} (g : GoodF x.L x.z x.tok x.F) {m : Nat} {t : List ND} (h : Cn (KD x.L x.z x.tok x.F (List.range x.F.length) 0 x.tok.length) m t) : CntP x.L x.z x.tok m t := by
 by_cases h0 : 0 < x.tok.length
 ·refine zT7 (h.congr fun u => ?_)
  rw [← g.kid _ _ _ u (fun i hi => List.mem_range.1 hi) h0 (Nat.le_refl _)]
  exact ⟨fun h => h.1, fun h => ⟨h, g.top _ _ _ h⟩⟩
 ·have hm := zS6 g (fun i hi => List.mem_range.1 hi) (by omega) h
  subst hm
  cases h with
  | none _ => exact .none fun u hu => by have := (zCs hu).2.2.1; omega
set_option maxRecDepth 100000 in
set_option maxHeartbeats 32000000 in
theorem zQn (a : Option Addr) (n c : Nat) (L : List OP) (z : List Int) (ta : Option Addr) (tn tc : Nat) (tok : List TK) (w : World) (ht : Tab w) (ho : OpS w a n c L) (htk : Ts w ta tn tc tok) (hz : z.length = 10) (hr : ∀ i, i < 10 → I64 (bt z i)) (hS : Srt L) (hn : n ≤ 100000) (hnm : ∀ o ∈ L, o.1.length ≤ 1000000) (htn : tn ≤ 1000000) :
  Calls Tryz.prog 16 #[.agg (ev a n c z), .slice ta tn tc] w fun e w' => ∃ m t na nc, e = .returned (.tuple #[.int .i64 ((m : Nat) : Int), .slice na (t : List ND).length nc]) ∧ NdS w' na t.length nc t ∧ CntP L z tok m t ∧ Below w.heap.size w w' := by
 obtain ⟨B, hB⟩ : ∃ B, B = w.heap.size := ⟨_, rfl⟩
 obtain ⟨w1, hw1⟩ : ∃ w1, w1 = w.alloc (.cells (ev a n c z) 34) := ⟨_, rfl⟩
 have HE1 : Hid (Bk w1 B 34 (ev a n c z)) := hid (by rw [hw1, hB]; exact Bk.new w _ _)
 have HBW : Hid (Below w.heap.size w w1) := hid (by rw [hw1]; exact zAA w _)
 have HT1 : Hid (Tab w1) := hid (ht.keep HBW.out)
 have HO1 : Hid (OpS w1 a n c L) := hid (ho.below HBW.out)
 have HTK : Hid (Ts w1 ta tn tc tok) := hid (htk.below HBW.out)
 have HZ := hid hz
 have HLN : Hid (L.length = n) := hid (OpS.len ho)
 have HTL : Hid (tok.length = tn) := hid htk.hl
 have HNM := hid hnm
 have HSL := hid hS
 have HN := hid hn
 have HTN := hid htn
 have KF : Hid (∀ u, Below w1.heap.size w1 u → Calls Tryz.prog 36 #[.agg (ev a n c z), .slice ta tn tc] u fun e w' => ∃ fa fn fc gs, e = .returned (.slice fa fn fc) ∧ FmO w' fa fn fc (FF z (FO L tok)) gs ∧ Below u.heap.size u w') := hid fun u hu =>
  zSu a n c L z ta tn tc tok u (HT1.out.keep hu) (HO1.out.below hu) (HTK.out.below hu) hz hr hn hnm
 have HKS : Hid (∀ u, Below w1.heap.size w1 u → Bk u B 34 (ev a n c z)) := hid fun u hu => HE1.out.below hu
 clear ht ho htk hz hr hS hn hnm htn
 go_enter Tryz.func16, Tryz.ntmps16
 go_upto_region 1 with fail
 rw [← hw1, ← hB]
 clear hw1 hB
 go_cut [6] (fun u wx => ∃ X M fa fn fc gs, u = .pointer (some ⟨X, 0, none⟩) ∧ Hid (Bk wx X 78 (srA ⟨a, n, c, L, z, ta, tn, tc, tok, fa, fn, fc, FF z (FO L tok), M⟩)) ∧ Hid (FmO wx fa fn fc (FF z (FO L tok)) gs) ∧ Hid (wx.heap[M]? = some (.map #[] 0)) ∧ Hid (w1.heap.size ≤ M) ∧ Hid (Below w1.heap.size w1 wx))
 case first =>
  refine wp_region_noPanic ?_
  refine wp_region_held_drew (S := fun u => Bk u B 34 (ev a n c z)) (by kernel_rfl) (HKS.out _ (Below.refl _ _).drew) (fun hHeld => ?_)
  refine zT 0 (v := .agg (ev a n c z)) rfl (fun w0 h0 => zBc zKz (.tmp 2) B rfl (ev a n c z) (zA7 HZ.out) h0) ?_
  try simp only [Act.put, aS, aZ, aC]
  refine zG 1 rfl ?_
  try simp only [Act.put, aS, aZ, aC]
  refine zT 2 (v := .agg (ev a n c z)) rfl (fun w0 h0 => zBc zKz (.tmp 2) B rfl (ev a n c z) (zA7 HZ.out) h0) ?_
  try simp only [Act.put, aS, aZ, aC]
  refine zG 3 rfl ?_
  try simp only [Act.put, aS, aZ, aC]
  refine zR [4, 5, 7] ?_
  refine hDo rfl (fun K hK => ?_) ?_
  ·go_simp
   (go_at_call 36; (with_reducible refine (KF.out _ (Below.refl w1.heap.size w1).drew).mono ?_); rintro e v1 ⟨fa, fn, fc, gs, rfl, hf1, hb1⟩)
   have HB1 : Hid (Below w1.heap.size w1 v1) := hid ((Below.refl w1.heap.size w1).drew.trans (hb1.mono (Below.refl w1.heap.size w1).drew.size))
   have HF1 := hid hf1
   clear hf1 hb1
   refine hK.out _ _ (HKS.out _ HB1.out) (fun hHeld => ?_)
   clear hK K
   try simp only [Act.put, aS, aZ, aC]
   refine zR [5, 7] ?_
   refine hDo rfl (fun K hK => ?_) ?_
   ·refine zQ3 rfl rfl ?_
    intro v2 M2 hM2 hm2 hb2
    have HB2 : Hid (Below w1.heap.size w1 v2) := hid (HB1.out.trans (hb2.mono HB1.out.size))
    have HF2 := hid (HF1.out.below hb2)
    have HM2 := hid hm2
    have HG2 : Hid (w1.heap.size ≤ M2) := hid (by rw [hM2]; exact HB1.out.size)
    clear hm2 hb2 hM2
    refine hK.out _ _ (HKS.out _ HB2.out) (fun hHeld => ?_)
    clear hK K
    try simp only [Act.put, aS, aZ, aC]
    refine zT 6 (v := .agg (srA (⟨a, n, c, L, z, ta, tn, tc, tok, fa, fn, fc, (FF z (FO L tok)), M2⟩ : SR))) rfl (fun w0 h0 => zQt (⟨a, n, c, L, z, ta, tn, tc, tok, fa, fn, fc, (FF z (FO L tok)), M2⟩ : SR) HZ.out (.tmp 8) (.tmp 9) (.tmp 12) (.tmp 13) rfl rfl rfl rfl) ?_
    try simp only [Act.put, aS, aZ, aC]
    refine zR [7] ?_
    refine hDo rfl (fun K hK => ?_) ?_
    ·refine zQr rfl rfl ?_
     intro v3 X3 hX3 hx3 hb3
     have HB3 : Hid (Below w1.heap.size w1 v3) := hid (HB2.out.trans (hb3.mono HB2.out.size))
     have HF3 := hid (HF2.out.below hb3)
     have HM3 := hid ((hb3.block _ (Array.getElem?_eq_some_iff.1 HM2.out).1).trans HM2.out)
     have HX3 := hid hx3
     have HXG3 : Hid (w1.heap.size ≤ X3) := hid (by rw [hX3]; exact HB2.out.size)
     clear hx3 hb3 hX3
     refine hK.out _ _ (HKS.out _ HB3.out) (fun hHeld => ?_)
     clear hK K
     try simp only [Act.put, aS, aZ, aC]
     refine zR [8] ?_
     refine hDo rfl (fun K hK => ?_) ?_
     ·refine zQd zQf rfl (.tmp 6) (.tmp 14) rfl X3 rfl (srA (⟨a, n, c, L, z, ta, tn, tc, tok, fa, fn, fc, (FF z (FO L tok)), M2⟩ : SR)) rfl (zQj HZ.out) (zRP _) srZ rfl HX3.out ?_
      intro v4 h4 ho4
      have H4 := hid h4
      have HO4 := hid ho4
      clear h4 ho4
      refine hK.out _ _ ((HKS.out _ HB3.out).only HO4.out (by have h1 := HE1.out.lt; have h2 := HXG3.out; omega)) (fun hHeld => ?_)
      clear hK K
      try simp only [Act.put]
      refine wpAnyH_done (by kernel_rfl) ?_ _
      refine NoPanic.normal ?_
      go_wp2
      go_meet
      exact ⟨X3, M2, fa, fn, fc, gs, rfl, H4, hid (zQu HF3.out HX3.out HO4.out), hid ((HO4.out.block _ (fun e => by have h1 := HM3.out; have h2 := HX3.out; unfold Bk at h2; rw [← e, h1] at h2; cases h2)).trans HM3.out), HG2, hid (HB3.out.trans (HO4.out.below HXG3.out))⟩
     exact AllReadyH.nil
    exact AllReadyH.nil
   refine hDo rfl (fun K hK => ?_) ?_
   ·refine zQr rfl rfl ?_
    intro v5 X5 hX5 hx5 hb5
    have HB5 : Hid (Below w1.heap.size w1 v5) := hid (HB1.out.trans (hb5.mono HB1.out.size))
    have HF5 := hid (HF1.out.below hb5)
    have HX5 := hid hx5
    have HXG5 : Hid (w1.heap.size ≤ X5) := hid (by rw [hX5]; exact HB1.out.size)
    clear hx5 hb5 hX5
    refine hK.out _ _ (HKS.out _ HB5.out) (fun hHeld => ?_)
    clear hK K
    try simp only [Act.put, aS, aZ, aC]
    refine zR [5] ?_
    refine hDo rfl (fun K hK => ?_) ?_
    ·refine zQ3 rfl rfl ?_
     intro v6 M6 hM6 hm6 hb6
     have HB6 : Hid (Below w1.heap.size w1 v6) := hid (HB5.out.trans (hb6.mono HB5.out.size))
     have HF6 := hid (HF5.out.below hb6)
     have HX6 := hid (HX5.out.below hb6)
     have HM6 := hid hm6
     have HG6 : Hid (w1.heap.size ≤ M6) := hid (by rw [hM6]; exact HB5.out.size)
     clear hm6 hb6 hM6
     refine hK.out _ _ (HKS.out _ HB6.out) (fun hHeld => ?_)
     clear hK K
     try simp only [Act.put, aS, aZ, aC]
     refine zT 6 (v := .agg (srA (⟨a, n, c, L, z, ta, tn, tc, tok, fa, fn, fc, (FF z (FO L tok)), M6⟩ : SR))) rfl (fun w0 h0 => zQt (⟨a, n, c, L, z, ta, tn, tc, tok, fa, fn, fc, (FF z (FO L tok)), M6⟩ : SR) HZ.out (.tmp 8) (.tmp 9) (.tmp 12) (.tmp 13) rfl rfl rfl rfl) ?_
     try simp only [Act.put, aS, aZ, aC]
     refine zR [8] ?_
     refine hDo rfl (fun K hK => ?_) ?_
     ·refine zQd zQf rfl (.tmp 6) (.tmp 14) rfl X5 rfl (srA (⟨a, n, c, L, z, ta, tn, tc, tok, fa, fn, fc, (FF z (FO L tok)), M6⟩ : SR)) rfl (zQj HZ.out) (zRP _) srZ rfl HX6.out ?_
      intro v7 h7 ho7
      have H7 := hid h7
      have HO7 := hid ho7
      clear h7 ho7
      refine hK.out _ _ ((HKS.out _ HB6.out).only HO7.out (by have h1 := HE1.out.lt; have h2 := HXG5.out; omega)) (fun hHeld => ?_)
      clear hK K
      try simp only [Act.put]
      refine wpAnyH_done (by kernel_rfl) ?_ _
      refine NoPanic.normal ?_
      go_wp2
      go_meet
      exact ⟨X5, M6, fa, fn, fc, gs, rfl, H7, hid (zQu HF6.out HX6.out HO7.out), hid ((HO7.out.block _ (fun e => by have h1 := HM6.out; have h2 := HX6.out; unfold Bk at h2; rw [← e, h1] at h2; cases h2)).trans HM6.out), HG6, hid (HB6.out.trans (HO7.out.below HXG5.out))⟩
     exact AllReadyH.nil
    exact AllReadyH.nil
   exact AllReadyH.nil
  refine hDo rfl (fun K hK => ?_) ?_
  ·refine zQ3 rfl rfl ?_
   intro v8 M8 hM8 hm8 hb8
   have HB8 : Hid (Below w1.heap.size w1 v8) := hid ((Below.refl w1.heap.size w1).drew.trans (hb8.mono (Below.refl w1.heap.size w1).drew.size))
   have HM8 := hid hm8
   have HG8 : Hid (w1.heap.size ≤ M8) := hid (by rw [hM8]; exact (Below.refl w1.heap.size w1).drew.size)
   clear hm8 hb8 hM8
   refine hK.out _ _ (HKS.out _ HB8.out) (fun hHeld => ?_)
   clear hK K
   try simp only [Act.put, aS, aZ, aC]
   refine zR [4, 7] ?_
   refine hDo rfl (fun K hK => ?_) ?_
   ·go_simp
    (go_at_call 36; (with_reducible refine (KF.out _ HB8.out).mono ?_); rintro e v9 ⟨fa, fn, fc, gs, rfl, hf9, hb9⟩)
    have HB9 : Hid (Below w1.heap.size w1 v9) := hid (HB8.out.trans (hb9.mono HB8.out.size))
    have HM9 := hid ((hb9.block _ (Array.getElem?_eq_some_iff.1 HM8.out).1).trans HM8.out)
    have HF9 := hid hf9
    clear hf9 hb9
    refine hK.out _ _ (HKS.out _ HB9.out) (fun hHeld => ?_)
    clear hK K
    try simp only [Act.put, aS, aZ, aC]
    refine zT 6 (v := .agg (srA (⟨a, n, c, L, z, ta, tn, tc, tok, fa, fn, fc, (FF z (FO L tok)), M8⟩ : SR))) rfl (fun w0 h0 => zQt (⟨a, n, c, L, z, ta, tn, tc, tok, fa, fn, fc, (FF z (FO L tok)), M8⟩ : SR) HZ.out (.tmp 8) (.tmp 9) (.tmp 12) (.tmp 13) rfl rfl rfl rfl) ?_
    try simp only [Act.put, aS, aZ, aC]
    refine zR [7] ?_
    refine hDo rfl (fun K hK => ?_) ?_
    ·refine zQr rfl rfl ?_
     intro v10 X10 hX10 hx10 hb10
     have HB10 : Hid (Below w1.heap.size w1 v10) := hid (HB9.out.trans (hb10.mono HB9.out.size))
     have HF10 := hid (HF9.out.below hb10)
     have HM10 := hid ((hb10.block _ (Array.getElem?_eq_some_iff.1 HM9.out).1).trans HM9.out)
     have HX10 := hid hx10
     have HXG10 : Hid (w1.heap.size ≤ X10) := hid (by rw [hX10]; exact HB9.out.size)
     clear hx10 hb10 hX10
     refine hK.out _ _ (HKS.out _ HB10.out) (fun hHeld => ?_)
     clear hK K
     try simp only [Act.put, aS, aZ, aC]
     refine zR [8] ?_
     refine hDo rfl (fun K hK => ?_) ?_
     ·refine zQd zQf rfl (.tmp 6) (.tmp 14) rfl X10 rfl (srA (⟨a, n, c, L, z, ta, tn, tc, tok, fa, fn, fc, (FF z (FO L tok)), M8⟩ : SR)) rfl (zQj HZ.out) (zRP _) srZ rfl HX10.out ?_
      intro v11 h11 ho11
      have H11 := hid h11
      have HO11 := hid ho11
      clear h11 ho11
      refine hK.out _ _ ((HKS.out _ HB10.out).only HO11.out (by have h1 := HE1.out.lt; have h2 := HXG10.out; omega)) (fun hHeld => ?_)
      clear hK K
      try simp only [Act.put]
      refine wpAnyH_done (by kernel_rfl) ?_ _
      refine NoPanic.normal ?_
      go_wp2
      go_meet
      exact ⟨X10, M8, fa, fn, fc, gs, rfl, H11, hid (zQu HF10.out HX10.out HO11.out), hid ((HO11.out.block _ (fun e => by have h1 := HM10.out; have h2 := HX10.out; unfold Bk at h2; rw [← e, h1] at h2; cases h2)).trans HM10.out), HG8, hid (HB10.out.trans (HO11.out.below HXG10.out))⟩
     exact AllReadyH.nil
    exact AllReadyH.nil
   refine hDo rfl (fun K hK => ?_) ?_
   ·refine zQr rfl rfl ?_
    intro v12 X12 hX12 hx12 hb12
    have HB12 : Hid (Below w1.heap.size w1 v12) := hid (HB8.out.trans (hb12.mono HB8.out.size))
    have HM12 := hid ((hb12.block _ (Array.getElem?_eq_some_iff.1 HM8.out).1).trans HM8.out)
    have HX12 := hid hx12
    have HXG12 : Hid (w1.heap.size ≤ X12) := hid (by rw [hX12]; exact HB8.out.size)
    clear hx12 hb12 hX12
    refine hK.out _ _ (HKS.out _ HB12.out) (fun hHeld => ?_)
    clear hK K
    try simp only [Act.put, aS, aZ, aC]
    refine zR [4] ?_
    refine hDo rfl (fun K hK => ?_) ?_
    ·go_simp
     (go_at_call 36; (with_reducible refine (KF.out _ HB12.out).mono ?_); rintro e v13 ⟨fa, fn, fc, gs, rfl, hf13, hb13⟩)
     have HB13 : Hid (Below w1.heap.size w1 v13) := hid (HB12.out.trans (hb13.mono HB12.out.size))
     have HM13 := hid ((hb13.block _ (Array.getElem?_eq_some_iff.1 HM12.out).1).trans HM12.out)
     have HX13 := hid (HX12.out.below hb13)
     have HF13 := hid hf13
     clear hf13 hb13
     refine hK.out _ _ (HKS.out _ HB13.out) (fun hHeld => ?_)
     clear hK K
     try simp only [Act.put, aS, aZ, aC]
     refine zT 6 (v := .agg (srA (⟨a, n, c, L, z, ta, tn, tc, tok, fa, fn, fc, (FF z (FO L tok)), M8⟩ : SR))) rfl (fun w0 h0 => zQt (⟨a, n, c, L, z, ta, tn, tc, tok, fa, fn, fc, (FF z (FO L tok)), M8⟩ : SR) HZ.out (.tmp 8) (.tmp 9) (.tmp 12) (.tmp 13) rfl rfl rfl rfl) ?_
     try simp only [Act.put, aS, aZ, aC]
     refine zR [8] ?_
     refine hDo rfl (fun K hK => ?_) ?_
     ·refine zQd zQf rfl (.tmp 6) (.tmp 14) rfl X12 rfl (srA (⟨a, n, c, L, z, ta, tn, tc, tok, fa, fn, fc, (FF z (FO L tok)), M8⟩ : SR)) rfl (zQj HZ.out) (zRP _) srZ rfl HX13.out ?_
      intro v14 h14 ho14
      have H14 := hid h14
      have HO14 := hid ho14
      clear h14 ho14
      refine hK.out _ _ ((HKS.out _ HB13.out).only HO14.out (by have h1 := HE1.out.lt; have h2 := HXG12.out; omega)) (fun hHeld => ?_)
      clear hK K
      try simp only [Act.put]
      refine wpAnyH_done (by kernel_rfl) ?_ _
      refine NoPanic.normal ?_
      go_wp2
      go_meet
      exact ⟨X12, M8, fa, fn, fc, gs, rfl, H14, hid (zQu HF13.out HX13.out HO14.out), hid ((HO14.out.block _ (fun e => by have h1 := HM13.out; have h2 := HX13.out; unfold Bk at h2; rw [← e, h1] at h2; cases h2)).trans HM13.out), HG8, hid (HB13.out.trans (HO14.out.below HXG12.out))⟩
     exact AllReadyH.nil
    exact AllReadyH.nil
   exact AllReadyH.nil
  refine hDo rfl (fun K hK => ?_) ?_
  ·refine zQr rfl rfl ?_
   intro v15 X15 hX15 hx15 hb15
   have HB15 : Hid (Below w1.heap.size w1 v15) := hid ((Below.refl w1.heap.size w1).drew.trans (hb15.mono (Below.refl w1.heap.size w1).drew.size))
   have HX15 := hid hx15
   have HXG15 : Hid (w1.heap.size ≤ X15) := hid (by rw [hX15]; exact (Below.refl w1.heap.size w1).drew.size)
   clear hx15 hb15 hX15
   refine hK.out _ _ (HKS.out _ HB15.out) (fun hHeld => ?_)
   clear hK K
   try simp only [Act.put, aS, aZ, aC]
   refine zR [4, 5] ?_
   refine hDo rfl (fun K hK => ?_) ?_
   ·go_simp
    (go_at_call 36; (with_reducible refine (KF.out _ HB15.out).mono ?_); rintro e v16 ⟨fa, fn, fc, gs, rfl, hf16, hb16⟩)
    have HB16 : Hid (Below w1.heap.size w1 v16) := hid (HB15.out.trans (hb16.mono HB15.out.size))
    have HX16 := hid (HX15.out.below hb16)
    have HF16 := hid hf16
    clear hf16 hb16
    refine hK.out _ _ (HKS.out _ HB16.out) (fun hHeld => ?_)
    clear hK K
    try simp only [Act.put, aS, aZ, aC]
    refine zR [5] ?_
    refine hDo rfl (fun K hK => ?_) ?_
    ·refine zQ3 rfl rfl ?_
     intro v17 M17 hM17 hm17 hb17
     have HB17 : Hid (Below w1.heap.size w1 v17) := hid (HB16.out.trans (hb17.mono HB16.out.size))
     have HF17 := hid (HF16.out.below hb17)
     have HX17 := hid (HX16.out.below hb17)
     have HM17 := hid hm17
     have HG17 : Hid (w1.heap.size ≤ M17) := hid (by rw [hM17]; exact HB16.out.size)
     clear hm17 hb17 hM17
     refine hK.out _ _ (HKS.out _ HB17.out) (fun hHeld => ?_)
     clear hK K
     try simp only [Act.put, aS, aZ, aC]
     refine zT 6 (v := .agg (srA (⟨a, n, c, L, z, ta, tn, tc, tok, fa, fn, fc, (FF z (FO L tok)), M17⟩ : SR))) rfl (fun w0 h0 => zQt (⟨a, n, c, L, z, ta, tn, tc, tok, fa, fn, fc, (FF z (FO L tok)), M17⟩ : SR) HZ.out (.tmp 8) (.tmp 9) (.tmp 12) (.tmp 13) rfl rfl rfl rfl) ?_
     try simp only [Act.put, aS, aZ, aC]
     refine zR [8] ?_
     refine hDo rfl (fun K hK => ?_) ?_
     ·refine zQd zQf rfl (.tmp 6) (.tmp 14) rfl X15 rfl (srA (⟨a, n, c, L, z, ta, tn, tc, tok, fa, fn, fc, (FF z (FO L tok)), M17⟩ : SR)) rfl (zQj HZ.out) (zRP _) srZ rfl HX17.out ?_
      intro v18 h18 ho18
      have H18 := hid h18
      have HO18 := hid ho18
      clear h18 ho18
      refine hK.out _ _ ((HKS.out _ HB17.out).only HO18.out (by have h1 := HE1.out.lt; have h2 := HXG15.out; omega)) (fun hHeld => ?_)
      clear hK K
      try simp only [Act.put]
      refine wpAnyH_done (by kernel_rfl) ?_ _
      refine NoPanic.normal ?_
      go_wp2
      go_meet
      exact ⟨X15, M17, fa, fn, fc, gs, rfl, H18, hid (zQu HF17.out HX17.out HO18.out), hid ((HO18.out.block _ (fun e => by have h1 := HM17.out; have h2 := HX17.out; unfold Bk at h2; rw [← e, h1] at h2; cases h2)).trans HM17.out), HG17, hid (HB17.out.trans (HO18.out.below HXG15.out))⟩
     exact AllReadyH.nil
    exact AllReadyH.nil
   refine hDo rfl (fun K hK => ?_) ?_
   ·refine zQ3 rfl rfl ?_
    intro v19 M19 hM19 hm19 hb19
    have HB19 : Hid (Below w1.heap.size w1 v19) := hid (HB15.out.trans (hb19.mono HB15.out.size))
    have HX19 := hid (HX15.out.below hb19)
    have HM19 := hid hm19
    have HG19 : Hid (w1.heap.size ≤ M19) := hid (by rw [hM19]; exact HB15.out.size)
    clear hm19 hb19 hM19
    refine hK.out _ _ (HKS.out _ HB19.out) (fun hHeld => ?_)
    clear hK K
    try simp only [Act.put, aS, aZ, aC]
    refine zR [4] ?_
    refine hDo rfl (fun K hK => ?_) ?_
    ·go_simp
     (go_at_call 36; (with_reducible refine (KF.out _ HB19.out).mono ?_); rintro e v20 ⟨fa, fn, fc, gs, rfl, hf20, hb20⟩)
     have HB20 : Hid (Below w1.heap.size w1 v20) := hid (HB19.out.trans (hb20.mono HB19.out.size))
     have HM20 := hid ((hb20.block _ (Array.getElem?_eq_some_iff.1 HM19.out).1).trans HM19.out)
     have HX20 := hid (HX19.out.below hb20)
     have HF20 := hid hf20
     clear hf20 hb20
     refine hK.out _ _ (HKS.out _ HB20.out) (fun hHeld => ?_)
     clear hK K
     try simp only [Act.put, aS, aZ, aC]
     refine zT 6 (v := .agg (srA (⟨a, n, c, L, z, ta, tn, tc, tok, fa, fn, fc, (FF z (FO L tok)), M19⟩ : SR))) rfl (fun w0 h0 => zQt (⟨a, n, c, L, z, ta, tn, tc, tok, fa, fn, fc, (FF z (FO L tok)), M19⟩ : SR) HZ.out (.tmp 8) (.tmp 9) (.tmp 12) (.tmp 13) rfl rfl rfl rfl) ?_
     try simp only [Act.put, aS, aZ, aC]
     refine zR [8] ?_
     refine hDo rfl (fun K hK => ?_) ?_
     ·refine zQd zQf rfl (.tmp 6) (.tmp 14) rfl X15 rfl (srA (⟨a, n, c, L, z, ta, tn, tc, tok, fa, fn, fc, (FF z (FO L tok)), M19⟩ : SR)) rfl (zQj HZ.out) (zRP _) srZ rfl HX20.out ?_
      intro v21 h21 ho21
      have H21 := hid h21
      have HO21 := hid ho21
      clear h21 ho21
      refine hK.out _ _ ((HKS.out _ HB20.out).only HO21.out (by have h1 := HE1.out.lt; have h2 := HXG15.out; omega)) (fun hHeld => ?_)
      clear hK K
      try simp only [Act.put]
      refine wpAnyH_done (by kernel_rfl) ?_ _
      refine NoPanic.normal ?_
      go_wp2
      go_meet
      exact ⟨X15, M19, fa, fn, fc, gs, rfl, H21, hid (zQu HF20.out HX20.out HO21.out), hid ((HO21.out.block _ (fun e => by have h1 := HM20.out; have h2 := HX20.out; unfold Bk at h2; rw [← e, h1] at h2; cases h2)).trans HM20.out), HG19, hid (HB20.out.trans (HO21.out.below HXG15.out))⟩
     exact AllReadyH.nil
    exact AllReadyH.nil
   exact AllReadyH.nil
  exact AllReadyH.nil
 case rest =>
 obtain ⟨X, M, fa, fn, fc, gs, rfl, HX, HFM, HM, HMG, HB⟩ := hcut
 obtain ⟨wk, hwk⟩ : ∃ wk, wk = wc := ⟨_, rfl⟩
 rw [← hwk] at HX HFM HM HB ⊢
 clear hwk
 obtain ⟨x, hx⟩ : ∃ x, x = (⟨a, n, c, L, z, ta, tn, tc, tok, fa, fn, fc, FF z (FO L tok), M⟩ : SR) := ⟨_, rfl⟩
 have HXE := hid hx
 rw [← hx] at HX
 have HSI : Hid (Sit wk x) := hid (by
  rw [hx]
  exact ⟨HT1.out.keep HB.out, HO1.out.below HB.out, HTK.out.below HB.out, HFM.out.fms, ⟨#[], 0, HM.out, fun e he => by cases he⟩⟩)
 have hfn : (FF z (FO L tok)).length = fn := HFM.out.hn
 have hfn6 : fn ≤ 1000000 := by
  rw [← hfn, zQo]
  have h1 : (FO L tok).length ≤ L.length := List.length_filter_le ..
  have h2 := HLN.out
  have h3 := HN.out
  omega
 have HSO : Hid (SOk x) := hid (by
  rw [hx]
  exact ⟨HZ.out, by have := HN.out; show n ≤ 1000000; omega, HNM.out, HTN.out, hfn6, fun i hi => by
   have h1 := zSE z L tok (t := i) (by rw [hfn]; exact hi)
   show (fA (FF z (FO L tok)) i).S.length ≤ 1000000
   omega, zTk HSL.out⟩)
 have HXN : Hid (x.z.length = 10 ∧ x.tn = tn ∧ x.F.length = fn ∧ x.L = L ∧ x.z = z ∧ x.tok = tok ∧ x.M = M) := hid (by rw [hx]; exact ⟨HZ.out, rfl, hfn, rfl, rfl, rfl, rfl⟩)
 have HX12 : Hid (∀ u, Bk u X 78 (srA x) → u.cell? ⟨X, 12, none⟩ = some (.slice fa fn fc)) := hid fun u hu => by rw [hu.cell, (zRi HXN.out.1).2.1, hx]
 have KW : Hid (∀ u, Calls Tryz.prog 38 #[.slice fa fn fc] u fun e w' => ∃ ra rc, e = .returned (.slice ra fn rc) ∧ Vs 1 w' ra fn rc (intsK (List.range fn)) ∧ Below u.heap.size u w') := hid fun u => by
  refine (zRl fa fn fc u hfn6).mono ?_
  rintro e w' ⟨ra, rc, rfl, h1, h2⟩
  exact ⟨ra, rc, rfl, h1.vs, h2⟩
 have KK : Hid (∀ u ra rc, Sit u x → Vs 1 u ra fn rc (intsK (List.range fn)) → Calls Tryz.prog 37 #[.agg (srA x), .slice ra fn rc, .int .i64 0, .int .i64 (tn : Int)] u (RecP x u (KD x.L x.z x.tok x.F (List.range fn) 0 tn))) := hid fun u ra rc hu hv => by
  have hl : (List.range fn).length = fn := List.length_range
  have h := (zRX x HSO.out (3 * tn + 2)).1 (List.range fn) ra rc 0 tn u (fun i hi => by rw [HXN.out.2.2.1]; exact List.mem_range.1 hi) List.nodup_range (Nat.zero_le _) (by rw [HXN.out.2.1]; exact Nat.le_refl _) (by omega) hu (by rw [hl]; exact hv)
  rw [hl] at h
  exact h
 have HKX : Hid (∀ u, Bk u X 78 (srA x) → Bk u X 78 (srA x) ∧ u.cell? ⟨X, 12, none⟩ = some (.slice fa fn fc)) := hid fun u hu => ⟨hu, HX12.out u hu⟩
 clear hx hfn hfn6
 go_upto_region 2 with fail
 go_cut [7] (fun u wx => ∃ Y m t na nc, u = .pointer (some ⟨Y, 0, none⟩) ∧ Hid (Bk wx Y 80 (fdA m na (t : List ND).length nc)) ∧ Hid (NdS wx na t.length nc t) ∧ Hid (Cn (KD x.L x.z x.tok x.F (List.range fn) 0 tn) m t) ∧ Hid (Kx x.M wk wx))
 case first =>
  refine wp_region_noPanic ?_
  refine wp_region_held_drew (S := fun u => Bk u X 78 (srA x) ∧ u.cell? ⟨X, 12, none⟩ = some (.slice fa fn fc)) (by kernel_rfl) (HKX.out _ (HX.out.drew)) (fun hHeld => ?_)
  refine zT 0 (v := .agg (srA x)) rfl (fun w0 h0 => zBc zQf (.tmp 6) X rfl (srA x) (zQj HXN.out.1) h0.1) ?_
  try simp only [Act.put, aS, aZ, aC]
  refine zG 1 rfl ?_
  try simp only [Act.put, aS, aZ, aC]
  refine zG 2 rfl ?_
  try simp only [Act.put, aS, aZ, aC]
  refine zG 4 rfl ?_
  try simp only [Act.put, aS, aZ, aC]
  refine zG 5 rfl ?_
  try simp only [Act.put, aS, aZ, aC]
  refine zR [3, 7] ?_
  refine hDo rfl (fun K hK => ?_) ?_
  ·go_simp
   (go_at_call 38; (with_reducible refine (KW.out _).mono ?_); rintro e v41 ⟨ra, rc, rfl, hr41, hb41⟩)
   have HR41 := hid hr41
   have HK41 : Hid (Kx x.M wk v41) := hid ((Kx.of (M := x.M) (Below.refl wk.heap.size wk).drew).bl hb41)
   have HI41 : Hid (MI v41 x) := hid ((HSI.out.mi.below (Below.refl wk.heap.size wk).drew).below hb41)
   clear hr41 hb41
   refine hK.out _ _ (HKX.out _ (HX.out.kx HK41.out HSI.out.mi.isMap)) (fun hHeld => ?_)
   clear hK K
   try simp only [Act.put, aS, aZ, aC]
   refine zR [6, 7] ?_
   refine hDo rfl (fun K hK => ?_) ?_
   ·go_simp
    (go_at_call 37; (with_reducible refine (KK.out _ ra rc (HSI.out.kx HK41.out HI41.out) HR41.out).mono ?_); rintro e v42 ⟨⟨m, t⟩, ⟨na, nc, rfl, hn42⟩, hc42, hm42, hk42⟩)
    have HR42 := hid (HR41.out.kx hk42 HI41.out.isMap)
    have HN42 := hid hn42
    have HC := hid hc42
    have HK42 : Hid (Kx x.M wk v42) := hid (HK41.out.trans hk42)
    have HI42 : Hid (MI v42 x) := hid hm42
    clear hn42 hc42 hm42 hk42
    dsimp only at HN42 HC ⊢
    refine hK.out _ _ (HKX.out _ (HX.out.kx HK42.out HSI.out.mi.isMap)) (fun hHeld => ?_)
    clear hK K
    try simp only [Act.put, aS, aZ, aC]
    refine zR [7] ?_
    refine hDo rfl (fun K hK => ?_) ?_
    ·refine zRH rfl rfl ?_
     intro v43 Y43 hY43 hy43 hb43
     have HR43 := hid (HR42.out.kx (Kx.of hb43) HI42.out.isMap)
     have HN43 := hid (HN42.out.kx (Kx.of hb43) HI42.out.isMap)
     have HY43 := hid hy43
     have HYG43 : Hid (wk.heap.size ≤ Y43) := hid (by rw [hY43]; exact HK42.out.size)
     have HK43 : Hid (Kx x.M wk v43) := hid (HK42.out.bl hb43)
     have HI43 : Hid (MI v43 x) := hid (HI42.out.below hb43)
     clear hy43 hb43 hY43
     refine hK.out _ _ (HKX.out _ (HX.out.kx HK43.out HSI.out.mi.isMap)) (fun hHeld => ?_)
     clear hK K
     try simp only [Act.put, aS, aZ, aC]
     refine zR [8] ?_
     refine hDo rfl (fun K hK => ?_) ?_
     ·refine zQd zQc rfl (.tmp 7) (.tmp 21) rfl Y43 rfl (fdA m na t.length nc) rfl rfl (zQe ..) (fdA 0 none 0 0) rfl HY43.out ?_
      intro v44 h44 ho44
      have H44 := hid h44
      have HO44 := hid ho44
      clear h44 ho44
      refine hK.out _ _ (HKX.out _ ((HX.out.kx HK43.out HSI.out.mi.isMap).only HO44.out (by have h1 := HX.out.lt; have h2 := HYG43.out; omega))) (fun hHeld => ?_)
      clear hK K
      try simp only [Act.put]
      refine wpAnyH_done (by kernel_rfl) ?_ _
      refine NoPanic.normal ?_
      go_wp2
      go_meet
      exact ⟨Y43, m, t, na, nc, rfl, H44, hid (HN43.out.fnd HY43.out HO44.out), HC, hid (HK43.out.put HO44.out HYG43.out)⟩
     exact AllReadyH.nil
    exact AllReadyH.nil
   refine hDo rfl (fun K hK => ?_) ?_
   ·refine zRH rfl rfl ?_
    intro v45 Y45 hY45 hy45 hb45
    have HR45 := hid (HR41.out.kx (Kx.of hb45) HI41.out.isMap)
    have HY45 := hid hy45
    have HYG45 : Hid (wk.heap.size ≤ Y45) := hid (by rw [hY45]; exact HK41.out.size)
    have HK45 : Hid (Kx x.M wk v45) := hid (HK41.out.bl hb45)
    have HI45 : Hid (MI v45 x) := hid (HI41.out.below hb45)
    clear hy45 hb45 hY45
    refine hK.out _ _ (HKX.out _ (HX.out.kx HK45.out HSI.out.mi.isMap)) (fun hHeld => ?_)
    clear hK K
    try simp only [Act.put, aS, aZ, aC]
    refine zR [6] ?_
    refine hDo rfl (fun K hK => ?_) ?_
    ·go_simp
     (go_at_call 37; (with_reducible refine (KK.out _ ra rc (HSI.out.kx HK45.out HI45.out) HR45.out).mono ?_); rintro e v46 ⟨⟨m, t⟩, ⟨na, nc, rfl, hn46⟩, hc46, hm46, hk46⟩)
     have HY46 := hid (HY45.out.kx hk46 HI45.out.isMap)
     have HR46 := hid (HR45.out.kx hk46 HI45.out.isMap)
     have HN46 := hid hn46
     have HC := hid hc46
     have HK46 : Hid (Kx x.M wk v46) := hid (HK45.out.trans hk46)
     have HI46 : Hid (MI v46 x) := hid hm46
     clear hn46 hc46 hm46 hk46
     dsimp only at HN46 HC ⊢
     refine hK.out _ _ (HKX.out _ (HX.out.kx HK46.out HSI.out.mi.isMap)) (fun hHeld => ?_)
     clear hK K
     try simp only [Act.put, aS, aZ, aC]
     refine zR [8] ?_
     refine hDo rfl (fun K hK => ?_) ?_
     ·refine zQd zQc rfl (.tmp 7) (.tmp 21) rfl Y45 rfl (fdA m na t.length nc) rfl rfl (zQe ..) (fdA 0 none 0 0) rfl HY46.out ?_
      intro v47 h47 ho47
      have H47 := hid h47
      have HO47 := hid ho47
      clear h47 ho47
      refine hK.out _ _ (HKX.out _ ((HX.out.kx HK46.out HSI.out.mi.isMap).only HO47.out (by have h1 := HX.out.lt; have h2 := HYG45.out; omega))) (fun hHeld => ?_)
      clear hK K
      try simp only [Act.put]
      refine wpAnyH_done (by kernel_rfl) ?_ _
      refine NoPanic.normal ?_
      go_wp2
      go_meet
      exact ⟨Y45, m, t, na, nc, rfl, H47, hid (HN46.out.fnd HY46.out HO47.out), HC, hid (HK46.out.put HO47.out HYG45.out)⟩
     exact AllReadyH.nil
    exact AllReadyH.nil
   exact AllReadyH.nil
  refine hDo rfl (fun K hK => ?_) ?_
  ·refine zRH rfl rfl ?_
   intro v48 Y48 hY48 hy48 hb48
   have HY48 := hid hy48
   have HYG48 : Hid (wk.heap.size ≤ Y48) := hid (by rw [hY48]; exact (Kx.of (M := x.M) (Below.refl wk.heap.size wk).drew).size)
   have HK48 : Hid (Kx x.M wk v48) := hid ((Kx.of (M := x.M) (Below.refl wk.heap.size wk).drew).bl hb48)
   have HI48 : Hid (MI v48 x) := hid ((HSI.out.mi.below (Below.refl wk.heap.size wk).drew).below hb48)
   clear hy48 hb48 hY48
   refine hK.out _ _ (HKX.out _ (HX.out.kx HK48.out HSI.out.mi.isMap)) (fun hHeld => ?_)
   clear hK K
   try simp only [Act.put, aS, aZ, aC]
   refine zR [3] ?_
   refine hDo rfl (fun K hK => ?_) ?_
   ·go_simp
    (go_at_call 38; (with_reducible refine (KW.out _).mono ?_); rintro e v49 ⟨ra, rc, rfl, hr49, hb49⟩)
    have HY49 := hid (HY48.out.kx (Kx.of hb49) HI48.out.isMap)
    have HR49 := hid hr49
    have HK49 : Hid (Kx x.M wk v49) := hid (HK48.out.bl hb49)
    have HI49 : Hid (MI v49 x) := hid (HI48.out.below hb49)
    clear hr49 hb49
    refine hK.out _ _ (HKX.out _ (HX.out.kx HK49.out HSI.out.mi.isMap)) (fun hHeld => ?_)
    clear hK K
    try simp only [Act.put, aS, aZ, aC]
    refine zR [6] ?_
    refine hDo rfl (fun K hK => ?_) ?_
    ·go_simp
     (go_at_call 37; (with_reducible refine (KK.out _ ra rc (HSI.out.kx HK49.out HI49.out) HR49.out).mono ?_); rintro e v50 ⟨⟨m, t⟩, ⟨na, nc, rfl, hn50⟩, hc50, hm50, hk50⟩)
     have HY50 := hid (HY49.out.kx hk50 HI49.out.isMap)
     have HR50 := hid (HR49.out.kx hk50 HI49.out.isMap)
     have HN50 := hid hn50
     have HC := hid hc50
     have HK50 : Hid (Kx x.M wk v50) := hid (HK49.out.trans hk50)
     have HI50 : Hid (MI v50 x) := hid hm50
     clear hn50 hc50 hm50 hk50
     dsimp only at HN50 HC ⊢
     refine hK.out _ _ (HKX.out _ (HX.out.kx HK50.out HSI.out.mi.isMap)) (fun hHeld => ?_)
     clear hK K
     try simp only [Act.put, aS, aZ, aC]
     refine zR [8] ?_
     refine hDo rfl (fun K hK => ?_) ?_
     ·refine zQd zQc rfl (.tmp 7) (.tmp 21) rfl Y48 rfl (fdA m na t.length nc) rfl rfl (zQe ..) (fdA 0 none 0 0) rfl HY50.out ?_
      intro v51 h51 ho51
      have H51 := hid h51
      have HO51 := hid ho51
      clear h51 ho51
      refine hK.out _ _ (HKX.out _ ((HX.out.kx HK50.out HSI.out.mi.isMap).only HO51.out (by have h1 := HX.out.lt; have h2 := HYG48.out; omega))) (fun hHeld => ?_)
      clear hK K
      try simp only [Act.put]
      refine wpAnyH_done (by kernel_rfl) ?_ _
      refine NoPanic.normal ?_
      go_wp2
      go_meet
      exact ⟨Y48, m, t, na, nc, rfl, H51, hid (HN50.out.fnd HY50.out HO51.out), HC, hid (HK50.out.put HO51.out HYG48.out)⟩
     exact AllReadyH.nil
    exact AllReadyH.nil
   exact AllReadyH.nil
  exact AllReadyH.nil
 case rest =>
 obtain ⟨Y, m, t, na, nc, rfl, HY, HNT, HCT, HKZ⟩ := hcut
 obtain ⟨wz, hwz⟩ : ∃ wz, wz = wc := ⟨_, rfl⟩
 rw [← hwz] at HY HNT HKZ ⊢
 clear hwz
 have y0 : wz.cell? ⟨Y, 0, none⟩ = some (.int .i64 (m : Int)) := HY.out.cell 0
 have y1 : wz.cell? ⟨Y, 1, none⟩ = some (.slice na t.length nc) := HY.out.cell 1
 obtain ⟨tl, htl⟩ : ∃ tl, tl = t.length := ⟨_, rfl⟩
 have HTT := hid htl
 rw [← htl] at y1
 clear htl
 go_upto_region 3 with fail
 go_quiet (fail)
 go_wp2
 refine bodyPost_ret (v := .tuple #[.int .i64 (m : Int), .slice na tl nc]) (by simp [results, Tryz.results16, go_sem]) rfl ⟨m, t, na, nc, by rw [HTT.out], HNT.out.below (below_drewN (Below.refl _ _) _), ?_, ?_⟩
 ·have h := HCT.out
  rw [← HXN.out.2.2.1, ← HXN.out.2.1] at h
  have h2 := zTw (x := x) HSO.out.g (m := m) (t := t) (by
   have e : x.tok.length = x.tn := by rw [HXN.out.2.1, HXN.out.2.2.2.2.2.1]; exact HTL.out
   rw [e]; exact h)
  rw [HXN.out.2.2.2.1, HXN.out.2.2.2.2.1, HXN.out.2.2.2.2.2.1] at h2
  exact h2
 ·refine HBW.out.trans (below_drewN ((HB.out.trans (HKZ.out.below (by rw [HXN.out.2.2.2.2.2.2]; exact HMG.out) HB.out.size)).mono HBW.out.size) _)
end Go.Proofs.YtcjbhdgjcpnklaaGreatDoor
