import Derived.Deep.RegionHeld3
import Derived.Test.YtcjbhdgjcpnklaaGreatDoorR11
import Derived.Test.YtcjbhdgjcpnklaaGreatDoorR16
import Derived.Test.YtcjbhdgjcpnklaaGreatDoorR18
namespace Go.Proofs.YtcjbhdgjcpnklaaGreatDoor
section
open Go.RowKit
def ltF (F : List FD) (t : TK) (alone : Bool) (x : IT) : Bool := match (fA F x.1).S.drop x.2.1 with
 | d :: _ => letB d t alone
 | [] => false
def pastL (F : List FD) (t : TK) (alone : Bool) (I : List IT) : List IT := (I.filter (ltF F t alone)).map nexI
theorem zJQ {F : List FD} {t : TK} {alone : Bool} {I : List IT} {k : Nat} (h : k < I.length) : pastL F t alone (I.take (k + 1)) = pastL F t alone (I.take k) ++ (if ltF F t alone (xA I k) = true then [nexI (xA I k)] else []) := by
 unfold pastL
 rw [List.take_succ_eq_append_getElem h, List.filter_append, List.map_append, zJJ h]
 congr 1
 by_cases hb : ltF F t alone I[k] = true
 ·rw [List.filter_cons_of_pos hb, if_pos hb]; rfl
 ·rw [List.filter_cons_of_neg hb, if_neg hb]; rfl
theorem zGn (F : List FD) (t : TK) (alone : Bool) (I : List IT) : (pastL F t alone I).length ≤ I.length := by
 unfold pastL
 rw [List.length_map]
 exact List.length_filter_le ..
theorem zC2 {F : List FD} {t : TK} {alone : Bool} {I : List IT} {y : IT} : y ∈ pastL F t alone I ↔ ∃ x ∈ I, ∃ d r, (fA F x.1).S.drop x.2.1 = d :: r ∧ letB d t alone = true ∧ y = nexI x := by
 unfold pastL
 rw [List.mem_map]
 constructor
 ·rintro ⟨x, hx, rfl⟩
  obtain ⟨h1, h2⟩ := List.mem_filter.1 hx
  unfold ltF at h2
  split at h2
  ·exact ⟨x, h1, _, _, by assumption, h2, rfl⟩
  ·cases h2
 ·rintro ⟨x, hx, d, r, hd, hl, rfl⟩
  exact ⟨x, List.mem_filter.2 ⟨hx, by unfold ltF; rw [hd]; exact hl⟩, rfl⟩
set_option maxRecDepth 100000 in
set_option maxHeartbeats 32000000 in
theorem zLQ (F : List FD) (wf : World) (fa : Option Addr) (fc : Nat) (hF : FsV wf fa fc F) (W : Nat) (pa : Option Addr) (pc : Nat) (Ps : List Nat) (Is : List (List IT)) (As : List (List (List IT))) (t : TK) (alone : Bool) (w : World)
  (hs : WkS wf.heap.size w W fa F.length fc pa pc Ps Is As) (hwf : Below wf.heap.size wf w) (li : Nat) (hli : Ps.length = li + 1) (hn : Ps.length ≤ 1000) (I : List IT) (hIe : Is.getD li [] = I) (hm : I.length ≤ 2000000)
  (hI : ∀ x ∈ I, x.1 < F.length ∧ x.2.1 ≤ (fA F x.1).S.length) (hne : ∀ f, f < F.length → (fA F f).S ≠ []) (hS : ∀ f, f < F.length → (fA F f).S.length ≤ 100) :
  Calls Tryz.prog 41 #[.pointer (some ⟨W, 0, none⟩), .agg #[.int .i64 t.k, .int .i64 t.f, .int .i64 t.t, .string (mk (txN t)), .int .i64 t.e], .bool alone] w fun e w' => ∃ a c, e = .returned (.slice a (pastL F t alone I).length c) ∧ OwnV w.heap.size 93 3 w' a (pastL F t alone I).length c (itC (pastL F t alone I)) ∧ Below w.heap.size w w' := by
 have HF := hid hF
 have HWF := hid hwf
 have HI := hid hI
 have HNE := hid hne
 have HSL := hid hS
 have HMX := hid hm
 obtain ⟨B0, hB0⟩ : ∃ b, b = w.heap.size := ⟨_, rfl⟩
 have HB00 := hid hB0
 obtain ⟨w1, hw1⟩ : ∃ w1, w1 = w.alloc (.cells #[.int .i64 t.k, .int .i64 t.f, .int .i64 t.t, .string (mk (txN t)), .int .i64 t.e] 51) := ⟨_, rfl⟩
 have HT1 : Hid (T5 w1 B0 t.k t.f t.t (txN t) t.e) := hid (by rw [hw1, hB0]; exact T5.new w _ _ _ _ _)
 have HB1 : Hid (Below w.heap.size w w1) := hid (by rw [hw1]; exact zAA w _)
 have hs1 := hs.below HB1.out
 have HW1 := hid hs1.bw
 have cw := hs1.bw.cell 1
 rw [show (wkA fa F.length fc pa Ps.length pc)[1]? = some (.slice pa Ps.length pc) from rfl] at cw
 obtain ⟨pb, po, rfl, _, hpc⟩ := hs1.ro.vs.at_ (by omega)
 have cp := hpc li (by omega)
 rw [zNy (by omega)] at cp
 obtain ⟨ia, ic, M, aa, ac, R, k1, k2, _⟩ := (hs1.pl li (by omega)).ex
 rw [hIe] at k1 k2
 have ci := k1.cell 0
 rw [show (pcA ia I.length ic M aa (As.getD li []).length ac)[0]? = some (.slice ia I.length ic) from rfl] at ci
 obtain ⟨Pb, hPb⟩ : ∃ b, b = Ps.getD li 0 := ⟨_, rfl⟩
 rw [← hPb] at cp ci
 have HIO : Hid (OwnV 0 93 3 w1 ia I.length ic (itC I)) := hid k2
 obtain ⟨m, hme⟩ : ∃ m, m = I.length := ⟨_, rfl⟩
 have HM := hid hme
 rw [← hme] at ci HIO hm
 obtain ⟨B1, hB11⟩ : ∃ b, b = w1.heap.size := ⟨_, rfl⟩
 have HB11 := hid hB11
 clear hB11
 obtain ⟨pn, hpn⟩ : ∃ n, n = Ps.length := ⟨_, rfl⟩
 rw [← hpn] at cw hli hn
 have HPN := hid hpn
 have hsub : IntKind.i64.wrap ((pn : Int) - 1) = (li : Int) := by
  rw [show (pn : Int) - 1 = (li : Int) by omega]
  exact IntWalk.i64_in _ (by omega)
 have hli0 : (0 : Int) ≤ (li : Int) := Int.natCast_nonneg _
 have hli1 : (li : Int) < (pn : Int) := by omega
 clear hli hF hwf hI hne hS hs hs1 hpc k1 k2 hIe hPb hme hpn
 go_enter Tryz.func41, Tryz.ntmps41
 go_upto_region 1 with fail
 rw [← hw1, ← hB0]
 clear hw1 hB0
 go_upto_region 2 with fail
 go_region
 clear cw cp ci hsub hli0 hli1
 have HB2 : Hid (Below w1.heap.size w1 w1.drew) := hid (Below.refl _ _).drew
 go_wp2
 go_loopw [7, 27] (fun u v wr => ∃ (a' : Option Addr) (c' : Nat) (Y : List IT) (k : Nat), u = .slice a' Y.length c' ∧ v = .int .i64 (k : Int) ∧ k ≤ m ∧ Hid (Y = pastL F t alone (I.take k)) ∧ Hid (OwnV B1 93 3 wr a' Y.length c' (itC Y)) ∧ Hid (Below w1.heap.size w1 wr)) (fun _ v _ => m - (intOf v).toNat)
 case atStart => exact ⟨none, 0, [], 0, rfl, rfl, Nat.zero_le _, hid (by rw [List.take_zero]; rfl), hid OwnV.none0, HB2⟩
 case round =>
  rename World => wa
  obtain ⟨a', c', Y, k, rfl, rfl, hk, HY, HO, HB⟩ := hrel
  have hk0 : (0 : Int) ≤ (k : Int) := Int.natCast_nonneg _
  obtain ⟨y', hy'⟩ : ∃ y, y = Y.length := ⟨_, rfl⟩
  have HYN := hid hy'
  have hyl : y' ≤ k := by
   rw [hy', HY.out]
   have := zGn F t alone (I.take k)
   rw [List.length_take] at this
   omega
  rw [← hy']
  clear hy'
  by_cases hlt : k < m
  ·have hltI : (k : Int) < (m : Int) := by omega
   have hkl : k < I.length := by rw [← HM.out]; exact hlt
   have hir := HIO.out.keep HB.out (Nat.le_refl _)
   obtain ⟨b, off, rfl, _, _⟩ := hir.vs.at_ (by omega)
   have HCS := hid (zHS hir.vs (j := k) hlt)
   have HIX := hid (HI.out _ (zLD hkl))
   have HSN := hid (zJQ (F := F) (t := t) (alone := alone) hkl)
   obtain ⟨x0, hx0⟩ : ∃ x, x = xA I k := ⟨_, rfl⟩
   rw [← hx0] at HCS HIX HSN
   clear hx0 hir hkl
   obtain ⟨D, hD⟩ : ∃ D, D = wa.heap.size := ⟨_, rfl⟩
   have HDD := hid hD
   obtain ⟨VX, hvx⟩ : ∃ V, V = itA x0 := ⟨_, rfl⟩
   have HVX := hid hvx
   rw [← hvx] at HCS
   clear hD hvx
   have HBA : Hid (B1 ≤ wa.heap.size) := hid (by have := HB.out.size; have := HB11.out; omega)
   go_upto_region 5 with (first
    | (refine zCI zAo rfl (.tmp 29) rfl b (off + k * 3) rfl VX (by rw [HVX.out]; rfl) HCS.out ?_)
    | (refine zAn zAo rfl (.tmp 9) (.tmp 30) rfl D (by rw [HDD.out]; rfl) VX rfl (by rw [HVX.out]; rfl) (by rw [HVX.out]; exact zHR x0) #[.int .i64 0, .int .i64 0, .int .i64 0] rfl (by rw [HDD.out]; exact Bk.new wa _ _) ?_; rw [← HDD.out]; intro w4 h4 ho4; have HB4 : Hid (Below wa.heap.size wa w4) := hid ((zAA wa _).trans (ho4.below (by rw [HDD.out]; exact Nat.le_refl _))); have H4 : Hid (Bk w4 D 93 (itA x0)) := hid (by rw [← HVX.out]; exact h4); clear h4 ho4))
   have HW4 : Hid (Bk w4 W 90 (wkA fa F.length fc (some ⟨pb, po, none⟩) Ps.length pc)) := hid ((HW1.out.below HB.out).below HB4.out)
   have HF4 : Hid (Below wf.heap.size wf w4) := hid (((HWF.out.trans (HB1.out.mono HWF.out.size)).trans (HB.out.mono (Nat.le_trans HWF.out.size HB1.out.size))).trans (HB4.out.mono (by have := HWF.out.size; have := HB1.out.size; have := HB.out.size; omega)))
   clear HCS HVX HDD
   go_wp2_with (refine zA2 zAo rfl (.tmp 9) rfl D rfl _ rfl H4.out ?_)
   refine (zGj W fa fc F (some ⟨pb, po, none⟩) Ps.length pc x0 wf w4 HW4.out HF.out HF4.out HIX.out.1 (HNE.out _ HIX.out.1) HIX.out.2).mono ?_
   rintro e8 w8 ⟨sa, sc, rfl, hst, hb8⟩
   have HST := hid hst
   have HB8 : Hid (Below wa.heap.size wa w8) := hid (HB4.out.trans (hb8.mono HB4.out.size))
   have HD8 := hid (H4.out.below hb8)
   have HF8 : Hid (Below wf.heap.size wf w8) := hid (HF4.out.trans (hb8.mono HF4.out.size))
   have HT8 : Hid (T5 w8 B0 t.k t.f t.t (txN t) t.e) := hid ((HT1.out.below HB.out).below HB8.out)
   have HX1M : Hid (x0.2.1 ≤ 1000000) := hid (by have := HSL.out x0.1 HIX.out.1; have := HIX.out.2; omega)
   obtain ⟨rl, hrl⟩ : ∃ r, r = (fA F x0.1).S.length - x0.2.1 := ⟨_, rfl⟩
   have HRL : Hid (rl = ((fA F x0.1).S.drop x0.2.1).length) := hid (by rw [hrl, List.length_drop])
   rw [← hrl] at HST ⊢
   clear hst hb8 hrl HW4 HF4 H4
   have hkm : k ≤ 2000000 := by omega
   cases hdr : (fA F x0.1).S.drop x0.2.1 with
   | nil =>
    have HDR := hid hdr
    have h9 := HRL.out
    rw [hdr, List.length_nil] at h9
    subst h9
    clear hdr HST
    go_upto_region 6 with fail
    refine wp_region_noPanic ?_
    refine wp_region_held_drew (S := fun _ => True) (by kernel_rfl) (trivial) (fun hHeld => ?_)
    refine zG 0 rfl ?_
    try simp only [Act.put, aS, aZ, aC]
    refine zG 1 rfl ?_
    try simp only [Act.put, aS, aZ, aC]
    refine zG 2 rfl ?_
    try simp only [Act.put, aS, aZ, aC]
    refine zG 3 rfl ?_
    try simp only [Act.put, aS, aZ, aC]
    refine hTn 4 rfl (by kernel_rfl) (fun _ _ _ h => h) (by rfl) (by assumption) ?_
    try simp only [Act.put, aS, aZ, aC]
    refine hTn 5 rfl (by kernel_rfl) (fun _ _ _ h => h) (by rfl) (by assumption) ?_
    try simp only [Act.put, aS, aZ, aC]
    refine hTn 6 rfl (by kernel_rfl) (fun _ _ _ h => h) (by rfl) (by assumption) ?_
    try simp only [Act.put, aS, aZ, aC]
    refine hTn 7 rfl (by kernel_rfl) (fun _ _ _ h => h) (by rfl) (by assumption) ?_
    try simp only [Act.put, aS, aZ, aC]
    refine hTn 8 rfl (by kernel_rfl) (fun _ _ _ h => h) (by rfl) (by assumption) ?_
    try simp only [Act.put, aS, aZ, aC]
    refine hTn 9 rfl (by kernel_rfl) (fun _ _ _ h => h) (by rfl) (by assumption) ?_
    try simp only [Act.put, aS, aZ, aC]
    refine zG 10 rfl ?_
    try simp only [Act.put, aS, aZ, aC]
    refine wpAnyH_done (by kernel_rfl) ?_ _
    refine NoPanic.normal ?_
    have HLT : Hid (¬ ltF F t alone x0 = true) := hid (by unfold ltF; rw [HDR.out]; simp)
    have HB9 : Hid (Below wa.heap.size wa w8.drew) := hid (HB8.out.trans (Below.refl _ _).drew)
    go_wp2
    go_roundw
    case rel => exact ⟨a', c', Y, k + 1, by rw [← HYN.out], by go_num, by omega, hid (by rw [HSN.out, if_neg HLT.out, List.append_nil]; exact HY.out), hid (by rw [← HYN.out]; exact (by rw [HYN.out]; exact HO.out : OwnV B1 93 3 wa a' y' c' (itC Y)).keep HB9.out (Nat.le_refl _)), hid (HB.out.trans (HB9.out.mono HB.out.size))⟩
    case measure => simp [intOf]; omega
   | cons d rr =>
    have HDR := hid hdr
    have h9 := HRL.out
    rw [hdr, List.length_cons] at h9
    have hrl0 : decide (0 < rl) = true := by simp; omega
    have hrlN : 0 < rl := by omega
    rw [hdr] at HST
    obtain ⟨sb, so, pv, ka, kc, rfl, hsd, _, hcell⟩ := zIo HST.out
    obtain ⟨kn, hkn⟩ : ∃ n, n = (kdS d).length := ⟨_, rfl⟩
    rw [← hkn] at hsd hcell
    have HSD := hid hsd
    have HQ : Hid (∀ u, Below w8.heap.size w8 u → (∀ j, j < 2 → u.cell? ⟨sb, so + j, none⟩ = (#[pv, .slice ka kn kc] : Array Value)[j]?) ∧ T5 u B0 t.k t.f t.t (txN t) t.e) := hid fun u hu => ⟨hcell u (HF8.out.trans (hu.mono HF8.out.size)), HT8.out.below hu⟩
    clear hdr h9 hsd hcell hkn HST
    go_upto_region 6 with fail
    refine wp_region_noPanic ?_
    refine wp_region_held_drew (S := fun u => (∀ j, j < 2 → u.cell? ⟨sb, so + j, none⟩ = (#[pv, .slice ka kn kc] : Array Value)[j]?) ∧ T5 u B0 t.k t.f t.t (txN t) t.e) (by kernel_rfl) (HQ.out _ (Below.refl _ _).drew) (fun hHeld => ?_)
    refine zG 0 rfl ?_
    try simp only [Act.put, aS, aZ, aC]
    refine zG 1 rfl ?_
    try simp only [Act.put, aS, aZ, aC]
    refine zG 2 rfl ?_
    try simp only [Act.put, aS, aZ, aC]
    refine zG 3 rfl ?_
    try simp only [Act.put, aS, aZ, aC]
    refine zG 4 rfl ?_
    try simp only [Act.put, aS, aZ, aC]
    refine zG 5 rfl ?_
    try simp only [Act.put, aS, aZ, aC]
    refine zT 6 (v := .agg #[pv, .slice ka kn kc]) rfl (fun w0 h0 => zEQ zBW (.tmp 39) sb so rfl #[pv, .slice ka kn kc] rfl h0.1) ?_
    try simp only [Act.put, aS, aZ, aC]
    refine zT 7 (v := .agg #[.int .i64 t.k, .int .i64 t.f, .int .i64 t.t, .string (mk (txN t)), .int .i64 t.e]) rfl (fun w0 h0 => zBc zBJ (.tmp 4) B0 rfl #[.int .i64 t.k, .int .i64 t.f, .int .i64 t.t, .string (mk (txN t)), .int .i64 t.e] rfl h0.2) ?_
    try simp only [Act.put, aS, aZ, aC]
    refine zG 8 rfl ?_
    try simp only [Act.put, aS, aZ, aC]
    refine zR [9] ?_
    refine hDo rfl (fun K hK => ?_) ?_
    ·go_simp
     (go_at_call 80; (with_reducible refine (zMo d pv (.slice ka kn kc) t alone w8.drew (HSD.out.below (HF8.out.trans ((Below.refl w8.heap.size w8).drew.mono HF8.out.size)))).mono ?_); rintro e9 w9 ⟨rfl, hb9⟩)
     have HB9 : Hid (Below wa.heap.size wa w9) := hid (HB8.out.trans (((Below.refl w8.heap.size w8).drew.trans (hb9.mono (Below.refl w8.heap.size w8).drew.size)).mono HB8.out.size))
     have HB89 : Hid (Below w8.heap.size w8 w9) := hid ((Below.refl w8.heap.size w8).drew.trans (hb9.mono (Below.refl w8.heap.size w8).drew.size))
     have HD9 : Hid (Bk w9 D 93 (itA x0)) := hid (HD8.out.below HB89.out)
     clear hb9
     refine hK.out _ _ (HQ.out _ HB89.out) (fun hHeld => ?_)
     clear hK K
     try simp only [Act.put, aS, aZ, aC]
     refine zG 10 rfl ?_
     try simp only [Act.put, aS, aZ, aC]
     refine wpAnyH_done (by kernel_rfl) ?_ _
     refine NoPanic.normal ?_
     cases hlb : letB d t alone with
     | true =>
      have HLT : Hid (ltF F t alone x0 = true) := hid (by unfold ltF; rw [HDR.out]; exact hlb)
      go_wp2_with (refine zA2 zAo rfl (.tmp 9) rfl D rfl _ rfl HD9.out ?_)
      refine (zEX x0 _ HX1M.out).mono ?_
      rintro e w10 ⟨rfl, hb10⟩
      have HB10 : Hid (Below wa.heap.size wa w10) := hid (HB9.out.trans (hb10.mono HB9.out.size))
      clear hb10
      go_wp2_with (first
       | (refine zBL rfl (.tmp 47) rfl (nexI x0) rfl ?_; intro w11 g11 hg11 hv11 hb11 hs11; have HV11 := hid hv11; have HBB11 : Hid (Below wa.heap.size wa w11) := hid (HB10.out.trans (hb11.mono HB10.out.size)); clear hv11 hg11 hb11 hs11)
       | (at_builtin; refine zEW rfl (.tmp 45) (.tmp 48) 94 rfl 93 B1 3 24 _ Tryz.underlying94 zBo rfl (by omega) a' y' c' (itC Y) rfl ((by rw [HYN.out]; exact HO.out : OwnV B1 93 3 wa a' y' c' (itC Y)).keep HBB11.out (Nat.le_refl _)) g11 0 1 1 (itC [nexI x0]) rfl HV11.out (by omega) (zBn _) (by unfold maxLen; omega) (by omega) (by have := HBA.out; have := HBB11.out.size; omega) ?_; intro g12 c12 w12 ho12 _ hb12 _; have HO12 := hid ho12; have HB12 := hid hb12; clear ho12 hb12))
      go_roundw
      case rel =>
       refine ⟨some ⟨g12, 0, none⟩, c12, Y ++ [nexI x0], k + 1, ?_, by go_num, by omega, hid ?_, hid ?_, hid ?_⟩
       ·rw [List.length_append, ← HYN.out]; rfl
       ·rw [HY.out, HSN.out, if_pos HLT.out]
       ·rw [List.length_append, itC_app, ← HYN.out]; exact HO12.out
       ·exact (HB.out.trans (HBB11.out.mono (by have := HB.out.size; omega))).trans (HB12.out.mono (by have := HB11.out; omega))
      case measure => simp [intOf]; omega
     | false =>
      have HLT : Hid (¬ ltF F t alone x0 = true) := hid (by unfold ltF; rw [HDR.out]; dsimp only; rw [hlb]; simp)
      go_wp2
      go_roundw
      case rel => exact ⟨a', c', Y, k + 1, by rw [← HYN.out], by go_num, by omega, hid (by rw [HSN.out, if_neg HLT.out, List.append_nil]; exact HY.out), hid (by rw [← HYN.out]; exact (by rw [HYN.out]; exact HO.out : OwnV B1 93 3 wa a' y' c' (itC Y)).keep HB9.out (Nat.le_refl _)), hid (HB.out.trans (HB9.out.mono HB.out.size))⟩
      case measure => simp [intOf]; omega
    ·exact AllReadyH.nil
  ·obtain rfl : k = m := by omega
   have hltI : ¬ (k : Int) < (k : Int) := by omega
   go_wp2
   go_ret
   have hy := HY.out
   rw [List.take_of_length_le (by rw [← HM.out]; exact Nat.le_refl _)] at hy
   rw [← hy, HYN.out]
   exact ⟨a', c', rfl, HO.out.weaken (by rw [HB11.out]; exact HB1.out.size), HB1.out.trans (HB.out.mono HB1.out.size)⟩
end
section
open Go.RowKit
theorem zDh {w : World} {b o n c : Nat} {L : List OP} (h : OpS w (some ⟨b, o, none⟩) n c L) {k : Nat} (hk : k < n) : ∀ j, j < 3 → w.cell? ⟨b, o + k * 3 + j, none⟩ = (#[.string (mk (opA L k).1), .int .i64 (opA L k).2.1, .int .i64 (opA L k).2.2] : Array Value)[j]? := by
 obtain ⟨h0, h1, h2⟩ := h.at3 hk
 intro j hj
 have : j = 0 ∨ j = 1 ∨ j = 2 := by omega
 rcases this with rfl | rfl | rfl
 ·exact h0
 ·exact h1
 ·exact h2
set_option maxRecDepth 20000 in
set_option maxHeartbeats 4000000 in
theorem zLS (q : Nm) (h t : Int) (w : World) : Calls Tryz.prog 71 #[.agg #[.string (mk q), .int .i64 h, .int .i64 t]] w fun e w' => e = .returned (.bool true) ∧ Below w.heap.size w w' := by
 have HB1 : Hid (Below w.heap.size w (w.alloc (.cells #[.string (mk q), .int .i64 h, .int .i64 t] 38))) := hid (zAA w _)
 go_enter Tryz.func71, Tryz.ntmps71
 go_wp2
 go_ret
 exact ⟨rfl, HB1.out⟩
set_option maxRecDepth 20000 in
set_option maxHeartbeats 4000000 in
theorem zMv (z : List Int) (hz : z.length = 10) (hr : ∀ i, i < 10 → I64 (bt z i)) (E : Nat) (ea : Option Addr) (en ec : Nat) (X : Nat) (p : Nm) (g s : Int) (Rb : Nat) (rt : Bool) (q : Nm) (h t : Int) (w : World) (ht : Tab w) (hE : EB w E ea en ec z) (hX : D3 w X (p, g, s)) (hR : Bk w Rb 4 #[.bool rt]) (hp : p.length ≤ 1000000) (hq : q.length ≤ 1000000) :
  Calls Tryz.prog 74 #[.agg #[.string (mk q), .int .i64 h, .int .i64 t], .pointer (some ⟨E, 0, none⟩), .pointer (some ⟨X, 0, none⟩), .pointer (some ⟨Rb, 0, none⟩)] w fun e w' => e = .returned (.bool (fitsB z (p, g, s) (q, h, t) rt)) ∧ Below w.heap.size w w' := by
 obtain ⟨B, hB⟩ : ∃ B, B = w.heap.size := ⟨_, rfl⟩
 obtain ⟨w1, hw1⟩ : ∃ w1, w1 = w.alloc (.cells #[.string (mk q), .int .i64 h, .int .i64 t] 38) := ⟨_, rfl⟩
 have HQ : Hid (D3 w1 B (q, h, t)) := hid (by rw [hw1, hB]; exact D3.new w (q, h, t))
 have HB1 : Hid (Below w.heap.size w w1) := hid (by rw [hw1]; exact zAA w _)
 have HE := hid (hE.below HB1.out)
 have HX : Hid (D3 w1 X (p, g, s)) := hid (Bk.below hX HB1.out)
 have HR := (hR.below HB1.out).cell 0
 rw [show (#[.bool rt] : Array Value)[0]? = some (.bool rt) from rfl] at HR
 have HT := hid (ht.keep HB1.out)
 have HZ := hid hz
 have HR10 := hid hr
 have HPL := hid hp
 have HQL := hid hq
 clear ht hE hX hR hz hr hp hq
 go_enter Tryz.func74, Tryz.ntmps74
 go_upto_region 1 with fail
 rw [← hw1, ← hB]
 clear hw1 hB
 go_wp2_with (first
  | (refine zD8 rfl (.tmp 6) rfl E rfl ea en ec z HZ.out HE.out ?_)
  | (refine zKh rfl (.tmp 2) rfl X rfl p g s HX.out ?_)
  | (refine zKh rfl (.tmp 4) rfl B rfl q h t HQ.out ?_))
 refine (zMd z HZ.out HR10.out p g s q h t rt w1 HT.out HPL.out HQL.out).mono ?_
 rintro e w2 ⟨rfl, hb2⟩
 have HB2 := hid hb2
 clear hb2
 go_wp2
 go_ret
 exact ⟨rfl, HB1.out.trans (HB2.out.mono HB1.out.size)⟩
theorem zIp {p : Nm} {s : SH} (hs : ofS p = some s) (w : World) (ht : Tab w) (hsz : p.length ≤ 1000000) :
  Calls Tryz.prog 85 #[.string (mk p)] w fun e w' => ∃ a n c, e = .returned (.tuple #[.agg #[.slice a n c, .bool s.l, .bool s.r], .int .i64 0]) ∧ Ss w' a n c s.P ∧ Below w.heap.size w w' := by
 have h := zFP p w ht hsz
 rw [zAl hs] at h
 exact h
set_option maxRecDepth 20000 in
set_option maxHeartbeats 4000000 in
theorem zO8 (q : Nm) (h t : Int) (w : World) (ht : Tab w) (hs : ∃ s, ofS q = some s) (hq : q.length ≤ 1000000) : Calls Tryz.prog 117 #[.agg #[.string (mk q), .int .i64 h, .int .i64 t]] w fun e w' => e = .returned (.bool false) ∧ Below w.heap.size w w' := by
 obtain ⟨s, hs⟩ := hs
 obtain ⟨B, hB⟩ : ∃ B, B = w.heap.size := ⟨_, rfl⟩
 obtain ⟨w1, hw1⟩ : ∃ w1, w1 = w.alloc (.cells #[.string (mk q), .int .i64 h, .int .i64 t] 38) := ⟨_, rfl⟩
 have HQ : Hid (D3 w1 B (q, h, t)) := hid (by rw [hw1, hB]; exact D3.new w (q, h, t))
 have HB1 : Hid (Below w.heap.size w w1) := hid (by rw [hw1]; exact zAA w _)
 have q0 := Bk.cell HQ.out 0
 rw [show (#[.string (mk q), .int .i64 h, .int .i64 t] : Array Value)[0]? = some (.string (mk q)) from rfl] at q0
 have HT := hid (ht.keep HB1.out)
 have HS := hid hs
 have HQL := hid hq
 clear ht hs hq
 go_enter Tryz.func117, Tryz.ntmps117
 go_upto_region 1 with fail
 rw [← hw1, ← hB]
 clear hw1 hB
 go_wp2_with fail
 refine (zIp HS.out w1 HT.out HQL.out).mono ?_
 rintro e w2 ⟨a, n, c, rfl, _, hb2⟩
 obtain ⟨D, hD⟩ : ∃ D, D = w2.heap.size := ⟨_, rfl⟩
 have HDD := hid hD
 have HB2 : Hid (Below w.heap.size w w2) := hid (HB1.out.trans (hb2.mono HB1.out.size))
 clear hb2 hD
 go_wp2_with (refine zAn zIe rfl (.tmp 3) (.tmp 9) rfl D (by rw [HDD.out]; rfl) #[.slice a n c, .bool s.l, .bool s.r] rfl rfl (by kernel_rfl) #[.slice none 0 0, .bool false, .bool false] rfl (by rw [HDD.out]; exact Bk.new w2 _ _) ?_; rw [← HDD.out]; intro w4 h4 ho4; have HB4 : Hid (Below w2.heap.size w2 w4) := hid ((zAA w2 _).trans (ho4.below (by rw [HDD.out]; exact Nat.le_refl _))); clear h4 ho4)
 go_ret
 exact ⟨rfl, HB2.out.trans (HB4.out.mono HB2.out.size)⟩
set_option maxRecDepth 20000 in
set_option maxHeartbeats 4000000 in
theorem zMw (a : Option Addr) (n c : Nat) (L : List OP) (w : World) (ht : Tab w) (h : OpS w a n c L) (hn : n ≤ 1000000) (hs : ∀ o ∈ L, ∃ s, ofS o.1 = some s) (hp : ∀ o ∈ L, o.1.length ≤ 1000000) :
  Calls Tryz.prog 150 #[.slice a n c, .func (.func 117) #[] #[]] w fun e w' => e = .returned (.int .i64 (-1)) ∧ Below w.heap.size w w' := by
 have HT := hid ht
 have H := hid h
 have HS := hid hs
 have HP := hid hp
 have HL : Hid (L.length = n) := hid (OpS.len h)
 clear ht h hs hp
 go_enter Tryz.func150, Tryz.ntmps150
 go_wp2
 go_loopw [8] (fun v wr => ∃ k : Nat, v = .int .i64 (k : Int) ∧ k ≤ n ∧ Hid (Below w.heap.size w wr)) (fun v _ => n - (intOf v).toNat)
 case atStart => exact ⟨0, rfl, Nat.zero_le _, hid (Below.refl _ _)⟩
 case round =>
  rename World => wa
  obtain ⟨k, rfl, hk, HB⟩ := hrel
  have hk0 : (0 : Int) ≤ (k : Int) := Int.natCast_nonneg _
  by_cases hlt : k < n
  ·have hltI : (k : Int) < (n : Int) := by omega
   have ho := H.out.below HB.out
   obtain ⟨b, o, rfl, _, _⟩ := Vs.at_ ho (by omega)
   have HCS := hid (zDh ho hlt)
   have HM := hid (zBZ (L := L) (k := k) (by rw [HL.out]; exact hlt))
   have HSK := hid (HS.out _ HM.out)
   have HPK := hid (HP.out _ HM.out)
   obtain ⟨x, hx⟩ : ∃ x, x = opA L k := ⟨_, rfl⟩
   rw [← hx] at HCS HSK HPK
   clear hx ho HM
   obtain ⟨xp, xg, xs⟩ := x
   dsimp only at HCS HSK HPK
   go_wp2_with (refine zCI zBd rfl (.tmp 14) rfl b (o + k * 3) rfl #[.string (mk xp), .int .i64 xg, .int .i64 xs] rfl HCS.out ?_)
   refine (zO8 xp xg xs wa (HT.out.keep HB.out) HSK.out HPK.out).mono ?_
   rintro e w2 ⟨rfl, hb2⟩
   have HB2 : Hid (Below w.heap.size w w2) := hid (HB.out.trans (hb2.mono HB.out.size))
   clear hb2
   go_wp2
   go_roundw
   case rel => exact ⟨k + 1, by go_num, by omega, HB2⟩
   case measure => simp [intOf]; omega
  ·obtain rfl : k = n := by omega
   have hltI : ¬ (k : Int) < (k : Int) := by omega
   go_wp2
   go_ret
   exact ⟨rfl, HB.out⟩
set_option maxRecDepth 20000 in
set_option maxHeartbeats 4000000 in
theorem zMx (a : Option Addr) (n c : Nat) (L : List OP) (w : World) (ht : Tab w) (h : OpS w a n c L) (hn : n ≤ 1000000) (hs : ∀ o ∈ L, ∃ s, ofS o.1 = some s) (hp : ∀ o ∈ L, o.1.length ≤ 1000000) :
  Calls Tryz.prog 116 #[.slice a n c, .func (.func 117) #[] #[]] w fun e w' => e = .returned (.slice a n c) ∧ Below w.heap.size w w' := by
 have HK := hid (zMw a n c L w ht h hn hs hp)
 clear ht h hs hp
 go_enter Tryz.func116, Tryz.ntmps116
 go_wp2_with fail
 refine HK.out.mono ?_
 rintro e w2 ⟨rfl, hb2⟩
 have HB2 := hid hb2
 clear hb2
 go_wp2
 go_ret
 exact ⟨rfl, HB2.out⟩
def kdsL (may : OP → Bool) (L : List OP) (k : Nat) : List Nat := 1 :: ((List.range k).filter fun i => may (opA L i)).map (· + 2)
theorem zGo (may : OP → Bool) (L : List OP) (k : Nat) : kdsL may L (k + 1) = kdsL may L k ++ (if may (opA L k) = true then [k + 2] else []) := by
 unfold kdsL
 rw [zK2, List.map_append, List.cons_append]
 congr 2
 split <;> rfl
theorem zIq (may : OP → Bool) (L : List OP) (k : Nat) : (kdsL may L k).length ≤ k + 1 := by
 unfold kdsL
 rw [List.length_cons, List.length_map]
 have := zMl (fun i => may (opA L i)) k
 omega
theorem zIr (L : List OP) (n : Nat) : kdsL (fun _ => true) L n = allV n := by
 unfold kdsL allV
 rw [List.filter_eq_self.2 (fun _ _ => rfl), List.range'_succ]
 congr 1
 induction n with
 | zero => rfl
 | succ n ih =>
  rw [List.range_succ, List.map_append, ih, List.range'_concat]
  simp
  omega
theorem zLT {z : List Int} {L : List OP} {o : OP} {rt : Bool} : kdsL (fun k => fitsB z o k rt) L L.length = endsV z L o rt := by
 unfold endsV
 rw [← zIr L]
 unfold kdsL
 rw [List.filter_eq_self.2 (fun _ _ => rfl), List.filter_cons_of_pos rfl, List.filter_map]
 congr 2
set_option maxRecDepth 20000 in
set_option maxHeartbeats 8000000 in
theorem zLU (a : Option Addr) (n c : Nat) (L : List OP) (w : World) (ht : Tab w) (h : OpS w a n c L) (hn : n ≤ 1000000) (hp : ∀ o ∈ L, o.1.length ≤ 1000000) :
  Calls Tryz.prog 70 #[.slice a n c, .func (.func 71) #[] #[]] w fun e w' => ∃ ra rc, e = .returned (.slice ra (kdsL (fun _ => true) L n).length rc) ∧ OwnV w.heap.size 3 1 w' ra (kdsL (fun _ => true) L n).length rc (intsK (kdsL (fun _ => true) L n)) ∧ Below w.heap.size w w' := by
 have HT := hid ht
 have H := hid h
 have HP := hid hp
 have HL : Hid (L.length = n) := hid (OpS.len h)
 obtain ⟨mayP, hmay⟩ : ∃ f : OP → Bool, f = fun _ => true := ⟨_, rfl⟩
 have HM := hid hmay
 rw [← hmay]
 clear ht h hp hmay
 obtain ⟨G, hG⟩ : ∃ g, g = w.heap.size := ⟨_, rfl⟩
 obtain ⟨w1, hw1⟩ : ∃ w1, w1 = w.alloc (.cells #[.int .i64 1] 3) := ⟨_, rfl⟩
 have HO1 : Hid (OwnV w.heap.size 3 1 w1 (some ⟨G, 0, none⟩) 1 1 (intsK (kdsL mayP L 0))) := hid (by rw [hw1, hG]; exact zDB (heap_alloc_new w _) (Nat.le_refl _))
 have HB1 : Hid (Below w.heap.size w w1) := hid (by rw [hw1]; exact zAA w _)
 go_enter Tryz.func70, Tryz.ntmps70
 go_upto_region 2 with fail
 rw [← hw1, ← hG]
 clear hw1 hG
 go_wp2
 go_loopw [5, 11] (fun u v wr => ∃ (a' : Option Addr) (c' : Nat) (Y : List Nat) (k : Nat), u = .slice a' Y.length c' ∧ v = .int .i64 (k : Int) ∧ k ≤ n ∧ Hid (Y = kdsL mayP L k) ∧ Hid (OwnV w.heap.size 3 1 wr a' Y.length c' (intsK Y)) ∧ Hid (Below w.heap.size w wr)) (fun _ v _ => n - (intOf v).toNat)
 case atStart => exact ⟨some ⟨G, 0, none⟩, 1, [1], 0, rfl, rfl, Nat.zero_le _, hid rfl, HO1, HB1⟩
 case round =>
  rename World => wa
  obtain ⟨a', c', Y, k, rfl, rfl, hk, HY, HO, HB⟩ := hrel
  have hk0 : (0 : Int) ≤ (k : Int) := Int.natCast_nonneg _
  by_cases hlt : k < n
  ·have hltI : (k : Int) < (n : Int) := by omega
   have ho := H.out.below HB.out
   obtain ⟨b, o, rfl, _, _⟩ := Vs.at_ ho (by omega)
   have HCS := hid (zDh ho hlt)
   have HKM := hid (zBZ (L := L) (k := k) (by rw [HL.out]; exact hlt))
   have HPK := hid (HP.out _ HKM.out)
   have HSN := hid (zGo mayP L k)
   obtain ⟨x, hx⟩ : ∃ x, x = opA L k := ⟨_, rfl⟩
   rw [← hx] at HCS HPK HSN HKM
   clear hx ho
   obtain ⟨xp, xg, xs⟩ := x
   dsimp only at HCS HPK
   obtain ⟨D, hD⟩ : ∃ D, D = wa.heap.size := ⟨_, rfl⟩
   have HDD := hid hD
   clear hD
   obtain ⟨y', hy'⟩ : ∃ y, y = Y.length := ⟨_, rfl⟩
   have HYN := hid hy'
   have hyl : y' ≤ k + 1 := by rw [hy', HY.out]; exact zIq mayP L k
   rw [← hy']
   clear hy'
   obtain ⟨VO, hvo⟩ : ∃ V : Array Value, V = #[.string (mk xp), .int .i64 xg, .int .i64 xs] := ⟨_, rfl⟩
   have HVO := hid hvo
   rw [← hvo] at HCS
   clear hvo
   have hwk : IntKind.i64.wrap (2 + (k : Int)) = 2 + (k : Int) := IntWalk.i64_in _ (by omega)
   go_upto_region 5 with (first
    | (refine zCI zBd rfl (.tmp 14) rfl b (o + k * 3) rfl VO (by rw [HVO.out]; rfl) HCS.out ?_)
    | (refine zAn zBd rfl (.tmp 7) (.tmp 15) rfl D (by rw [HDD.out]; rfl) VO rfl (by rw [HVO.out]; rfl) (by rw [HVO.out]; kernel_rfl) #[.string ⟨#[]⟩, .int .i64 0, .int .i64 0] rfl (by rw [HDD.out]; exact Bk.new wa _ _) ?_; rw [← HDD.out]; intro w4 h4 ho4; have HB4 : Hid (Below wa.heap.size wa w4) := hid ((zAA wa _).trans (ho4.below (by rw [HDD.out]; exact Nat.le_refl _))); have H4 : Hid (Bk w4 D 38 #[.string (mk xp), .int .i64 xg, .int .i64 xs]) := hid (by rw [← HVO.out]; exact h4); clear h4 ho4))
   have HBW4 : Hid (Below w.heap.size w w4) := hid (HB.out.trans (HB4.out.mono HB.out.size))
   go_wp2_with (refine zA2 zBd rfl (.tmp 7) rfl D rfl _ rfl H4.out ?_)
   refine (zLS xp xg xs w4).mono ?_
   rintro e w2 ⟨rfl, hb2⟩
   have HB2 : Hid (Below wa.heap.size wa w2) := hid (HB4.out.trans (hb2.mono HB4.out.size))
   have HBW2 : Hid (Below w.heap.size w w2) := hid (HB.out.trans (HB2.out.mono HB.out.size))
   have HOY : Hid (OwnV w.heap.size 3 1 w2 a' y' c' (intsK Y)) := hid (by rw [HYN.out]; exact HO.out.keep HB2.out (Nat.le_refl _))
   clear hb2
   have hmm : true = mayP (xp, xg, xs) := by rw [HM.out]
   rw [hmm]
   cases hmb : mayP (xp, xg, xs) with
   | true =>
    rw [hmb] at HSN
    clear hmm
    go_wp2_with (at_builtin; refine zAL rfl (.tmp 19) (.tmp 22) 82 rfl 3 w.heap.size 1 8 _ Tryz.underlying82 zId rfl (by omega) _ _ _ (intsK Y) rfl (HOY.out.alloc _) _ _ _ [.int .i64 (2 + (k : Int))] rfl (Vs.lit (k := 1) (xs := [.int .i64 (2 + (k : Int))]) _ _ rfl rfl rfl) (by intro u hu; rw [List.mem_singleton.1 hu]; rfl) (by unfold maxLen; omega) (by omega) (by have := HBW2.out.size; simp; omega) ?_; intro a9 c9 w9 ho9 hg9 hb9 _; have HO9 := hid ho9; have HB9 : Hid (Below w.heap.size w w9) := hid ((HBW2.out.alloc HBW2.out.size _).trans hb9); clear ho9 hg9 hb9)
    go_roundw
    case rel => exact ⟨a9, c9, Y ++ [k + 2], k + 1, by rw [List.length_append, ← HYN.out]; rfl, by go_num, by omega, hid (by rw [HSN.out, ← HY.out]; rfl), hid (by rw [List.length_append, ← HYN.out, zGc]; have := HO9.out; rw [show (2 : Int) + (k : Int) = ((k + 2 : Nat) : Int) by omega] at this; exact this), HB9⟩
    case measure => simp [intOf]; omega
   | false =>
    rw [hmb] at HSN
    clear hmm
    go_wp2
    go_roundw
    case rel => exact ⟨a', c', Y, k + 1, by rw [← HYN.out], by go_num, by omega, hid (by rw [HSN.out, ← HY.out, if_neg (by simp), List.append_nil]), hid (by rw [← HYN.out]; exact HOY.out), HBW2⟩
    case measure => simp [intOf]; omega
  ·obtain rfl : k = n := by omega
   have hltI : ¬ (k : Int) < (k : Int) := by omega
   go_wp2
   go_ret
   rw [← HY.out]
   exact ⟨a', c', rfl, HO.out, HB.out⟩
set_option maxRecDepth 20000 in
set_option maxHeartbeats 8000000 in
theorem zLV (z : List Int) (hz : z.length = 10) (hr : ∀ i, i < 10 → I64 (bt z i)) (E : Nat) (ea : Option Addr) (en ec : Nat) (X : Nat) (p : Nm) (g s : Int) (Rb : Nat) (rt : Bool) (a : Option Addr) (n c : Nat) (L : List OP) (w : World) (ht : Tab w) (h : OpS w a n c L) (hn : n ≤ 1000000) (hp : ∀ o ∈ L, o.1.length ≤ 1000000) (hE : EB w E ea en ec z) (hX : D3 w X (p, g, s)) (hR : Bk w Rb 4 #[.bool rt]) (hpl : p.length ≤ 1000000) :
  Calls Tryz.prog 70 #[.slice a n c, .func (.func 74) #[] #[.pointer (some ⟨E, 0, none⟩), .pointer (some ⟨X, 0, none⟩), .pointer (some ⟨Rb, 0, none⟩)]] w fun e w' => ∃ ra rc, e = .returned (.slice ra (kdsL (fun k => fitsB z (p, g, s) k rt) L n).length rc) ∧ OwnV w.heap.size 3 1 w' ra (kdsL (fun k => fitsB z (p, g, s) k rt) L n).length rc (intsK (kdsL (fun k => fitsB z (p, g, s) k rt) L n)) ∧ Below w.heap.size w w' := by
 have HT := hid ht
 have H := hid h
 have HP := hid hp
 have HL : Hid (L.length = n) := hid (OpS.len h)
 have HE := hid hE
 have HX := hid hX
 have HR := hid hR
 clear hE hX hR
 obtain ⟨mayP, hmay⟩ : ∃ f : OP → Bool, f = fun k => fitsB z (p, g, s) k rt := ⟨_, rfl⟩
 have HM := hid hmay
 rw [← hmay]
 clear ht h hp hmay
 obtain ⟨G, hG⟩ : ∃ g, g = w.heap.size := ⟨_, rfl⟩
 obtain ⟨w1, hw1⟩ : ∃ w1, w1 = w.alloc (.cells #[.int .i64 1] 3) := ⟨_, rfl⟩
 have HO1 : Hid (OwnV w.heap.size 3 1 w1 (some ⟨G, 0, none⟩) 1 1 (intsK (kdsL mayP L 0))) := hid (by rw [hw1, hG]; exact zDB (heap_alloc_new w _) (Nat.le_refl _))
 have HB1 : Hid (Below w.heap.size w w1) := hid (by rw [hw1]; exact zAA w _)
 go_enter Tryz.func70, Tryz.ntmps70
 go_upto_region 2 with fail
 rw [← hw1, ← hG]
 clear hw1 hG
 go_wp2
 go_loopw [5, 11] (fun u v wr => ∃ (a' : Option Addr) (c' : Nat) (Y : List Nat) (k : Nat), u = .slice a' Y.length c' ∧ v = .int .i64 (k : Int) ∧ k ≤ n ∧ Hid (Y = kdsL mayP L k) ∧ Hid (OwnV w.heap.size 3 1 wr a' Y.length c' (intsK Y)) ∧ Hid (Below w.heap.size w wr)) (fun _ v _ => n - (intOf v).toNat)
 case atStart => exact ⟨some ⟨G, 0, none⟩, 1, [1], 0, rfl, rfl, Nat.zero_le _, hid rfl, HO1, HB1⟩
 case round =>
  rename World => wa
  obtain ⟨a', c', Y, k, rfl, rfl, hk, HY, HO, HB⟩ := hrel
  have hk0 : (0 : Int) ≤ (k : Int) := Int.natCast_nonneg _
  by_cases hlt : k < n
  ·have hltI : (k : Int) < (n : Int) := by omega
   have ho := H.out.below HB.out
   obtain ⟨b, o, rfl, _, _⟩ := Vs.at_ ho (by omega)
   have HCS := hid (zDh ho hlt)
   have HKM := hid (zBZ (L := L) (k := k) (by rw [HL.out]; exact hlt))
   have HPK := hid (HP.out _ HKM.out)
   have HSN := hid (zGo mayP L k)
   obtain ⟨x, hx⟩ : ∃ x, x = opA L k := ⟨_, rfl⟩
   rw [← hx] at HCS HPK HSN HKM
   clear hx ho
   obtain ⟨xp, xg, xs⟩ := x
   dsimp only at HCS HPK
   obtain ⟨D, hD⟩ : ∃ D, D = wa.heap.size := ⟨_, rfl⟩
   have HDD := hid hD
   clear hD
   obtain ⟨y', hy'⟩ : ∃ y, y = Y.length := ⟨_, rfl⟩
   have HYN := hid hy'
   have hyl : y' ≤ k + 1 := by rw [hy', HY.out]; exact zIq mayP L k
   rw [← hy']
   clear hy'
   obtain ⟨VO, hvo⟩ : ∃ V : Array Value, V = #[.string (mk xp), .int .i64 xg, .int .i64 xs] := ⟨_, rfl⟩
   have HVO := hid hvo
   rw [← hvo] at HCS
   clear hvo
   have hwk : IntKind.i64.wrap (2 + (k : Int)) = 2 + (k : Int) := IntWalk.i64_in _ (by omega)
   go_upto_region 5 with (first
    | (refine zCI zBd rfl (.tmp 14) rfl b (o + k * 3) rfl VO (by rw [HVO.out]; rfl) HCS.out ?_)
    | (refine zAn zBd rfl (.tmp 7) (.tmp 15) rfl D (by rw [HDD.out]; rfl) VO rfl (by rw [HVO.out]; rfl) (by rw [HVO.out]; kernel_rfl) #[.string ⟨#[]⟩, .int .i64 0, .int .i64 0] rfl (by rw [HDD.out]; exact Bk.new wa _ _) ?_; rw [← HDD.out]; intro w4 h4 ho4; have HB4 : Hid (Below wa.heap.size wa w4) := hid ((zAA wa _).trans (ho4.below (by rw [HDD.out]; exact Nat.le_refl _))); have H4 : Hid (Bk w4 D 38 #[.string (mk xp), .int .i64 xg, .int .i64 xs]) := hid (by rw [← HVO.out]; exact h4); clear h4 ho4))
   have HBW4 : Hid (Below w.heap.size w w4) := hid (HB.out.trans (HB4.out.mono HB.out.size))
   go_wp2_with (refine zA2 zBd rfl (.tmp 7) rfl D rfl _ rfl H4.out ?_)
   refine (zMv z hz hr E ea en ec X p g s Rb rt xp xg xs w4 (HT.out.keep HBW4.out) (HE.out.below HBW4.out) (Bk.below HX.out HBW4.out) (HR.out.below HBW4.out) hpl HPK.out).mono ?_
   rintro e w2 ⟨rfl, hb2⟩
   have HB2 : Hid (Below wa.heap.size wa w2) := hid (HB4.out.trans (hb2.mono HB4.out.size))
   have HBW2 : Hid (Below w.heap.size w w2) := hid (HB.out.trans (HB2.out.mono HB.out.size))
   have HOY : Hid (OwnV w.heap.size 3 1 w2 a' y' c' (intsK Y)) := hid (by rw [HYN.out]; exact HO.out.keep HB2.out (Nat.le_refl _))
   clear hb2
   have hmm : fitsB z (p, g, s) (xp, xg, xs) rt = mayP (xp, xg, xs) := by rw [HM.out]
   rw [hmm]
   cases hmb : mayP (xp, xg, xs) with
   | true =>
    rw [hmb] at HSN
    clear hmm
    go_wp2_with (at_builtin; refine zAL rfl (.tmp 19) (.tmp 22) 82 rfl 3 w.heap.size 1 8 _ Tryz.underlying82 zId rfl (by omega) _ _ _ (intsK Y) rfl (HOY.out.alloc _) _ _ _ [.int .i64 (2 + (k : Int))] rfl (Vs.lit (k := 1) (xs := [.int .i64 (2 + (k : Int))]) _ _ rfl rfl rfl) (by intro u hu; rw [List.mem_singleton.1 hu]; rfl) (by unfold maxLen; omega) (by omega) (by have := HBW2.out.size; simp; omega) ?_; intro a9 c9 w9 ho9 hg9 hb9 _; have HO9 := hid ho9; have HB9 : Hid (Below w.heap.size w w9) := hid ((HBW2.out.alloc HBW2.out.size _).trans hb9); clear ho9 hg9 hb9)
    go_roundw
    case rel => exact ⟨a9, c9, Y ++ [k + 2], k + 1, by rw [List.length_append, ← HYN.out]; rfl, by go_num, by omega, hid (by rw [HSN.out, ← HY.out]; rfl), hid (by rw [List.length_append, ← HYN.out, zGc]; have := HO9.out; rw [show (2 : Int) + (k : Int) = ((k + 2 : Nat) : Int) by omega] at this; exact this), HB9⟩
    case measure => simp [intOf]; omega
   | false =>
    rw [hmb] at HSN
    clear hmm
    go_wp2
    go_roundw
    case rel => exact ⟨a', c', Y, k + 1, by rw [← HYN.out], by go_num, by omega, hid (by rw [HSN.out, ← HY.out, if_neg (by simp), List.append_nil]), hid (by rw [← HYN.out]; exact HOY.out), HBW2⟩
    case measure => simp [intOf]; omega
  ·obtain rfl : k = n := by omega
   have hltI : ¬ (k : Int) < (k : Int) := by omega
   go_wp2
   go_ret
   rw [← HY.out]
   exact ⟨a', c', rfl, HO.out, HB.out⟩
set_option maxRecDepth 20000 in
set_option maxHeartbeats 4000000 in
theorem zJR (a : Option Addr) (n c : Nat) (L : List OP) (w : World) (ht : Tab w) (h : OpS w a n c L) (hn : n ≤ 1000000) (hs : ∀ o ∈ L, ∃ s, ofS o.1 = some s) (hp : ∀ o ∈ L, o.1.length ≤ 1000000) :
  Calls Tryz.prog 69 #[.slice a n c] w fun e w' => ∃ a' c', e = .returned (.slice a' n c') ∧ OwnO w.heap.size w' a' n c' L ∧ Below w.heap.size w w' := by
 have HT := hid ht
 have HS := hid hs
 have HP := hid hp
 have H := hid h
 clear ht hs hp h
 go_enter Tryz.func69, Tryz.ntmps69
 go_wp2_with fail
 refine (zEB a n c L w H.out hn).mono ?_
 rintro e w1 ⟨a1, c1, rfl, ho1, hb1⟩
 have HO1 := hid ho1
 have HB1 := hid hb1
 clear ho1 hb1
 go_wp2_with fail
 refine (zMx a1 n c1 L w1 (HT.out.keep HB1.out) HO1.out.vs hn HS.out HP.out).mono ?_
 rintro e w2 ⟨rfl, hb2⟩
 have HB2 := hid hb2
 clear hb2
 go_wp2
 go_ret
 exact ⟨a1, c1, rfl, HO1.out.keep HB2.out (Nat.le_refl _), HB1.out.trans (HB2.out.mono HB1.out.size)⟩
end
end Go.Proofs.YtcjbhdgjcpnklaaGreatDoor
