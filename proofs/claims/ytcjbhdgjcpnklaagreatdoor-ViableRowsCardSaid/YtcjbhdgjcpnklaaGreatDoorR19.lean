import Derived.Deep.RegionHeld3
import Derived.Test.YtcjbhdgjcpnklaaGreatDoorR18
namespace Go.Proofs.YtcjbhdgjcpnklaaGreatDoor
open Go.RowKit
set_option maxRecDepth 100000 in
set_option maxHeartbeats 32000000 in
theorem zGm {L : List OP} {z : List Int} {tok : List TK} {F : List FD} (hG : GoodV L z F) (hFl : F.length ≤ 100) (hS : ∀ f, f < F.length → (fA F f).S.length ≤ 100) (hK : ∀ x, (kdsF F x).length ≤ 100) (wf : World) (fa : Option Addr) (fc : Nat) (hF : FsV wf fa fc F) (W : Nat) (pa : Option Addr) (pc : Nat) (Ps : List Nat) (Is : List (List IT)) (As : List (List (List IT))) (xa : Option Addr) (xn xc : Nat) (X : List IT) (w : World)
  (hs : WkS wf.heap.size w W fa F.length fc pa pc Ps Is As) (hwf : Below wf.heap.size wf w) (hx : OwnV 0 93 3 w xa xn xc (itC X)) (hxn : xn ≤ 2000000) (hn : Ps.length ≤ 100) (hI : ∀ i, i < Ps.length → PlS L z tok F i (Is.getD i []) (As.getD i []))
  (hX : ∀ x ∈ X, It L z tok F Ps.length x.1 x.2.1 x.2.2) (h0 : Ps.length = 0 → (0, 0, 0) ∈ X) (h1 : ∀ n' f s a d r, Ps.length = n' + 1 → It L z tok F n' f s a → n' < tok.length → (fA F f).S.drop s = d :: r → letsB L z d (tat tok n') = true → (f, s + 1, a) ∈ X) :
  Calls Tryz.prog 40 #[.pointer (some ⟨W, 0, none⟩), .slice xa xn xc] w fun e w' => e = .returned (.tuple #[]) ∧ ComeP L z tok F wf.heap.size W fa fc Ps Is As w w' := by
 have HG := hid hG
 have HS := hid hS
 have HK := hid hK
 have HF := hid hF
 have HWF := hid hwf
 have HX := hid hx
 have HI := hid hI
 have HXI := hid hX
 have HX0 := hid h0
 have HX1 := hid h1
 have HWK := hid hs
 have HPL := hid hs.pl
 have HFL := hid hFl
 have HPN := hid hn
 obtain ⟨at_, hat⟩ : ∃ n, n = Ps.length := ⟨_, rfl⟩
 obtain ⟨fn, hfn⟩ : ∃ n, n = F.length := ⟨_, rfl⟩
 have HAT := hid hat
 have HFN := hid hfn
 obtain ⟨Bx, hBx⟩ : ∃ n, n = wf.heap.size := ⟨_, rfl⟩
 have HBX := hid hBx
 obtain ⟨M, hM⟩ : ∃ M, M = w.heap.size := ⟨_, rfl⟩
 obtain ⟨Bc, hBc⟩ : ∃ M, M = w.heap.size := ⟨_, rfl⟩
 have HBc := hid hBc
 obtain ⟨w1, hw1⟩ : ∃ w1, w1 = w.alloc (.map #[] 0) := ⟨_, rfl⟩
 have hmm : (Instr.makeMap 145 none).run Tryz.prog w = .ok (.map (some M)) w1 := by rw [hM, hw1]; exact run_makeMap _ w
 have hb1 : Below w.heap.size w w1 := by rw [hw1]; exact zAA w _
 have hm1 : MV w1 M [] := by rw [hw1, hM]; exact MV.new w
 obtain ⟨w2, hmk, ho2, hb2⟩ := zO6 w1 fn (by omega)
 obtain ⟨q, hq⟩ : ∃ q, q = w1.heap.size := ⟨_, rfl⟩
 rw [← hq] at hmk ho2 hb2
 obtain ⟨w3, hw3⟩ : ∃ w3, w3 = w2.alloc (.cells #[.slice none 0 0, .map (some M), .slice (some ⟨q, 0, none⟩) fn fn] 148) := ⟨_, rfl⟩
 obtain ⟨p, hp⟩ : ∃ p, p = w2.heap.size := ⟨_, rfl⟩
 have hs1 : w1.heap.size = Bc + 1 := by rw [hw1, hBc]; simp
 have hb23 : Below w2.heap.size w2 w3 := by rw [hw3]; exact zAA w2 _
 have HC3 : Hid (Cur Bc w3 p M q none 0 (List.replicate fn ⟨none, 0, 0⟩) [] [] (List.replicate fn [])) := hid (by
  refine zO7 (by rw [hw3, hp]; exact Bk.new w2 _ _) ((hm1.below (by rw [← hq]; exact hb2)).below hb23) ?_ (by rw [hp]; have := hb2.size; omega) (by omega)
  exact (ho2.weaken (by omega)).keep hb23 (Nat.le_refl _))
 have HB3 : Hid (Below w.heap.size w w3) := hid ((hb1.trans (hb2.mono (by have := hb1.size; omega))).trans (hb23.mono (by have := hb1.size; have := hb2.size; omega)))
 have HLQ : Hid (Bc ≤ p ∧ Bc ≤ M ∧ Bc ≤ q) := hid ⟨HC3.out.lp, HC3.out.lm, HC3.out.lq⟩
 have cw0 := (hs.bw.below hb1).cell 0
 have cw1 := hs.bw.cell 1
 have ew1 := (hs.bw.below HB3.out).cell 1
 rw [← hat, ← hfn] at cw0 cw1 ew1
 rw [show (wkA fa fn fc pa at_ pc)[0]? = some (.slice fa fn fc) from rfl] at cw0
 rw [show (wkA fa fn fc pa at_ pc)[1]? = some (.slice pa at_ pc) from rfl] at cw1 ew1
 have HW3 : Hid (Bk w3 W 90 (wkA fa fn fc pa at_ pc)) := hid (by have := hs.bw.below HB3.out; rw [← hat, ← hfn] at this; exact this)
 have HR3 : Hid (OwnV Bx 144 1 w3 pa at_ pc (ptC Ps)) := hid (by have := hs.ro.keep HB3.out (Nat.le_refl _); rw [← hat, ← hBx] at this; exact this)
 have HBX3 : Hid (Bx ≤ w3.heap.size) := hid (by rw [hBx]; have := hwf.size; have := HB3.out.size; omega)
 have HAT1 : Hid (at_ ≤ 100) := hid (by rw [hat]; exact hn)
 clear hw1 hs1 hb1 hm1 ho2 hb2 hb23 hM hq hat hfn hBx hBc hs hwf hx hI hX h0 h1 hG hS hK hF hFl hn
 go_enter Tryz.func40, Tryz.ntmps40
 go_upto_region 2 with fail
 rw [← hw3, ← hp]
 clear hw3 hp hmm hmk cw0 cw1
 go_upto_region 3 with (first
  | (refine zFr rfl (.tmp 30) rfl p rfl ?_; intro w4 g4 hg4 hv4 hb4; have HV4 := hid hv4; have HB4 := hid hb4; clear hv4 hg4 hb4)
  | (at_builtin; refine zEW rfl (.tmp 29) (.tmp 31) 88 rfl 144 Bx 1 8 _ Tryz.underlying88 zJM rfl (by omega) pa at_ pc (ptC Ps) rfl (HR3.out.keep HB4.out (Nat.le_refl _)) g4 0 1 1 (ptC [p]) rfl HV4.out (by omega) (zLP _) (by have := HAT1.out; unfold maxLen; omega) (by have := HAT1.out; omega) (by have := HBX3.out; have := HB4.out.size; omega) ?_; intro g5 c5 w5 ho5 hg5 hb5 hl5; have HO5 := hid ho5; have HG5 := hid hg5; have HB5 := hid hb5; have HKG : Hid (Kt (fun t => t = 144) w4 w5) := hid (Kt.grown (HR3.out.keep HB4.out (Nat.le_refl _)) rfl hg5); clear ho5 hg5 hb5 hl5)
  | (refine zMu rfl (.tmp 34) (.tmp 32) rfl W rfl (some ⟨g5, 0, none⟩) (at_ + 1) c5 rfl fa fn fc pa at_ pc (zJI (HW3.out.below HB4.out) HKG.out (by decide)) ?_; intro wS h6 ho6; have H6 := hid h6; have HO6 := hid ho6; clear h6 ho6))
 have HWl : Hid (W < Bc) := hid (by rw [HBc.out]; exact HWK.out.bw.lt)
 have HW5 : Hid (Bk w5 W 90 (wkA fa fn fc pa at_ pc)) := hid (zJI (HW3.out.below HB4.out) HKG.out (by decide))
 have HROS : Hid (OwnV Bx 144 1 wS (some ⟨g5, 0, none⟩) (at_ + 1) c5 (ptC Ps ++ ptC [p])) := hid (HO5.out.kt (P := fun t => t = 90) (by decide) (Kt.only HW5.out rfl HO6.out))
 have HKV : Hid (Kt tV w wS) := hid (by
  have k1 : Kt tV w w4 := Kt.below (HB3.out.trans (HB4.out.mono HB3.out.size))
  have k2 : Kt tV w4 w5 := ⟨HKG.out.size, fun b cs t hb hp => HKG.out.row b cs t hb fun e => hp (.inr e)⟩
  have k3 : Kt tV w5 wS := Kt.only HW5.out (.inl rfl) HO6.out
  exact (k1.trans k2).trans k3)
 have HCS : Hid (Cur Bc wS p M q none 0 (List.replicate fn ⟨none, 0, 0⟩) [] [] (List.replicate fn [])) := hid (by
  have h4 := HC3.out.below HB4.out
  have hx5 : KX (fun b => pa = some ⟨b, 0, none⟩) w4 w5 := KX.grown (HR3.out.keep HB4.out (Nat.le_refl _)) HG5.out fun g hg => hg
  have h5 := h4.kx hx5 (fun b hb => by have := (zAj HWK.out.ro hb).2.1; rw [HBc.out]; exact this) (fun g hg => (h4.rows.1 g hg).1) (fun k g hk hg => (h4.rows.2 k g hk hg).1)
  exact h5.kx (KX.only (ex := fun b => b = W) HO6.out rfl) (fun b hb => by rw [hb]; exact HWl.out) (fun g hg => (h5.rows.1 g hg).1) (fun k g hk hg => (h5.rows.2 k g hk hg).1))
 have HBXS : Hid (Below Bx w wS) := hid (((HB3.out.mono (by have := HWF.out.size; rw [HBX.out]; exact this)).trans (HB4.out.mono HBX3.out)).trans (HB5.out.trans (HO6.out.below (by rw [HBX.out]; exact HWK.out.lw))))
 have HBcS : Hid (Bc ≤ wS.heap.size) := hid (by rw [HBc.out]; exact HKV.out.size)
 have HXS : Hid (OwnV 0 93 3 wS xa xn xc (itC X)) := hid (HX.out.kt (P := tV) (by unfold tV; decide) HKV.out)
 have HXL : Hid (X.length = xn) := hid (zIk HX.out.vs)
 clear HV4 HO5 HG5 HB5 HKG HO6 HC3 HW3 HR3 HB4 HW5 HBX3 ew1
 go_wp2_with fail
 refine (zC1 Bc p M q none 0 (List.replicate fn ⟨none, 0, 0⟩) [] (List.replicate fn []) xa xn xc X wS HCS.out HXS.out.vs (fun g off _ hg => by
  obtain ⟨g', cur, e1, _, h3, _⟩ := HX.out.form (by rw [hg]; simp)
  rw [hg] at e1
  simp only [Option.some.injEq, Addr.mk.injEq, and_true] at e1
  have hl : g < Bc := by rw [HBc.out, e1.1]; exact h3
  have := HLQ.out
  exact ⟨by omega, by omega, by simp⟩) (by simp; omega) HBcS.out).mono ?_
 rintro e7 w7 ⟨rfl, ia7, ic7, hc7, hk7, _⟩
 have HC7 := hid hc7
 have HMD7 : Hid (Md Bc wS w7) := hid ((⟨Below.refl _ _, Kt.refl _ _, HBcS.out⟩ : Md Bc wS wS).step HCS.out (hk7.weak fun b hb => hb.elim .inl fun hb => hb.elim (fun h => .inr (.inl h)) fun h => .inr (.inr (.inr (.inl h)))))
 have HCI7 : Hid (CI L z tok F at_ As X (dnF F []) [] (addI [] X) (List.replicate fn []) 0) := hid (by rw [HAT.out, HFN.out]; exact CI.start HXI.out)
 clear hc7 hk7 HCS HXS
 obtain ⟨I7, hI7⟩ : ∃ J, J = addI [] X := ⟨_, rfl⟩
 obtain ⟨R7, hR7⟩ : ∃ J : List SLV, J = List.replicate fn ⟨none, 0, 0⟩ := ⟨_, rfl⟩
 obtain ⟨A7, hA7⟩ : ∃ J : List (List IT), J = List.replicate fn [] := ⟨_, rfl⟩
 rw [← hI7, ← hR7, ← hA7] at HC7
 rw [← hI7, ← hA7] at HCI7
 clear hI7 hR7 hA7
 obtain ⟨pa5, hpa5⟩ : ∃ a : Option Addr, a = some ⟨g5, 0, none⟩ := ⟨_, rfl⟩
 rw [← hpa5] at HROS H6
 clear hpa5
 obtain ⟨pb, po, rfl, _, _⟩ := HROS.out.vs.at_ (by omega)
 go_wp2
 go_loopw [6] (fun v wr => ∃ (n : Nat) (ia : Option Addr) (ic : Nat) (R : List SLV) (I : List IT) (A : List (List IT)), v = .int .i64 (n : Int) ∧ n ≤ I.length ∧ Hid (Cur Bc wr p M q ia ic R I I A) ∧ Hid (CI L z tok F at_ As X (dnF F (I.take n)) (I.take n) I A (100 * n)) ∧ Hid (Md Bc wS wr)) (fun v _ => 3000000 - (intOf v).toNat)
 case atStart => exact ⟨0, ia7, ic7, R7, I7, A7, rfl, Nat.zero_le _, HC7, hid (by rw [List.take_zero]; exact HCI7.out), HMD7⟩
 case round =>
  rename World => wa
  obtain ⟨n, ia, ic, R, I, A, rfl, hnI, HC, HCI, HMD⟩ := hrel
  have HLI : Hid (I.length ≤ 1020100) := hid (HCI.out.len HG.out HFL.out HS.out HAT1.out)
  obtain ⟨m, hm⟩ : ∃ m, m = I.length := ⟨_, rfl⟩
  have HM := hid hm
  have hn0 : (0 : Int) ≤ (n : Int) := Int.natCast_nonneg _
  have c0 := HC.out.pb.cell 0
  rw [show (pcA ia I.length ic M (some ⟨q, 0, none⟩) A.length A.length)[0]? = some (.slice ia I.length ic) from rfl, ← hm] at c0
  by_cases hlt : n < m
  ·have hltI : (n : Int) < (m : Int) := by omega
   have HLT : Hid (n < I.length) := hid (by omega)
   obtain ⟨b, off, rfl, _, _⟩ := HC.out.io.vs.at_ (by omega)
   have HCS := hid (zHS HC.out.io.vs (j := n) HLT.out)
   have HIX := hid (HCI.out.it _ (zLD HLT.out))
   have HXM := hid (zLD HLT.out)
   obtain ⟨x0, hx0⟩ : ∃ x, x = xA I n := ⟨_, rfl⟩
   have HX0E := hid hx0
   rw [← hx0] at HCS HIX HXM
   clear hx0
   obtain ⟨D, hD⟩ : ∃ D, D = wa.heap.size := ⟨_, rfl⟩
   have HDD := hid hD
   obtain ⟨VX, hvx⟩ : ∃ V, V = itA x0 := ⟨_, rfl⟩
   have HVX := hid hvx
   rw [← hvx] at HCS
   clear hD hvx hm
   go_upto_region 8 with (first
    | (refine zCI zAo rfl (.tmp 52) rfl b (off + n * 3) rfl VX (by rw [HVX.out]; rfl) HCS.out ?_)
    | (refine zAn zAo rfl (.tmp 7) (.tmp 53) rfl D (by rw [HDD.out]; rfl) VX rfl (by rw [HVX.out]; rfl) (by rw [HVX.out]; exact zHR x0) #[.int .i64 0, .int .i64 0, .int .i64 0] rfl (by rw [HDD.out]; exact Bk.new wa _ _) ?_; rw [← HDD.out]; intro w4 h4 ho4; have HB4 : Hid (Below wa.heap.size wa w4) := hid ((zAA wa _).trans (ho4.below (by rw [HDD.out]; exact Nat.le_refl _))); have H4 : Hid (Bk w4 D 93 (itA x0)) := hid (by rw [← HVX.out]; exact h4); clear h4 ho4))
   obtain ⟨ia, hia⟩ : ∃ a : Option Addr, a = some ⟨b, off, none⟩ := ⟨_, rfl⟩
   rw [← hia] at HC
   clear hia c0
   have HC4 := hid (HC.out.below HB4.out)
   have HMD4 := hid (HMD.out.below HB4.out)
   have HD4 : Hid (Apt w4 D x0 p M q ia R A.length) := hid ⟨H4.out, fun e => by have := (HC.out.has_ge e).2; rw [HDD.out] at this; omega⟩
   have HW4 : Hid (Bk w4 W 90 (wkA fa fn fc (some ⟨pb, po, none⟩) (at_ + 1) c5)) := hid (zJI H6.out HMD4.out.kt (by unfold tRv; decide))
   have HF4 : Hid (Below wf.heap.size wf w4) := hid (by
    have h1 := HBXS.out
    rw [HBX.out] at h1
    exact (HWF.out.trans h1).trans (HMD4.out.be.mono (by rw [HBc.out]; exact HWF.out.size)))
   clear HCS HVX HDD H4 HC HMD HB4
   obtain ⟨hiA, _, hiF, hiS, _⟩ := zAu HG.out HIX.out
   go_wp2_with (refine zA2 zAo rfl (.tmp 7) rfl D rfl _ rfl HD4.out.1 ?_)
   refine (zGj W fa fc F (some ⟨pb, po, none⟩) (at_ + 1) c5 x0 wf w4 (by rw [← HFN.out]; exact HW4.out) HF.out HF4.out hiF (HG.out.ne _ hiF) hiS).mono ?_
   rintro e8 w8 ⟨sa, sc, rfl, hst, hb8⟩
   have HST := hid hst
   have HC8 := hid (HC4.out.below hb8)
   have HMD8 := hid (HMD4.out.below hb8)
   have HD8 := hid (HD4.out.below hb8)
   have HW8 := hid (HW4.out.below hb8)
   have HF8 : Hid (Below wf.heap.size wf w8) := hid (HF4.out.trans (hb8.mono HF4.out.size))
   have HRO8 : Hid (OwnV Bx 144 1 w8 (some ⟨pb, po, none⟩) (at_ + 1) c5 (ptC Ps ++ ptC [p])) := hid (HROS.out.kt (P := tRv) (by unfold tRv; decide) HMD8.out.kt)
   have HNW : Hid (¬ curHas p M q ia R A.length W ∧ ¬ curHas p M q ia R A.length pb) := hid (by
    refine ⟨fun e => ?_, fun e => ?_⟩
    ·exact absurd (HC8.out.has_ty e HW8.out) (by unfold tRv; decide)
    ·obtain ⟨g, cur, e1, _, _, h4, _⟩ := HRO8.out.form (by simp)
     simp only [Option.some.injEq, Addr.mk.injEq] at e1
     rw [← e1.1] at h4
     exact absurd (HC8.out.has_ty e h4) (by unfold tRv; decide))
   obtain ⟨rl, hrl⟩ : ∃ r, r = (fA F x0.1).S.length - x0.2.1 := ⟨_, rfl⟩
   have HRL : Hid (rl = ((fA F x0.1).S.drop x0.2.1).length) := hid (by rw [hrl, List.length_drop])
   rw [← hrl] at HST ⊢
   clear hst hb8 hrl HC4 HMD4 HD4 HW4 HF4
   cases hdr : (fA F x0.1).S.drop x0.2.1 with
   | nil =>
    have HDR := hid hdr
    have h9 := HRL.out
    rw [hdr, List.length_nil] at h9
    subst h9
    clear hdr HST
    go_upto_region 10 with fail
    have HE0 : Hid (x0.2.2 < at_) := hid (by
     have h1 := HIX.out
     obtain ⟨_, _, _, hs, _⟩ := zAu HG.out h1
     have h2 := List.drop_eq_nil_iff.1 HDR.out
     rw [show x0.2.1 = (fA F x0.1).S.length by omega] at h1
     exact zNv HG.out h1)
    obtain ⟨Pb, hPb⟩ : ∃ b, b = Ps.getD x0.2.2 0 := ⟨_, rfl⟩
    obtain ⟨Ab, hAb⟩ : ∃ b, b = As.getD x0.2.2 [] := ⟨_, rfl⟩
    have HAb := hid hAb
    have HPS := hid (HI.out x0.2.2 (by rw [← HAT.out]; exact HE0.out))
    have HPW := hid (HPL.out x0.2.2 (by rw [← HAT.out]; exact HE0.out))
    rw [← hPb, ← hAb] at HPW
    rw [← hAb] at HPS
    have hpe := HRO8.out.vs.cells (j := x0.2.2) (by omega) (by have := HE0.out; omega)
    rw [List.getElem?_append_left (by rw [zO5]; have := HE0.out; have := HAT.out; omega), zNy (by have := HE0.out; have := HAT.out; omega), ← hPb] at hpe
    clear hAb hPb
    have HFX : Hid (x0.1 < Ab.length) := hid (by rw [HPS.out.al]; exact (zAu HG.out HIX.out).2.2.1)
    obtain ⟨ja, jc, jM, aa, ac, Rb, k1, k2, k3, k4, k5⟩ := HPW.out.ex
    obtain ⟨ab, ao, rfl, hab, _⟩ := k3.vs.at_ (by have := HFX.out; omega)
    obtain ⟨kn1, kn2⟩ := k5 x0.1 HFX.out
    have hKV := HKV.out.then_below (w' := w8) (by rw [← HBc.out]; exact HMD8.out.be)
    have hcA := (k3.kt (P := tV) (by unfold tV; decide) hKV).vs.cells (j := x0.1) (by have := HFX.out; omega) (by have := HFX.out; omega)
    rw [zLF (by have := HFX.out; omega), kn1] at hcA
    have hcp2 := (zJI k1 hKV (by unfold tV; decide)).cell 2
    rw [show (pcA ja (Is.getD x0.2.2 []).length jc jM (some ⟨ab, ao, none⟩) Ab.length ac)[2]? = some (.slice (some ⟨ab, ao, none⟩) Ab.length ac) from rfl] at hcp2
    have HPB : Hid (Pb < Bc ∧ ab < Bc) := hid (by rw [HBc.out]; exact ⟨k1.lt, hab⟩)
    have HYW := hid (kn2.kt (P := tV) (by unfold tV; decide) hKV)
    have HYlt : Hid (∀ g off, (rA Rb x0.1).a = some ⟨g, off, none⟩ → g < Bc) := hid fun g off hg => by
     obtain ⟨g', cur, e1, _, h3, _⟩ := kn2.form (by rw [hg]; simp)
     rw [hg] at e1
     simp only [Option.some.injEq, Addr.mk.injEq, and_true] at e1
     rw [HBc.out, e1.1]; exact h3
    have HYL : Hid ((aA Ab x0.1).length ≤ 500000000) := hid (HPS.out.ln x0.1 (by rw [← HPS.out.al]; exact HFX.out))
    obtain ⟨ya, hya⟩ : ∃ a, a = (rA Rb x0.1).a := ⟨_, rfl⟩
    obtain ⟨yc, hyc⟩ : ∃ a, a = (rA Rb x0.1).c := ⟨_, rfl⟩
    obtain ⟨Y, hY⟩ : ∃ Y, Y = aA Ab x0.1 := ⟨_, rfl⟩
    have HY := hid hY
    rw [← hya, ← hyc, ← hY] at HYW
    rw [← hya, ← hyc, ← hY] at hcA
    rw [← hya] at HYlt
    rw [← hY] at HYL
    obtain ⟨yn, hyn⟩ : ∃ a, a = Y.length := ⟨_, rfl⟩
    rw [← hyn] at hcA HYW HYL
    obtain ⟨al_, hal⟩ : ∃ a, a = Ab.length := ⟨_, rfl⟩
    rw [← hal] at hcp2 HFX
    have hl0 : (0 : Int) ≤ (x0.2.2 : Int) := Int.natCast_nonneg _
    have hl1 : (x0.2.2 : Int) < (at_ : Int) + 1 := by have := HE0.out; omega
    have hl2 : (0 : Int) ≤ (x0.1 : Int) := Int.natCast_nonneg _
    have hl3 : (x0.1 : Int) < (al_ : Int) := by have := HFX.out; omega
    have HXA : Hid (∀ g off, 0 < yn → ya = some ⟨g, off, none⟩ → g ≠ p ∧ g ≠ M ∧ ia ≠ some ⟨g, 0, none⟩) := hid fun g off _ hg => by
     have hlt := HYlt.out g off hg
     refine ⟨fun e => ?_, fun e => ?_, fun e => ?_⟩
     ·have := (HC8.out.has_ge (b := g) (.inl e)).1; omega
     ·have := (HC8.out.has_ge (b := g) (.inr (.inl e))).1; omega
     ·have := (HC8.out.has_ge (b := g) (.inr (.inr (.inr (.inl e))))).1; omega
    have HQ : Hid (∀ u, KX (curHas p M q ia R A.length) w8 u → u.cell? ⟨W, 1, none⟩ = some (.slice (some ⟨pb, po, none⟩) (at_ + 1) c5) ∧ u.cell? ⟨D, 2, none⟩ = some (.int .i64 (x0.2.2 : Int)) ∧ u.cell? ⟨D, 0, none⟩ = some (.int .i64 (x0.1 : Int)) ∧ u.cell? ⟨pb, po + x0.2.2, none⟩ = some (.pointer (some ⟨Pb, 0, none⟩)) ∧ u.cell? ⟨Pb, 2, none⟩ = some (.slice (some ⟨ab, ao, none⟩) al_ ac) ∧ u.cell? ⟨ab, ao + x0.1, none⟩ = some (.slice ya yn yc)) := hid fun u hu => by
     have hW := HW8.out.cell 1
     have hD2 := HD8.out.1.cell 2
     have hD0 := HD8.out.1.cell 0
     rw [show (wkA fa fn fc (some ⟨pb, po, none⟩) (at_ + 1) c5)[1]? = some (.slice (some ⟨pb, po, none⟩) (at_ + 1) c5) from rfl] at hW
     rw [show (itA x0)[2]? = some (.int .i64 (x0.2.2 : Int)) from rfl] at hD2
     rw [show (itA x0)[0]? = some (.int .i64 (x0.1 : Int)) from rfl] at hD0
     have low : ∀ b, b < Bc → ¬ curHas p M q ia R A.length b := fun b hb e => by have := (HC8.out.has_ge e).1; omega
     exact ⟨zBG hu hW HNW.out.1, zBG hu hD2 HD8.out.2, zBG hu hD0 HD8.out.2, zBG hu hpe HNW.out.2, zBG hu hcp2 (low _ HPB.out.1), zBG hu hcA (low _ HPB.out.2)⟩
    clear k1 k2 k3 k4 k5 hcA hcp2 hya hyc hY hyn hal kn1 kn2 hKV hpe hab HPW
    refine wp_region_noPanic ?_
    refine wp_region_held_drew (S := fun u => u.cell? ⟨W, 1, none⟩ = some (.slice (some ⟨pb, po, none⟩) (at_ + 1) c5) ∧ u.cell? ⟨D, 2, none⟩ = some (.int .i64 (x0.2.2 : Int)) ∧ u.cell? ⟨D, 0, none⟩ = some (.int .i64 (x0.1 : Int)) ∧ u.cell? ⟨pb, po + x0.2.2, none⟩ = some (.pointer (some ⟨Pb, 0, none⟩)) ∧ u.cell? ⟨Pb, 2, none⟩ = some (.slice (some ⟨ab, ao, none⟩) al_ ac) ∧ u.cell? ⟨ab, ao + x0.1, none⟩ = some (.slice ya yn yc)) (by kernel_rfl) (HQ.out _ (KX.of _ (Below.refl _ _).drew)) (fun hHeld => ?_)
    refine zG 0 rfl ?_
    try simp only [Act.put, aS, aZ, aC]
    refine zG 1 rfl ?_
    try simp only [Act.put, aS, aZ, aC]
    refine zG 2 rfl ?_
    try simp only [Act.put, aS, aZ, aC]
    refine zG 3 rfl ?_
    try simp only [Act.put, aS, aZ, aC]
    refine zG 4 rfl ?_
    try simp only [Act.put, aS, aZ, aC]
    refine zG 5 rfl ?_
    try simp only [Act.put, aS, aZ, aC]
    refine zG 6 rfl ?_
    try simp only [Act.put, aS, aZ, aC]
    refine zG 7 rfl ?_
    try simp only [Act.put, aS, aZ, aC]
    refine zG 8 rfl ?_
    try simp only [Act.put, aS, aZ, aC]
    refine zG 9 rfl ?_
    try simp only [Act.put, aS, aZ, aC]
    refine zG 10 rfl ?_
    try simp only [Act.put, aS, aZ, aC]
    refine zG 11 rfl ?_
    try simp only [Act.put, aS, aZ, aC]
    refine zG 12 rfl ?_
    try simp only [Act.put, aS, aZ, aC]
    refine zG 13 rfl ?_
    try simp only [Act.put, aS, aZ, aC]
    refine zG 14 rfl ?_
    try simp only [Act.put, aS, aZ, aC]
    refine zG 15 rfl ?_
    try simp only [Act.put, aS, aZ, aC]
    refine zR [16] ?_
    refine hDo rfl (fun K hK => ?_) ?_
    ·go_simp
     (go_at_call 77; (with_reducible refine (zC1 Bc p M q ia ic R I A ya yn yc Y w8.drew (HC8.out.below (Below.refl _ _).drew) HYW.out.vs.drew HXA.out (by have := HYL.out; have := HLI.out; omega) (Nat.le_trans HMD8.out.lb (Nat.le_trans HMD8.out.be.size (Below.refl w8.heap.size w8).drew.size))).mono ?_); rintro e9 w9 ⟨rfl, ia9, ic9, hc9, hk9, hi9⟩)
     have HC9 := hid hc9
     have HK9 : Hid (KX (curHas p M q ia R A.length) w8 w9) := hid (((KX.of (curHas p M q ia R A.length) (Below.refl _ _).drew).trans (hk9.weak (ex' := curHas p M q ia R A.length) fun b hb => hb.elim .inl fun hb => hb.elim (fun h => .inr (.inl h)) fun h => .inr (.inr (.inr (.inl h)))) fun b _ h => h))
     clear hc9 hk9 hi9
     refine hK.out _ _ (HQ.out _ HK9.out) (fun hHeld => ?_)
     clear hK K
     try simp only [Act.put, aS, aZ, aC]
     refine wpAnyH_done (by kernel_rfl) ?_ _
     refine NoPanic.normal ?_
     have HCI9 := hid (HCI.out.comp HIX.out HDR.out HG.out (Ib := Is.getD x0.2.2 []) (by rw [← HAb.out]; exact HPS.out))
     rw [← HAb.out, ← HY.out] at HCI9
     have HNX9 : Hid ((addI I Y).take (n + 1) = I.take n ++ [x0] ∧ n + 1 ≤ (addI I Y).length) := hid (by
      obtain ⟨t, ht⟩ := zCz I Y
      have hlt' := HLT.out
      rw [← ht, List.take_append_of_le_length (by omega), List.take_succ_eq_append_getElem hlt', ← zJJ hlt', ← HX0E.out, List.length_append]
      exact ⟨rfl, by omega⟩)
     have HMD9 := hid (HMD8.out.step HC8.out HK9.out)
     have hn3 : n ≤ 1020100 := by have := HLI.out; have := HLT.out; omega
     go_wp2
     go_roundw
     case rel => exact ⟨n + 1, ia9, ic9, R, addI I Y, A, by go_num, HNX9.out.2, HC9, hid (by rw [HNX9.out.1]; exact HCI9.out.weak (by omega)), HMD9⟩
     case measure => simp [intOf]; omega
    ·exact AllReadyH.nil
   | cons d rr =>
    have HDR := hid hdr
    have h9 := HRL.out
    rw [hdr, List.length_cons] at h9
    have hne : ((rl : Int) == 0) = false := by simp; omega
    have hrl0 : (0 : Int) < (rl : Int) := by omega
    rw [hdr] at HST
    obtain ⟨sb, so, pv, ka, kc, rfl, hsd, hvk, hcell⟩ := zIo HST.out
    have HVK := hid hvk
    have HKD : Hid (kdsF F x0 = kdS d) := hid (zMr hdr)
    have d1 := hcell w8 HF8.out 1 (by omega)
    rw [show (#[pv, .slice ka (kdS d).length kc] : Array Value)[1]? = some (.slice ka (kdS d).length kc) from rfl] at d1
    have HNP : Hid (x0 ∉ I.take n) := hid (fun e => by
     obtain ⟨i, hi, e1⟩ := List.mem_iff_getElem.1 e
     rw [List.length_take] at hi
     rw [List.getElem_take] at e1
     have h2 := HCI.out.nd
     have h3 := HX0E.out
     rw [zJJ HLT.out] at h3
     rw [h3] at e1
     exact absurd ((List.getElem_inj h2).1 e1) (by omega))
    have HCI8 := hid (HCI.out.begin x0)
    have HKN : Hid ((kdsF F x0).length ≤ 100) := hid (HK.out x0)
    obtain ⟨K, hKK⟩ : ∃ K, K = kdsF F x0 := ⟨_, rfl⟩
    have HKK := hid hKK
    rw [← HKD.out, ← hKK] at d1 HVK
    rw [← hKK] at HKN
    obtain ⟨kn, hkn⟩ : ∃ n, n = K.length := ⟨_, rfl⟩
    have HKNE := hid hkn
    rw [← hkn] at d1 HVK HKN
    clear hdr h9 hsd hvk hcell hKK hkn HST
    go_upto_region 12 with fail
    clear d1
    go_loopw [82] (fun v wr => ∃ (j : Nat) (iq : Option Addr) (iqc : Nat) (Rq : List SLV) (Iq : List IT) (Aq : List (List IT)), v = .int .i64 (j : Int) ∧ j ≤ kn ∧ Hid (Cur Bc wr p M q iq iqc Rq Iq Iq Aq) ∧ Hid (CI L z tok F at_ As X (dkF F (I.take n) x0 j) (I.take n) Iq Aq (100 * n + j)) ∧ Hid (I <+: Iq) ∧ Hid (Md Bc wS wr) ∧ Hid (Apt wr D x0 p M q iq Rq Aq.length)) (fun v _ => kn - (intOf v).toNat)
    case atStart => exact ⟨0, ia, ic, R, I, A, rfl, Nat.zero_le _, HC8, HCI8, hid (List.prefix_refl _), HMD8, HD8⟩
    case round =>
     rename World => wb
     obtain ⟨j, iq, iqc, Rq, Iq, Aq, rfl, hj, HCQ, HCIQ, HPRQ, HMDQ, HDQ⟩ := hrel
     have hj0 : (0 : Int) ≤ (j : Int) := Int.natCast_nonneg _
     by_cases hjl : j < kn
     ·have hjlI : (j : Int) < (kn : Int) := by omega
      have HJL : Hid (j < K.length) := hid (by rw [← HKNE.out]; exact hjl)
      have HFQ : Hid (Below wf.heap.size wf wb) := hid (by
       have h1 := HBXS.out
       rw [HBX.out] at h1
       exact (HWF.out.trans h1).trans (HMDQ.out.be.mono (by rw [HBc.out]; exact HWF.out.size)))
      obtain ⟨kb, ko, rfl, hkb, hkc⟩ := HVK.out.at_ (by omega)
      have hcj := (HFQ.out.cell (p := ⟨kb, ko + j, none⟩) hkb).trans (hkc j (by omega))
      rw [show (intsK K)[j]? = some (.int .i64 ((K[j]'HJL.out : Nat) : Int)) from by unfold intsK; rw [List.getElem?_map, List.getElem?_eq_getElem HJL.out]; rfl] at hcj
      have hkid := HCIQ.out.kid HIX.out HNP.out (by rw [← HKK.out]; exact HJL.out) HG.out
      obtain ⟨k0, hk0⟩ : ∃ k, k = K[j]'HJL.out := ⟨_, rfl⟩
      rw [← hk0] at hcj
      have hkk : (kdsF F x0)[j]'(by rw [← HKK.out]; exact HJL.out) = k0 := by rw [hk0]; congr 1; exact HKK.out.symm
      rw [hkk] at hkid
      have HKLT := hid hkid.1
      have HKI := hid hkid.2
      clear hkid hkk hk0 hkc hkb
      have HALQ : Hid (k0 < Aq.length ∧ k0 < Rq.length) := hid (by rw [HCQ.out.rl, HCIQ.out.al]; exact ⟨HKLT.out, HKLT.out⟩)
      have hcr := HCQ.out.ar.vs.cells (j := k0) (by have := HALQ.out.1; omega) (by have := HALQ.out.1; omega)
      rw [zLF HALQ.out.2, (HCQ.out.ro k0 HALQ.out.1).1, Nat.zero_add] at hcr
      have hro := (HCQ.out.ro k0 HALQ.out.1).2
      have HRN : Hid ((aA Aq k0).length ≤ 200000000) := hid (by
       have h2 := HCIQ.out.ln k0 HKLT.out
       have := HLI.out
       have := HLT.out
       have := HKN.out
       omega)
      obtain ⟨ra, hra⟩ : ∃ a, a = (rA Rq k0).a := ⟨_, rfl⟩
      obtain ⟨rc, hrc⟩ : ∃ a, a = (rA Rq k0).c := ⟨_, rfl⟩
      obtain ⟨rn, hrn⟩ : ∃ a, a = (aA Aq k0).length := ⟨_, rfl⟩
      obtain ⟨aq, haq⟩ : ∃ a, a = Aq.length := ⟨_, rfl⟩
      have HRE : Hid ((rA Rq k0).a = ra ∧ (rA Rq k0).c = rc ∧ (aA Aq k0).length = rn ∧ Aq.length = aq) := hid ⟨hra.symm, hrc.symm, hrn.symm, haq.symm⟩
      rw [← hra, ← hrc, ← hrn] at hcr hro
      rw [← hrn] at HRN
      have HNQ : Hid (ra ≠ some ⟨p, 0, none⟩ ∧ ra ≠ some ⟨D, 0, none⟩ ∧ ra ≠ some ⟨q, 0, none⟩ ∧ D ≠ q ∧ p ≠ q) := hid (by
       obtain ⟨a1, a2, a3, a4, a5⟩ := HCQ.out.apart
       have h5 := a5 k0
       rw [← hra] at h5
       exact ⟨fun e => (h5 p HALQ.out.1 e).1 rfl, fun e => HDQ.out.2 (.inr (.inr (.inr (.inr ⟨k0, HALQ.out.1, by rw [← hra]; exact e⟩)))), fun e => (h5 q HALQ.out.1 e).2.2 rfl, fun e => HDQ.out.2 (.inr (.inr (.inl e))), a2⟩)
      have HAQL : Hid (k0 < aq) := hid (by rw [haq]; exact HALQ.out.1)
      have HCQ' : Hid (∀ u, Below wb.heap.size wb u → u.cell? ⟨p, 2, none⟩ = some (.slice (some ⟨q, 0, none⟩) aq aq)) := hid fun u hu => by
       have := (HCQ.out.below hu).pb.cell 2
       rw [← haq] at this
       exact this
      have HQQ : Hid (∀ u, Below wb.heap.size wb u → u.cell? ⟨p, 2, none⟩ = some (.slice (some ⟨q, 0, none⟩) aq aq) ∧ Bk u D 93 (itA x0)) := hid fun u hu => ⟨HCQ'.out u hu, (HDQ.out.below hu).1⟩
      have HRR : Hid (∀ u, Below wb.heap.size wb u → u.cell? ⟨q, k0, none⟩ = some (.slice ra rn rc) ∧ OwnV Bc 93 3 u ra rn rc (itC (aA Aq k0))) := hid fun u hu => ⟨(hu.cell (p := ⟨q, k0, none⟩) HCQ.out.lt.2.2).trans hcr, hro.keep hu (Nat.le_refl _)⟩
      have hkq0 : (0 : Int) ≤ (k0 : Int) := Int.natCast_nonneg _
      have hkq1 : (k0 : Int) < (aq : Int) := by have := HAQL.out; omega
      have HX1M : Hid (x0.2.1 ≤ 1000000) := hid (by have := HS.out x0.1 hiF; omega)
      have HBWB : Hid (Bc ≤ wb.heap.size) := hid (Nat.le_trans HMDQ.out.lb HMDQ.out.be.size)
      clear hra hrc hrn haq hcr hro HCQ'
      go_upto_region 14 with fail
      clear hcj
      refine wp_region_noPanic ?_
      refine wp_region_held_drew (S := fun u => u.cell? ⟨p, 2, none⟩ = some (.slice (some ⟨q, 0, none⟩) aq aq) ∧ Bk u D 93 (itA x0)) (by kernel_rfl) (HQQ.out _ (Below.refl _ _).drew) (fun hHeld => ?_)
      refine zG 0 rfl ?_
      try simp only [Act.put, aS, aZ, aC]
      refine zG 1 rfl ?_
      try simp only [Act.put, aS, aZ, aC]
      refine zG 2 rfl ?_
      try simp only [Act.put, aS, aZ, aC]
      refine zG 3 rfl ?_
      try simp only [Act.put, aS, aZ, aC]
      refine zG 4 rfl ?_
      try simp only [Act.put, aS, aZ, aC]
      refine zG 5 rfl ?_
      try simp only [Act.put, aS, aZ, aC]
      refine zG 6 rfl ?_
      try simp only [Act.put, aS, aZ, aC]
      refine zG 7 rfl ?_
      try simp only [Act.put, aS, aZ, aC]
      refine zG 8 rfl ?_
      try simp only [Act.put, aS, aZ, aC]
      refine zG 9 rfl ?_
      try simp only [Act.put, aS, aZ, aC]
      refine zG 10 rfl ?_
      try simp only [Act.put, aS, aZ, aC]
      refine zT 12 (v := .agg (itA x0)) rfl (fun w0 h0 => zBc zAo (.tmp 7) D rfl (itA x0) rfl h0.2) ?_
      try simp only [Act.put, aS, aZ, aC]
      refine zR [11, 13] ?_
      refine hDo rfl (fun K hK => ?_) ?_
      ·have d0 := (HRR.out _ ((Below.refl wb.heap.size wb).drew)).1
       go_simp
       clear d0
       refine hK.out _ _ (HQQ.out _ ((Below.refl wb.heap.size wb).drew)) (fun hHeld => ?_)
       clear hK K
       try simp only [Act.put, aS, aZ, aC]
       refine zR [13] ?_
       refine hDo rfl (fun K hK => ?_) ?_
       ·go_simp
        (go_at_call 79; (with_reducible refine (zEX x0 _ HX1M.out).mono ?_); rintro e u13 ⟨rfl, hb13⟩)
        have HB13 : Hid (Below wb.heap.size wb u13) := hid (((Below.refl wb.heap.size wb).drew).trans (hb13.mono ((Below.refl wb.heap.size wb).drew).size))
        clear hb13
        refine hK.out _ _ (HQQ.out _ HB13.out) (fun hHeld => ?_)
        clear hK K
        try simp only [Act.put, aS, aZ, aC]
        refine zR [14] ?_
        refine hDo rfl (fun K hK => ?_) ?_
        ·refine zBT rfl (.tmp 99) rfl (nexI x0) rfl ?_
         intro u14 g14 hg14 hv14 hb14 hs14
         have HV14 := hid hv14
         have HB14 : Hid (Below wb.heap.size wb u14) := hid ((HB13.out).trans (hb14.mono (HB13.out).size))
         clear hv14 hb14 hg14 hs14
         refine hK.out _ _ (HQQ.out _ HB14.out) (fun hHeld => ?_)
         clear hK K
         try simp only [Act.put, aS, aZ, aC]
         refine zR [15] ?_
         refine hDo rfl (fun K hK => ?_) ?_
         ·refine zCJ rfl (.tmp 97) (.tmp 100) 94 rfl 93 Bc 3 24 _ Tryz.underlying94 zBo rfl (by omega) ra rn rc (itC (aA Aq k0)) rfl (HRR.out _ HB14.out).2 g14 0 1 1 (itC [nexI x0]) rfl HV14.out (by omega) (zBn _) (by have := HRN.out; unfold maxLen; omega) (by have := HRN.out; omega) (by have := HBWB.out; have := HB14.out.size; omega) ?_
          intro g15 c15 u15 ho15 hg15 hb15 hl15
          rw [itC_one] at ho15
          have HO15 := hid ho15
          have HG15 := hid hg15
          have HL15 := hid hl15
          have HKG : Hid (KX (fun b => ra = some ⟨b, 0, none⟩) u14 u15) := hid (KX.grown (HRR.out _ HB14.out).2 hg15 fun g hg => hg)
          have HC14 := hid (HCQ.out.below HB14.out)
          have HQ15 : Hid (u15.cell? ⟨p, 2, none⟩ = some (.slice (some ⟨q, 0, none⟩) aq aq) ∧ Bk u15 D 93 (itA x0)) := hid ⟨zBG HKG.out (HQQ.out _ HB14.out).1 HNQ.out.1, zDS (HQQ.out _ HB14.out).2 HKG.out HNQ.out.2.1⟩
          have HA15 : Hid (OwnV Bc 94 1 u15 (some ⟨q, 0, none⟩) aq aq (slC Rq)) := hid (by have := HC14.out.ar.kx HKG.out fun g hg e => HNQ.out.2.2.1 (by simp only [Option.some.injEq, Addr.mk.injEq, and_true] at hg; rw [hg]; exact e); rw [HRE.out.2.2.2] at this; exact this)
          clear ho15 hg15 hl15 hb15
          refine hK.out _ _ (HQ15.out) (fun hHeld => ?_)
          clear hK K
          try simp only [Act.put, aS, aZ, aC]
          refine zG 16 rfl ?_
          try simp only [Act.put, aS, aZ, aC]
          refine zR [17] ?_
          refine hDo rfl (fun K hK => ?_) ?_
          ·refine zBS rfl 94 zBp (.tmp 102) (.tmp 101) rfl Bc 1 94 q aq aq (slC Rq) HA15.out k0 (by have := HAQL.out; omega) (.slice (some ⟨g15, 0, none⟩) (rn + 1) c15) rfl rfl (by first | rfl | (simp [Act.eval]; done)) rfl ?_
           intro u17 h17 ho17 _ _
           have H17 := hid h17
           have HO17 := hid ho17
           clear h17 ho17
           refine hK.out _ _ (⟨zBG (KX.only (ex := fun b => b = q) HO17.out rfl) HQ15.out.1 HNQ.out.2.2.2.2, HQ15.out.2.only HO17.out HNQ.out.2.2.2.1⟩) (fun hHeld => ?_)
           clear hK K
           try simp only [Act.put]
           refine wpAnyH_done (by kernel_rfl) ?_ _
           refine NoPanic.normal ?_
           obtain ⟨hcu, hku⟩ := HC14.out.after (k := k0) (g' := g15) (c' := c15) (y := nexI x0) (w' := u15) (w'' := u17) HALQ.out.1 (by rw [HRE.out.2.2.1]; exact HO15.out) (by rw [HRE.out.1, HRE.out.2.1, HRE.out.2.2.1]; exact HG15.out) (by rw [HRE.out.1]; exact HL15.out) (by rw [HRE.out.2.2.1, HRE.out.2.2.2]; exact H17.out) HO17.out
           have HKU : Hid (KX (curHas p M q iq Rq Aq.length) u14 u17) := hid (hku.weak fun b hb => hb.elim (fun h => .inr (.inr (.inl h))) fun h => .inr (.inr (.inr (.inr ⟨k0, HALQ.out.1, h⟩))))
           have HMDU := hid ((HMDQ.out.below HB14.out).step HC14.out HKU.out)
           have HDU := hid ((HDQ.out.below HB14.out).step (ia' := iq) (n' := Aq.length) (R' := Rq.set k0 ⟨some ⟨g15, 0, none⟩, (aA Aq k0).length + 1, c15⟩) HKU.out (zEY HALQ.out.2 HALQ.out.1 (by rw [HRE.out.1]; exact HL15.out)))
           have HCU := hid hcu
           clear hcu hku
           obtain ⟨Ru, hRu⟩ : ∃ r, r = Rq.set k0 ⟨some ⟨g15, 0, none⟩, (aA Aq k0).length + 1, c15⟩ := ⟨_, rfl⟩
           obtain ⟨Au, hAu⟩ : ∃ r, r = Aq.set k0 (aA Aq k0 ++ [nexI x0]) := ⟨_, rfl⟩
           have HAUL : Hid (Au.length = Aq.length) := hid (by rw [hAu, List.length_set])
           rw [← hRu, ← hAu] at HCU
           rw [← hRu, ← HAUL.out] at HDU
           rw [← hAu] at HKI
           have HLIQ : Hid (Iq.length ≤ 1020100) := hid (HCIQ.out.len HG.out HFL.out HS.out HAT1.out)
           clear hRu hAu HO15 HG15 HL15 HKG HQ15 HA15 H17 HO17 HC14 HRE HNQ HQQ HRR HCQ HKU HV14
           go_wp2_with (first
            | (refine zBL rfl (.tmp 106) rfl (k0, 0, at_) rfl ?_; intro w18 g18 hg18 hv18 hb18 hs18; have HV18 := hid hv18; have HG18 := hid hg18; have HB18 := hid hb18; clear hv18 hg18 hb18 hs18))
           have HC18 := hid (HCU.out.below HB18.out)
           have HMD18 := hid (HMDU.out.below HB18.out)
           have HD18 := hid (HDU.out.below HB18.out)
           refine (zC1 Bc p M q iq iqc Ru Iq Au (some ⟨g18, 0, none⟩) 1 1 [(k0, 0, at_)] w18 HC18.out HV18.out (fun g off _ hg => by
            simp only [Option.some.injEq, Addr.mk.injEq] at hg
            obtain ⟨rfl, _, _⟩ := hg
            have h2 := HG18.out
            refine ⟨fun e => ?_, fun e => ?_, fun e => ?_⟩
            ·have := (HCU.out.has_ge (b := g18) (.inl e)).2; omega
            ·have := (HCU.out.has_ge (b := g18) (.inr (.inl e))).2; omega
            ·have := (HCU.out.has_ge (b := g18) (.inr (.inr (.inr (.inl e))))).2; omega) (by have := HLIQ.out; omega) (Nat.le_trans HMD18.out.lb HMD18.out.be.size)).mono ?_
           rintro e19 w19 ⟨rfl, ia19, ic19, hc19, hk19, hi19⟩
           have HC19 := hid hc19
           have HK19 : Hid (KX (curHas p M q iq Ru Au.length) w18 w19) := hid (hk19.weak fun b hb => hb.elim .inl fun hb => hb.elim (fun h => .inr (.inl h)) fun h => .inr (.inr (.inr (.inl h))))
           have HD19 := hid (HD18.out.step (ia' := ia19) (n' := Au.length) (R' := Ru) HK19.out (zHT hi19))
           have HMD19 := hid (HMD18.out.step HC18.out HK19.out)
           clear hc19 hk19 hi19
           have hjn : j ≤ 100 := by have := HKN.out; omega
           go_wp2
           go_roundw
           case rel => exact ⟨j + 1, ia19, ic19, Ru, addI Iq [(k0, 0, at_)], Au, by go_num, by omega, HC19, HKI, hid (HPRQ.out.trans (zCz _ _)), HMD19, HD19⟩
           case measure => simp [intOf]; omega
          exact AllReadyH.nil
         exact AllReadyH.nil
        exact AllReadyH.nil
       exact AllReadyH.nil
      refine hDo rfl (fun K hK => ?_) ?_
      ·go_simp
       (go_at_call 79; (with_reducible refine (zEX x0 _ HX1M.out).mono ?_); rintro e u13 ⟨rfl, hb13⟩)
       have HB13 : Hid (Below wb.heap.size wb u13) := hid (((Below.refl wb.heap.size wb).drew).trans (hb13.mono ((Below.refl wb.heap.size wb).drew).size))
       clear hb13
       refine hK.out _ _ (HQQ.out _ HB13.out) (fun hHeld => ?_)
       clear hK K
       try simp only [Act.put, aS, aZ, aC]
       refine zR [11, 14] ?_
       refine hDo rfl (fun K hK => ?_) ?_
       ·have d0 := (HRR.out _ (HB13.out)).1
        go_simp
        clear d0
        refine hK.out _ _ (HQQ.out _ (HB13.out)) (fun hHeld => ?_)
        clear hK K
        try simp only [Act.put, aS, aZ, aC]
        refine zR [14] ?_
        refine hDo rfl (fun K hK => ?_) ?_
        ·refine zBT rfl (.tmp 99) rfl (nexI x0) rfl ?_
         intro u14 g14 hg14 hv14 hb14 hs14
         have HV14 := hid hv14
         have HB14 : Hid (Below wb.heap.size wb u14) := hid ((HB13.out).trans (hb14.mono (HB13.out).size))
         clear hv14 hb14 hg14 hs14
         refine hK.out _ _ (HQQ.out _ HB14.out) (fun hHeld => ?_)
         clear hK K
         try simp only [Act.put, aS, aZ, aC]
         refine zR [15] ?_
         refine hDo rfl (fun K hK => ?_) ?_
         ·refine zCJ rfl (.tmp 97) (.tmp 100) 94 rfl 93 Bc 3 24 _ Tryz.underlying94 zBo rfl (by omega) ra rn rc (itC (aA Aq k0)) rfl (HRR.out _ HB14.out).2 g14 0 1 1 (itC [nexI x0]) rfl HV14.out (by omega) (zBn _) (by have := HRN.out; unfold maxLen; omega) (by have := HRN.out; omega) (by have := HBWB.out; have := HB14.out.size; omega) ?_
          intro g15 c15 u15 ho15 hg15 hb15 hl15
          rw [itC_one] at ho15
          have HO15 := hid ho15
          have HG15 := hid hg15
          have HL15 := hid hl15
          have HKG : Hid (KX (fun b => ra = some ⟨b, 0, none⟩) u14 u15) := hid (KX.grown (HRR.out _ HB14.out).2 hg15 fun g hg => hg)
          have HC14 := hid (HCQ.out.below HB14.out)
          have HQ15 : Hid (u15.cell? ⟨p, 2, none⟩ = some (.slice (some ⟨q, 0, none⟩) aq aq) ∧ Bk u15 D 93 (itA x0)) := hid ⟨zBG HKG.out (HQQ.out _ HB14.out).1 HNQ.out.1, zDS (HQQ.out _ HB14.out).2 HKG.out HNQ.out.2.1⟩
          have HA15 : Hid (OwnV Bc 94 1 u15 (some ⟨q, 0, none⟩) aq aq (slC Rq)) := hid (by have := HC14.out.ar.kx HKG.out fun g hg e => HNQ.out.2.2.1 (by simp only [Option.some.injEq, Addr.mk.injEq, and_true] at hg; rw [hg]; exact e); rw [HRE.out.2.2.2] at this; exact this)
          clear ho15 hg15 hl15 hb15
          refine hK.out _ _ (HQ15.out) (fun hHeld => ?_)
          clear hK K
          try simp only [Act.put, aS, aZ, aC]
          refine zG 16 rfl ?_
          try simp only [Act.put, aS, aZ, aC]
          refine zR [17] ?_
          refine hDo rfl (fun K hK => ?_) ?_
          ·refine zBS rfl 94 zBp (.tmp 102) (.tmp 101) rfl Bc 1 94 q aq aq (slC Rq) HA15.out k0 (by have := HAQL.out; omega) (.slice (some ⟨g15, 0, none⟩) (rn + 1) c15) rfl rfl (by first | rfl | (simp [Act.eval]; done)) rfl ?_
           intro u17 h17 ho17 _ _
           have H17 := hid h17
           have HO17 := hid ho17
           clear h17 ho17
           refine hK.out _ _ (⟨zBG (KX.only (ex := fun b => b = q) HO17.out rfl) HQ15.out.1 HNQ.out.2.2.2.2, HQ15.out.2.only HO17.out HNQ.out.2.2.2.1⟩) (fun hHeld => ?_)
           clear hK K
           try simp only [Act.put]
           refine wpAnyH_done (by kernel_rfl) ?_ _
           refine NoPanic.normal ?_
           obtain ⟨hcu, hku⟩ := HC14.out.after (k := k0) (g' := g15) (c' := c15) (y := nexI x0) (w' := u15) (w'' := u17) HALQ.out.1 (by rw [HRE.out.2.2.1]; exact HO15.out) (by rw [HRE.out.1, HRE.out.2.1, HRE.out.2.2.1]; exact HG15.out) (by rw [HRE.out.1]; exact HL15.out) (by rw [HRE.out.2.2.1, HRE.out.2.2.2]; exact H17.out) HO17.out
           have HKU : Hid (KX (curHas p M q iq Rq Aq.length) u14 u17) := hid (hku.weak fun b hb => hb.elim (fun h => .inr (.inr (.inl h))) fun h => .inr (.inr (.inr (.inr ⟨k0, HALQ.out.1, h⟩))))
           have HMDU := hid ((HMDQ.out.below HB14.out).step HC14.out HKU.out)
           have HDU := hid ((HDQ.out.below HB14.out).step (ia' := iq) (n' := Aq.length) (R' := Rq.set k0 ⟨some ⟨g15, 0, none⟩, (aA Aq k0).length + 1, c15⟩) HKU.out (zEY HALQ.out.2 HALQ.out.1 (by rw [HRE.out.1]; exact HL15.out)))
           have HCU := hid hcu
           clear hcu hku
           obtain ⟨Ru, hRu⟩ : ∃ r, r = Rq.set k0 ⟨some ⟨g15, 0, none⟩, (aA Aq k0).length + 1, c15⟩ := ⟨_, rfl⟩
           obtain ⟨Au, hAu⟩ : ∃ r, r = Aq.set k0 (aA Aq k0 ++ [nexI x0]) := ⟨_, rfl⟩
           have HAUL : Hid (Au.length = Aq.length) := hid (by rw [hAu, List.length_set])
           rw [← hRu, ← hAu] at HCU
           rw [← hRu, ← HAUL.out] at HDU
           rw [← hAu] at HKI
           have HLIQ : Hid (Iq.length ≤ 1020100) := hid (HCIQ.out.len HG.out HFL.out HS.out HAT1.out)
           clear hRu hAu HO15 HG15 HL15 HKG HQ15 HA15 H17 HO17 HC14 HRE HNQ HQQ HRR HCQ HKU HV14
           go_wp2_with (first
            | (refine zBL rfl (.tmp 106) rfl (k0, 0, at_) rfl ?_; intro w18 g18 hg18 hv18 hb18 hs18; have HV18 := hid hv18; have HG18 := hid hg18; have HB18 := hid hb18; clear hv18 hg18 hb18 hs18))
           have HC18 := hid (HCU.out.below HB18.out)
           have HMD18 := hid (HMDU.out.below HB18.out)
           have HD18 := hid (HDU.out.below HB18.out)
           refine (zC1 Bc p M q iq iqc Ru Iq Au (some ⟨g18, 0, none⟩) 1 1 [(k0, 0, at_)] w18 HC18.out HV18.out (fun g off _ hg => by
            simp only [Option.some.injEq, Addr.mk.injEq] at hg
            obtain ⟨rfl, _, _⟩ := hg
            have h2 := HG18.out
            refine ⟨fun e => ?_, fun e => ?_, fun e => ?_⟩
            ·have := (HCU.out.has_ge (b := g18) (.inl e)).2; omega
            ·have := (HCU.out.has_ge (b := g18) (.inr (.inl e))).2; omega
            ·have := (HCU.out.has_ge (b := g18) (.inr (.inr (.inr (.inl e))))).2; omega) (by have := HLIQ.out; omega) (Nat.le_trans HMD18.out.lb HMD18.out.be.size)).mono ?_
           rintro e19 w19 ⟨rfl, ia19, ic19, hc19, hk19, hi19⟩
           have HC19 := hid hc19
           have HK19 : Hid (KX (curHas p M q iq Ru Au.length) w18 w19) := hid (hk19.weak fun b hb => hb.elim .inl fun hb => hb.elim (fun h => .inr (.inl h)) fun h => .inr (.inr (.inr (.inl h))))
           have HD19 := hid (HD18.out.step (ia' := ia19) (n' := Au.length) (R' := Ru) HK19.out (zHT hi19))
           have HMD19 := hid (HMD18.out.step HC18.out HK19.out)
           clear hc19 hk19 hi19
           have hjn : j ≤ 100 := by have := HKN.out; omega
           go_wp2
           go_roundw
           case rel => exact ⟨j + 1, ia19, ic19, Ru, addI Iq [(k0, 0, at_)], Au, by go_num, by omega, HC19, HKI, hid (HPRQ.out.trans (zCz _ _)), HMD19, HD19⟩
           case measure => simp [intOf]; omega
          exact AllReadyH.nil
         exact AllReadyH.nil
        exact AllReadyH.nil
       refine hDo rfl (fun K hK => ?_) ?_
       ·refine zBT rfl (.tmp 99) rfl (nexI x0) rfl ?_
        intro u14 g14 hg14 hv14 hb14 hs14
        have HV14 := hid hv14
        have HB14 : Hid (Below wb.heap.size wb u14) := hid ((HB13.out).trans (hb14.mono (HB13.out).size))
        clear hv14 hb14 hg14 hs14
        refine hK.out _ _ (HQQ.out _ HB14.out) (fun hHeld => ?_)
        clear hK K
        try simp only [Act.put, aS, aZ, aC]
        refine zR [11] ?_
        refine hDo rfl (fun K hK => ?_) ?_
        ·have d0 := (HRR.out _ (HB14.out)).1
         go_simp
         clear d0
         refine hK.out _ _ (HQQ.out _ (HB14.out)) (fun hHeld => ?_)
         clear hK K
         try simp only [Act.put, aS, aZ, aC]
         refine zR [15] ?_
         refine hDo rfl (fun K hK => ?_) ?_
         ·refine zCJ rfl (.tmp 97) (.tmp 100) 94 rfl 93 Bc 3 24 _ Tryz.underlying94 zBo rfl (by omega) ra rn rc (itC (aA Aq k0)) rfl (HRR.out _ HB14.out).2 g14 0 1 1 (itC [nexI x0]) rfl HV14.out (by omega) (zBn _) (by have := HRN.out; unfold maxLen; omega) (by have := HRN.out; omega) (by have := HBWB.out; have := HB14.out.size; omega) ?_
          intro g15 c15 u15 ho15 hg15 hb15 hl15
          rw [itC_one] at ho15
          have HO15 := hid ho15
          have HG15 := hid hg15
          have HL15 := hid hl15
          have HKG : Hid (KX (fun b => ra = some ⟨b, 0, none⟩) u14 u15) := hid (KX.grown (HRR.out _ HB14.out).2 hg15 fun g hg => hg)
          have HC14 := hid (HCQ.out.below HB14.out)
          have HQ15 : Hid (u15.cell? ⟨p, 2, none⟩ = some (.slice (some ⟨q, 0, none⟩) aq aq) ∧ Bk u15 D 93 (itA x0)) := hid ⟨zBG HKG.out (HQQ.out _ HB14.out).1 HNQ.out.1, zDS (HQQ.out _ HB14.out).2 HKG.out HNQ.out.2.1⟩
          have HA15 : Hid (OwnV Bc 94 1 u15 (some ⟨q, 0, none⟩) aq aq (slC Rq)) := hid (by have := HC14.out.ar.kx HKG.out fun g hg e => HNQ.out.2.2.1 (by simp only [Option.some.injEq, Addr.mk.injEq, and_true] at hg; rw [hg]; exact e); rw [HRE.out.2.2.2] at this; exact this)
          clear ho15 hg15 hl15 hb15
          refine hK.out _ _ (HQ15.out) (fun hHeld => ?_)
          clear hK K
          try simp only [Act.put, aS, aZ, aC]
          refine zG 16 rfl ?_
          try simp only [Act.put, aS, aZ, aC]
          refine zR [17] ?_
          refine hDo rfl (fun K hK => ?_) ?_
          ·refine zBS rfl 94 zBp (.tmp 102) (.tmp 101) rfl Bc 1 94 q aq aq (slC Rq) HA15.out k0 (by have := HAQL.out; omega) (.slice (some ⟨g15, 0, none⟩) (rn + 1) c15) rfl rfl (by first | rfl | (simp [Act.eval]; done)) rfl ?_
           intro u17 h17 ho17 _ _
           have H17 := hid h17
           have HO17 := hid ho17
           clear h17 ho17
           refine hK.out _ _ (⟨zBG (KX.only (ex := fun b => b = q) HO17.out rfl) HQ15.out.1 HNQ.out.2.2.2.2, HQ15.out.2.only HO17.out HNQ.out.2.2.2.1⟩) (fun hHeld => ?_)
           clear hK K
           try simp only [Act.put]
           refine wpAnyH_done (by kernel_rfl) ?_ _
           refine NoPanic.normal ?_
           obtain ⟨hcu, hku⟩ := HC14.out.after (k := k0) (g' := g15) (c' := c15) (y := nexI x0) (w' := u15) (w'' := u17) HALQ.out.1 (by rw [HRE.out.2.2.1]; exact HO15.out) (by rw [HRE.out.1, HRE.out.2.1, HRE.out.2.2.1]; exact HG15.out) (by rw [HRE.out.1]; exact HL15.out) (by rw [HRE.out.2.2.1, HRE.out.2.2.2]; exact H17.out) HO17.out
           have HKU : Hid (KX (curHas p M q iq Rq Aq.length) u14 u17) := hid (hku.weak fun b hb => hb.elim (fun h => .inr (.inr (.inl h))) fun h => .inr (.inr (.inr (.inr ⟨k0, HALQ.out.1, h⟩))))
           have HMDU := hid ((HMDQ.out.below HB14.out).step HC14.out HKU.out)
           have HDU := hid ((HDQ.out.below HB14.out).step (ia' := iq) (n' := Aq.length) (R' := Rq.set k0 ⟨some ⟨g15, 0, none⟩, (aA Aq k0).length + 1, c15⟩) HKU.out (zEY HALQ.out.2 HALQ.out.1 (by rw [HRE.out.1]; exact HL15.out)))
           have HCU := hid hcu
           clear hcu hku
           obtain ⟨Ru, hRu⟩ : ∃ r, r = Rq.set k0 ⟨some ⟨g15, 0, none⟩, (aA Aq k0).length + 1, c15⟩ := ⟨_, rfl⟩
           obtain ⟨Au, hAu⟩ : ∃ r, r = Aq.set k0 (aA Aq k0 ++ [nexI x0]) := ⟨_, rfl⟩
           have HAUL : Hid (Au.length = Aq.length) := hid (by rw [hAu, List.length_set])
           rw [← hRu, ← hAu] at HCU
           rw [← hRu, ← HAUL.out] at HDU
           rw [← hAu] at HKI
           have HLIQ : Hid (Iq.length ≤ 1020100) := hid (HCIQ.out.len HG.out HFL.out HS.out HAT1.out)
           clear hRu hAu HO15 HG15 HL15 HKG HQ15 HA15 H17 HO17 HC14 HRE HNQ HQQ HRR HCQ HKU HV14
           go_wp2_with (first
            | (refine zBL rfl (.tmp 106) rfl (k0, 0, at_) rfl ?_; intro w18 g18 hg18 hv18 hb18 hs18; have HV18 := hid hv18; have HG18 := hid hg18; have HB18 := hid hb18; clear hv18 hg18 hb18 hs18))
           have HC18 := hid (HCU.out.below HB18.out)
           have HMD18 := hid (HMDU.out.below HB18.out)
           have HD18 := hid (HDU.out.below HB18.out)
           refine (zC1 Bc p M q iq iqc Ru Iq Au (some ⟨g18, 0, none⟩) 1 1 [(k0, 0, at_)] w18 HC18.out HV18.out (fun g off _ hg => by
            simp only [Option.some.injEq, Addr.mk.injEq] at hg
            obtain ⟨rfl, _, _⟩ := hg
            have h2 := HG18.out
            refine ⟨fun e => ?_, fun e => ?_, fun e => ?_⟩
            ·have := (HCU.out.has_ge (b := g18) (.inl e)).2; omega
            ·have := (HCU.out.has_ge (b := g18) (.inr (.inl e))).2; omega
            ·have := (HCU.out.has_ge (b := g18) (.inr (.inr (.inr (.inl e))))).2; omega) (by have := HLIQ.out; omega) (Nat.le_trans HMD18.out.lb HMD18.out.be.size)).mono ?_
           rintro e19 w19 ⟨rfl, ia19, ic19, hc19, hk19, hi19⟩
           have HC19 := hid hc19
           have HK19 : Hid (KX (curHas p M q iq Ru Au.length) w18 w19) := hid (hk19.weak fun b hb => hb.elim .inl fun hb => hb.elim (fun h => .inr (.inl h)) fun h => .inr (.inr (.inr (.inl h))))
           have HD19 := hid (HD18.out.step (ia' := ia19) (n' := Au.length) (R' := Ru) HK19.out (zHT hi19))
           have HMD19 := hid (HMD18.out.step HC18.out HK19.out)
           clear hc19 hk19 hi19
           have hjn : j ≤ 100 := by have := HKN.out; omega
           go_wp2
           go_roundw
           case rel => exact ⟨j + 1, ia19, ic19, Ru, addI Iq [(k0, 0, at_)], Au, by go_num, by omega, HC19, HKI, hid (HPRQ.out.trans (zCz _ _)), HMD19, HD19⟩
           case measure => simp [intOf]; omega
          exact AllReadyH.nil
         exact AllReadyH.nil
        exact AllReadyH.nil
       exact AllReadyH.nil
      exact AllReadyH.nil
     ·obtain rfl : j = kn := by omega
      have hjlI : ¬ (j : Int) < (j : Int) := by omega
      have HCIE := hid ((HCIQ.out.end (by rw [← HKK.out, ← HKNE.out]; exact Nat.le_refl _) (by rw [HDR.out]; simp)).weak (m' := 100 * (n + 1)) (by have := HKN.out; omega))
      have HNXQ : Hid (Iq.take (n + 1) = I.take n ++ [x0] ∧ n + 1 ≤ Iq.length) := hid (by
       obtain ⟨t, ht⟩ := HPRQ.out
       have hlt' := HLT.out
       rw [← ht, List.take_append_of_le_length (by omega), List.take_succ_eq_append_getElem hlt', ← zJJ hlt', ← HX0E.out, List.length_append]
       exact ⟨rfl, by omega⟩)
      have hn3 : n ≤ 1020100 := by have := HLI.out; have := HLT.out; omega
      go_wp2
      go_roundw
      case rel => exact ⟨n + 1, iq, iqc, Rq, Iq, Aq, by go_num, HNXQ.out.2, HCQ, hid (by rw [HNXQ.out.1]; exact HCIE.out), HMDQ⟩
      case measure => simp [intOf]; omega
  ·obtain rfl : n = m := by omega
   have hltI : ¬ (n : Int) < (n : Int) := by omega
   go_wp2
   go_end0
   refine ⟨rfl, ?_⟩
   have hci := HCI.out
   rw [List.take_of_length_le (by omega)] at hci
   have hfin := hci.fin (by rw [HAT.out]; exact HX0.out) (fun n' f s a d r e => HX1.out n' f s a d r (by rw [← HAT.out]; exact e)) (fun b hb => ⟨_, HI.out b (by rw [← HAT.out]; exact hb)⟩) HG.out (by have := HLI.out; omega) (by have := HLI.out; omega)
   rw [HAT.out] at hfin
   have hbw := zJI H6.out HMD.out.kt (by unfold tRv; decide)
   have hro := HROS.out.kt (P := tRv) (by unfold tRv; decide) HMD.out.kt
   rw [HAT.out, HFN.out] at hbw
   rw [HAT.out, HBX.out] at hro
   refine ⟨p, I, A, some ⟨pb, po, none⟩, c5, ⟨by rw [List.length_append]; exact hbw, ?_, by rw [List.length_append, List.length_append, HWK.out.il]; rfl, by rw [List.length_append, List.length_append, HWK.out.al]; rfl, fun i hi => ?_, HWK.out.lw⟩, hfin, ?_⟩
   ·rw [List.length_append]
    show OwnV _ _ _ _ _ _ _ (List.map _ (Ps ++ [p]))
    rw [List.map_append]
    exact hro
   ·rw [List.length_append, List.length_singleton] at hi
    by_cases hip : i < Ps.length
    ·have := (HPL.out i hip).kt (P := tV) (HKV.out.then_below (by rw [← HBc.out]; exact HMD.out.be)) (by unfold tV; decide) (by unfold tV; decide) (by unfold tV; decide)
     have e1 : (Ps ++ [p]).getD i 0 = Ps.getD i 0 := by simp [List.getD, List.getElem?_append_left hip]
     have e2 : (Is ++ [I]).getD i [] = Is.getD i [] := by simp [List.getD, List.getElem?_append_left (show i < Is.length by rw [HWK.out.il]; exact hip)]
     have e3 : (As ++ [A]).getD i [] = As.getD i [] := by simp [List.getD, List.getElem?_append_left (show i < As.length by rw [HWK.out.al]; exact hip)]
     rw [e1, e2, e3]
     exact this
    ·obtain rfl : i = Ps.length := by omega
     have e1 : (Ps ++ [p]).getD Ps.length 0 = p := by simp [List.getD]
     have e2 : (Is ++ [I]).getD Ps.length [] = I := by rw [← HWK.out.il]; simp [List.getD]
     have e3 : (As ++ [A]).getD Ps.length [] = A := by rw [← HWK.out.al]; simp [List.getD]
     rw [e1, e2, e3]
     exact HC.out.done
   ·rw [← HBX.out]
    exact HBXS.out.trans (HMD.out.be.mono (by rw [HBX.out, HBc.out]; exact HWF.out.size))
end Go.Proofs.YtcjbhdgjcpnklaaGreatDoor
