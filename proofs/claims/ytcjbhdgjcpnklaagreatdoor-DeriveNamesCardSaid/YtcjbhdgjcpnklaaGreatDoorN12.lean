import Derived.Deep.DeepCutAuto
import Derived.Deep.RegionHeld3
import Derived.Deep.QuietTactic
import Derived.BigQuiet
import Derived.Test.YtcjbhdgjcpnklaaGreatDoorN09
import Derived.Test.YtcjbhdgjcpnklaaGreatDoorN10
import Derived.Test.YtcjbhdgjcpnklaaGreatDoorN11
namespace Go.Proofs.YtcjbhdgjcpnklaaGreatDoor
open Go.RowKit
def intsK (K : List Nat) : List Value := K.map fun (i : Nat) => Value.int .i64 (i : Int)
theorem zTA {w : World} {b o n c : Nat} {K : List Nat} (h : Vs 1 w (some ⟨b, o, none⟩) n c (intsK K)) {k : Nat} (hk : k < n) : w.cell? ⟨b, o + k, none⟩ = some (.int .i64 ((K.getD k 0 : Nat) : Int)) := by
 have hl := h.hl
 unfold intsK at hl
 rw [List.length_map] at hl
 rw [h.cells (by omega) (by omega)]
 unfold intsK
 rw [List.getElem?_map, List.getElem?_eq_getElem (by omega)]
 simp [List.getD, show k < K.length by omega]
theorem Kx.put {M g : Nat} {w w' w'' : World} (h : Kx M w w') (ho : Only g w' w'') (hg : w.heap.size ≤ g) : Kx M w w'' :=
 ⟨ho.os.trans h.os, ho.tape.trans h.tape, ho.output.trans h.output, by rw [ho.size]; exact h.size, fun k hk hm => (ho.block k (by omega)).trans (h.block k hk hm)⟩
theorem Kx.bl {M : Nat} {w w' w'' : World} (h : Kx M w w') (hb : Below w'.heap.size w' w'') : Kx M w w'' := h.trans (Kx.of hb)
theorem N5.kx {M : Nat} {w w' : World} {b : Nat} {x : ND} (h : N5 w b x) (hk : Kx M w w') (hm : isMap w M) : N5 w' b x := hk.blk hm h
def RecP (x : SR) (w : World) (P : List ND → Prop) (e : Ending) (w' : World) : Prop := ∃ v : FV, FdP v e w' ∧ Cn P v.1 v.2 ∧ MI w' x ∧ Kx x.M w w'
def rk (i : Nat) : Nat := if i = 0 then 0 else 2
def KidC (x : SR) (r : Nat) : Prop := ∀ (K : List Nat) (ka : Option Addr) (kc a b : Nat) (w : World), (∀ i ∈ K, i < x.F.length) → K.Nodup → a ≤ b → b ≤ x.tn → 3 * (b - a) + 1 < r → Sit w x → Vs 1 w ka K.length kc (intsK K) →
 Calls Tryz.prog 37 #[.agg (srA x), .slice ka K.length kc, .int .i64 (a : Int), .int .i64 (b : Int)] w (RecP x w (KD x.L x.z x.tok x.F K a b))
def RestC (x : SR) (r : Nat) : Prop := ∀ (f i a b : Nat) (w : World), f < x.F.length → i ≤ (fA x.F f).S.length → a ≤ b → b ≤ x.tn → 3 * (b - a) + rk i < r → Sit w x →
 Calls Tryz.prog 68 #[.agg (srA x), .agg (glA f i a b)] w (RecP x w (DS x.L x.z x.tok x.F ((fA x.F f).S.drop i) a b))
structure FW (x : SR) (w : World) (B f i a b D : Nat) (va : FV) (na : Option Addr) (nc : Nat) (vb : FV) (nb : Option Addr) (cb : Nat) (u : World) : Prop where
 bx : Bk u B 78 (srA x)
 bg : Bk u (B + 1) 132 (glA f i a b)
 br : Bk u (B + 1 + 1) 80 (fdA 0 none 0 0)
 ba : Bk u (B + 3) 80 (fdA va.1 na va.2.length nc)
 na : NdS u na va.2.length nc va.2
 bd : Bk u D 80 (fdA vb.1 nb vb.2.length cb)
 nb : NdS u nb vb.2.length cb vb.2
 mi : MI u x
 kx : Kx x.M w u
theorem FW.mv {x : SR} {w : World} {B f i a b D : Nat} {va : FV} {na : Option Addr} {nc : Nat} {vb : FV} {nb : Option Addr} {cb : Nat} {u u' : World} (h : FW x w B f i a b D va na nc vb nb cb u) (hk : Kx x.M u u') (hm : MI u' x) : FW x w B f i a b D va na nc vb nb cb u' :=
 ⟨h.bx.kx hk h.mi.isMap, h.bg.kx hk h.mi.isMap, h.br.kx hk h.mi.isMap, h.ba.kx hk h.mi.isMap, h.na.kx hk h.mi.isMap, h.bd.kx hk h.mi.isMap, h.nb.kx hk h.mi.isMap, hm, h.kx.trans hk⟩
set_option maxRecDepth 100000 in
set_option maxHeartbeats 16000000 in
theorem zSe (x : SR) (hx : SOk x) (N : Nat) (HK0 : KidC x N) (HR0 : RestC x N) (f i a b : Nat) (K : List Nat) (r : List Sd) (ka : Option Addr) (kc : Nat) (w : World) (s : Sit w x) (hf : f < x.F.length) (hs : (fA x.F f).S.drop i = .ho K :: r) (hab : a < b) (hb : b ≤ x.tn) (hN : 3 * (b - a) + rk i ≤ N) (hk : Vs 1 w ka K.length kc (intsK K)) :
  Calls Tryz.prog 149 #[.agg (srA x), .agg (glA f i a b), .slice ka K.length kc] w (RecP x w (DS x.L x.z x.tok x.F (.ho K :: r) a b)) := by
 have hfn : x.F.length = x.fn := s.fm.hl
 have htn : x.tok.length = x.tn := s.tk.hl
 have hil : i < (fA x.F f).S.length := by
  apply Nat.lt_of_not_le; intro h; rw [List.drop_eq_nil_of_le h] at hs; cases hs
 have hmem : Sd.ho K ∈ (fA x.F f).S := by
  have : Sd.ho K ∈ (fA x.F f).S.drop i := by rw [hs]; exact List.mem_cons_self ..
  exact List.mem_of_mem_drop this
 have hdr : (fA x.F f).S.drop (i + 1) = r := by
  have := congrArg List.tail hs
  rwa [List.tail_drop] at this
 have h2 := hx.g.two f hf
 obtain ⟨hKv, hKN⟩ := hx.g.ks f hf K hmem
 have hi6 : i ≤ 1000000 := by have := hx.st f (by omega); omega
 have ht6 := hx.tn
 have hf6 := hx.fn
 have hrl : i = 0 → r ≠ [] := fun h e => by
  subst h
  rw [List.drop_zero] at hs
  rw [hs, e] at h2
  simp at h2
 have HRL := hid hrl
 obtain ⟨B, hB⟩ : ∃ B, B = w.heap.size := ⟨_, rfl⟩
 obtain ⟨w1, hw1⟩ : ∃ w1, w1 = w.alloc (.cells (srA x) 78) := ⟨_, rfl⟩
 obtain ⟨w2, hw2⟩ : ∃ w2, w2 = w1.alloc (.cells (glA f i a b) 132) := ⟨_, rfl⟩
 obtain ⟨w3, hw3⟩ : ∃ w3, w3 = w2.alloc (.cells (fdA 0 none 0 0) 80) := ⟨_, rfl⟩
 have s1 : w1.heap.size = B + 1 := by rw [hw1, hB]; simp
 have s2 : w2.heap.size = B + 1 + 1 := by rw [hw2]; simp [s1]
 have s3 : w3.heap.size = B + 3 := by rw [hw3]; simp [s2]
 have HX3 : Hid (Bk w3 B 78 (srA x)) := hid (by rw [hw3, hw2, hw1, hB]; exact ((Bk.new w _ _).alloc _).alloc _)
 have HG3 : Hid (Bk w3 (B + 1) 132 (glA f i a b)) := hid (by rw [hw3, hw2, ← s1]; exact (Bk.new w1 _ _).alloc _)
 have HR3 : Hid (Bk w3 (B + 1 + 1) 80 (fdA 0 none 0 0)) := hid (by rw [hw3, ← s2]; exact Bk.new w2 _ _)
 have HB3 : Hid (Below B w w3) := hid (by rw [hw3, hw2, hw1, hB]; exact ((zAA w _).alloc (by simp) _).alloc (by simp; omega) _)
 have HBB := hid hB
 have HA3 : Hid (Bk (w3.alloc (.cells #[.int .i64 0, .slice none 0 0] 80)) (B + 3) 80 (fdA 0 none 0 0)) := hid (by rw [← s3]; exact Bk.new w3 _ _)
 have HS3 := hid s3
 have HS := hid s
 have hz : fdA 0 none 0 0 = #[.int .i64 0, .slice none 0 0] := rfl
 rw [hz] at hw3
 have hg0 : w3.cell? ⟨B + 1, 2, none⟩ = some (.int .i64 (a : Int)) := HG3.out.cell 2
 have hwa : IntKind.i64.wrap ((a : Int) + 1) = (a : Int) + 1 := IntWalk.i64_in _ (by omega)
 obtain ⟨G, hG⟩ : ∃ G, G = glA f i a b := ⟨_, rfl⟩
 have HGG := hid hG
 rw [← hG] at hw2 ⊢
 have HOK := hid hx
 have HKV := hid hKv
 have HKN := hid hKN
 have HKK := hid hk
 have HF := hid hf
 have HDR := hid hdr
 have HNN := hid hN
 have HIL := hid hil
 have HTN := hid htn
 have HK1 := hid HK0
 have HR1 := hid HR0
 clear s hs hmem hdr h2 hKv hKN hx hk hf hfn hN hil hz hG htn hrl HK0 HR0
 go_enter Tryz.func149, Tryz.ntmps149
 go_upto_region 1 with fail
 rw [← hw1]
 try rw [← hw2]
 try rw [← hw3]
 rw [← hB]
 try rw [s1]
 try rw [s2]
 clear hw1 hw2 hw3 s1 s2 s3 hB
 go_upto_region 2 with (refine zAn zQc rfl (.tmp 7) (.tmp 10) rfl (B + 3) (by rw [← HS3.out]; rfl) (fdA 0 none 0 0) rfl rfl (zQe ..) (fdA 0 none 0 0) rfl HA3.out ?_; rw [HS3.out]; intro w5 h5 ho5; have H5 := hid h5; have HB5 : Hid (Below w3.heap.size w3 w5) := hid ((zAA w3 _).trans (ho5.below (by rw [HS3.out]; exact Nat.le_refl _))); clear h5 ho5)
 have HX5 := hid (HX3.out.below HB5.out)
 have HG5 := hid (HG3.out.below HB5.out)
 have HR5 := hid (HR3.out.below HB5.out)
 have HBW5 : Hid (Below w.heap.size w w5) := hid (by rw [← HBB.out]; exact HB3.out.trans (HB5.out.mono (by rw [HS3.out]; omega)))
 have hg5 : w5.cell? ⟨B + 1, 2, none⟩ = some (.int .i64 (a : Int)) := HG5.out.cell 2
 clear hg0 HX3 HG3 HR3 HA3 HB5 HB3
 go_wp2
 clear hg5
 go_loopw [8] (fun v wr => ∃ e : Nat, ∃ va : FV, ∃ na nc, v = .int .i64 (e : Int) ∧ a < e ∧ e ≤ b + 1 ∧ Hid (Bk wr (B + 3) 80 (fdA va.1 na va.2.length nc)) ∧ Hid (NdS wr na va.2.length nc va.2) ∧ Hid (Cn (FilP x.L x.z x.tok x.F K r a b e) va.1 va.2) ∧ Hid (MI wr x) ∧ Hid (Kx x.M w wr) ∧ Hid (Bk wr B 78 (srA x)) ∧ Hid (Bk wr (B + 1) 132 (glA f i a b)) ∧ Hid (Bk wr (B + 1 + 1) 80 (fdA 0 none 0 0))) (fun v _ => b + 1 - (intOf v).toNat)
 case atStart => exact ⟨a + 1, (0, []), none, 0, by go_num, by omega, by omega, H5, hid (zQl _), hid zST, hid (HS.out.mi.below HBW5.out), hid (Kx.of HBW5.out), HX5, HG5, HR5⟩
 case round =>
  obtain ⟨e, ⟨m, l⟩, na, nc, rfl, hae, heb, HA, HNA, HCA, HMI, HKX, HX, HG, HR⟩ := hrel
  dsimp only at HA HNA HCA
  have hm2 : m ≤ 2 := HCA.out.le
  have x0 : wr.cell? ⟨B + 3, 0, none⟩ = some (.int .i64 (m : Int)) := HA.out.cell 0
  have g0 : wr.cell? ⟨B + 1, 0, none⟩ = some (.int .i64 (f : Int)) := HG.out.cell 0
  have g1 : wr.cell? ⟨B + 1, 1, none⟩ = some (.int .i64 (i : Int)) := HG.out.cell 1
  have g2 : wr.cell? ⟨B + 1, 2, none⟩ = some (.int .i64 (a : Int)) := HG.out.cell 2
  have g3 : wr.cell? ⟨B + 1, 3, none⟩ = some (.int .i64 (b : Int)) := HG.out.cell 3
  by_cases hgo : e ≤ b ∧ m < 2
  ·obtain ⟨he, hm⟩ := hgo
   have heI : decide ((e : Int) ≤ (b : Int)) = true := by simpa using he
   have hmI : decide ((m : Int) < 2) = true := by simp; omega
   have hwi : IntKind.i64.wrap ((i : Int) + 1) = (i : Int) + 1 := IntWalk.i64_in _ (by omega)
   have hwe : IntKind.i64.wrap ((e : Int) + 1) = (e : Int) + 1 := IntWalk.i64_in _ (by omega)
   have hcr := HR1.out f (i + 1) e b wr HF.out (by have := HIL.out; omega) he hb (by have := HNN.out; unfold rk at this ⊢; rw [if_neg (Nat.succ_ne_zero _)]; split at this <;> omega) (HS.out.kx HKX.out HMI.out)
   rw [HDR.out] at hcr
   unfold glA at hcr
   rw [show ((i + 1 : Nat) : Int) = (i : Int) + 1 by omega] at hcr
   have HCR := hid hcr
   clear hcr hm2
   go_wp2_with (refine zA2 zQf rfl (.tmp 3) rfl B rfl (srA x) (zQj HOK.out.z) HX.out ?_)
   refine HCR.out.mono ?_
   rintro e' w6 ⟨⟨mb, lb⟩, ⟨nb, cb, rfl, hnb⟩, hcb, hmi6, hkx6⟩
   dsimp only at hnb hcb ⊢
   have HIS := hid HMI.out.isMap
   have HA6 := hid (HA.out.kx hkx6 HIS.out)
   have HNA6 := hid (HNA.out.kx hkx6 HIS.out)
   have HX6 := hid (HX.out.kx hkx6 HIS.out)
   have HG6 := hid (HG.out.kx hkx6 HIS.out)
   have HR6 := hid (HR.out.kx hkx6 HIS.out)
   have HKX6 := hid (HKX.out.trans hkx6)
   have HMI6 := hid hmi6
   have HNB6 := hid hnb
   have HCB := hid hcb
   obtain ⟨D, hD⟩ : ∃ D, D = w6.heap.size := ⟨_, rfl⟩
   have HDD := hid hD
   have HD6 : Hid (Bk (w6.alloc (.cells #[.int .i64 0, .slice none 0 0] 80)) D 80 (fdA 0 none 0 0)) := hid (by rw [hD]; exact Bk.new w6 _ _)
   have HD : Hid (B + 3 < D) := hid (by rw [hD]; exact HA6.out.lt)
   clear x0 g0 g1 g2 g3 hmi6 hkx6 hnb hcb hD HA HNA HX HG HR HKX HMI HCR
   by_cases hmb : 0 < mb
   ·have hmbI : decide ((mb : Int) > 0) = true := by simp; omega
    have hmbN : decide (0 < mb) = true := by simpa using hmb
    go_upto_region 7 with (refine zAn zQc rfl (.tmp 9) (.tmp 35) rfl D (by rw [HDD.out]; rfl) (fdA mb nb lb.length cb) rfl rfl (zQe ..) (fdA 0 none 0 0) rfl HD6.out ?_; rw [← HDD.out]; intro w7 h7 ho7; have H7 := hid h7; have y0 : w7.cell? ⟨D, 0, none⟩ = some (.int .i64 (mb : Int)) := h7.cell 0; have HB7 : Hid (Below w6.heap.size w6 w7) := hid ((zAA w6 _).trans (ho7.below (by rw [HDD.out]; exact Nat.le_refl _))); clear h7 ho7)
    have hf7 : FW x w B f i a b D (m, l) na nc (mb, lb) nb cb w7 := ⟨HX6.out.below HB7.out, HG6.out.below HB7.out, HR6.out.below HB7.out, HA6.out.below HB7.out, HNA6.out.below HB7.out, H7.out, HNB6.out.below HB7.out, HMI6.out.below HB7.out, HKX6.out.bl HB7.out⟩
    have HF0 : Hid (FW x w B f i a b D (m, l) na nc (mb, lb) nb cb w7.drew) := hid (hf7.mv (Kx.of (Below.refl _ _).drew) (hf7.mi.below (Below.refl _ _).drew))
    clear hf7
    have KK : Hid (∀ u, FW x w B f i a b D (m, l) na nc (mb, lb) nb cb u → Calls Tryz.prog 37 #[.agg (srA x), .slice ka K.length kc, .int .i64 (a : Int), .int .i64 (e : Int)] u (RecP x u (fun t => Dv x.L x.z x.tok .tr a e t 1 ∧ TopF x.F K t))) := hid fun u hu => by
     have hlt : 3 * (e - a) + 1 < N := by
      have h1 := HNN.out
      unfold rk at h1
      by_cases hi0 : i = 0
      ·rw [if_pos hi0] at h1
       have hne : e ≠ b := fun h => by
        subst h
        obtain ⟨l', hl'⟩ := HCB.out.pos hmb
        have := zIb _ _ _ _ (HRL.out hi0) hl'
        omega
       omega
      ·rw [if_neg hi0] at h1
       omega
     refine (HK1.out K ka kc a e u HKV.out HKN.out (by omega) (by omega) hlt (HS.out.kx hu.kx hu.mi) (HKK.out.kx hu.kx HS.out.mi.isMap)).mono ?_
     rintro e' w' ⟨v, h1, h2, h3, h4⟩
     exact ⟨v, h1, h2.congr fun t => (HOK.out.g.kid K a e t HKV.out hae (by rw [HTN.out]; omega)).symm, h3, h4⟩
    have KZ : Hid (∀ t, (Dv x.L x.z x.tok .tr a e t 1 ∧ TopF x.F K t) → t.length ≤ 1000000) := hid fun t ht => by have := (zSX ht.1).1; omega
    have HZB : Hid (lb.length ≤ 1000000) := hid (zQ0 HCB.out fun u hu => by have := zQ8 _ _ _ _ hu; omega)
    have HAE := hid hae
    clear y0 H7 HB7 HA6 HNA6 HX6 HG6 HR6 HMI6 HKX6 HNB6 HDD HD6
    refine wp_region_noPanic ?_
    refine wp_region_held_drew (S := fun u => Bk u B 78 (srA x) ∧ u.cell? ⟨B + 1, 2, none⟩ = some (.int .i64 (a : Int)) ∧ Bk u D 80 (fdA mb nb lb.length cb)) (by kernel_rfl) (⟨HF0.out.bx, HF0.out.bg.cell 2, HF0.out.bd⟩) (fun hHeld => ?_)
    refine zT 1 (v := .agg (srA x)) rfl (fun w0 h0 => zBc zQf (.tmp 3) B rfl (srA x) (zQj HOK.out.z) h0.1) ?_
    try simp only [Act.put, aS, aZ, aC]
    refine zG 2 rfl ?_
    try simp only [Act.put, aS, aZ, aC]
    refine zG 3 rfl ?_
    try simp only [Act.put, aS, aZ, aC]
    refine zG 4 rfl ?_
    try simp only [Act.put, aS, aZ, aC]
    refine zG 5 rfl ?_
    try simp only [Act.put, aS, aZ, aC]
    refine zT 7 (v := .agg (fdA mb nb lb.length cb)) rfl (fun w0 h0 => zBc zQc (.tmp 9) D rfl (fdA mb nb lb.length cb) rfl h0.2.2) ?_
    try simp only [Act.put, aS, aZ, aC]
    refine zR [0, 6] ?_
    refine hDo rfl (fun K hK => ?_) ?_
    ·refine zQg zQc rfl (.tmp 7) rfl (B + 3) rfl (fdA m na l.length nc) rfl HF0.out.ba ?_
     refine hK.out _ _ (⟨HF0.out.bx, HF0.out.bg.cell 2, HF0.out.bd⟩) (fun hHeld => ?_)
     clear hK K
     try simp only [Act.put, aS, aZ, aC]
     refine zR [6] ?_
     refine hDo rfl (fun K hK => ?_) ?_
     ·go_simp
      (go_at_call 37; (with_reducible refine (KK.out _ HF0.out).mono ?_); rintro e9 w9 ⟨⟨my, ly⟩, ⟨ny, cy, rfl, hny⟩, hcy, hmy, hky⟩)
      have HF9 : Hid (FW x w B f i a b D (m, l) na nc (mb, lb) nb cb w9) := hid (HF0.out.mv hky hmy)
      have HN9 := hid hny
      have HC9 := hid hcy
      clear hny hcy hmy hky
      dsimp only at HN9 HC9 ⊢
      refine hK.out _ _ (⟨HF9.out.bx, HF9.out.bg.cell 2, HF9.out.bd⟩) (fun hHeld => ?_)
      clear hK K
      try simp only [Act.put, aS, aZ, aC]
      refine zR [8] ?_
      refine hDo rfl (fun K hK => ?_) ?_
      ·go_simp
       (go_at_call 66; (with_reducible refine (zSA (my, ly) (mb, lb) ny cy nb cb _ HN9.out HF9.out.nb (by have := zQ0 HC9.out KZ.out; have := HZB.out; simp only; omega)).mono ?_); rintro e10 w10 ⟨⟨nz, cz, rfl, hnz⟩, hb10⟩)
       have HF10 : Hid (FW x w B f i a b D (m, l) na nc (mb, lb) nb cb w10) := hid (HF9.out.mv (Kx.of hb10) (HF9.out.mi.below hb10))
       have HN10 := hid hnz
       clear hnz hb10
       refine hK.out _ _ (⟨HF10.out.bx, HF10.out.bg.cell 2, HF10.out.bd⟩) (fun hHeld => ?_)
       clear hK K
       try simp only [Act.put, aS, aZ, aC]
       refine zR [9] ?_
       refine hDo rfl (fun K hK => ?_) ?_
       ·go_simp
        (go_at_call 65; (with_reducible refine (zRj (m, l) (andV (my, ly) (mb, lb)) na nc nz cz _ HF10.out.na HN10.out).mono ?_); rintro e11 w11 ⟨⟨nv, cv, rfl, hnv⟩, hb11⟩)
        have HF11 : Hid (FW x w B f i a b D (m, l) na nc (mb, lb) nb cb w11) := hid (HF10.out.mv (Kx.of hb11) (HF10.out.mi.below hb11))
        have HN11 := hid hnv
        clear hnv hb11
        refine hK.out _ _ (⟨HF11.out.bx, HF11.out.bg.cell 2, HF11.out.bd⟩) (fun hHeld => ?_)
        clear hK K
        try simp only [Act.put, aS, aZ, aC]
        refine zR [10] ?_
        refine hDo rfl (fun K hK => ?_) ?_
        ·refine zQd zQc rfl (.tmp 7) (.tmp 48) rfl (B + 3) rfl (fdA (orV (m, l) (andV (my, ly) (mb, lb))).1 nv (orV (m, l) (andV (my, ly) (mb, lb))).2.length cv) rfl rfl (zQe ..) (fdA m na l.length nc) rfl HF11.out.ba ?_
         intro w12 h12 ho12
         have H12 := hid h12
         have HO12 := hid ho12
         clear h12 ho12
         refine hK.out _ _ (⟨HF11.out.bx.only HO12.out (by omega), (HF11.out.bg.only HO12.out (by omega)).cell 2, HF11.out.bd.only HO12.out (by have := HD.out; omega)⟩) (fun hHeld => ?_)
         clear hK K
         try simp only [Act.put]
         refine wpAnyH_done (by kernel_rfl) ?_ _
         refine NoPanic.normal ?_
         go_wp2
         go_roundw
         case rel => exact ⟨e + 1, orV (m, l) (andV (my, ly) (mb, lb)), nv, cv, by go_num, by omega, by omega, H12, hid (HN11.out.fnd HF11.out.ba HO12.out), hid (zRb HAE.out HCA.out HC9.out HCB.out), hid (HF11.out.mi.found HF11.out.ba HO12.out), hid (HF11.out.kx.put HO12.out (by have := HBB.out; omega)), hid (HF11.out.bx.only HO12.out (by omega)), hid (HF11.out.bg.only HO12.out (by omega)), hid (HF11.out.br.only HO12.out (by omega))⟩
         case measure => simp [intOf]; omega
        exact AllReadyH.nil
       exact AllReadyH.nil
      exact AllReadyH.nil
     exact AllReadyH.nil
    refine hDo rfl (fun K hK => ?_) ?_
    ·go_simp
     (go_at_call 37; (with_reducible refine (KK.out _ HF0.out).mono ?_); rintro e9 w9 ⟨⟨my, ly⟩, ⟨ny, cy, rfl, hny⟩, hcy, hmy, hky⟩)
     have HF9 : Hid (FW x w B f i a b D (m, l) na nc (mb, lb) nb cb w9) := hid (HF0.out.mv hky hmy)
     have HN9 := hid hny
     have HC9 := hid hcy
     clear hny hcy hmy hky
     dsimp only at HN9 HC9 ⊢
     refine hK.out _ _ (⟨HF9.out.bx, HF9.out.bg.cell 2, HF9.out.bd⟩) (fun hHeld => ?_)
     clear hK K
     try simp only [Act.put, aS, aZ, aC]
     refine zR [0, 8] ?_
     refine hDo rfl (fun K hK => ?_) ?_
     ·refine zQg zQc rfl (.tmp 7) rfl (B + 3) rfl (fdA m na l.length nc) rfl HF9.out.ba ?_
      refine hK.out _ _ (⟨HF9.out.bx, HF9.out.bg.cell 2, HF9.out.bd⟩) (fun hHeld => ?_)
      clear hK K
      try simp only [Act.put, aS, aZ, aC]
      refine zR [8] ?_
      refine hDo rfl (fun K hK => ?_) ?_
      ·go_simp
       (go_at_call 66; (with_reducible refine (zSA (my, ly) (mb, lb) ny cy nb cb _ HN9.out HF9.out.nb (by have := zQ0 HC9.out KZ.out; have := HZB.out; simp only; omega)).mono ?_); rintro e10 w10 ⟨⟨nz, cz, rfl, hnz⟩, hb10⟩)
       have HF10 : Hid (FW x w B f i a b D (m, l) na nc (mb, lb) nb cb w10) := hid (HF9.out.mv (Kx.of hb10) (HF9.out.mi.below hb10))
       have HN10 := hid hnz
       clear hnz hb10
       refine hK.out _ _ (⟨HF10.out.bx, HF10.out.bg.cell 2, HF10.out.bd⟩) (fun hHeld => ?_)
       clear hK K
       try simp only [Act.put, aS, aZ, aC]
       refine zR [9] ?_
       refine hDo rfl (fun K hK => ?_) ?_
       ·go_simp
        (go_at_call 65; (with_reducible refine (zRj (m, l) (andV (my, ly) (mb, lb)) na nc nz cz _ HF10.out.na HN10.out).mono ?_); rintro e11 w11 ⟨⟨nv, cv, rfl, hnv⟩, hb11⟩)
        have HF11 : Hid (FW x w B f i a b D (m, l) na nc (mb, lb) nb cb w11) := hid (HF10.out.mv (Kx.of hb11) (HF10.out.mi.below hb11))
        have HN11 := hid hnv
        clear hnv hb11
        refine hK.out _ _ (⟨HF11.out.bx, HF11.out.bg.cell 2, HF11.out.bd⟩) (fun hHeld => ?_)
        clear hK K
        try simp only [Act.put, aS, aZ, aC]
        refine zR [10] ?_
        refine hDo rfl (fun K hK => ?_) ?_
        ·refine zQd zQc rfl (.tmp 7) (.tmp 48) rfl (B + 3) rfl (fdA (orV (m, l) (andV (my, ly) (mb, lb))).1 nv (orV (m, l) (andV (my, ly) (mb, lb))).2.length cv) rfl rfl (zQe ..) (fdA m na l.length nc) rfl HF11.out.ba ?_
         intro w12 h12 ho12
         have H12 := hid h12
         have HO12 := hid ho12
         clear h12 ho12
         refine hK.out _ _ (⟨HF11.out.bx.only HO12.out (by omega), (HF11.out.bg.only HO12.out (by omega)).cell 2, HF11.out.bd.only HO12.out (by have := HD.out; omega)⟩) (fun hHeld => ?_)
         clear hK K
         try simp only [Act.put]
         refine wpAnyH_done (by kernel_rfl) ?_ _
         refine NoPanic.normal ?_
         go_wp2
         go_roundw
         case rel => exact ⟨e + 1, orV (m, l) (andV (my, ly) (mb, lb)), nv, cv, by go_num, by omega, by omega, H12, hid (HN11.out.fnd HF11.out.ba HO12.out), hid (zRb HAE.out HCA.out HC9.out HCB.out), hid (HF11.out.mi.found HF11.out.ba HO12.out), hid (HF11.out.kx.put HO12.out (by have := HBB.out; omega)), hid (HF11.out.bx.only HO12.out (by omega)), hid (HF11.out.bg.only HO12.out (by omega)), hid (HF11.out.br.only HO12.out (by omega))⟩
         case measure => simp [intOf]; omega
        exact AllReadyH.nil
       exact AllReadyH.nil
      exact AllReadyH.nil
     refine hDo rfl (fun K hK => ?_) ?_
     ·go_simp
      (go_at_call 66; (with_reducible refine (zSA (my, ly) (mb, lb) ny cy nb cb _ HN9.out HF9.out.nb (by have := zQ0 HC9.out KZ.out; have := HZB.out; simp only; omega)).mono ?_); rintro e10 w10 ⟨⟨nz, cz, rfl, hnz⟩, hb10⟩)
      have HF10 : Hid (FW x w B f i a b D (m, l) na nc (mb, lb) nb cb w10) := hid (HF9.out.mv (Kx.of hb10) (HF9.out.mi.below hb10))
      have HN10 := hid hnz
      clear hnz hb10
      refine hK.out _ _ (⟨HF10.out.bx, HF10.out.bg.cell 2, HF10.out.bd⟩) (fun hHeld => ?_)
      clear hK K
      try simp only [Act.put, aS, aZ, aC]
      refine zR [0] ?_
      refine hDo rfl (fun K hK => ?_) ?_
      ·refine zQg zQc rfl (.tmp 7) rfl (B + 3) rfl (fdA m na l.length nc) rfl HF10.out.ba ?_
       refine hK.out _ _ (⟨HF10.out.bx, HF10.out.bg.cell 2, HF10.out.bd⟩) (fun hHeld => ?_)
       clear hK K
       try simp only [Act.put, aS, aZ, aC]
       refine zR [9] ?_
       refine hDo rfl (fun K hK => ?_) ?_
       ·go_simp
        (go_at_call 65; (with_reducible refine (zRj (m, l) (andV (my, ly) (mb, lb)) na nc nz cz _ HF10.out.na HN10.out).mono ?_); rintro e11 w11 ⟨⟨nv, cv, rfl, hnv⟩, hb11⟩)
        have HF11 : Hid (FW x w B f i a b D (m, l) na nc (mb, lb) nb cb w11) := hid (HF10.out.mv (Kx.of hb11) (HF10.out.mi.below hb11))
        have HN11 := hid hnv
        clear hnv hb11
        refine hK.out _ _ (⟨HF11.out.bx, HF11.out.bg.cell 2, HF11.out.bd⟩) (fun hHeld => ?_)
        clear hK K
        try simp only [Act.put, aS, aZ, aC]
        refine zR [10] ?_
        refine hDo rfl (fun K hK => ?_) ?_
        ·refine zQd zQc rfl (.tmp 7) (.tmp 48) rfl (B + 3) rfl (fdA (orV (m, l) (andV (my, ly) (mb, lb))).1 nv (orV (m, l) (andV (my, ly) (mb, lb))).2.length cv) rfl rfl (zQe ..) (fdA m na l.length nc) rfl HF11.out.ba ?_
         intro w12 h12 ho12
         have H12 := hid h12
         have HO12 := hid ho12
         clear h12 ho12
         refine hK.out _ _ (⟨HF11.out.bx.only HO12.out (by omega), (HF11.out.bg.only HO12.out (by omega)).cell 2, HF11.out.bd.only HO12.out (by have := HD.out; omega)⟩) (fun hHeld => ?_)
         clear hK K
         try simp only [Act.put]
         refine wpAnyH_done (by kernel_rfl) ?_ _
         refine NoPanic.normal ?_
         go_wp2
         go_roundw
         case rel => exact ⟨e + 1, orV (m, l) (andV (my, ly) (mb, lb)), nv, cv, by go_num, by omega, by omega, H12, hid (HN11.out.fnd HF11.out.ba HO12.out), hid (zRb HAE.out HCA.out HC9.out HCB.out), hid (HF11.out.mi.found HF11.out.ba HO12.out), hid (HF11.out.kx.put HO12.out (by have := HBB.out; omega)), hid (HF11.out.bx.only HO12.out (by omega)), hid (HF11.out.bg.only HO12.out (by omega)), hid (HF11.out.br.only HO12.out (by omega))⟩
         case measure => simp [intOf]; omega
        exact AllReadyH.nil
       exact AllReadyH.nil
      exact AllReadyH.nil
     exact AllReadyH.nil
    exact AllReadyH.nil
   ·obtain rfl : mb = 0 := by omega
    have hmbI : decide ((((0 : Nat) : Int)) > 0) = false := by simp
    go_wp2_with (refine zAn zQc rfl (.tmp 9) (.tmp 35) rfl D (by rw [HDD.out]; rfl) (fdA 0 nb lb.length cb) rfl rfl (zQe ..) (fdA 0 none 0 0) rfl HD6.out ?_; rw [← HDD.out]; intro w7 h7 ho7; have y0 : w7.cell? ⟨D, 0, none⟩ = some (.int .i64 0) := h7.cell 0; have HB7 : Hid (Below w6.heap.size w6 w7) := hid ((zAA w6 _).trans (ho7.below (by rw [HDD.out]; exact Nat.le_refl _))); clear h7 ho7)
    go_roundw
    case rel => exact ⟨e + 1, (m, l), na, nc, by go_num, by omega, by omega, hid (HA6.out.below HB7.out), hid (HNA6.out.below HB7.out), hid (zS4 HCA.out HCB.out), hid (HMI6.out.below HB7.out), hid (HKX6.out.bl HB7.out), hid (HX6.out.below HB7.out), hid (HG6.out.below HB7.out), hid (HR6.out.below HB7.out)⟩
    case measure => simp [intOf]; omega
  ·have hcn : Cn (DS x.L x.z x.tok x.F (.ho K :: r) a b) m l := by
    by_cases he : e ≤ b
    ·exact zSU heb (by omega) HCA.out
    ·obtain rfl : e = b + 1 := by omega
     exact zTf HCA.out
   have HCN := hid hcn
   clear hcn
   by_cases he : e ≤ b
   ·have heI : decide ((e : Int) ≤ (b : Int)) = true := by simpa using he
    have hmI : decide ((m : Int) < 2) = false := by simp; omega
    clear hgo hm2
    go_wp2_with (first
     | (refine zAn zQc rfl (.tmp 6) (.tmp 49) rfl (B + 1 + 1) rfl (fdA m na l.length nc) rfl rfl (zQe ..) (fdA 0 none 0 0) rfl HR.out ?_; intro w4 h4 ho4; have H4 := hid h4; have HO4 := hid ho4; clear h4 ho4)
     | (refine zA2 zQc rfl (.tmp 7) rfl (B + 3) rfl (fdA m na l.length nc) rfl HA.out ?_))
    refine bodyPost_ret (zNr zQc rfl _ _ (B + 1 + 1) (fdA m na l.length nc) rfl rfl H4.out) rfl ⟨(m, l), ⟨na, nc, rfl, HNA.out.fnd HR.out HO4.out⟩, HCN.out, HMI.out.found HR.out HO4.out, HKX.out.put HO4.out (by have := HBB.out; omega)⟩
   ·have heI : decide ((e : Int) ≤ (b : Int)) = false := by simp; omega
    clear hgo hm2
    go_wp2_with (first
     | (refine zAn zQc rfl (.tmp 6) (.tmp 49) rfl (B + 1 + 1) rfl (fdA m na l.length nc) rfl rfl (zQe ..) (fdA 0 none 0 0) rfl HR.out ?_; intro w4 h4 ho4; have H4 := hid h4; have HO4 := hid ho4; clear h4 ho4)
     | (refine zA2 zQc rfl (.tmp 7) rfl (B + 3) rfl (fdA m na l.length nc) rfl HA.out ?_))
    refine bodyPost_ret (zNr zQc rfl _ _ (B + 1 + 1) (fdA m na l.length nc) rfl rfl H4.out) rfl ⟨(m, l), ⟨na, nc, rfl, HNA.out.fnd HR.out HO4.out⟩, HCN.out, HMI.out.found HR.out HO4.out, HKX.out.put HO4.out (by have := HBB.out; omega)⟩
end Go.Proofs.YtcjbhdgjcpnklaaGreatDoor
