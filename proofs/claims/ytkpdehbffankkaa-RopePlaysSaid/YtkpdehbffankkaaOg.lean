/- RopePlays' walk. -/
import Derived.Test.YtkpdehbffankkaaOh
import Derived.Test.YtkpdehbffankkaaNv
namespace Go.Proofs.Ytkpdehbffankkaa
open Go.RowKit

set_option maxRecDepth 100000 in
set_option maxHeartbeats 40000000 in
theorem plays_any (a0 : Option Addr) (n0 c0 : Nat) (l0 : List Int) (a1 : Option Addr) (n1 c1 : Nat) (L : List ED) (x0 x1 x2 : Int) (w : World) (hB0 : Bs w a0 n0 c0 l0) (hE1 : Es w a1 n1 c1 L) :
    Calls Try.prog 3 #[.slice a0 n0 c0, .slice a1 n1 c1, .agg #[.int .i64 x0, .int .i64 x1, .int .i64 x2]] w fun e w' => e = .returned (.bool true) ∧ Below w.heap.size w w' := by
  obtain ⟨w0, hw0⟩ : ∃ w0, w.alloc (.cells #[.int .i64 x0, .int .i64 x1, .int .i64 x2] 24) = w0 := ⟨_, rfl⟩
  have hb0 : Below w.heap.size w w0 := by rw [← hw0]; exact (Below.refl _ _).alloc (Nat.le_refl _) _
  have hg0 : w0.heap[w.heap.size]? = some (.cells #[.int .i64 x0, .int .i64 x1, .int .i64 x2] 24 (0, 0)) := by rw [← hw0]; exact heapAt4 w _
  obtain ⟨G, hG⟩ : ∃ G, w.heap.size = G := ⟨_, rfl⟩
  have H0 := Lib.hid (hB0.below hb0)
  rw [hG] at hg0
  have HG0 := Lib.hid hg0
  have HW0 := Lib.hid hb0
  have HE := Lib.hid hE1
  have HL0 := Lib.hid (show G < w0.heap.size from (Array.getElem?_eq_some_iff.1 hg0).1)
  have hlm : n1 ≤ 9223372036854775807 := by have := hE1.lc; have := hE1.cm; unfold maxLen at this; omega
  clear hB0 hE1 hb0 hg0
  go_enter Try.func3, Try.ntmps3
  go_wp2_with fail
  refine (shown_any w0).mono ?_
  rintro e w1 ⟨rfl, hb1⟩
  have HW1 := Lib.hid hb1
  clear hb1 hw0
  have HG := Lib.hid hG
  clear hG
  obtain ⟨B0, hB0⟩ : ∃ B, l0.take 300 = B := ⟨_, rfl⟩
  have HB0 := Lib.hid hB0
  clear hB0
  go_wp2_with fail
  refine (few_any _ _ _ _ _ (H0.out.below HW1.out)).mono ?_
  rintro e w2 ⟨gb, cb, m, hm, rfl, ho, hb2⟩
  have HW2 := Lib.hid (HW1.out.trans (hb2.mono HW1.out.size))
  rw [HB0.out] at ho
  have hm2 : m ≤ 300 := by omega
  have HO := Lib.hid ho
  clear hb2 ho hm
  go_wp2_with fail
  refine (new_any _ m _ _ w2 HO.out.bs (by omega)).mono ?_
  rintro e w3 ⟨g0, t0, rfl, h1, h2, h3, h4⟩
  have HW3 := Lib.hid (HW2.out.trans (h4.mono HW2.out.size))
  have HR := Lib.hid h1
  have HL := Lib.hid h2
  have HGE := Lib.hid (Nat.le_trans HW2.out.size h3)
  clear h1 h2 h3 h4 HO
  go_wp2_with fail
  refine (few_any _ _ _ _ _ (H0.out.below HW3.out)).mono ?_
  rintro e w4 ⟨gc, cc, m', hm', rfl, ho, hb4⟩
  have HW4 := Lib.hid (HW3.out.trans (hb4.mono HW3.out.size))
  have HR := Lib.hid (HR.out.below hb4)
  rw [HB0.out] at ho
  have hm3 : m' ≤ 300 := by omega
  have HO := Lib.hid ho
  clear hb4 ho hm'
  go_wp2_with fail
  refine (rnew_any _ m' _ _ w4 HO.out.bs (by omega)).mono ?_
  rintro e w5 ⟨gy, cy, rfl, ho, hb5⟩
  have HW5 := Lib.hid (HW4.out.trans (hb5.mono HW4.out.size))
  have HR := Lib.hid (HR.out.below hb5)
  have hY : OwnB w.heap.size 5 w5 (some ⟨gy, 0, none⟩) m' cy B0 := ⟨⟨ho.1.1, by
    rcases ho.1.2 with h1 | ⟨x, cp, cur, h1, h2, h3⟩
    · exact .inl h1
    · exact .inr ⟨x, cp, cur, h1, Nat.le_trans (Nat.le_trans HW0.out.size HW4.out.size) h2, h3⟩⟩, ho.2⟩
  have HY := Lib.hid hY
  have HF : Hid (First w5 g0 B0) := Lib.hid ⟨_, _, _, _, _, HR.out, HL.out⟩
  have HGW := Lib.hid (Nat.le_trans HW0.out.size HGE.out)
  have HWW := Lib.hid (HW0.out.trans (HW5.out.mono HW0.out.size))
  clear ho hb5 hY HO
  go_wp2
  go_loopw [8, 10, 13] (fun v yv iv wr => ∃ (i g : Nat) (t : PT) (e : Nat) (sv : Value) (dn dp : Int) (gy ny cy : Nat) (B : List Int), v = .pointer (some ⟨g, 0, none⟩) ∧ yv = .slice (some ⟨gy, 0, none⟩) ny cy ∧ iv = .int .i64 i ∧ i ≤ n1 ∧ ny ≤ 2048 ∧ Hid (RP wr g t e sv dn dp) ∧ Hid (t.l = B) ∧ Hid (OwnB w.heap.size 5 wr (some ⟨gy, 0, none⟩) ny cy B) ∧ Hid (First wr g0 B0) ∧ Hid (g = g0 → B = B0) ∧ Hid (w.heap.size ≤ g) ∧ Hid (w0.heap.size ≤ g) ∧ Hid (g0 < wr.heap.size) ∧ Hid (Below w.heap.size w wr) ∧ Hid (Below w0.heap.size w0 wr)) (fun _ _ iv _ => n1 - (intOf iv).toNat)
  case atStart => exact ⟨0, g0, t0, 0, _, _, _, gy, m', cy, B0, rfl, rfl, rfl, by omega, by omega, HR, HL, HY, HF, Lib.hid (fun _ => rfl), HGW, HGE, Lib.hid HR.out.lt, HWW, HW5⟩
  case round =>
    clear HR HL HY HF HGW HWW HW5 HW4 HW3 HW2 HW1 HGE
    obtain ⟨i, g, t, e, sv, dn, dp, gy, ny, cy, B, rfl, rfl, rfl, hi, hny, HR, HL, HY, HF, HEQ, HGW, HGE, HG0L, HW, HWR⟩ := hrel
    by_cases hlt : i < n1
    · by_cases hlt2 : i < 40
      · have hd1 : decide ((i : Int) < (n1 : Int)) = true := by simp; omega
        have hd2 : decide ((i : Int) < 40) = true := by simp; omega
        obtain ⟨bl, off, rfl, hbl, hc⟩ := HE.out.at_ (by omega)
        obtain ⟨ed, hed⟩ : ∃ ed, L[i]? = some ed := ⟨L[i]'(by rw [HE.out.hl]; exact hlt), by simp⟩
        obtain ⟨hcells, hbed⟩ := hc i ed hed
        obtain ⟨ek, edd, ea, en, ec, el⟩ := ed
        have HBE := Lib.hid hbed
        have p0 : w.cell? ⟨bl, off + i * 3, none⟩ = some (.int .i64 ek) := by have := hcells 0 (by omega); simpa [cellsE] using this
        have p1 : w.cell? ⟨bl, off + i * 3 + 1, none⟩ = some (.int .i64 edd) := by have := hcells 1 (by omega); rw [← Nat.add_assoc] at this; simpa [cellsE] using this
        have p2 : w.cell? ⟨bl, off + i * 3 + 2, none⟩ = some (.slice ea en ec) := by have := hcells 2 (by omega); rw [← Nat.add_assoc] at this; simpa [cellsE] using this
        have F0 : ∀ {w' : World}, Below w.heap.size w w' → w'.cell? ⟨bl, off + i * 3, none⟩ = some (.int .i64 ek) := fun hb => (hb.cell (p := ⟨bl, off + i * 3, none⟩) hbl).trans p0
        have F1 : ∀ {w' : World}, Below w.heap.size w w' → w'.cell? ⟨bl, off + i * 3 + 1, none⟩ = some (.int .i64 edd) := fun hb => (hb.cell (p := ⟨bl, off + i * 3 + 1, none⟩) hbl).trans p1
        have F2 : ∀ {w' : World}, Below w.heap.size w w' → w'.cell? ⟨bl, off + i * 3 + 2, none⟩ = some (.slice ea en ec) := fun hb => (hb.cell (p := ⟨bl, off + i * 3 + 2, none⟩) hbl).trans p2
        clear hc hed hcells hbed p0 p1 p2
        have q2 := F2 HW.out
        obtain ⟨C, hC⟩ : ∃ C, el.take 300 = C := ⟨_, rfl⟩
        have HCC := Lib.hid hC
        go_wp2_with fail
        refine (few_any ea en ec el wr (HBE.out.below HW.out)).mono ?_
        rintro r v1 ⟨gc, cc, m, hm, rfl, ho, hb1⟩
        rw [HCC.out] at ho
        have hm3 : m ≤ 300 := by omega
        have hm3' : min en 300 = m := hm.symm
        have HMM := Lib.hid hm3'
        have HV1 := Lib.hid (HW.out.trans (hb1.mono HW.out.size))
        have HX1 := Lib.hid (HWR.out.trans (hb1.mono HWR.out.size))
        have HQ1 := Lib.hid hb1
        have HC := Lib.hid ho
        have HGC : Hid (gc < v1.heap.size) := Lib.hid (by obtain ⟨x, hx, _, h⟩ := ho.form (by simp); simp only [Option.some.injEq, Addr.mk.injEq] at hx; rw [hx.1]; exact h)
        have HGC2 : Hid (wr.heap.size ≤ gc) := Lib.hid (by obtain ⟨x, hx, h, _⟩ := ho.form (by simp); simp only [Option.some.injEq, Addr.mk.injEq] at hx; rw [hx.1]; exact h)
        have HRw := HR
        have HYw := HY
        have HFw := HF
        have HR := Lib.hid (HR.out.below hb1)
        have HY := Lib.hid (HY.out.keep hb1 (Nat.le_refl _))
        have HF := Lib.hid (HF.out.below hb1)
        clear hb1 ho hm hC q2 hm3'
        have q0 := F0 HV1.out
        have q1 := F1 HV1.out
        by_cases hE : repE ny ek edd m = 0
        · skip
          obtain ⟨k', d', rfl, rfl, hkd, hbig⟩ := repE_ok hE
          clear hE
          have KR := Lib.hid (fun w' (hb : Below v1.heap.size v1 w') => rep_any k' d' (some ⟨gc, 0, none⟩) m cc C (HR.out.below hb) (HC.out.bs.below hb) (by rw [HL.out, HY.out.bs.hl]; exact hkd) (by rw [HL.out, HY.out.bs.hl]; exact hbig))
          rw [HL.out] at KR
          have KF := Lib.hid (fun w' (hb : Below v1.heap.size v1 w') => few_any ea en ec el w' (HBE.out.below (HV1.out.trans (hb.mono HV1.out.size))))
          have KD := Lib.hid (fun w' (hb : Below v1.heap.size v1 w') g' c' (hbs : Bs w' (some ⟨g', 0, none⟩) m c' C) => rrep_any k' d' gy ny cy B (some ⟨g', 0, none⟩) m c' C w' (HY.out.bs.below hb) hbs hny hkd hbig)
          obtain ⟨B2, hB2⟩ : ∃ B2, B.take k' ++ C ++ B.drop (k' + d') = B2 := ⟨_, rfl⟩
          rw [hB2] at KR KD
          obtain ⟨M, hM⟩ : ∃ M, k' + m + (ny - (k' + d')) = M := ⟨_, rfl⟩
          have hM2 : M ≤ 2048 := by omega
          rw [hM] at KD
          have HKD := Lib.hid hkd
          have HBG := Lib.hid hbig
          clear hB2 hM hkd hbig
          have hS0 : ∀ {w' : World}, Below v1.heap.size v1 w' → w'.cell? ⟨bl, off + i * 3, none⟩ = some (.int .i64 k') ∧ w'.cell? ⟨bl, off + i * 3 + 1, none⟩ = some (.int .i64 d') := fun hb => ⟨F0 (HV1.out.trans (hb.mono HV1.out.size)), F1 (HV1.out.trans (hb.mono HV1.out.size))⟩
          have hT0 : ∀ {w' : World}, Below v1.heap.size v1 w' → w'.cell? ⟨bl, off + i * 3, none⟩ = some (.int .i64 k') ∧ w'.cell? ⟨bl, off + i * 3 + 1, none⟩ = some (.int .i64 d') ∧ w'.cell? ⟨bl, off + i * 3 + 2, none⟩ = some (.slice ea en ec) := fun hb => ⟨F0 (HV1.out.trans (hb.mono HV1.out.size)), F1 (HV1.out.trans (hb.mono HV1.out.size)), F2 (HV1.out.trans (hb.mono HV1.out.size))⟩
          go_wp2_with fail
          go_region_held3 (fun w' => w'.cell? ⟨bl, off + i * 3, none⟩ = some (.int .i64 k') ∧ w'.cell? ⟨bl, off + i * 3 + 1, none⟩ = some (.int .i64 d')) (first | go_keep | exact hS0 (Below.refl _ _).drew | exact hS0 HBs.out) (first | (go_at_call 13; (with_reducible refine (KR.out _ ?_).mono ?_); (exact (Below.refl _ _).drew); rintro r s1 ⟨g2, t2, e2, rfl, h1, h2, h3, h4⟩; have HBs : Hid (Below v1.heap.size v1 s1) := Lib.hid ((Below.refl _ _).drew.trans h4)))
          have HR2 := Lib.hid h1
          have HL2 := Lib.hid h2
          have HG2 : Hid (v1.heap.size ≤ g2) := Lib.hid h3
          clear h1 h2 h3 h4 q0 q1 KR
          obtain ⟨q0, q1, q2⟩ := hT0 HBs.out
          go_wp2_with fail
          go_region_held3 (fun w' => w'.cell? ⟨bl, off + i * 3, none⟩ = some (.int .i64 k') ∧ w'.cell? ⟨bl, off + i * 3 + 1, none⟩ = some (.int .i64 d') ∧ w'.cell? ⟨bl, off + i * 3 + 2, none⟩ = some (.slice ea en ec)) (first | go_keep | exact hT0 HB2.out | exact hT0 HB3.out) (first | (go_at_call 11; (with_reducible refine (KF.out _ ?_).mono ?_); (exact HBs.out.drew); rintro r v2 ⟨gf, cf, mf, hmf, rfl, hof, hb2⟩; have HB2 : Hid (Below v1.heap.size v1 v2) := Lib.hid (HBs.out.drew.trans (hb2.mono HBs.out.size)); have hh : m = mf := (hmf.trans HMM.out).symm; clear hmf; subst hh; rw [HCC.out] at hof; have HOF := Lib.hid hof; have HS2 : Hid (Below s1.heap.size s1 v2) := Lib.hid ((Below.refl _ _).drew.trans hb2); clear hb2 hof) | (go_at_call 14; (with_reducible refine (KD.out _ ?_ _ _ ?_).mono ?_); (exact HB2.out); (exact HOF.out.bs); rintro r v3 ⟨gz, cz, M', hM', rfl, z1, z4⟩; have HB3 : Hid (Below v1.heap.size v1 v3) := Lib.hid (HB2.out.trans (z4.mono HB2.out.size)); subst hM'))
          have HR2 := Lib.hid ((HR2.out.below HS2.out).below z4)
          have HZ := Lib.hid z1
          have HZB := Lib.hid HB2.out.size
          have HCZ := Lib.hid (HC.out.keep HB3.out (Nat.le_refl _))
          have HBZ : Hid (Below wr.heap.size wr v3) := Lib.hid (HQ1.out.trans (HB3.out.mono HQ1.out.size))
          have HEQ2 : Hid (g2 = g0 → B2 = B0) := Lib.hid (fun hh => by have := HG2.out; have := HG0L.out; have := HQ1.out.size; omega)
          have HGW2 : Hid (w.heap.size ≤ g2) := Lib.hid (Nat.le_trans HV1.out.size HG2.out)
          have HGE2 : Hid (w0.heap.size ≤ g2) := Lib.hid (Nat.le_trans HX1.out.size HG2.out)
          clear q0 q1 q2 KF KD hS0 hT0 F0 F1 F2 z1 z4 HS2 HOF
          go_wp2
          go_loopw [19] (fun v wq => ∃ (k : Nat) (C' : List Int), v = .int .i64 k ∧ k ≤ m ∧ Hid (OwnB wr.heap.size 5 wq (some ⟨gc, 0, none⟩) m cc C') ∧ Hid (Below wr.heap.size wr wq) ∧ Hid (v3.grownBy wq (Value.ownBlock (.slice (some ⟨gc, 0, none⟩) m cc)))) (fun v _ => m - (intOf v).toNat)
          case atStart => exact ⟨0, C, rfl, by omega, HCZ, HBZ, Lib.hid (gb_below (b := gc) (Below.refl _ _))⟩
          case round =>
            rename World => wq
            obtain ⟨k, C', rfl, hk, HQC, HQB, HQG⟩ := hrel
            by_cases hlk : k < m
            · have hck := HQC.out.cell k hlk
              have hzk := HQC.out.frozen k
              have hdk : decide ((k : Int) < (m : Int)) = true := by simp; omega
              go_wp2
              go_roundw
              case rel => exact ⟨k + 1, _, by go_num, by omega, Lib.hid (HQC.out.set k 7 (by omega)), Lib.hid (HQB.out.setCell HQC.out.blk.1 _), Lib.hid (gbo_trans HQG.out (gbo_set _))⟩
              case measure => simp [intOf]; omega
            · obtain rfl : k = m := by omega
              have hdk : decide ((k : Int) < (k : Int)) = false := by simp
              clear hlk hk
              have HRq := Lib.hid (HRw.out.below HQB.out)
              have HYq := Lib.hid (HYw.out.keep HQB.out (Nat.le_refl _))
              have HFq := Lib.hid (HFw.out.below HQB.out)
              have HWq := Lib.hid (HW.out.trans (HQB.out.mono HW.out.size))
              have HXq := Lib.hid (HWR.out.trans (HQB.out.mono HWR.out.size))
              have HR2q := Lib.hid (HR2.out.row HCZ.out HQG.out)
              have HZq := Lib.hid (HZ.out.gbn (b := gc) HQG.out (by have := HZ.out.blk.1; have := HGC.out; have := HZB.out; omega))
              clear HQC HQG HCZ HBZ HR HY HF HC HB2 HB3 HBs HR2
              have KW := Lib.hid (fun w' (hb : Below wq.heap.size wq w') => whole_any (HRq.out.below hb))
              rw [HL.out] at KW
              have KS := Lib.hid (fun w' (hb : Below wq.heap.size wq w') => (HYq.out.bs.below hb).str (P := Try.prog) 22 9 5 Try.underlying22 Try.underlying5 Try.underlying9)
              have ks0 := KS.out _ (Below.refl _ _).drew
              have ks1 := KS.out _ (Below.refl _ _)
              go_wp2
              go_region_held3 (fun w' => (convert 22 9 (.slice (some ⟨gy, 0, none⟩) ny cy)).run Try.prog w' = .ok (.string (bstr B)) w') (first | exact KS.out _ (Below.refl _ _).drew | exact KS.out _ HA1.out) (first | (go_at_call 15; (with_reducible refine (KW.out _ ?_).mono ?_); (exact (Below.refl _ _).drew); rintro r v4 ⟨rfl, hb⟩; have HA1 : Hid (Below wq.heap.size wq v4) := Lib.hid ((Below.refl _ _).drew.trans hb)))
              clear hb KW KS ks0 ks1
              have HRs := Lib.hid (HR2q.out.below HA1.out)
              have HYs := Lib.hid ((HZq.out.keep HA1.out (Nat.le_refl _)).base (Nat.le_trans HV1.out.size HZB.out))
              have HFs := Lib.hid (HFq.out.below HA1.out)
              have HWs := Lib.hid (HWq.out.trans (HA1.out.mono HWq.out.size))
              have HXs := Lib.hid (HXq.out.trans (HA1.out.mono HXq.out.size))
              have hnys := hM2
              have hgx := (HXs.out.block G HL0.out).trans HG0.out
              have d0 : v4.cell? ⟨G, 0, none⟩ = some (.int .i64 x0) := cell_blk hgx rfl
              have d1 : v4.cell? ⟨G, 1, none⟩ = some (.int .i64 x1) := cell_blk hgx rfl
              have d2 : v4.cell? ⟨G, 2, none⟩ = some (.int .i64 x2) := cell_blk hgx rfl
              have HGX := Lib.hid hgx
              clear hgx
              obtain ⟨SE, hSE⟩ : ∃ SE, slE M' x0 x1 = SE := ⟨_, rfl⟩
              obtain ⟨SP, hSP⟩ : ∃ SP, slL B2 x0 x1 = SP := ⟨_, rfl⟩
              obtain ⟨AV, hAV⟩ : ∃ AV, atV B2 x2 = AV := ⟨_, rfl⟩
              obtain ⟨AB, hAB⟩ : ∃ AB, atB B2 x2 = AB := ⟨_, rfl⟩
              have hBl := HYs.out.bs.hl
              have K1 := slice_all x0 x1 HRs.out
              rw [HL2.out, hBl, hSE, hSP] at K1
              go_wp2_with fail
              refine K1.mono ?_
              rintro r u1 ⟨ap, np, cp, rfl, o1, hnp, hb1⟩
              have HWu := Lib.hid (HWs.out.trans (hb1.mono HWs.out.size))
              have HXu := Lib.hid (HXs.out.trans (hb1.mono HXs.out.size))
              have HRu := Lib.hid (HRs.out.below hb1)
              have HYu := Lib.hid (HYs.out.keep hb1 (Nat.le_refl _))
              have HFu := Lib.hid (HFs.out.below hb1)
              have HP := Lib.hid o1
              have HGs := Lib.hid HRs.out.lt
              have HGYs := Lib.hid HYs.out.blk.2
              have hgx := (hb1.block G (Nat.lt_of_lt_of_le HL0.out HXs.out.size)).trans HGX.out
              have d0 : u1.cell? ⟨G, 0, none⟩ = some (.int .i64 x0) := cell_blk hgx rfl
              have d1 : u1.cell? ⟨G, 1, none⟩ = some (.int .i64 x1) := cell_blk hgx rfl
              have HGX := Lib.hid hgx
              clear K1 hb1 o1 hgx
              have K2 := rslice_all x0 x1 (some ⟨gz, 0, none⟩) M' cz B2 HYu.out.bs hnys
              rw [hSE, hSP] at K2
              go_wp2_with fail
              refine K2.mono ?_
              rintro r u2 ⟨aq, nq, cq, rfl, o2, hnq, hb2⟩
              have HWt := Lib.hid (HWu.out.trans (hb2.mono HWu.out.size))
              have HXt := Lib.hid (HXu.out.trans (hb2.mono HXu.out.size))
              have HRt := Lib.hid (HRu.out.below hb2)
              have HYt := Lib.hid (HYu.out.keep hb2 (Nat.le_refl _))
              have HFt := Lib.hid (HFu.out.below hb2)
              have HP2 := Lib.hid (HP.out.keep hb2 (Nat.le_refl _))
              have HQ := Lib.hid o2
              have HGu := Lib.hid HRu.out.lt
              have hgx := (hb2.block G (Nat.lt_of_lt_of_le HL0.out HXu.out.size)).trans HGX.out
              have d2 : u2.cell? ⟨G, 2, none⟩ = some (.int .i64 x2) := cell_blk hgx rfl
              have HGX := Lib.hid hgx
              clear K2 hb2 o2 hgx
              have K3 := at_all x2 HRt.out
              rw [HL2.out, hAV, hAB] at K3
              go_wp2_with fail
              refine K3.mono ?_
              rintro r u3 ⟨rfl, ⟨sv3, h3⟩, hg3⟩
              have HNE := Lib.hid (HRt.out.ne HYt.out)
              have HW3 := Lib.hid (HWt.out.trans (bs_gb hg3 HGW2.out HWt.out.size))
              have HX3 := Lib.hid (HXt.out.trans (bs_gb hg3 HGE2.out HXt.out.size))
              have HF3 := Lib.hid (HFt.out.step HRt.out h3 hg3 (fun hh => by rw [HL2.out]; exact HEQ2.out hh))
              have HR3 := Lib.hid h3
              have HY3 := Lib.hid (HYt.out.gbn hg3 HNE.out)
              have HP3 := Lib.hid (HP2.out.gb hg3 HGs.out)
              have HQ3 := Lib.hid (HQ.out.gb hg3 HGu.out)
              have d2 : u3.cell? ⟨G, 2, none⟩ = some (.int .i64 x2) := cell_blk ((hg3.block G (Nat.lt_of_lt_of_le HL0.out HXt.out.size) (by have := HGE2.out; have := HL0.out; simp; omega)).trans HGX.out) rfl
              clear K3 h3 hg3
              have K4 := rat_all x2 (some ⟨gz, 0, none⟩) M' cz B2 HY3.out.bs hnys
              rw [hAV, hAB] at K4
              go_wp2_with fail
              refine K4.mono ?_
              rintro r w' ⟨rfl, rfl⟩
              have kp := HP3.out.bs.str (P := Try.prog) 22 9 5 Try.underlying22 Try.underlying5 Try.underlying9
              have kq := HQ3.out.bs.str (P := Try.prog) 22 9 5 Try.underlying22 Try.underlying5 Try.underlying9
              obtain ⟨SS, hSS⟩ : ∃ SS, bstr SP = SS := ⟨_, rfl⟩
              rw [hSS] at kp kq
              clear K4 hSS
              go_wp2
              go_loopw [29] (fun v wp => ∃ (k : Nat) (P' : List Int), v = .int .i64 k ∧ k ≤ np ∧ Hid (OwnB v4.heap.size 5 wp ap np cp P') ∧ Hid (u3.grownBy wp (Value.ownBlock (.slice ap np cp)))) (fun v _ => np - (intOf v).toNat)
              case atStart => exact ⟨0, SP, rfl, by omega, HP3, Lib.hid ⟨rfl, rfl, rfl, Nat.le_refl _, fun _ _ _ => rfl⟩⟩
              case round =>
                rename World => wp
                obtain ⟨k, P', rfl, hk, HPP, HPG⟩ := hrel
                by_cases hlk : k < np
                · obtain ⟨gp, rfl, _, _⟩ := HPP.out.form (by rintro rfl; obtain ⟨_, _, hh, _⟩ := HPP.out.bs.at_ (by omega); cases hh)
                  have hck := HPP.out.cell k hlk
                  have hzk := HPP.out.frozen k
                  have hdk : decide ((k : Int) < (np : Int)) = true := by simp; omega
                  go_wp2
                  go_roundw
                  case rel => exact ⟨k + 1, _, by go_num, by omega, Lib.hid (HPP.out.set k 9 (by omega)), Lib.hid (gbo_trans HPG.out (gbo_set _))⟩
                  case measure => simp [intOf]; omega
                · obtain rfl : k = np := by omega
                  have hdk : decide ((k : Int) < (k : Int)) = false := by simp
                  clear hlk hk kp kq d2
                  have HRp := Lib.hid (HR3.out.row HP3.out HPG.out)
                  have HFp := Lib.hid (HF3.out.row HP3.out HPG.out)
                  have HYp := Lib.hid (HY3.out.rowN HP3.out HGYs.out HPG.out)
                  have HWp := Lib.hid (HW3.out.trans (rows_below HP3.out HPG.out HWs.out.size HW3.out.size))
                  have HXp := Lib.hid (HX3.out.trans (rows_below HP3.out HPG.out HXs.out.size HX3.out.size))
                  obtain ⟨D, hD⟩ : ∃ D, t2.d = D := ⟨_, rfl⟩
                  have hD1 : 1 ≤ D := by rw [← hD]; exact t2.d_pos
                  have hD2 : D ≤ 24 := by have := HRp.out.dle; have := HRp.out.e9; omega
                  have hdd1 : decide ((D : Int) > 24) = false := by simp; omega
                  have hdd2 : decide ((D : Int) < 1) = false := by simp; omega
                  have KW := Lib.hid (fun w' (hb : Below wp.heap.size wp w') => whole_any (HRp.out.below hb))
                  rw [HL2.out] at KW
                  have KL := Lib.hid (fun w' (hb : Below wp.heap.size wp w') => len_any (HRp.out.below hb))
                  rw [HL2.out, hBl] at KL
                  have KD := Lib.hid (fun w' (hb : Below wp.heap.size wp w') => deep_any (HRp.out.below hb))
                  rw [hD] at KD
                  have hcv : ∀ {w' : World}, OwnB w.heap.size 5 w' (some ⟨gz, 0, none⟩) M' cz B2 → (convert 22 9 (.slice (some ⟨gz, 0, none⟩) M' cz)).run Try.prog w' = .ok (.string (bstr B2)) w' := fun ho => ho.bs.str (P := Try.prog) 22 9 5 Try.underlying22 Try.underlying5 Try.underlying9
                  have HNp := Lib.hid (HRp.out.ne HYp.out)
                  go_wp2
                  go_region_held3 (fun w' => (convert 22 9 (.slice (some ⟨gz, 0, none⟩) M' cz)).run Try.prog w' = .ok (.string (bstr B2)) w') (first | exact hcv (HYp.out.keep (Below.refl _ _).drew (Nat.le_refl _)) | exact hcv HY5.out | exact hcv HY6.out | exact hcv HY7.out) (first | (go_at_call 15; (with_reducible refine (KW.out _ ?_).mono ?_); (exact (Below.refl _ _).drew); rintro r z1 ⟨rfl, hb⟩; have HZ1 : Hid (Below wp.heap.size wp z1) := Lib.hid ((Below.refl _ _).drew.trans hb); have HY5 := Lib.hid (HYp.out.keep HZ1.out (Nat.le_refl _)); have HR5 := Lib.hid (HRp.out.below HZ1.out)) | (go_at_call 20; (with_reducible refine (KL.out _ ?_).mono ?_); (exact HZ1.out); rintro r w' ⟨rfl, rfl⟩) | (go_at_call 21; (with_reducible refine (KD.out _ ?_).mono ?_); (exact HZ1.out); rintro r z2 ⟨rfl, hr6, hg6⟩; have HR6 := Lib.hid hr6; have HY6 := Lib.hid (HY5.out.gbn hg6 HNp.out); have HG6 := Lib.hid hg6; have KD2 := Lib.hid (deep_any hr6); rw [hD] at KD2) | (go_at_call 21; (with_reducible refine KD2.out.mono ?_); rintro r z3 ⟨rfl, hr7, hg7⟩; have HR7 := Lib.hid hr7; have HY7 := Lib.hid (HY6.out.gbn hg7 HNp.out); have HG7 := Lib.hid hg7))
                  have HF5 := Lib.hid (HFp.out.below HZ1.out)
                  have HF6 := Lib.hid (HF5.out.step HR5.out HR6.out HG6.out (fun hh => by rw [HL2.out]; exact HEQ2.out hh))
                  have HF7 := Lib.hid (HF6.out.step HR6.out HR7.out HG7.out (fun hh => by rw [HL2.out]; exact HEQ2.out hh))
                  have HWa := Lib.hid (HWp.out.trans (HZ1.out.mono HWp.out.size))
                  have HWb := Lib.hid (HWa.out.trans (bs_gb HG6.out HGW2.out HWa.out.size))
                  have HWc := Lib.hid (HWb.out.trans (bs_gb HG7.out HGW2.out HWb.out.size))
                  have HXa := Lib.hid (HXp.out.trans (HZ1.out.mono HXp.out.size))
                  have HXb := Lib.hid (HXa.out.trans (bs_gb HG6.out HGE2.out HXa.out.size))
                  have HXc := Lib.hid (HXb.out.trans (bs_gb HG7.out HGE2.out HXb.out.size))
                  have HG0n : Hid (g0 < z3.heap.size) := Lib.hid (by obtain ⟨_, _, _, _, _, hh, _⟩ := HF7.out; exact hh.lt)
                  clear hb hr6 hg6 hr7 hg7 KW KL KD KD2 HF5 HF6 HWa HWb HXa HXb HY5 HY6 HR5 HR6 HG6 HG7 HZ1
                  go_wp2
                  go_roundw
                  case rel => exact ⟨i + 1, g2, t2, e2, _, 1, _, gz, M', cz, B2, rfl, rfl, by go_num, by omega, hnys, HR7, HL2, HY7, HF7, HEQ2, HGW2, HGE2, HG0n, HWc, HXc⟩
                  case measure => simp [intOf]; omega
        · obtain ⟨E, hEE⟩ : ∃ E, repE ny ek edd m = E := ⟨_, rfl⟩
          rw [hEE] at hE
          have hE0 : (E == 0) = false := by simpa using hE
          have KR := Lib.hid (fun w' (hb : Below v1.heap.size v1 w') => rep_no ek edd (some ⟨gc, 0, none⟩) m cc (HR.out.below hb) (by omega) (by rw [HL.out, HY.out.bs.hl, hEE]; exact hE))
          rw [HL.out, HY.out.bs.hl, hEE] at KR
          have KF := Lib.hid (fun w' (hb : Below v1.heap.size v1 w') => few_any ea en ec el w' (HBE.out.below (HV1.out.trans (hb.mono HV1.out.size))))
          have KD := Lib.hid (fun w' c' g' => rrep_no ek edd (some ⟨gy, 0, none⟩) ny cy (some ⟨g', 0, none⟩) m c' w' (by omega) (by omega) (by rw [hEE]; exact hE))
          rw [hEE] at KD
          clear hEE
          have hS0 : ∀ {w' : World}, Below v1.heap.size v1 w' → w'.cell? ⟨bl, off + i * 3, none⟩ = some (.int .i64 ek) ∧ w'.cell? ⟨bl, off + i * 3 + 1, none⟩ = some (.int .i64 edd) := fun hb => ⟨F0 (HV1.out.trans (hb.mono HV1.out.size)), F1 (HV1.out.trans (hb.mono HV1.out.size))⟩
          go_wp2_with fail
          go_region_held3 (fun w' => w'.cell? ⟨bl, off + i * 3, none⟩ = some (.int .i64 ek) ∧ w'.cell? ⟨bl, off + i * 3 + 1, none⟩ = some (.int .i64 edd)) (first | go_keep | exact hS0 (Below.refl _ _).drew) (first | (go_at_call 13; (with_reducible refine (KR.out _ ?_).mono ?_); (exact (Below.refl _ _).drew); rintro r w' ⟨rfl, rfl⟩))
          have q2 := F2 HV1.out
          have hT0 : ∀ {w' : World}, Below v1.heap.size v1 w' → w'.cell? ⟨bl, off + i * 3, none⟩ = some (.int .i64 ek) ∧ w'.cell? ⟨bl, off + i * 3 + 1, none⟩ = some (.int .i64 edd) ∧ w'.cell? ⟨bl, off + i * 3 + 2, none⟩ = some (.slice ea en ec) := fun hb => ⟨F0 (HV1.out.trans (hb.mono HV1.out.size)), F1 (HV1.out.trans (hb.mono HV1.out.size)), F2 (HV1.out.trans (hb.mono HV1.out.size))⟩
          go_wp2_with fail
          clear KR
          go_region_held3 (fun w' => w'.cell? ⟨bl, off + i * 3, none⟩ = some (.int .i64 ek) ∧ w'.cell? ⟨bl, off + i * 3 + 1, none⟩ = some (.int .i64 edd) ∧ w'.cell? ⟨bl, off + i * 3 + 2, none⟩ = some (.slice ea en ec)) (first | go_keep | exact hT0 (Below.refl _ _).drew.drew | exact hT0 (Below.refl _ _).drew | exact hT0 HB2.out) (first | (go_at_call 11; (with_reducible refine (KF.out _ ?_).mono ?_); (first | exact (Below.refl _ _).drew.drew | exact (Below.refl _ _).drew); rintro r v2 ⟨gf, cf, mf, hmf, rfl, _, hb2⟩; have HB2 : Hid (Below v1.heap.size v1 v2) := Lib.hid ((Below.refl _ _).drew.drew.trans hb2); clear hb2; have hh : m = mf := (hmf.trans HMM.out).symm; clear hmf; subst hh) | (go_at_call 14; (with_reducible refine (KD.out _ _ _).mono ?_); rintro r w' ⟨rfl, rfl⟩))
          have HCZ := Lib.hid (HC.out.keep HB2.out (Nat.le_refl _))
          have HBZ : Hid (Below wr.heap.size wr v2) := Lib.hid (HQ1.out.trans (HB2.out.mono HQ1.out.size))
          clear q0 q1 q2 KF KD hS0 hT0 F0 F1 F2
          go_wp2
          go_loopw [19] (fun v wq => ∃ (k : Nat) (C' : List Int), v = .int .i64 k ∧ k ≤ m ∧ Hid (OwnB wr.heap.size 5 wq (some ⟨gc, 0, none⟩) m cc C') ∧ Hid (Below wr.heap.size wr wq) ∧ Hid (v2.grownBy wq (Value.ownBlock (.slice (some ⟨gc, 0, none⟩) m cc)))) (fun v _ => m - (intOf v).toNat)
          case atStart => exact ⟨0, C, rfl, by omega, HCZ, HBZ, Lib.hid (gb_below (b := gc) (Below.refl _ _))⟩
          case round =>
            rename World => wq
            obtain ⟨k, C', rfl, hk, HQC, HQB, HQG⟩ := hrel
            by_cases hlk : k < m
            · have hck := HQC.out.cell k hlk
              have hzk := HQC.out.frozen k
              have hdk : decide ((k : Int) < (m : Int)) = true := by simp; omega
              go_wp2
              go_roundw
              case rel => exact ⟨k + 1, _, by go_num, by omega, Lib.hid (HQC.out.set k 7 (by omega)), Lib.hid (HQB.out.setCell HQC.out.blk.1 _), Lib.hid (gbo_trans HQG.out (gbo_set _))⟩
              case measure => simp [intOf]; omega
            · obtain rfl : k = m := by omega
              have hdk : decide ((k : Int) < (k : Int)) = false := by simp
              clear hlk hk
              have HRq := Lib.hid (HRw.out.below HQB.out)
              have HYq := Lib.hid (HYw.out.keep HQB.out (Nat.le_refl _))
              have HFq := Lib.hid (HFw.out.below HQB.out)
              have HWq := Lib.hid (HW.out.trans (HQB.out.mono HW.out.size))
              have HXq := Lib.hid (HWR.out.trans (HQB.out.mono HWR.out.size))
              clear HQC HQG HCZ HBZ HR HY HF HC HB2
              have KW := Lib.hid (fun w' (hb : Below wq.heap.size wq w') => whole_any (HRq.out.below hb))
              rw [HL.out] at KW
              have KS := Lib.hid (fun w' (hb : Below wq.heap.size wq w') => (HYq.out.bs.below hb).str (P := Try.prog) 22 9 5 Try.underlying22 Try.underlying5 Try.underlying9)
              have ks0 := KS.out _ (Below.refl _ _).drew
              have ks1 := KS.out _ (Below.refl _ _)
              go_wp2
              go_region_held3 (fun w' => (convert 22 9 (.slice (some ⟨gy, 0, none⟩) ny cy)).run Try.prog w' = .ok (.string (bstr B)) w') (first | exact KS.out _ (Below.refl _ _).drew | exact KS.out _ HA1.out) (first | (go_at_call 15; (with_reducible refine (KW.out _ ?_).mono ?_); (exact (Below.refl _ _).drew); rintro r v4 ⟨rfl, hb⟩; have HA1 : Hid (Below wq.heap.size wq v4) := Lib.hid ((Below.refl _ _).drew.trans hb)))
              clear hb KW KS ks0 ks1
              have HRs := Lib.hid (HRq.out.below HA1.out)
              have HYs := Lib.hid (HYq.out.keep HA1.out (Nat.le_refl _))
              have HFs := Lib.hid (HFq.out.below HA1.out)
              have HWs := Lib.hid (HWq.out.trans (HA1.out.mono HWq.out.size))
              have HXs := Lib.hid (HXq.out.trans (HA1.out.mono HXq.out.size))
              have hnys := hny
              have hgx := (HXs.out.block G HL0.out).trans HG0.out
              have d0 : v4.cell? ⟨G, 0, none⟩ = some (.int .i64 x0) := cell_blk hgx rfl
              have d1 : v4.cell? ⟨G, 1, none⟩ = some (.int .i64 x1) := cell_blk hgx rfl
              have d2 : v4.cell? ⟨G, 2, none⟩ = some (.int .i64 x2) := cell_blk hgx rfl
              have HGX := Lib.hid hgx
              clear hgx
              obtain ⟨SE, hSE⟩ : ∃ SE, slE ny x0 x1 = SE := ⟨_, rfl⟩
              obtain ⟨SP, hSP⟩ : ∃ SP, slL B x0 x1 = SP := ⟨_, rfl⟩
              obtain ⟨AV, hAV⟩ : ∃ AV, atV B x2 = AV := ⟨_, rfl⟩
              obtain ⟨AB, hAB⟩ : ∃ AB, atB B x2 = AB := ⟨_, rfl⟩
              have hBl := HYs.out.bs.hl
              have K1 := slice_all x0 x1 HRs.out
              rw [HL.out, hBl, hSE, hSP] at K1
              go_wp2_with fail
              refine K1.mono ?_
              rintro r u1 ⟨ap, np, cp, rfl, o1, hnp, hb1⟩
              have HWu := Lib.hid (HWs.out.trans (hb1.mono HWs.out.size))
              have HXu := Lib.hid (HXs.out.trans (hb1.mono HXs.out.size))
              have HRu := Lib.hid (HRs.out.below hb1)
              have HYu := Lib.hid (HYs.out.keep hb1 (Nat.le_refl _))
              have HFu := Lib.hid (HFs.out.below hb1)
              have HP := Lib.hid o1
              have HGs := Lib.hid HRs.out.lt
              have HGYs := Lib.hid HYs.out.blk.2
              have hgx := (hb1.block G (Nat.lt_of_lt_of_le HL0.out HXs.out.size)).trans HGX.out
              have d0 : u1.cell? ⟨G, 0, none⟩ = some (.int .i64 x0) := cell_blk hgx rfl
              have d1 : u1.cell? ⟨G, 1, none⟩ = some (.int .i64 x1) := cell_blk hgx rfl
              have HGX := Lib.hid hgx
              clear K1 hb1 o1 hgx
              have K2 := rslice_all x0 x1 (some ⟨gy, 0, none⟩) ny cy B HYu.out.bs hnys
              rw [hSE, hSP] at K2
              go_wp2_with fail
              refine K2.mono ?_
              rintro r u2 ⟨aq, nq, cq, rfl, o2, hnq, hb2⟩
              have HWt := Lib.hid (HWu.out.trans (hb2.mono HWu.out.size))
              have HXt := Lib.hid (HXu.out.trans (hb2.mono HXu.out.size))
              have HRt := Lib.hid (HRu.out.below hb2)
              have HYt := Lib.hid (HYu.out.keep hb2 (Nat.le_refl _))
              have HFt := Lib.hid (HFu.out.below hb2)
              have HP2 := Lib.hid (HP.out.keep hb2 (Nat.le_refl _))
              have HQ := Lib.hid o2
              have HGu := Lib.hid HRu.out.lt
              have hgx := (hb2.block G (Nat.lt_of_lt_of_le HL0.out HXu.out.size)).trans HGX.out
              have d2 : u2.cell? ⟨G, 2, none⟩ = some (.int .i64 x2) := cell_blk hgx rfl
              have HGX := Lib.hid hgx
              clear K2 hb2 o2 hgx
              have K3 := at_all x2 HRt.out
              rw [HL.out, hAV, hAB] at K3
              go_wp2_with fail
              refine K3.mono ?_
              rintro r u3 ⟨rfl, ⟨sv3, h3⟩, hg3⟩
              have HNE := Lib.hid (HRt.out.ne HYt.out)
              have HW3 := Lib.hid (HWt.out.trans (bs_gb hg3 HGW.out HWt.out.size))
              have HX3 := Lib.hid (HXt.out.trans (bs_gb hg3 HGE.out HXt.out.size))
              have HF3 := Lib.hid (HFt.out.step HRt.out h3 hg3 (fun hh => by rw [HL.out]; exact HEQ.out hh))
              have HR3 := Lib.hid h3
              have HY3 := Lib.hid (HYt.out.gbn hg3 HNE.out)
              have HP3 := Lib.hid (HP2.out.gb hg3 HGs.out)
              have HQ3 := Lib.hid (HQ.out.gb hg3 HGu.out)
              have d2 : u3.cell? ⟨G, 2, none⟩ = some (.int .i64 x2) := cell_blk ((hg3.block G (Nat.lt_of_lt_of_le HL0.out HXt.out.size) (by have := HGE.out; have := HL0.out; simp; omega)).trans HGX.out) rfl
              clear K3 h3 hg3
              have K4 := rat_all x2 (some ⟨gy, 0, none⟩) ny cy B HY3.out.bs hnys
              rw [hAV, hAB] at K4
              go_wp2_with fail
              refine K4.mono ?_
              rintro r w' ⟨rfl, rfl⟩
              have kp := HP3.out.bs.str (P := Try.prog) 22 9 5 Try.underlying22 Try.underlying5 Try.underlying9
              have kq := HQ3.out.bs.str (P := Try.prog) 22 9 5 Try.underlying22 Try.underlying5 Try.underlying9
              obtain ⟨SS, hSS⟩ : ∃ SS, bstr SP = SS := ⟨_, rfl⟩
              rw [hSS] at kp kq
              clear K4 hSS
              go_wp2
              go_loopw [29] (fun v wp => ∃ (k : Nat) (P' : List Int), v = .int .i64 k ∧ k ≤ np ∧ Hid (OwnB v4.heap.size 5 wp ap np cp P') ∧ Hid (u3.grownBy wp (Value.ownBlock (.slice ap np cp)))) (fun v _ => np - (intOf v).toNat)
              case atStart => exact ⟨0, SP, rfl, by omega, HP3, Lib.hid ⟨rfl, rfl, rfl, Nat.le_refl _, fun _ _ _ => rfl⟩⟩
              case round =>
                rename World => wp
                obtain ⟨k, P', rfl, hk, HPP, HPG⟩ := hrel
                by_cases hlk : k < np
                · obtain ⟨gp, rfl, _, _⟩ := HPP.out.form (by rintro rfl; obtain ⟨_, _, hh, _⟩ := HPP.out.bs.at_ (by omega); cases hh)
                  have hck := HPP.out.cell k hlk
                  have hzk := HPP.out.frozen k
                  have hdk : decide ((k : Int) < (np : Int)) = true := by simp; omega
                  go_wp2
                  go_roundw
                  case rel => exact ⟨k + 1, _, by go_num, by omega, Lib.hid (HPP.out.set k 9 (by omega)), Lib.hid (gbo_trans HPG.out (gbo_set _))⟩
                  case measure => simp [intOf]; omega
                · obtain rfl : k = np := by omega
                  have hdk : decide ((k : Int) < (k : Int)) = false := by simp
                  clear hlk hk kp kq d2
                  have HRp := Lib.hid (HR3.out.row HP3.out HPG.out)
                  have HFp := Lib.hid (HF3.out.row HP3.out HPG.out)
                  have HYp := Lib.hid (HY3.out.rowN HP3.out HGYs.out HPG.out)
                  have HWp := Lib.hid (HW3.out.trans (rows_below HP3.out HPG.out HWs.out.size HW3.out.size))
                  have HXp := Lib.hid (HX3.out.trans (rows_below HP3.out HPG.out HXs.out.size HX3.out.size))
                  obtain ⟨D, hD⟩ : ∃ D, t.d = D := ⟨_, rfl⟩
                  have hD1 : 1 ≤ D := by rw [← hD]; exact t.d_pos
                  have hD2 : D ≤ 24 := by have := HRp.out.dle; have := HRp.out.e9; omega
                  have hdd1 : decide ((D : Int) > 24) = false := by simp; omega
                  have hdd2 : decide ((D : Int) < 1) = false := by simp; omega
                  have KW := Lib.hid (fun w' (hb : Below wp.heap.size wp w') => whole_any (HRp.out.below hb))
                  rw [HL.out] at KW
                  have KL := Lib.hid (fun w' (hb : Below wp.heap.size wp w') => len_any (HRp.out.below hb))
                  rw [HL.out, hBl] at KL
                  have KD := Lib.hid (fun w' (hb : Below wp.heap.size wp w') => deep_any (HRp.out.below hb))
                  rw [hD] at KD
                  have hcv : ∀ {w' : World}, OwnB w.heap.size 5 w' (some ⟨gy, 0, none⟩) ny cy B → (convert 22 9 (.slice (some ⟨gy, 0, none⟩) ny cy)).run Try.prog w' = .ok (.string (bstr B)) w' := fun ho => ho.bs.str (P := Try.prog) 22 9 5 Try.underlying22 Try.underlying5 Try.underlying9
                  have HNp := Lib.hid (HRp.out.ne HYp.out)
                  go_wp2
                  go_region_held3 (fun w' => (convert 22 9 (.slice (some ⟨gy, 0, none⟩) ny cy)).run Try.prog w' = .ok (.string (bstr B)) w') (first | exact hcv (HYp.out.keep (Below.refl _ _).drew (Nat.le_refl _)) | exact hcv HY5.out | exact hcv HY6.out | exact hcv HY7.out) (first | (go_at_call 15; (with_reducible refine (KW.out _ ?_).mono ?_); (exact (Below.refl _ _).drew); rintro r z1 ⟨rfl, hb⟩; have HZ1 : Hid (Below wp.heap.size wp z1) := Lib.hid ((Below.refl _ _).drew.trans hb); have HY5 := Lib.hid (HYp.out.keep HZ1.out (Nat.le_refl _)); have HR5 := Lib.hid (HRp.out.below HZ1.out)) | (go_at_call 20; (with_reducible refine (KL.out _ ?_).mono ?_); (exact HZ1.out); rintro r w' ⟨rfl, rfl⟩) | (go_at_call 21; (with_reducible refine (KD.out _ ?_).mono ?_); (exact HZ1.out); rintro r z2 ⟨rfl, hr6, hg6⟩; have HR6 := Lib.hid hr6; have HY6 := Lib.hid (HY5.out.gbn hg6 HNp.out); have HG6 := Lib.hid hg6; have KD2 := Lib.hid (deep_any hr6); rw [hD] at KD2) | (go_at_call 21; (with_reducible refine KD2.out.mono ?_); rintro r z3 ⟨rfl, hr7, hg7⟩; have HR7 := Lib.hid hr7; have HY7 := Lib.hid (HY6.out.gbn hg7 HNp.out); have HG7 := Lib.hid hg7))
                  have HF5 := Lib.hid (HFp.out.below HZ1.out)
                  have HF6 := Lib.hid (HF5.out.step HR5.out HR6.out HG6.out (fun hh => by rw [HL.out]; exact HEQ.out hh))
                  have HF7 := Lib.hid (HF6.out.step HR6.out HR7.out HG7.out (fun hh => by rw [HL.out]; exact HEQ.out hh))
                  have HWa := Lib.hid (HWp.out.trans (HZ1.out.mono HWp.out.size))
                  have HWb := Lib.hid (HWa.out.trans (bs_gb HG6.out HGW.out HWa.out.size))
                  have HWc := Lib.hid (HWb.out.trans (bs_gb HG7.out HGW.out HWb.out.size))
                  have HXa := Lib.hid (HXp.out.trans (HZ1.out.mono HXp.out.size))
                  have HXb := Lib.hid (HXa.out.trans (bs_gb HG6.out HGE.out HXa.out.size))
                  have HXc := Lib.hid (HXb.out.trans (bs_gb HG7.out HGE.out HXb.out.size))
                  have HG0n : Hid (g0 < z3.heap.size) := Lib.hid (by obtain ⟨_, _, _, _, _, hh, _⟩ := HF7.out; exact hh.lt)
                  clear hb hr6 hg6 hr7 hg7 KW KL KD KD2 HF5 HF6 HWa HWb HXa HXb HY5 HY6 HR5 HR6 HG6 HG7 HZ1
                  go_wp2
                  go_roundw
                  case rel => exact ⟨i + 1, g, t, e, _, 1, _, gy, ny, cy, B, rfl, rfl, by go_num, by omega, hnys, HR7, HL, HY7, HF7, HEQ, HGW, HGE, HG0n, HWc, HXc⟩
                  case measure => simp [intOf]; omega
      · have hd1 : decide ((i : Int) < (n1 : Int)) = true := by simp; omega
        have hd2 : decide ((i : Int) < 40) = false := by simp; omega
        obtain ⟨tf, ef, svf, dnf, dpf, hRf, hLf⟩ := HF.out
        have KW := whole_any hRf
        rw [hLf] at KW
        go_wp2_with fail
        refine KW.mono ?_
        rintro r y1 ⟨rfl, hy1⟩
        have HWy := Lib.hid (HW.out.trans (hy1.mono HW.out.size))
        have HXy := Lib.hid (HWR.out.trans (hy1.mono HWR.out.size))
        clear KW hRf hLf hy1
        go_wp2_with fail
        refine (few_any _ _ _ _ _ (H0.out.below HXy.out)).mono ?_
        rintro r y2 ⟨gl, cl, ml, hml, rfl, hol, hy2⟩
        rw [HB0.out] at hol
        have kl := hol.bs.str (P := Try.prog) 22 9 5 Try.underlying22 Try.underlying5 Try.underlying9
        have HWz := Lib.hid (HWy.out.trans (hy2.mono HWy.out.size))
        clear hol hy2 hml
        go_wp2
        go_ret
        exact ⟨rfl, HWz.out⟩
    · have hd1 : decide ((i : Int) < (n1 : Int)) = false := by simp; omega
      obtain ⟨tf, ef, svf, dnf, dpf, hRf, hLf⟩ := HF.out
      have KW := whole_any hRf
      rw [hLf] at KW
      go_wp2_with fail
      refine KW.mono ?_
      rintro r y1 ⟨rfl, hy1⟩
      have HWy := Lib.hid (HW.out.trans (hy1.mono HW.out.size))
      have HXy := Lib.hid (HWR.out.trans (hy1.mono HWR.out.size))
      clear KW hRf hLf hy1
      go_wp2_with fail
      refine (few_any _ _ _ _ _ (H0.out.below HXy.out)).mono ?_
      rintro r y2 ⟨gl, cl, ml, hml, rfl, hol, hy2⟩
      rw [HB0.out] at hol
      have kl := hol.bs.str (P := Try.prog) 22 9 5 Try.underlying22 Try.underlying5 Try.underlying9
      have HWz := Lib.hid (HWy.out.trans (hy2.mono HWy.out.size))
      clear hol hy2 hml
      go_wp2
      go_ret
      exact ⟨rfl, HWz.out⟩

end Go.Proofs.Ytkpdehbffankkaa
