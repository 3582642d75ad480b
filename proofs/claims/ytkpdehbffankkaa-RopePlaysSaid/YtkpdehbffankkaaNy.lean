/- RopeBack's walk. -/
import Derived.Test.YtkpdehbffankkaaNu
namespace Go.Proofs.Ytkpdehbffankkaa
open Go.RowKit

/-- b[k:h], whatever room there is. -/
theorem slice_mid {g off n c k h : Nat} (hk : k ≤ h) (hh : h ≤ n) (hc : n ≤ c) (_ : c ≤ maxLen) : ∃ a' c', (∀ w, (Instr.slice 22 (.slice (some ⟨g, off, none⟩) n c) (some (.int .i64 k)) (some (.int .i64 h)) none).run Try.prog w = .ok (.slice a' (h - k) c') w) ∧
    ∀ w l, Bs w (some ⟨g, off, none⟩) n c l → Bs w a' (h - k) c' (sub l k h) := by
  obtain ⟨i, hi, hz, hs, hby⟩ := info_parts info5
  have he : Try.prog.elem 22 = 5 := by kernel_rfl
  have hr : ∀ w, (Instr.slice 22 (.slice (some ⟨g, off, none⟩) n c) (some (.int .i64 k)) (some (.int .i64 h)) none).run Try.prog w = .ok (sliced (some ⟨g, off, none⟩) k h c 1) w := fun w => by
    have := run_slice_lh (P := Try.prog) w 22 (some ⟨g, off, none⟩) n c (by rw [he]; exact Try.underlying22) .i64 .i64 k h (by omega) (by omega) (by omega)
    rw [this, he, Int.toNat_natCast, Int.toNat_natCast]
    simp [sizeOf, typeInfo, hi, hs, Result.andThen]
  by_cases h0 : c = k
  · refine ⟨some ⟨g, off, none⟩, c - k, fun w => by rw [hr w]; simp [sliced, h0], fun w l hb => ?_⟩
    have hnk : h = k := by omega
    subst hnk
    rw [Nat.sub_self, sub_none (Nat.le_refl _)]
    exact Bs.nil _ _ _ (by omega)
  · refine ⟨some ⟨g, off + k, none⟩, c - k, fun w => by rw [hr w]; simp [sliced, h0, addr_add], fun w l hb => ?_⟩
    exact ((hb.take hh (by omega) hb.cm).drop hk)

theorem tmod_rng (a : Int) (m : Nat) : -((m : Int) + 1) < Int.tmod a ((m : Int) + 1) ∧ Int.tmod a ((m : Int) + 1) < (m : Int) + 1 := by
  have h := Int.natAbs_tmod a ((m : Int) + 1)
  have h2 := Nat.mod_lt a.natAbs (show 0 < ((m : Int) + 1).natAbs by omega)
  omega

theorem tmod_nat (r : Int) (m : Nat) (h0 : 0 ≤ r) : ∃ k : Nat, k ≤ m ∧ Int.tmod r ((m : Int) + 1) = k := by
  have h := tmod_rng r m
  have h1 : 0 ≤ Int.tmod r ((m : Int) + 1) := by rw [Int.tmod_eq_emod_of_nonneg h0]; exact Int.emod_nonneg _ (by omega)
  obtain ⟨k, hk⟩ := Int.eq_ofNat_of_zero_le h1
  exact ⟨k, by omega, hk⟩

theorem rep_back {B C : List Int} {k d : Nat} (h : k + d ≤ B.length) : (B.take k ++ C ++ B.drop (k + d)).take k ++ sub B k (k + d) ++ (B.take k ++ C ++ B.drop (k + d)).drop (k + C.length) = B := by
  have hl : (B.take k).length = k := by rw [List.length_take]; omega
  rw [List.append_assoc (B.take k), List.take_append_of_le_length (by omega), List.take_take, Nat.min_self, List.drop_append, hl, List.drop_of_length_le (by omega), List.nil_append, show k + C.length - k = C.length from by omega, List.drop_append_of_le_length (Nat.le_refl _), List.drop_length, List.nil_append]
  unfold sub
  rw [List.drop_take, show k + d - k = d from by omega, List.append_assoc, ← List.drop_drop, List.take_append_drop, List.take_append_drop]

theorem rep_end {L E : List Int} {n : Nat} (h : n = L.length) : L.take n ++ E ++ L.drop (n + 0) = L ++ E := by
  subst h
  simp

theorem rep_apart {B C E : List Int} {k d : Nat} (h : k + d ≤ B.length) : (B ++ E).take k ++ C ++ (B ++ E).drop (k + d) = B.take k ++ C ++ B.drop (k + d) ++ E := by
  rw [List.take_append_of_le_length (by omega), List.drop_append_of_le_length h]
  simp only [List.append_assoc]

set_option maxRecDepth 100000 in
set_option maxHeartbeats 4000000 in
theorem back_any (a0 : Option Addr) (n0 c0 : Nat) (l0 : List Int) (A D : Int) (a1 : Option Addr) (n1 c1 : Nat) (l1 : List Int) (a2 : Option Addr) (n2 c2 : Nat) (l2 : List Int) (w : World) (hB0 : Bs w a0 n0 c0 l0) (hB1 : Bs w a1 n1 c1 l1) (hB2 : Bs w a2 n2 c2 l2) :
    Calls Try.prog 6 #[.slice a0 n0 c0, .agg #[.int .i64 A, .int .i64 D, .slice a1 n1 c1], .slice a2 n2 c2] w fun e w' => e = .returned (.bool true) ∧ Below w.heap.size w w' := by
  obtain ⟨w0, hw0⟩ : ∃ w0, w.alloc (.cells #[.int .i64 A, .int .i64 D, .slice a1 n1 c1] 34) = w0 := ⟨_, rfl⟩
  have hb0 : Below w.heap.size w w0 := by rw [← hw0]; exact (Below.refl _ _).alloc (Nat.le_refl _) _
  have hg0 : w0.heap[w.heap.size]? = some (.cells #[.int .i64 A, .int .i64 D, .slice a1 n1 c1] 34 (0, 0)) := by rw [← hw0]; exact heapAt4 w _
  obtain ⟨G, hG⟩ : ∃ G, w.heap.size = G := ⟨_, rfl⟩
  have HGG := Lib.hid hG
  have H0 := Lib.hid (hB0.below hb0)
  have H1 := Lib.hid (hB1.below hb0)
  have H2 := Lib.hid (hB2.below hb0)
  rw [hG] at hg0
  have HG0 := Lib.hid hg0
  have HW0 := Lib.hid hb0
  have HL0 := Lib.hid (show G < w0.heap.size from (Array.getElem?_eq_some_iff.1 hg0).1)
  clear hB0 hB1 hB2 hb0 hg0
  have kn := neqR_some
  go_enter Try.func6, Try.ntmps6
  go_wp2_with fail
  refine (shown_any w0).mono ?_
  rintro e w1 ⟨rfl, hb1⟩
  have HW1 := Lib.hid hb1
  clear hb1 hw0 hG
  go_wp2_with fail
  refine (few_any _ _ _ _ _ (H0.out.below HW1.out)).mono ?_
  rintro e w2 ⟨gb, cb, m, hm, rfl, ho, hb2⟩
  have HW2 := Lib.hid (HW1.out.trans (hb2.mono HW1.out.size))
  obtain ⟨B, hB⟩ : ∃ B, l0.take 300 = B := ⟨_, rfl⟩
  rw [hB] at ho
  have hm2 : m ≤ 300 := by omega
  have HBL := Lib.hid ho.bs.hl
  have HO := Lib.hid ho
  have hbc := ho.bs.lc
  have hbm := ho.bs.cm
  clear hb2 ho hm hB
  go_wp2_with fail
  refine (new_any _ m _ _ w2 HO.out.bs (by omega)).mono ?_
  rintro e w3 ⟨g, t, rfl, h1, h2, h3, h4⟩
  have HW3 := Lib.hid (HW2.out.trans (h4.mono HW2.out.size))
  have HO := Lib.hid (HO.out.keep h4 (Nat.le_refl _))
  have HR := Lib.hid h1
  have HL := Lib.hid h2
  clear h1 h2 h3 h4
  have hg3 := (HW3.out.block G HL0.out).trans HG0.out
  have d0 : w3.cell? ⟨G, 0, none⟩ = some (.int .i64 A) := by simp [World.cell?, hg3]
  have d1 : w3.cell? ⟨G, 1, none⟩ = some (.int .i64 D) := by simp [World.cell?, hg3]
  have d2 : w3.cell? ⟨G, 2, none⟩ = some (.slice a1 n1 c1) := by simp [World.cell?, hg3]
  have r1 := tmod_rng A m
  obtain ⟨r, hr⟩ : ∃ r, Int.tmod A ((m : Int) + 1) = r := ⟨_, rfl⟩
  rw [hr] at r1
  obtain ⟨k, hk, hk2⟩ := tmod_nat (r + (m : Int) + 1) m (by omega)
  obtain ⟨q, hq⟩ : ∃ q, m - k = q := ⟨_, rfl⟩
  have r2 := tmod_rng D q
  obtain ⟨s, hs⟩ : ∃ s, Int.tmod D ((q : Int) + 1) = s := ⟨_, rfl⟩
  rw [hs] at r2
  obtain ⟨d, hd, hd2⟩ := tmod_nat (s + ((q : Int) + 1)) q (by omega)
  have b1 := wrap_nat (m + 1) (by omega)
  rw [Int.natCast_add, show ((1 : Nat) : Int) = 1 from rfl] at b1
  have b2 : IntKind.i64.wrap (r + (m : Int)) = r + (m : Int) := by rw [IntKind.wrap_i64]; omega
  have b3 : IntKind.i64.wrap (r + (m : Int) + 1) = r + (m : Int) + 1 := by rw [IntKind.wrap_i64]; omega
  have b4 : IntKind.i64.wrap ((m : Int) - (k : Int)) = (q : Int) := by rw [IntKind.wrap_i64]; omega
  have b5 := wrap_nat (q + 1) (by omega)
  rw [Int.natCast_add, show ((1 : Nat) : Int) = 1 from rfl] at b5
  have b6 : IntKind.i64.wrap (s + ((q : Int) + 1)) = s + ((q : Int) + 1) := by rw [IntKind.wrap_i64]; omega
  have b7 : IntKind.i64.wrap ((k : Int) + (d : Int)) = (k : Int) + (d : Int) := by rw [IntKind.wrap_i64]; omega
  have z0 : ¬ ((m : Int) + 1 = 0) := by omega
  have z1 : ¬ ((q : Int) + 1 = 0) := by omega
  have hq1 : q + k ≤ m := by omega
  have hkd : k + d ≤ m := by omega
  obtain ⟨ad, cd, hsl, hsb⟩ := slice_mid (g := gb) (off := 0) (show k ≤ k + d by omega) hkd hbc hbm
  rw [show k + d - k = d from by omega, Int.natCast_add] at hsl
  rw [show k + d - k = d from by omega] at hsb
  have HSB := Lib.hid hsb
  clear hq hg3 hbm hsb r1 r2
  go_wp2_with fail
  refine (few_any _ _ _ _ _ (H1.out.below HW3.out)).mono ?_
  rintro e w4 ⟨gc, cc, mc, hmc, rfl, ho, hb4⟩
  have HW4 := Lib.hid (HW3.out.trans (hb4.mono HW3.out.size))
  have HO := Lib.hid (HO.out.keep hb4 (Nat.le_refl _))
  have HR := Lib.hid (HR.out.below hb4)
  obtain ⟨C, hC⟩ : ∃ C, l1.take 300 = C := ⟨_, rfl⟩
  rw [hC] at ho
  have hmc2 : mc ≤ 300 := by omega
  have HCL := Lib.hid ho.bs.hl
  have HC := Lib.hid ho
  clear hb4 ho hmc hC d0 d1 d2 hr hs hk2 hd2 z0 z1 b2 b3 b5 b6
  go_wp2_with fail
  refine (rep_any k d _ mc cc C HR.out HC.out.bs (by rw [HL.out, HBL.out]; omega) (by rw [HL.out, HBL.out]; omega)).mono ?_
  rintro e w5 ⟨gs, ts, es, rfl, h1, h2, h3, h4⟩
  have HW5 := Lib.hid (HW4.out.trans (h4.mono HW4.out.size))
  have HO := Lib.hid (HO.out.keep h4 (Nat.le_refl _))
  have HC := Lib.hid (HC.out.keep h4 (Nat.le_refl _))
  have HR := Lib.hid (HR.out.below h4)
  have HRS := Lib.hid h1
  rw [HL.out] at h2
  have hns : ts.l.length = k + mc + (m - (k + d)) := by
    rw [h2, List.length_append, List.length_append, List.length_take, List.length_drop, HBL.out, HCL.out]
    omega
  have HNS := Lib.hid hns
  have HLS := Lib.hid h2
  clear h1 h2 h3 h4 hns
  go_wp2_with fail
  refine (rep_any k mc ad d cd (sub B k (k + d)) HRS.out (HSB.out _ _ HO.out.bs) (by rw [HNS.out]; omega) (by rw [HNS.out]; omega)).mono ?_
  rintro e w6 ⟨gu, tu, eu, rfl, h1, h2, h3, h4⟩
  have HW6 := Lib.hid (HW5.out.trans (h4.mono HW5.out.size))
  have HO := Lib.hid (HO.out.keep h4 (Nat.le_refl _))
  have HC := Lib.hid (HC.out.keep h4 (Nat.le_refl _))
  have HR := Lib.hid (HR.out.below h4)
  have HRS := Lib.hid (HRS.out.below h4)
  have HRU := Lib.hid h1
  have HLU : Hid (tu.l = B) := Lib.hid (by
    rw [h2, HLS.out, ← HCL.out]
    exact rep_back (by rw [HBL.out]; exact hkd))
  clear h1 h2 h3 h4 hsl HSB
  obtain ⟨N, hN⟩ : ∃ N, N = k + mc + (m - (k + d)) := ⟨_, rfl⟩
  rw [← hN] at HNS
  have hN2 : N ≤ 600 := by omega
  clear hN
  have KL := len_any HRS.out
  rw [HNS.out] at KL
  have HKL := Lib.hid KL
  clear KL
  go_wp2_with (first | (go_at_call 20; (with_reducible refine HKL.out.mono ?_); rintro r w' ⟨rfl, rfl⟩))
  refine (few_any _ _ _ _ _ (H2.out.below HW6.out)).mono ?_
  rintro e w7 ⟨ge, ce, me, hme, rfl, ho, hb7⟩
  have HW7 := Lib.hid (HW6.out.trans (hb7.mono HW6.out.size))
  have HO := Lib.hid (HO.out.keep hb7 (Nat.le_refl _))
  have HC := Lib.hid (HC.out.keep hb7 (Nat.le_refl _))
  have HR := Lib.hid (HR.out.below hb7)
  have HRS := Lib.hid (HRS.out.below hb7)
  have HRU := Lib.hid (HRU.out.below hb7)
  obtain ⟨F, hF⟩ : ∃ F, l2.take 300 = F := ⟨_, rfl⟩
  rw [hF] at ho
  have hme2 : me ≤ 300 := by omega
  have HFL := Lib.hid ho.bs.hl
  have HF := Lib.hid ho
  clear hb7 ho hme
  go_wp2_with fail
  refine (rep_any N 0 _ me ce F HRS.out HF.out.bs (by rw [HNS.out]; omega) (by rw [HNS.out]; omega)).mono ?_
  rintro e w8 ⟨gv, tv, ev, rfl, h1, h2, h3, h4⟩
  have HW8 := Lib.hid (HW7.out.trans (h4.mono HW7.out.size))
  have HO := Lib.hid (HO.out.keep h4 (Nat.le_refl _))
  have HC := Lib.hid (HC.out.keep h4 (Nat.le_refl _))
  have HR := Lib.hid (HR.out.below h4)
  have HRU := Lib.hid (HRU.out.below h4)
  have HRV := Lib.hid h1
  have HLV : Hid (tv.l = B.take k ++ C ++ B.drop (k + d) ++ F) := Lib.hid (by
    rw [h2, rep_end HNS.out.symm, HLS.out])
  clear h1 h2 h3 h4 HF HFL HRS HKL
  have KL := len_any HR.out
  rw [HL.out, HBL.out] at KL
  have HKL := Lib.hid KL
  clear KL
  go_wp2_with (first | (go_at_call 20; (with_reducible refine HKL.out.mono ?_); rintro r w' ⟨rfl, rfl⟩))
  refine (few_any _ _ _ _ _ (H2.out.below HW8.out)).mono ?_
  rintro e w9 ⟨gf, cf, mf, hmf, rfl, ho, hb9⟩
  have HW9 := Lib.hid (HW8.out.trans (hb9.mono HW8.out.size))
  have HO := Lib.hid (HO.out.keep hb9 (Nat.le_refl _))
  have HC := Lib.hid (HC.out.keep hb9 (Nat.le_refl _))
  have HR := Lib.hid (HR.out.below hb9)
  have HRU := Lib.hid (HRU.out.below hb9)
  have HRV := Lib.hid (HRV.out.below hb9)
  rw [hF] at ho
  have hmf2 : mf ≤ 300 := by omega
  have HFL := Lib.hid ho.bs.hl
  have HF := Lib.hid ho
  clear hb9 ho hmf hF
  go_wp2_with fail
  refine (rep_any m 0 _ mf cf F HR.out HF.out.bs (by rw [HL.out, HBL.out]; omega) (by rw [HL.out, HBL.out]; omega)).mono ?_
  rintro e x1 ⟨gw, tw, ew, rfl, h1, h2, h3, h4⟩
  have HX1 := Lib.hid (HW9.out.trans (h4.mono HW9.out.size))
  have HO := Lib.hid (HO.out.keep h4 (Nat.le_refl _))
  have HC := Lib.hid (HC.out.keep h4 (Nat.le_refl _))
  have HR := Lib.hid (HR.out.below h4)
  have HRU := Lib.hid (HRU.out.below h4)
  have HRV := Lib.hid (HRV.out.below h4)
  have HRW := Lib.hid h1
  have HLW : Hid (tw.l = B ++ F) := Lib.hid (by rw [h2, HL.out, rep_end HBL.out.symm])
  have HNW : Hid (tw.l.length = m + mf) := Lib.hid (by rw [HLW.out, List.length_append, HBL.out, HFL.out])
  clear h1 h2 h3 h4 HF HKL
  go_wp2_with fail
  refine (rep_any k d _ mc cc C HRW.out HC.out.bs (by rw [HNW.out]; omega) (by rw [HNW.out]; omega)).mono ?_
  rintro e x2 ⟨gz, tz, ez, rfl, h1, h2, h3, h4⟩
  have HX2 := Lib.hid (HX1.out.trans (h4.mono HX1.out.size))
  have HO := Lib.hid (HO.out.keep h4 (Nat.le_refl _))
  have HR := Lib.hid (HR.out.below h4)
  have HRU := Lib.hid (HRU.out.below h4)
  have HRV := Lib.hid (HRV.out.below h4)
  have HRZ := Lib.hid h1
  have HLZ : Hid (tz.l = B.take k ++ C ++ B.drop (k + d) ++ F) := Lib.hid (by
    rw [h2, HLW.out]
    exact rep_apart (by rw [HBL.out]; exact hkd))
  clear h1 h2 h3 h4 HC HRW HLW HNW
  obtain ⟨V, hV⟩ : ∃ V, B.take k ++ C ++ B.drop (k + d) ++ F = V := ⟨_, rfl⟩
  rw [hV] at HLV HLZ
  clear hV
  have KU := Lib.hid (fun w' (hw : Below x2.heap.size x2 w') => whole_any (HRU.out.below hw))
  have KV := Lib.hid (fun w' (hw : Below x2.heap.size x2 w') => whole_any (HRV.out.below hw))
  have KZ := Lib.hid (fun w' (hw : Below x2.heap.size x2 w') => whole_any (HRZ.out.below hw))
  have KR := Lib.hid (fun w' (hw : Below x2.heap.size x2 w') => whole_any (HR.out.below hw))
  rw [HLU.out] at KU
  rw [HLV.out] at KV
  rw [HLZ.out] at KZ
  rw [HL.out] at KR
  have KS := Lib.hid (fun w' (hw : Below x2.heap.size x2 w') => (HO.out.bs.below hw).str (P := Try.prog) 22 9 5 Try.underlying22 Try.underlying5 Try.underlying9)
  have ks0 := KS.out _ (Below.refl _ _).drew
  have HA0 : Hid (Below x2.heap.size x2 x2.drew) := Lib.hid (Below.refl _ _).drew
  go_wp2_with fail
  go_region_held3 (fun w' => (convert 22 9 (.slice (some ⟨gb, 0, none⟩) m cb)).run Try.prog w' = .ok (.string (bstr B)) w') (first | exact KS.out _ HA0.out | exact KS.out _ HA1.out | exact KS.out _ HA2.out | exact KS.out _ HA3.out | exact KS.out _ HA4.out) (first
    | (go_at_call 15; (with_reducible refine (KU.out _ ?_).mono ?_); (exact HA0.out); rintro r v1 ⟨rfl, hb⟩; have HA1 : Hid (Below x2.heap.size x2 v1) := Lib.hid (HA0.out.trans (hb.mono HA0.out.size)))
    | (go_at_call 15; (with_reducible refine (KV.out _ ?_).mono ?_); (exact HA1.out); rintro r v2 ⟨rfl, hb'⟩; have HA2 : Hid (Below x2.heap.size x2 v2) := Lib.hid (HA1.out.trans (hb'.mono HA1.out.size)))
    | (go_at_call 15; (with_reducible refine (KZ.out _ ?_).mono ?_); (exact HA2.out); rintro r v3 ⟨rfl, hb''⟩; have HA3 : Hid (Below x2.heap.size x2 v3) := Lib.hid (HA2.out.trans (hb''.mono HA2.out.size)))
    | (go_at_call 15; (with_reducible refine (KR.out _ ?_).mono ?_); (exact HA3.out); rintro r v4 ⟨rfl, hbq⟩; have HA4 : Hid (Below x2.heap.size x2 v4) := Lib.hid (HA3.out.trans (hbq.mono HA3.out.size))))
  have HZ1 := Lib.hid (HW0.out.trans (HX2.out.mono HW0.out.size))
  have HZ2 := Lib.hid (HZ1.out.trans (HA4.out.mono HZ1.out.size))
  go_wp2
  go_ret
  exact ⟨rfl, HZ2.out⟩

end Go.Proofs.Ytkpdehbffankkaa
