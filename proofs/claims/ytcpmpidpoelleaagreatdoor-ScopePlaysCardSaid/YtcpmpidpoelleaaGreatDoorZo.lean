/- ScopePlays (laid by genZo.py). -/
import Derived.Test.YtcpmpidpoelleaaGreatDoorZm
namespace Go.Proofs.YtcpmpidpoelleaaGreatDoor
open Go.RowKit

set_option maxRecDepth 100000 in
set_option maxHeartbeats 40000000 in
theorem scopePlays_any (aD : Option Addr) (len cap : Nat) (D : List DV) (w : World) (ht : Tab w) (hD : DvS w aD len cap D) (hp : ∀ x ∈ D, x.2.1.1.length ≤ 140737488355328) :
    Calls Tryz.prog 3 #[.slice aD len cap] w fun e w' => e = .returned (.bool true) ∧ Below w.heap.size w w' := by
  have hdn : ∀ W : World, DB6 (W.alloc (.cells #[.int .i64 0, .string { data := #[] }, .int .i64 0, .int .i64 0, .int .i64 0, .int .i64 0] 37)) W.heap.size dZ := fun W => DB6.new W dZ
  have hnew : ∀ W : World, SB (W.alloc (.cells #[.slice none 0 0, .int .i64 0, .int .i64 0, .int .i64 0, .int .i64 0, .int .i64 0, .int .i64 0, .int .i64 0, .int .i64 0, .int .i64 0, .int .i64 0, .slice none 0 0] 31)) W.heap.size x0 := fun W => SB.new W x0
  have HT := Lib.hid ht
  have HD := Lib.hid hD
  have HP := Lib.hid hp
  have HLN := Lib.hid (DvS.len hD)
  have hlc := hD.lc
  have hcm := hD.cm
  unfold maxLen at hcm
  clear ht hD hp
  go_enter Tryz.func3, Tryz.ntmps3
  go_wp2_with fail
  refine (lshown_any w HT.out).mono ?_
  rintro e w1 ⟨rfl, hb1⟩
  have HB1 : Hid (Below w.heap.size w w1) := Lib.hid hb1
  clear hb1
  go_wp2_with fail
  refine (sstart_any w1).mono ?_
  rintro e w2 ⟨rfl, hb2⟩
  have HB2 : Hid (Below w.heap.size w w2) := Lib.hid (HB1.out.trans (hb2.mono HB1.out.size))
  clear hb2
  obtain ⟨S, hS⟩ : ∃ S, S = w2.heap.size := ⟨_, rfl⟩
  have HSG1 : Hid (w.heap.size ≤ S) := Lib.hid (by rw [hS]; exact HB2.out.size)
  go_wp2_with (refine store_scope rfl (.tmp 4) (.tmp 16) rfl _ rfl xS rfl rfl x0 rfl (hnew w2) ?_; rw [← hS]; intro w3 he3 hq3; have HS3 := Lib.hid he3; have HB23 : Hid (Below w2.heap.size w2 w3) := Lib.hid ((below_alloc w2 _).trans (hq3.below (by rw [hS]; exact Nat.le_refl _))); clear he3 hq3 hS)
  have HB3 : Hid (Below w.heap.size w w3) := Lib.hid (HB2.out.trans (HB23.out.mono HB2.out.size))
  clear HB23
  refine (rsstart_any w3).mono ?_
  rintro e w4 ⟨rfl, hb4⟩
  have HS4 := Lib.hid (HS3.out.below hb4)
  have HB4 : Hid (Below w.heap.size w w4) := Lib.hid (HB3.out.trans (hb4.mono HB3.out.size))
  clear hb4 HS3
  obtain ⟨Y, hY⟩ : ∃ Y, Y = w4.heap.size := ⟨_, rfl⟩
  have HSG2 : Hid (w.heap.size ≤ Y) := Lib.hid (by rw [hY]; exact HB4.out.size)
  have HSY : Hid (S < Y) := Lib.hid (by rw [hY]; exact HS4.out.lt)
  go_wp2_with (first
    | (refine wpList_oneS rfl (.tmp 20) rfl xS rfl rfl ?_; intro w7 gB hgB hoB hbB hsB; have HOB := Lib.hid hoB; have HB67 : Hid (Below w6.heap.size w6 w7) := Lib.hid hbB; have HGB : Hid (gA < gB) := Lib.hid (by rw [hgB]; exact (own_blockF HOA.out).2); clear hgB hoB hbB hsB)
    | (refine load_scope rfl (.tmp 5) rfl Y rfl xS rfl (HY5.out.below HB56.out) ?_)
    | (refine wpList_oneS rfl (.tmp 18) rfl xS rfl rfl ?_; intro w6 gA hgA hoA hbA hsA; have HOA := Lib.hid hoA; have HB56 : Hid (Below w5.heap.size w5 w6) := Lib.hid hbA; clear hgA hoA hbA hsA)
    | (refine load_scope rfl (.tmp 4) rfl S rfl xS rfl HS5.out ?_)
    | (refine store_scope rfl (.tmp 5) (.tmp 17) rfl _ rfl xS rfl rfl x0 rfl (hnew w4) ?_; rw [← hY]; intro w5 he5 hq5; have HY5 := Lib.hid he5; have HB45 : Hid (Below w4.heap.size w4 w5) := Lib.hid ((below_alloc w4 _).trans (hq5.below (by rw [hY]; exact Nat.le_refl _))); have HS5 := Lib.hid (HS4.out.below HB45.out); clear he5 hq5 hY))
  obtain ⟨F, hF⟩ : ∃ F, F = w5.heap.size := ⟨_, rfl⟩
  have HSF : Hid (S < F ∧ Y < F ∧ S ≠ Y) := Lib.hid ⟨by rw [hF]; exact HS5.out.lt, by rw [hF]; exact HY5.out.lt, Nat.ne_of_lt HSY.out⟩
  have HPI : Hid (PInv F w7 S Y gA 1 1 gB 1 1 xS xS [xS] [xS]) := Lib.hid ⟨(HS5.out.below HB56.out).below HB67.out, (HY5.out.below HB56.out).below HB67.out, xS_own _, xS_own _, (hF ▸ HOA.out).keep HB67.out (Nat.le_refl _), HOB.out.weak (by rw [hF]; exact HB56.out.size), Nat.ne_of_lt HGB.out, (fun q hq => by rw [List.mem_singleton.1 hq]; exact xS_own _), fun q hq => by rw [List.mem_singleton.1 hq]; exact xS_own _⟩
  have HFW : Hid (w.heap.size ≤ F) := Lib.hid (by rw [hF]; exact Nat.le_trans HB4.out.size HB45.out.size)
  have HAL : Hid (Alike xS xS [xS] [xS]) := Lib.hid ⟨rfl, okS_start, rfl, fun q hq => by rw [List.mem_singleton.1 hq]; exact okS_start⟩
  have HB7 : Hid (Below w.heap.size w w7) := Lib.hid (HB4.out.trans ((HB45.out.trans ((HB56.out.trans (HB67.out.mono HB56.out.size)).mono HB45.out.size)).mono HB4.out.size))
  clear hF HOA HOB HGB HB45 HB56 HB67 HS4 HS5 HY5 HSY HB1 HB2 HB3 HB4
  go_loopw [6, 7, 8] (fun u v t wr => ∃ (i gA cA gB cB : Nat) (x y : XV) (X Z : List XV), u = .slice (some ⟨gA, 0, none⟩) (i + 1) cA ∧ v = .slice (some ⟨gB, 0, none⟩) (i + 1) cB ∧ t = .int .i64 i ∧ i ≤ len ∧ i ≤ 50 ∧ Hid (PInv F wr S Y gA (i + 1) cA gB (i + 1) cB x y X Z) ∧ Hid (Alike x y X Z) ∧ Hid (Below w.heap.size w wr)) (fun _ _ t _ => len - (intOf t).toNat)
  case atStart => exact ⟨0, gA, 1, gB, 1, xS, xS, [xS], [xS], rfl, rfl, rfl, Nat.zero_le _, Nat.zero_le _, HPI, HAL, HB7⟩
  case round =>
    clear HPI HAL HB7
    obtain ⟨i, gA, cA, gB, cB, x, y, X, Z, rfl, rfl, rfl, hi, hi50, HPI, HAL, HB⟩ := hrel
    by_cases hgo : i < len ∧ i < 50
    · obtain ⟨hlt, hlt50⟩ := hgo
      have hg1 : (i : Int) < (len : Int) := by omega
      have hg2 : (i : Int) < 50 := by omega
      have hs := Vs.below HD.out HB.out
      obtain ⟨b, off, rfl, hbl, _⟩ := hs.at_ (by omega)
      have HBL := Lib.hid hbl
      clear hbl
      have HC : Hid (∀ j, j < 6 → wr.cell? ⟨b, off + i * 6 + j, none⟩ = (dvC (dvA D i))[j]?) := Lib.hid (DvS.cells6 hs hlt)
      have HPD : Hid ((dvA D i).2.1.1.length ≤ 140737488355328) := Lib.hid (HP.out _ (dvA_mem (by rw [HLN.out]; exact hlt)))
      obtain ⟨d, hd⟩ : ∃ d, d = dvA D i := ⟨_, rfl⟩
      rw [← hd] at HC HPD
      clear hs hd
      obtain ⟨r, hr, hr10⟩ : ∃ r : Nat, Int.tmod (i : Int) 10 = (r : Int) ∧ r < 10 := ⟨i % 10, by rw [Int.tmod_eq_emod_of_nonneg (by omega)]; omega, by omega⟩
      have hre : (i : Int) % 10 = (r : Int) := by rw [← hr, Int.tmod_eq_emod_of_nonneg (by omega)]
      have HFR := Lib.hid (fitD_rng d)
      have HZx : Hid (x.e.z.length = 10) := Lib.hid HPI.out.ox.z
      have HZy : Hid (y.e.z.length = 10) := Lib.hid HPI.out.oy.z
      go_wp2_with (refine load_declat rfl (.tmp 34) rfl b (off + i * 6) rfl d HC.out ?_)
      refine (lfit_any d wr HPD.out).mono ?_
      rintro e v1 ⟨rfl, hb1⟩
      have HV1 : Hid (Below wr.heap.size wr v1) := Lib.hid hb1
      clear hb1
      obtain ⟨E, hE⟩ : ∃ E, E = v1.heap.size := ⟨_, rfl⟩
      have HGE : Hid (wr.heap.size ≤ E) := Lib.hid (by rw [hE]; exact HV1.out.size)
      by_cases h9 : r = 9
      · subst h9
        obtain ⟨p, hpd⟩ : ∃ p, p = d.2.1.1 := ⟨_, rfl⟩
        obtain ⟨v, hv1, hv60, hmin, hsl⟩ := cut60s p
        have HPP : Hid (d = (d.1, (p, d.2.1.2), d.2.2)) := Lib.hid (by rw [hpd])
        have hpl : p.length ≤ 140737488355328 := by rw [hpd]; exact HPD.out
        have hmks := mk_size p
        clear hpd
        go_upto_region 13 with (first
          | (refine store_dp rfl (.tmp 54) (.tmp 52) rfl E rfl (p.take v) rfl d HE3.out ?_; intro v4 hd4 hq4; have HE4 := Lib.hid hd4; have HQ4 := Lib.hid hq4; clear hd4 hq4)
          | (refine store_decl6 rfl (.tmp 9) (.tmp 43) rfl E rfl d rfl (fitD d) HE2.out ?_; intro v3 hd3 hq3; have HE3 := Lib.hid hd3; have HQ3 := Lib.hid hq3; obtain ⟨_, t1, _, _, _, _⟩ := hd3.at; rw [HPP.out] at t1; dsimp only at t1; clear hd3 hq3)
          | (refine load_declat rfl (.tmp 42) rfl b (off + i * 6) rfl d HC2.out ?_)
          | (refine store_decl6 rfl (.tmp 9) (.tmp 36) rfl _ rfl (fitD d) rfl dZ (hdn v1) ?_; rw [← hE]; intro v2 hd2 hq2; have HE2 := Lib.hid hd2; have HV2 : Hid (Below wr.heap.size wr v2) := Lib.hid (HV1.out.trans ((((below_alloc v1 _).trans (hq2.below (by rw [hE]; exact Nat.le_refl _)))).mono HV1.out.size)); have HC2 : Hid (∀ j, j < 6 → v2.cell? ⟨b, off + i * 6 + j, none⟩ = (dvC d)[j]?) := Lib.hid (fun j hj => (HV2.out.cell (p := ⟨b, off + i * 6 + j, none⟩) HBL.out).trans (HC.out j hj)); clear hd2 hq2 hE))
        have HV4 : Hid (Below wr.heap.size wr v4) := Lib.hid ((HV2.out.trans (HQ3.out.below HGE.out)).trans (HQ4.out.below HGE.out))
        have HPI4 := Lib.hid (HPI.out.below HV4.out)
        have HDD : Hid (∃ dd : DV, DB6 v4 E dd ∧ dd.2.1.1.length ≤ 200) := Lib.hid ⟨_, HE4.out, by show (p.take v).length ≤ 200; rw [List.length_take]; omega⟩
        clear hmks t1 hsl hmin hv1 hv60 hpl HC2 HE2 HE3 HE4 HV2 HQ3 HQ4 HPP HPI HV1 HC
        obtain ⟨dd, hdd, hdl⟩ := HDD.out
        have HE := Lib.hid hdd
        have HDL := Lib.hid hdl
        clear hdd hdl HDD
        have HBv : Hid (Below w.heap.size w v4) := Lib.hid (HB.out.trans (HV4.out.mono HB.out.size))
        go_wp2_with (first
          | (refine load_decl rfl (.tmp 9) rfl E rfl dd HE.out ?_)
          | (refine load_scope rfl (.tmp 4) rfl S rfl x HZx.out HPI4.out.sx ?_))
        refine (sstep_any x dd v4 (HT.out.keep HBv.out) HPI4.out.ox.ok HAL.out.2.1 (by have := HDL.out; omega)).mono ?_
        obtain ⟨V, hV⟩ : ∃ V, V = stpE x.k dd := ⟨_, rfl⟩
        obtain ⟨N, hN⟩ : ∃ N, N = stpV x.k dd := ⟨_, rfl⟩
        have HVN : Hid (stpE y.k dd = V ∧ stpV y.k dd = N ∧ okS N) := Lib.hid ⟨by rw [hV, HAL.out.1], by rw [hN, HAL.out.1], by rw [hN]; exact okS_V HAL.out.2.1 dd⟩
        rw [← hV, ← hN]
        clear hV hN
        rintro e v6 ⟨a, rfl, ho6, hk6, hb6⟩
        have HO6 := Lib.hid ho6
        have HK6 := Lib.hid hk6
        have HP6 := Lib.hid (HPI4.out.below hb6)
        have HE6 := Lib.hid (HE.out.below hb6)
        have HB6 : Hid (Below w.heap.size w v6) := Lib.hid (HBv.out.trans (hb6.mono HBv.out.size))
        have HZa : Hid (a.e.z.length = 10) := Lib.hid ho6.z
        clear ho6 hk6 hb6
        obtain ⟨T1, hT1⟩ : ∃ T, T = v6.heap.size := ⟨_, rfl⟩
        have HT1G : Hid (F ≤ T1) := Lib.hid (by rw [hT1]; have := own_blockF HP6.out.ra; omega)
        go_wp2_with (first
          | (refine load_decl rfl (.tmp 9) rfl E rfl dd HE7.out ?_)
          | (refine load_scope rfl (.tmp 5) rfl Y rfl y HZy.out HP7.out.sy ?_)
          | (refine store_scope rfl (.tmp 10) (.tmp 59) rfl _ rfl a rfl HZa.out x0 rfl (hnew v6) ?_; rw [← hT1]; intro v7 he7 hq7; have HT7 := Lib.hid he7; have HB67 : Hid (Below v6.heap.size v6 v7) := Lib.hid ((below_alloc v6 _).trans (hq7.below (by rw [hT1]; exact Nat.le_refl _))); have HP7 := Lib.hid (HP6.out.below HB67.out); have HE7 := Lib.hid (HE6.out.below HB67.out); clear he7 hq7 hT1))
        have HB7 : Hid (Below w.heap.size w v7) := Lib.hid (HB6.out.trans (HB67.out.mono HB6.out.size))
        refine (rsstep_any y dd v7 HP7.out.oy (by rw [← HAL.out.1]; exact HAL.out.2.1) HDL.out).mono ?_
        rw [HVN.out.1, HVN.out.2.1]
        rintro e v8 ⟨b', rfl, ho8, hk8, hb8⟩
        have HO8 := Lib.hid ho8
        have HK8 := Lib.hid hk8
        have HP8 := Lib.hid (HP7.out.below hb8)
        have HT8 := Lib.hid (HT7.out.below hb8)
        have HA8 := Lib.hid ((HO6.out.below HB67.out).below hb8)
        have HB8 : Hid (Below w.heap.size w v8) := Lib.hid (HB7.out.trans (hb8.mono HB7.out.size))
        have HZb : Hid (b'.e.z.length = 10) := Lib.hid ho8.z
        clear ho8 hk8 hb8 HP6 HP7 HE6 HE7 HT7 HB6 HB67 HB7 HPI4 HE
        obtain ⟨T2, hT2⟩ : ∃ T, T = v8.heap.size := ⟨_, rfl⟩
        have HT2G : Hid (F ≤ T2) := Lib.hid (by rw [hT2]; have := own_blockF HP8.out.ra; omega)
        go_wp2_with (first
          | (refine load_scope rfl (.tmp 12) rfl T2 rfl b' HZb.out HU9.out ?_)
          | (refine load_scope rfl (.tmp 10) rfl T1 rfl a HZa.out HT9.out ?_)
          | (refine store_scope rfl (.tmp 12) (.tmp 65) rfl _ rfl b' rfl HZb.out x0 rfl (hnew v8) ?_; rw [← hT2]; intro v9 he9 hq9; have HU9 := Lib.hid he9; have HB89 : Hid (Below v8.heap.size v8 v9) := Lib.hid ((below_alloc v8 _).trans (hq9.below (by rw [hT2]; exact Nat.le_refl _))); have HP9 := Lib.hid (HP8.out.below HB89.out); have HT9 := Lib.hid (HT8.out.below HB89.out); clear he9 hq9 hT2))
        have HB9 : Hid (Below w.heap.size w v9) := Lib.hid (HB8.out.trans (HB89.out.mono HB8.out.size))
        have HA9 := Lib.hid (HA8.out.below HB89.out)
        have HO9 := Lib.hid (HO8.out.below HB89.out)
        refine (sequal_any a b' v9 HA9.out.ok HO9.out.ok (by rw [HK6.out]; exact HVN.out.2.2) (by rw [HK6.out, HK8.out])).mono ?_
        rintro e v10 ⟨rfl, hb10⟩
        have HP10 := Lib.hid (HP9.out.below hb10)
        have HT10 := Lib.hid (HT9.out.below hb10)
        have HU10 := Lib.hid (HU9.out.below hb10)
        have HA10 := Lib.hid (HA9.out.below hb10)
        have HO10 := Lib.hid (HO9.out.below hb10)
        have HB10 : Hid (Below w.heap.size w v10) := Lib.hid (HB9.out.trans (hb10.mono HB9.out.size))
        have HTG : Hid (S ≠ T2) := Lib.hid (by have := HT2G.out; have := HSF.out.1; omega)
        clear hb10 HP8 HP9 HT8 HT9 HU9 HA8 HA9 HO8 HO9 HB8 HB89 HB9 HO6
        by_cases hv : V = 0
        · subst hv
          go_wp2_with (first
            | (refine wpList_appvw rfl (.tmp 84) (.tmp 86) 33 rfl 31 F 12 128 _ Tryz.underlying33 scopes_info rfl (by decide) gB (i + 1) cB (rowX Z) rfl HP15.out.rb g15 0 1 1 _ rfl HL15.out (by decide) (rowX_one1 _) (by unfold maxLen; omega) (by omega) (by have := own_blockF HP15.out.ra; omega) ?_; intro g16 c16 v16 ho16 hg16 hb16 hw16; have HP16 := Lib.hid (HP15.out.appB ho16 hg16 hw16 ⟨HSF.out.1, HSF.out.2.1⟩); have HB16 : Hid (Below w.heap.size w v16) := Lib.hid (HB15.out.trans (hb16.mono (HFW.out))); clear ho16 hg16 hb16 hw16)
            | (refine wpList_oneS rfl (.tmp 85) rfl b' HZb.out rfl ?_; intro v15 g15 hg15 ho15 hb15 _; have HL15 := Lib.hid ho15.vs; have HP15 := Lib.hid (HP14.out.below hb15); have HB15 : Hid (Below w.heap.size w v15) := Lib.hid (HB14.out.trans (hb15.mono HB14.out.size)); clear hg15 ho15 hb15)
            | (refine load_scope rfl (.tmp 5) rfl Y rfl b' HZb.out HP14.out.sy ?_)
            | (refine wpList_appvw rfl (.tmp 80) (.tmp 82) 33 rfl 31 F 12 128 _ Tryz.underlying33 scopes_info rfl (by decide) gA (i + 1) cA (rowX X) rfl HP13.out.ra g13 0 1 1 _ rfl HL13.out (by decide) (rowX_one1 _) (by unfold maxLen; omega) (by omega) (by have := own_blockF HP13.out.ra; omega) ?_; intro g14 c14 v14 ho14 hg14 hb14 hw14; have HP14 := Lib.hid (HP13.out.appA ho14 hg14 hw14 ⟨HSF.out.1, HSF.out.2.1⟩); have HB14 : Hid (Below w.heap.size w v14) := Lib.hid (HB13.out.trans (hb14.mono (HFW.out))); clear ho14 hg14 hb14 hw14)
            | (refine wpList_oneS rfl (.tmp 81) rfl a HZa.out rfl ?_; intro v13 g13 hg13 ho13 hb13 _; have HL13 := Lib.hid ho13.vs; have HP13 := Lib.hid (HP12.out.below hb13); have HB13 : Hid (Below w.heap.size w v13) := Lib.hid (HB12.out.trans (hb13.mono HB12.out.size)); clear hg13 ho13 hb13)
            | (refine load_scope rfl (.tmp 4) rfl S rfl a HZa.out HP12.out.sx ?_)
            | (refine store_scope rfl (.tmp 5) (.tmp 79) rfl Y rfl b' rfl HZb.out y HZy.out (HP10.out.sy.only HQ11.out (Ne.symm HSF.out.2.2)) ?_; intro v12 he12 hq12; have HP12 : Hid (PInv F v12 S Y gA (i + 1) cA gB (i + 1) cB a b' X Z) := Lib.hid (HP10.out.two HQ11.out HS11.out hq12 he12 HA10.out HO10.out HSF.out); have HB12 : Hid (Below w.heap.size w v12) := Lib.hid ((HB10.out.trans (HQ11.out.below HSG1.out)).trans (hq12.below HSG2.out)); clear he12 hq12)
            | (refine load_scope rfl (.tmp 12) rfl T2 rfl b' HZb.out (HU10.out.only HQ11.out (Ne.symm HTG.out)) ?_)
            | (refine store_scope rfl (.tmp 4) (.tmp 78) rfl S rfl a rfl HZa.out x HZx.out HP10.out.sx ?_; intro v11 he11 hq11; have HS11 := Lib.hid he11; have HQ11 := Lib.hid hq11; clear he11 hq11)
            | (refine load_scope rfl (.tmp 10) rfl T1 rfl a HZa.out HT10.out ?_))
          have HALn := Lib.hid (HAL.out.app (a := a) (b := b') (by rw [HK6.out, HK8.out]) (by rw [HK6.out]; exact HVN.out.2.2))
          go_wp2
          go_roundw
          case rel => exact ⟨i + 1, g14, c14, g16, c16, a, b', X ++ [a], Z ++ [b'], rfl, rfl, by go_num, by omega, by omega, HP16, HALn, HB16⟩
          case measure => simp [intOf]; omega
        · go_wp2_with (first
            | (refine wpList_appvw rfl (.tmp 84) (.tmp 86) 33 rfl 31 F 12 128 _ Tryz.underlying33 scopes_info rfl (by decide) gB (i + 1) cB (rowX Z) rfl HP15.out.rb g15 0 1 1 _ rfl HL15.out (by decide) (rowX_one1 _) (by unfold maxLen; omega) (by omega) (by have := own_blockF HP15.out.ra; omega) ?_; intro g16 c16 v16 ho16 hg16 hb16 hw16; have HP16 := Lib.hid (HP15.out.appB ho16 hg16 hw16 ⟨HSF.out.1, HSF.out.2.1⟩); have HB16 : Hid (Below w.heap.size w v16) := Lib.hid (HB15.out.trans (hb16.mono (HFW.out))); clear ho16 hg16 hb16 hw16)
            | (refine wpList_oneS rfl (.tmp 85) rfl y HZy.out rfl ?_; intro v15 g15 hg15 ho15 hb15 _; have HL15 := Lib.hid ho15.vs; have HP15 := Lib.hid (HP14.out.below hb15); have HB15 : Hid (Below w.heap.size w v15) := Lib.hid (HB14.out.trans (hb15.mono HB14.out.size)); clear hg15 ho15 hb15)
            | (refine load_scope rfl (.tmp 5) rfl Y rfl y HZy.out HP14.out.sy ?_)
            | (refine wpList_appvw rfl (.tmp 80) (.tmp 82) 33 rfl 31 F 12 128 _ Tryz.underlying33 scopes_info rfl (by decide) gA (i + 1) cA (rowX X) rfl HP13.out.ra g13 0 1 1 _ rfl HL13.out (by decide) (rowX_one1 _) (by unfold maxLen; omega) (by omega) (by have := own_blockF HP13.out.ra; omega) ?_; intro g14 c14 v14 ho14 hg14 hb14 hw14; have HP14 := Lib.hid (HP13.out.appA ho14 hg14 hw14 ⟨HSF.out.1, HSF.out.2.1⟩); have HB14 : Hid (Below w.heap.size w v14) := Lib.hid (HB13.out.trans (hb14.mono (HFW.out))); clear ho14 hg14 hb14 hw14)
            | (refine wpList_oneS rfl (.tmp 81) rfl x HZx.out rfl ?_; intro v13 g13 hg13 ho13 hb13 _; have HL13 := Lib.hid ho13.vs; have HP13 := Lib.hid (HP10.out.below hb13); have HB13 : Hid (Below w.heap.size w v13) := Lib.hid (HB10.out.trans (hb13.mono HB10.out.size)); clear hg13 ho13 hb13)
            | (refine load_scope rfl (.tmp 4) rfl S rfl x HZx.out HP10.out.sx ?_))
          have HALn := Lib.hid (HAL.out.app HAL.out.1 HAL.out.2.1)
          go_wp2
          go_roundw
          case rel => exact ⟨i + 1, g14, c14, g16, c16, x, y, X ++ [x], Z ++ [y], rfl, rfl, by go_num, by omega, by omega, HP16, HALn, HB16⟩
          case measure => simp [intOf]; omega
      · have h9' : ¬ (r : Int) = 9 := by omega
        go_upto_region 13 with (refine store_decl6 rfl (.tmp 9) (.tmp 36) rfl _ rfl (fitD d) rfl dZ (hdn v1) ?_; rw [← hE]; intro v4 hd2 hq2; have HE4 := Lib.hid hd2; have HV4 : Hid (Below wr.heap.size wr v4) := Lib.hid (HV1.out.trans ((((below_alloc v1 _).trans (hq2.below (by rw [hE]; exact Nat.le_refl _)))).mono HV1.out.size)); clear hd2 hq2 hE)
        have HPI4 := Lib.hid (HPI.out.below HV4.out)
        have HDD : Hid (∃ dd : DV, DB6 v4 E dd ∧ dd.2.1.1.length ≤ 200) := Lib.hid ⟨_, HE4.out, by have := HFR.out.2.1; omega⟩
        clear HE4 HPI HV1 HC
        obtain ⟨dd, hdd, hdl⟩ := HDD.out
        have HE := Lib.hid hdd
        have HDL := Lib.hid hdl
        clear hdd hdl HDD
        have HBv : Hid (Below w.heap.size w v4) := Lib.hid (HB.out.trans (HV4.out.mono HB.out.size))
        go_wp2_with (first
          | (refine load_decl rfl (.tmp 9) rfl E rfl dd HE.out ?_)
          | (refine load_scope rfl (.tmp 4) rfl S rfl x HZx.out HPI4.out.sx ?_))
        refine (sstep_any x dd v4 (HT.out.keep HBv.out) HPI4.out.ox.ok HAL.out.2.1 (by have := HDL.out; omega)).mono ?_
        obtain ⟨V, hV⟩ : ∃ V, V = stpE x.k dd := ⟨_, rfl⟩
        obtain ⟨N, hN⟩ : ∃ N, N = stpV x.k dd := ⟨_, rfl⟩
        have HVN : Hid (stpE y.k dd = V ∧ stpV y.k dd = N ∧ okS N) := Lib.hid ⟨by rw [hV, HAL.out.1], by rw [hN, HAL.out.1], by rw [hN]; exact okS_V HAL.out.2.1 dd⟩
        rw [← hV, ← hN]
        clear hV hN
        rintro e v6 ⟨a, rfl, ho6, hk6, hb6⟩
        have HO6 := Lib.hid ho6
        have HK6 := Lib.hid hk6
        have HP6 := Lib.hid (HPI4.out.below hb6)
        have HE6 := Lib.hid (HE.out.below hb6)
        have HB6 : Hid (Below w.heap.size w v6) := Lib.hid (HBv.out.trans (hb6.mono HBv.out.size))
        have HZa : Hid (a.e.z.length = 10) := Lib.hid ho6.z
        clear ho6 hk6 hb6
        obtain ⟨T1, hT1⟩ : ∃ T, T = v6.heap.size := ⟨_, rfl⟩
        have HT1G : Hid (F ≤ T1) := Lib.hid (by rw [hT1]; have := own_blockF HP6.out.ra; omega)
        go_wp2_with (first
          | (refine load_decl rfl (.tmp 9) rfl E rfl dd HE7.out ?_)
          | (refine load_scope rfl (.tmp 5) rfl Y rfl y HZy.out HP7.out.sy ?_)
          | (refine store_scope rfl (.tmp 10) (.tmp 59) rfl _ rfl a rfl HZa.out x0 rfl (hnew v6) ?_; rw [← hT1]; intro v7 he7 hq7; have HT7 := Lib.hid he7; have HB67 : Hid (Below v6.heap.size v6 v7) := Lib.hid ((below_alloc v6 _).trans (hq7.below (by rw [hT1]; exact Nat.le_refl _))); have HP7 := Lib.hid (HP6.out.below HB67.out); have HE7 := Lib.hid (HE6.out.below HB67.out); clear he7 hq7 hT1))
        have HB7 : Hid (Below w.heap.size w v7) := Lib.hid (HB6.out.trans (HB67.out.mono HB6.out.size))
        refine (rsstep_any y dd v7 HP7.out.oy (by rw [← HAL.out.1]; exact HAL.out.2.1) HDL.out).mono ?_
        rw [HVN.out.1, HVN.out.2.1]
        rintro e v8 ⟨b', rfl, ho8, hk8, hb8⟩
        have HO8 := Lib.hid ho8
        have HK8 := Lib.hid hk8
        have HP8 := Lib.hid (HP7.out.below hb8)
        have HT8 := Lib.hid (HT7.out.below hb8)
        have HA8 := Lib.hid ((HO6.out.below HB67.out).below hb8)
        have HB8 : Hid (Below w.heap.size w v8) := Lib.hid (HB7.out.trans (hb8.mono HB7.out.size))
        have HZb : Hid (b'.e.z.length = 10) := Lib.hid ho8.z
        clear ho8 hk8 hb8 HP6 HP7 HE6 HE7 HT7 HB6 HB67 HB7 HPI4 HE
        obtain ⟨T2, hT2⟩ : ∃ T, T = v8.heap.size := ⟨_, rfl⟩
        have HT2G : Hid (F ≤ T2) := Lib.hid (by rw [hT2]; have := own_blockF HP8.out.ra; omega)
        go_wp2_with (first
          | (refine load_scope rfl (.tmp 12) rfl T2 rfl b' HZb.out HU9.out ?_)
          | (refine load_scope rfl (.tmp 10) rfl T1 rfl a HZa.out HT9.out ?_)
          | (refine store_scope rfl (.tmp 12) (.tmp 65) rfl _ rfl b' rfl HZb.out x0 rfl (hnew v8) ?_; rw [← hT2]; intro v9 he9 hq9; have HU9 := Lib.hid he9; have HB89 : Hid (Below v8.heap.size v8 v9) := Lib.hid ((below_alloc v8 _).trans (hq9.below (by rw [hT2]; exact Nat.le_refl _))); have HP9 := Lib.hid (HP8.out.below HB89.out); have HT9 := Lib.hid (HT8.out.below HB89.out); clear he9 hq9 hT2))
        have HB9 : Hid (Below w.heap.size w v9) := Lib.hid (HB8.out.trans (HB89.out.mono HB8.out.size))
        have HA9 := Lib.hid (HA8.out.below HB89.out)
        have HO9 := Lib.hid (HO8.out.below HB89.out)
        refine (sequal_any a b' v9 HA9.out.ok HO9.out.ok (by rw [HK6.out]; exact HVN.out.2.2) (by rw [HK6.out, HK8.out])).mono ?_
        rintro e v10 ⟨rfl, hb10⟩
        have HP10 := Lib.hid (HP9.out.below hb10)
        have HT10 := Lib.hid (HT9.out.below hb10)
        have HU10 := Lib.hid (HU9.out.below hb10)
        have HA10 := Lib.hid (HA9.out.below hb10)
        have HO10 := Lib.hid (HO9.out.below hb10)
        have HB10 : Hid (Below w.heap.size w v10) := Lib.hid (HB9.out.trans (hb10.mono HB9.out.size))
        have HTG : Hid (S ≠ T2) := Lib.hid (by have := HT2G.out; have := HSF.out.1; omega)
        clear hb10 HP8 HP9 HT8 HT9 HU9 HA8 HA9 HO8 HO9 HB8 HB89 HB9 HO6
        by_cases hv : V = 0
        · subst hv
          go_wp2_with (first
            | (refine wpList_appvw rfl (.tmp 84) (.tmp 86) 33 rfl 31 F 12 128 _ Tryz.underlying33 scopes_info rfl (by decide) gB (i + 1) cB (rowX Z) rfl HP15.out.rb g15 0 1 1 _ rfl HL15.out (by decide) (rowX_one1 _) (by unfold maxLen; omega) (by omega) (by have := own_blockF HP15.out.ra; omega) ?_; intro g16 c16 v16 ho16 hg16 hb16 hw16; have HP16 := Lib.hid (HP15.out.appB ho16 hg16 hw16 ⟨HSF.out.1, HSF.out.2.1⟩); have HB16 : Hid (Below w.heap.size w v16) := Lib.hid (HB15.out.trans (hb16.mono (HFW.out))); clear ho16 hg16 hb16 hw16)
            | (refine wpList_oneS rfl (.tmp 85) rfl b' HZb.out rfl ?_; intro v15 g15 hg15 ho15 hb15 _; have HL15 := Lib.hid ho15.vs; have HP15 := Lib.hid (HP14.out.below hb15); have HB15 : Hid (Below w.heap.size w v15) := Lib.hid (HB14.out.trans (hb15.mono HB14.out.size)); clear hg15 ho15 hb15)
            | (refine load_scope rfl (.tmp 5) rfl Y rfl b' HZb.out HP14.out.sy ?_)
            | (refine wpList_appvw rfl (.tmp 80) (.tmp 82) 33 rfl 31 F 12 128 _ Tryz.underlying33 scopes_info rfl (by decide) gA (i + 1) cA (rowX X) rfl HP13.out.ra g13 0 1 1 _ rfl HL13.out (by decide) (rowX_one1 _) (by unfold maxLen; omega) (by omega) (by have := own_blockF HP13.out.ra; omega) ?_; intro g14 c14 v14 ho14 hg14 hb14 hw14; have HP14 := Lib.hid (HP13.out.appA ho14 hg14 hw14 ⟨HSF.out.1, HSF.out.2.1⟩); have HB14 : Hid (Below w.heap.size w v14) := Lib.hid (HB13.out.trans (hb14.mono (HFW.out))); clear ho14 hg14 hb14 hw14)
            | (refine wpList_oneS rfl (.tmp 81) rfl a HZa.out rfl ?_; intro v13 g13 hg13 ho13 hb13 _; have HL13 := Lib.hid ho13.vs; have HP13 := Lib.hid (HP12.out.below hb13); have HB13 : Hid (Below w.heap.size w v13) := Lib.hid (HB12.out.trans (hb13.mono HB12.out.size)); clear hg13 ho13 hb13)
            | (refine load_scope rfl (.tmp 4) rfl S rfl a HZa.out HP12.out.sx ?_)
            | (refine store_scope rfl (.tmp 5) (.tmp 79) rfl Y rfl b' rfl HZb.out y HZy.out (HP10.out.sy.only HQ11.out (Ne.symm HSF.out.2.2)) ?_; intro v12 he12 hq12; have HP12 : Hid (PInv F v12 S Y gA (i + 1) cA gB (i + 1) cB a b' X Z) := Lib.hid (HP10.out.two HQ11.out HS11.out hq12 he12 HA10.out HO10.out HSF.out); have HB12 : Hid (Below w.heap.size w v12) := Lib.hid ((HB10.out.trans (HQ11.out.below HSG1.out)).trans (hq12.below HSG2.out)); clear he12 hq12)
            | (refine load_scope rfl (.tmp 12) rfl T2 rfl b' HZb.out (HU10.out.only HQ11.out (Ne.symm HTG.out)) ?_)
            | (refine store_scope rfl (.tmp 4) (.tmp 78) rfl S rfl a rfl HZa.out x HZx.out HP10.out.sx ?_; intro v11 he11 hq11; have HS11 := Lib.hid he11; have HQ11 := Lib.hid hq11; clear he11 hq11)
            | (refine load_scope rfl (.tmp 10) rfl T1 rfl a HZa.out HT10.out ?_))
          have HALn := Lib.hid (HAL.out.app (a := a) (b := b') (by rw [HK6.out, HK8.out]) (by rw [HK6.out]; exact HVN.out.2.2))
          go_wp2
          go_roundw
          case rel => exact ⟨i + 1, g14, c14, g16, c16, a, b', X ++ [a], Z ++ [b'], rfl, rfl, by go_num, by omega, by omega, HP16, HALn, HB16⟩
          case measure => simp [intOf]; omega
        · go_wp2_with (first
            | (refine wpList_appvw rfl (.tmp 84) (.tmp 86) 33 rfl 31 F 12 128 _ Tryz.underlying33 scopes_info rfl (by decide) gB (i + 1) cB (rowX Z) rfl HP15.out.rb g15 0 1 1 _ rfl HL15.out (by decide) (rowX_one1 _) (by unfold maxLen; omega) (by omega) (by have := own_blockF HP15.out.ra; omega) ?_; intro g16 c16 v16 ho16 hg16 hb16 hw16; have HP16 := Lib.hid (HP15.out.appB ho16 hg16 hw16 ⟨HSF.out.1, HSF.out.2.1⟩); have HB16 : Hid (Below w.heap.size w v16) := Lib.hid (HB15.out.trans (hb16.mono (HFW.out))); clear ho16 hg16 hb16 hw16)
            | (refine wpList_oneS rfl (.tmp 85) rfl y HZy.out rfl ?_; intro v15 g15 hg15 ho15 hb15 _; have HL15 := Lib.hid ho15.vs; have HP15 := Lib.hid (HP14.out.below hb15); have HB15 : Hid (Below w.heap.size w v15) := Lib.hid (HB14.out.trans (hb15.mono HB14.out.size)); clear hg15 ho15 hb15)
            | (refine load_scope rfl (.tmp 5) rfl Y rfl y HZy.out HP14.out.sy ?_)
            | (refine wpList_appvw rfl (.tmp 80) (.tmp 82) 33 rfl 31 F 12 128 _ Tryz.underlying33 scopes_info rfl (by decide) gA (i + 1) cA (rowX X) rfl HP13.out.ra g13 0 1 1 _ rfl HL13.out (by decide) (rowX_one1 _) (by unfold maxLen; omega) (by omega) (by have := own_blockF HP13.out.ra; omega) ?_; intro g14 c14 v14 ho14 hg14 hb14 hw14; have HP14 := Lib.hid (HP13.out.appA ho14 hg14 hw14 ⟨HSF.out.1, HSF.out.2.1⟩); have HB14 : Hid (Below w.heap.size w v14) := Lib.hid (HB13.out.trans (hb14.mono (HFW.out))); clear ho14 hg14 hb14 hw14)
            | (refine wpList_oneS rfl (.tmp 81) rfl x HZx.out rfl ?_; intro v13 g13 hg13 ho13 hb13 _; have HL13 := Lib.hid ho13.vs; have HP13 := Lib.hid (HP10.out.below hb13); have HB13 : Hid (Below w.heap.size w v13) := Lib.hid (HB10.out.trans (hb13.mono HB10.out.size)); clear hg13 ho13 hb13)
            | (refine load_scope rfl (.tmp 4) rfl S rfl x HZx.out HP10.out.sx ?_))
          have HALn := Lib.hid (HAL.out.app HAL.out.1 HAL.out.2.1)
          go_wp2
          go_roundw
          case rel => exact ⟨i + 1, g14, c14, g16, c16, x, y, X ++ [x], Z ++ [y], rfl, rfl, by go_num, by omega, by omega, HP16, HALn, HB16⟩
          case measure => simp [intOf]; omega
    · have HPK : Hid (∀ k, k < i + 1 → ∀ w', Below wr.heap.size wr w' → (∀ j, j < 12 → w'.cell? ⟨gA, k * 12 + j, none⟩ = (xvA X k).cs[j]?) ∧ (∀ j, j < 12 → w'.cell? ⟨gB, k * 12 + j, none⟩ = (xvA Z k).cs[j]?) ∧ (xvA X k).ok w' ∧ (xvA Z k).ok w' ∧ okS (xvA X k).k ∧ (xvA X k).k = (xvA Z k).k) := Lib.hid fun k hk w' hb => by
        have hP := HPI.out.below hb
        have hl := hP.lens
        have sA : Sx w' (some ⟨gA, 0, none⟩) (i + 1) cA X := ⟨hP.ra.vs, fun q hq => (hP.hA q hq).ok⟩
        have sB : Sx w' (some ⟨gB, 0, none⟩) (i + 1) cB Z := ⟨hP.rb.vs, fun q hq => (hP.hB q hq).ok⟩
        refine ⟨fun j hj => by have := sA.at hk hj; rw [Nat.zero_add] at this; exact this, fun j hj => by have := sB.at hk hj; rw [Nat.zero_add] at this; exact this, sA.ok _ (xvA_mem (by omega)), sB.ok _ (xvA_mem (by omega)), HAL.out.2.2.2 _ (xvA_mem (by omega)), ?_⟩
        rw [xvA_eq (show k < X.length by omega), xvA_eq (show k < Z.length by omega)]
        have h1 : (X.map XV.k)[k]? = (Z.map XV.k)[k]? := by rw [HAL.out.2.2.1]
        rw [List.getElem?_map, List.getElem?_map, List.getElem?_eq_getElem (show k < X.length by omega), List.getElem?_eq_getElem (show k < Z.length by omega)] at h1
        simpa using h1
      clear HPI HAL
      rcases (show (¬ i < len) ∨ (i < len ∧ ¬ i < 50) by omega) with hx | hx
      · have hg1 : ¬ (i : Int) < (len : Int) := by omega
        clear hx hgo
        obtain ⟨wa, hwa⟩ : ∃ wa, wa = wr := ⟨_, rfl⟩
        rw [← hwa] at HPK HB ⊢
        clear hwa
        have HB0 : Hid (Below wa.heap.size wa wa) := Lib.hid (Below.refl _ _)
        go_wp2
        go_loopw [14] (fun v wr => ∃ q : Nat, v = .int .i64 q ∧ q ≤ i + 1 ∧ Hid (Below wa.heap.size wa wr)) (fun v _ => i + 1 - (intOf v).toNat)
        case atStart => exact ⟨0, rfl, Nat.zero_le _, HB0⟩
        case round =>
          clear HB0
          obtain ⟨q, rfl, hq, HBq⟩ := hrel
          by_cases hlt : q < i + 1
          · have hlt' : (q : Int) < (i : Int) + 1 := by omega
            have HQ := Lib.hid (HPK.out q hlt _ HBq.out)
            go_wp2_with fail
            refine wp_region_noPanic ?_
            refine wp_region_held_drew (S := fun w' => (∀ j, j < 12 → w'.cell? ⟨gA, q * 12 + j, none⟩ = (xvA X q).cs[j]?) ∧ (∀ j, j < 12 → w'.cell? ⟨gB, q * 12 + j, none⟩ = (xvA Z q).cs[j]?)) (by kernel_rfl) (⟨(HPK.out q hlt _ HBq.out.drew).1, (HPK.out q hlt _ HBq.out.drew).2.1⟩) (fun hHeld => ?_)
            refine wpAnyH_take (i := 0) (oi := { dst := some 94, op := Op.move (Operand.tmp 6), type := 33, pos := "law.go:59", after := #[], guard := none }) (v := ?_) rfl (by kernel_rfl) (by kernel_rfl) (by kernel_rfl) (fun _ _ _ h => h) (Or.inl ⟨by rfl, ?_⟩) (by assumption) ?_
            rotate_left
            · intro w' hSw
              try dsimp only at hSw
              go_simp
              try with_reducible rfl
            try simp only [Act.put, List.setIfInBounds_toArray, List.set_cons_zero, List.set_cons_succ]
            refine wpAnyH_take (i := 1) (oi := { dst := some 95, op := Op.move (Operand.tmp 14), type := 3, pos := "law.go:59", after := #[], guard := none }) (v := ?_) rfl (by kernel_rfl) (by kernel_rfl) (by kernel_rfl) (fun _ _ _ h => h) (Or.inl ⟨by rfl, ?_⟩) (by assumption) ?_
            rotate_left
            · intro w' hSw
              try dsimp only at hSw
              go_simp
              try with_reducible rfl
            try simp only [Act.put, List.setIfInBounds_toArray, List.set_cons_zero, List.set_cons_succ]
            refine wpAnyH_take (i := 2) (oi := { dst := some 96, op := Op.indexAddr 33 (Operand.tmp 94) (Operand.tmp 95), type := 0, pos := "law.go:59", after := #[{ on := 0, ground := Ground.data }, { on := 1, ground := Ground.data }], guard := none }) (v := ?_) rfl (by kernel_rfl) (by kernel_rfl) (by kernel_rfl) (fun _ _ _ h => h) (Or.inl ⟨by rfl, ?_⟩) (by assumption) ?_
            rotate_left
            · intro w' hSw
              try dsimp only at hSw
              go_simp
              try with_reducible rfl
            try simp only [Act.put, List.setIfInBounds_toArray, List.set_cons_zero, List.set_cons_succ]
            refine take_scope (i := 3) (oi := { dst := some 97, op := Op.load 31 (Operand.tmp 96), type := 31, pos := "law.go:59", after := #[{ on := 2, ground := Ground.data }], guard := none }) (Operand.tmp 96) rfl (by kernel_rfl) (by kernel_rfl) (by kernel_rfl) (xvA X q) (fun _ _ _ h => h) (by rfl) rfl (gA) (q * 12) rfl (HQ.out.2.2.1.1.2) (fun w h => h.1) (by assumption) ?_
            try simp only [Act.put, List.setIfInBounds_toArray, List.set_cons_zero, List.set_cons_succ]
            refine wpAnyH_take (i := 4) (oi := { dst := some 98, op := Op.move (Operand.tmp 7), type := 33, pos := "law.go:59", after := #[], guard := none }) (v := ?_) rfl (by kernel_rfl) (by kernel_rfl) (by kernel_rfl) (fun _ _ _ h => h) (Or.inl ⟨by rfl, ?_⟩) (by assumption) ?_
            rotate_left
            · intro w' hSw
              try dsimp only at hSw
              go_simp
              try with_reducible rfl
            try simp only [Act.put, List.setIfInBounds_toArray, List.set_cons_zero, List.set_cons_succ]
            refine wpAnyH_take (i := 5) (oi := { dst := some 99, op := Op.move (Operand.tmp 14), type := 3, pos := "law.go:59", after := #[], guard := none }) (v := ?_) rfl (by kernel_rfl) (by kernel_rfl) (by kernel_rfl) (fun _ _ _ h => h) (Or.inl ⟨by rfl, ?_⟩) (by assumption) ?_
            rotate_left
            · intro w' hSw
              try dsimp only at hSw
              go_simp
              try with_reducible rfl
            try simp only [Act.put, List.setIfInBounds_toArray, List.set_cons_zero, List.set_cons_succ]
            refine wpAnyH_take (i := 6) (oi := { dst := some 100, op := Op.indexAddr 33 (Operand.tmp 98) (Operand.tmp 99), type := 0, pos := "law.go:59", after := #[{ on := 4, ground := Ground.data }, { on := 5, ground := Ground.data }], guard := none }) (v := ?_) rfl (by kernel_rfl) (by kernel_rfl) (by kernel_rfl) (fun _ _ _ h => h) (Or.inl ⟨by rfl, ?_⟩) (by assumption) ?_
            rotate_left
            · intro w' hSw
              try dsimp only at hSw
              go_simp
              try with_reducible rfl
            try simp only [Act.put, List.setIfInBounds_toArray, List.set_cons_zero, List.set_cons_succ]
            refine take_scope (i := 7) (oi := { dst := some 101, op := Op.load 31 (Operand.tmp 100), type := 31, pos := "law.go:59", after := #[{ on := 6, ground := Ground.data }], guard := none }) (Operand.tmp 100) rfl (by kernel_rfl) (by kernel_rfl) (by kernel_rfl) (xvA Z q) (fun _ _ _ h => h) (by rfl) rfl (gB) (q * 12) rfl (HQ.out.2.2.2.1.1.2) (fun w h => h.2) (by assumption) ?_
            try simp only [Act.put, List.setIfInBounds_toArray, List.set_cons_zero, List.set_cons_succ]
            refine wpAnyH_ready (rs := [8]) (by kernel_rfl) (by simp) ?_
            refine AllReadyH.cons (o := { dst := some 102, op := Op.call { callee := Callee.value (Operand.func 11), args := #[Operand.tmp 97, Operand.tmp 101], argTypes := #[31, 31] }, type := 4, pos := "law.go:59", after := #[{ on := 3, ground := Ground.data }, { on := 7, ground := Ground.data }], guard := none }) rfl (fun K hK => ?_) ?_
            · go_simp
              (go_at_call 11; (refine (sequal_any (xvA X q) (xvA Z q) _ (HPK.out q hlt _ HBq.out.drew).2.2.1 (HPK.out q hlt _ HBq.out.drew).2.2.2.1 HQ.out.2.2.2.2.1 HQ.out.2.2.2.2.2).mono ?_); rintro e u1 ⟨rfl, hb1⟩)
              have HBu : Hid (Below wa.heap.size wa u1) := Lib.hid (HBq.out.drew.trans (hb1.mono HBq.out.size))
              clear hb1
              refine hK.out _ _ (⟨(HPK.out q hlt _ HBu.out).1, (HPK.out q hlt _ HBu.out).2.1⟩) (fun hHeld => ?_)
              clear hK K
              try simp only [Act.put, List.setIfInBounds_toArray, List.set_cons_zero, List.set_cons_succ]
              refine wpAnyH_take (i := 9) (oi := { dst := some 103, op := Op.unOp UnOp.not 4 (Operand.tmp 102), type := 4, pos := "law.go:59", after := #[{ on := 8, ground := Ground.data }], guard := none }) (v := ?_) rfl (by kernel_rfl) (by kernel_rfl) (by kernel_rfl) (fun _ _ _ h => h) (Or.inl ⟨by rfl, ?_⟩) (by assumption) ?_
              rotate_left
              · intro w' hSw
                try dsimp only at hSw
                go_simp
                try with_reducible rfl
              try simp only [Act.put, List.setIfInBounds_toArray, List.set_cons_zero, List.set_cons_succ]
              refine wpAnyH_done (by kernel_rfl) ?_ _
              refine NoPanic.normal ?_
              go_wp2
              go_roundw
              case rel => exact ⟨q + 1, by go_num, by omega, HBu⟩
              case measure => simp [intOf]; omega
            · exact AllReadyH.nil
          · have hlt' : ¬ (q : Int) < (i : Int) + 1 := by omega
            go_wp2
            go_ret
            exact ⟨rfl, HB.out.trans (HBq.out.mono HB.out.size)⟩
      · obtain ⟨hx1, hx2⟩ := hx
        have hg1 : (i : Int) < (len : Int) := by omega
        have hg2 : ¬ (i : Int) < 50 := by omega
        clear hx1 hx2 hgo
        obtain ⟨wa, hwa⟩ : ∃ wa, wa = wr := ⟨_, rfl⟩
        rw [← hwa] at HPK HB ⊢
        clear hwa
        have HB0 : Hid (Below wa.heap.size wa wa) := Lib.hid (Below.refl _ _)
        go_wp2
        go_loopw [14] (fun v wr => ∃ q : Nat, v = .int .i64 q ∧ q ≤ i + 1 ∧ Hid (Below wa.heap.size wa wr)) (fun v _ => i + 1 - (intOf v).toNat)
        case atStart => exact ⟨0, rfl, Nat.zero_le _, HB0⟩
        case round =>
          clear HB0
          obtain ⟨q, rfl, hq, HBq⟩ := hrel
          by_cases hlt : q < i + 1
          · have hlt' : (q : Int) < (i : Int) + 1 := by omega
            have HQ := Lib.hid (HPK.out q hlt _ HBq.out)
            go_wp2_with fail
            refine wp_region_noPanic ?_
            refine wp_region_held_drew (S := fun w' => (∀ j, j < 12 → w'.cell? ⟨gA, q * 12 + j, none⟩ = (xvA X q).cs[j]?) ∧ (∀ j, j < 12 → w'.cell? ⟨gB, q * 12 + j, none⟩ = (xvA Z q).cs[j]?)) (by kernel_rfl) (⟨(HPK.out q hlt _ HBq.out.drew).1, (HPK.out q hlt _ HBq.out.drew).2.1⟩) (fun hHeld => ?_)
            refine wpAnyH_take (i := 0) (oi := { dst := some 94, op := Op.move (Operand.tmp 6), type := 33, pos := "law.go:59", after := #[], guard := none }) (v := ?_) rfl (by kernel_rfl) (by kernel_rfl) (by kernel_rfl) (fun _ _ _ h => h) (Or.inl ⟨by rfl, ?_⟩) (by assumption) ?_
            rotate_left
            · intro w' hSw
              try dsimp only at hSw
              go_simp
              try with_reducible rfl
            try simp only [Act.put, List.setIfInBounds_toArray, List.set_cons_zero, List.set_cons_succ]
            refine wpAnyH_take (i := 1) (oi := { dst := some 95, op := Op.move (Operand.tmp 14), type := 3, pos := "law.go:59", after := #[], guard := none }) (v := ?_) rfl (by kernel_rfl) (by kernel_rfl) (by kernel_rfl) (fun _ _ _ h => h) (Or.inl ⟨by rfl, ?_⟩) (by assumption) ?_
            rotate_left
            · intro w' hSw
              try dsimp only at hSw
              go_simp
              try with_reducible rfl
            try simp only [Act.put, List.setIfInBounds_toArray, List.set_cons_zero, List.set_cons_succ]
            refine wpAnyH_take (i := 2) (oi := { dst := some 96, op := Op.indexAddr 33 (Operand.tmp 94) (Operand.tmp 95), type := 0, pos := "law.go:59", after := #[{ on := 0, ground := Ground.data }, { on := 1, ground := Ground.data }], guard := none }) (v := ?_) rfl (by kernel_rfl) (by kernel_rfl) (by kernel_rfl) (fun _ _ _ h => h) (Or.inl ⟨by rfl, ?_⟩) (by assumption) ?_
            rotate_left
            · intro w' hSw
              try dsimp only at hSw
              go_simp
              try with_reducible rfl
            try simp only [Act.put, List.setIfInBounds_toArray, List.set_cons_zero, List.set_cons_succ]
            refine take_scope (i := 3) (oi := { dst := some 97, op := Op.load 31 (Operand.tmp 96), type := 31, pos := "law.go:59", after := #[{ on := 2, ground := Ground.data }], guard := none }) (Operand.tmp 96) rfl (by kernel_rfl) (by kernel_rfl) (by kernel_rfl) (xvA X q) (fun _ _ _ h => h) (by rfl) rfl (gA) (q * 12) rfl (HQ.out.2.2.1.1.2) (fun w h => h.1) (by assumption) ?_
            try simp only [Act.put, List.setIfInBounds_toArray, List.set_cons_zero, List.set_cons_succ]
            refine wpAnyH_take (i := 4) (oi := { dst := some 98, op := Op.move (Operand.tmp 7), type := 33, pos := "law.go:59", after := #[], guard := none }) (v := ?_) rfl (by kernel_rfl) (by kernel_rfl) (by kernel_rfl) (fun _ _ _ h => h) (Or.inl ⟨by rfl, ?_⟩) (by assumption) ?_
            rotate_left
            · intro w' hSw
              try dsimp only at hSw
              go_simp
              try with_reducible rfl
            try simp only [Act.put, List.setIfInBounds_toArray, List.set_cons_zero, List.set_cons_succ]
            refine wpAnyH_take (i := 5) (oi := { dst := some 99, op := Op.move (Operand.tmp 14), type := 3, pos := "law.go:59", after := #[], guard := none }) (v := ?_) rfl (by kernel_rfl) (by kernel_rfl) (by kernel_rfl) (fun _ _ _ h => h) (Or.inl ⟨by rfl, ?_⟩) (by assumption) ?_
            rotate_left
            · intro w' hSw
              try dsimp only at hSw
              go_simp
              try with_reducible rfl
            try simp only [Act.put, List.setIfInBounds_toArray, List.set_cons_zero, List.set_cons_succ]
            refine wpAnyH_take (i := 6) (oi := { dst := some 100, op := Op.indexAddr 33 (Operand.tmp 98) (Operand.tmp 99), type := 0, pos := "law.go:59", after := #[{ on := 4, ground := Ground.data }, { on := 5, ground := Ground.data }], guard := none }) (v := ?_) rfl (by kernel_rfl) (by kernel_rfl) (by kernel_rfl) (fun _ _ _ h => h) (Or.inl ⟨by rfl, ?_⟩) (by assumption) ?_
            rotate_left
            · intro w' hSw
              try dsimp only at hSw
              go_simp
              try with_reducible rfl
            try simp only [Act.put, List.setIfInBounds_toArray, List.set_cons_zero, List.set_cons_succ]
            refine take_scope (i := 7) (oi := { dst := some 101, op := Op.load 31 (Operand.tmp 100), type := 31, pos := "law.go:59", after := #[{ on := 6, ground := Ground.data }], guard := none }) (Operand.tmp 100) rfl (by kernel_rfl) (by kernel_rfl) (by kernel_rfl) (xvA Z q) (fun _ _ _ h => h) (by rfl) rfl (gB) (q * 12) rfl (HQ.out.2.2.2.1.1.2) (fun w h => h.2) (by assumption) ?_
            try simp only [Act.put, List.setIfInBounds_toArray, List.set_cons_zero, List.set_cons_succ]
            refine wpAnyH_ready (rs := [8]) (by kernel_rfl) (by simp) ?_
            refine AllReadyH.cons (o := { dst := some 102, op := Op.call { callee := Callee.value (Operand.func 11), args := #[Operand.tmp 97, Operand.tmp 101], argTypes := #[31, 31] }, type := 4, pos := "law.go:59", after := #[{ on := 3, ground := Ground.data }, { on := 7, ground := Ground.data }], guard := none }) rfl (fun K hK => ?_) ?_
            · go_simp
              (go_at_call 11; (refine (sequal_any (xvA X q) (xvA Z q) _ (HPK.out q hlt _ HBq.out.drew).2.2.1 (HPK.out q hlt _ HBq.out.drew).2.2.2.1 HQ.out.2.2.2.2.1 HQ.out.2.2.2.2.2).mono ?_); rintro e u1 ⟨rfl, hb1⟩)
              have HBu : Hid (Below wa.heap.size wa u1) := Lib.hid (HBq.out.drew.trans (hb1.mono HBq.out.size))
              clear hb1
              refine hK.out _ _ (⟨(HPK.out q hlt _ HBu.out).1, (HPK.out q hlt _ HBu.out).2.1⟩) (fun hHeld => ?_)
              clear hK K
              try simp only [Act.put, List.setIfInBounds_toArray, List.set_cons_zero, List.set_cons_succ]
              refine wpAnyH_take (i := 9) (oi := { dst := some 103, op := Op.unOp UnOp.not 4 (Operand.tmp 102), type := 4, pos := "law.go:59", after := #[{ on := 8, ground := Ground.data }], guard := none }) (v := ?_) rfl (by kernel_rfl) (by kernel_rfl) (by kernel_rfl) (fun _ _ _ h => h) (Or.inl ⟨by rfl, ?_⟩) (by assumption) ?_
              rotate_left
              · intro w' hSw
                try dsimp only at hSw
                go_simp
                try with_reducible rfl
              try simp only [Act.put, List.setIfInBounds_toArray, List.set_cons_zero, List.set_cons_succ]
              refine wpAnyH_done (by kernel_rfl) ?_ _
              refine NoPanic.normal ?_
              go_wp2
              go_roundw
              case rel => exact ⟨q + 1, by go_num, by omega, HBu⟩
              case measure => simp [intOf]; omega
            · exact AllReadyH.nil
          · have hlt' : ¬ (q : Int) < (i : Int) + 1 := by omega
            go_wp2
            go_ret
            exact ⟨rfl, HB.out.trans (HBq.out.mono HB.out.size)⟩

end Go.Proofs.YtcpmpidpoelleaaGreatDoor
