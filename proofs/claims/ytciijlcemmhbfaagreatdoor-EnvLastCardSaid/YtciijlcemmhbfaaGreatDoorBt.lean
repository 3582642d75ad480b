/- EnvLast. -/
import Derived.Test.YtciijlcemmhbfaaGreatDoorBr
import Derived.Test.YtciijlcemmhbfaaGreatDoorBh
import Derived.Test.YtciijlcemmhbfaaGreatDoorAy
import Derived.Deep.DeepCutAuto
namespace Go.Proofs.YtciijlcemmhbfaaGreatDoor
open Go.RowKit

set_option maxRecDepth 100000 in
set_option maxHeartbeats 32000000 in
theorem envLast_any (aC : Option Addr) (len cap : Nat) (C : List CH) (o : OP) (x : Nm) (w : World) (ht : Tab w) (h : ChS w aC len cap C) (hok : ∀ y ∈ C, okC y) (hp : o.1.length ≤ 140737488355328) :
    Calls Tryz.prog 5 #[.slice aC len cap, .agg #[.string (mk o.1), .int .i64 o.2.1, .int .i64 o.2.2], .string (mk x)] w fun e w' => e = .returned (.bool true) ∧ Below w.heap.size w w' := by
  obtain ⟨B, hB⟩ : ∃ B, B = w.heap.size := ⟨_, rfl⟩
  have hnew : ∀ W : World, EB (W.alloc (.cells #[.slice none 0 0, .int .i64 0, .int .i64 0, .int .i64 0, .int .i64 0, .int .i64 0, .int .i64 0, .int .i64 0, .int .i64 0, .int .i64 0, .int .i64 0] 26)) W.heap.size none 0 0 z0 := fun W => EB.new W none 0 0 z0
  obtain ⟨w1, hw1⟩ : ∃ w1, w1 = w.alloc (.cells #[.string (mk o.1), .int .i64 o.2.1, .int .i64 o.2.2] 28) := ⟨_, rfl⟩
  have HD1 : Hid (D3 w1 B o) := Lib.hid (by rw [hw1, hB]; exact D3.new w o)
  have HB1 : Hid (Below B w w1) := Lib.hid (by rw [hw1, hB]; exact below_alloc w _)
  have HT1 : Hid (Tab w1) := Lib.hid (ht.keep (hB ▸ HB1.out))
  have HC1 : Hid (ChS w1 aC len cap C) := Lib.hid (Vs.below h (hB ▸ HB1.out))
  have HOK := Lib.hid hok
  have HP := Lib.hid hp
  have HBB := Lib.hid hB
  have HFO := Lib.hid (fitO_good o)
  obtain ⟨M, hM⟩ : ∃ M, M = mkE (C.take 40) := ⟨_, rfl⟩
  have hME := mkE_ok (C.take 40)
  rw [← hM] at hME
  have HMM := Lib.hid hM.symm
  obtain ⟨L, z⟩ := M
  dsimp only at hME
  have HOE := Lib.hid hME
  have HZ : Hid (z.length = 10) := Lib.hid hME.2.2.2.1
  clear ht h hok hp hME hM
  go_enter Tryz.func5, Tryz.ntmps5
  go_wp2_with fail
  rw [← hw1, ← hB]
  clear hw1 hB
  refine (shown_any w1 HT1.out).mono ?_
  rintro e w2 ⟨rfl, hb2⟩
  have HC2 : Hid (ChS w2 aC len cap C) := Lib.hid (Vs.below HC1.out hb2)
  have HB2 : Hid (Below w1.heap.size w1 w2) := Lib.hid hb2
  clear hb2
  go_wp2_with fail
  refine (rmake_any aC len cap C w2 HC2.out HOK.out).mono ?_
  rw [HMM.out]
  rintro e w3 ⟨a1, n1, c1, rfl, ho3, hb3⟩
  have HO3 := Lib.hid ho3
  have HB3 : Hid (Below w1.heap.size w1 w3) := Lib.hid (HB2.out.trans (hb3.mono HB2.out.size))
  clear ho3 hb3
  obtain ⟨E, hE⟩ : ∃ E, E = w3.heap.size := ⟨_, rfl⟩
  go_wp2_with (refine store_env rfl (.tmp 8) (.tmp 27) rfl _ rfl a1 n1 c1 z rfl HZ.out none 0 0 z0 z0_len (hnew w3) ?_; intro w4 he4 hq4; rw [← hE] at he4 hq4; have HE4 := Lib.hid he4; have HB34 : Hid (Below w3.heap.size w3 w4) := Lib.hid ((below_alloc w3 _).trans (hq4.below (by rw [hE]; exact Nat.le_refl _))); have HB4 : Hid (Below w1.heap.size w1 w4) := Lib.hid (HB3.out.trans (HB34.out.mono HB3.out.size)); obtain ⟨d0, d1, d2⟩ := (HD1.out.below HB4.out).cells; clear he4 hq4)
  rw [← hE]
  have HO4 : Hid (OpS w4 a1 n1 c1 L) := Lib.hid (HO3.out.vs.below HB34.out)
  clear hE d0 d1 d2 HC1 HC2 HO3 HB2 HB3 HB34
  refine (fit_any o.1 o.2.1 o.2.2 w4 HP.out).mono ?_
  rintro e w5 ⟨rfl, hb5⟩
  obtain ⟨q, hq⟩ : ∃ q, q = fitO o := ⟨_, rfl⟩
  rw [← hq] at HFO
  obtain ⟨p, g, s⟩ := q
  have hq' : pat (fitQ o.1) = p ∧ fitG o.2.1 = g ∧ fitA o.1 o.2.1 o.2.2 = s := by simpa [fitO] using hq.symm
  rw [hq'.1, hq'.2.1, hq'.2.2]
  clear hq hq'
  have HB45 : Hid (Below w4.heap.size w4 w5) := Lib.hid hb5
  clear hb5
  obtain ⟨D, hD⟩ : ∃ D, D = w5.heap.size := ⟨_, rfl⟩
  obtain ⟨w6, hw6⟩ : ∃ w6, w6 = w5.alloc (.cells #[.string (mk p), .int .i64 g, .int .i64 s] 28) := ⟨_, rfl⟩
  have HD6 : Hid (D3 w6 D (p, g, s)) := Lib.hid (by rw [hw6, hD]; exact D3.new w5 (p, g, s))
  have HB46 : Hid (Below w4.heap.size w4 w6) := Lib.hid (by rw [hw6]; exact HB45.out.alloc HB45.out.size _)
  have HE6 : Hid (EB w6 E a1 n1 c1 z) := Lib.hid (HE4.out.below HB46.out)
  have HO6 : Hid (OpS w6 a1 n1 c1 L) := Lib.hid (HO4.out.below HB46.out)
  have HB6 : Hid (Below w1.heap.size w1 w6) := Lib.hid (HB4.out.trans (HB46.out.mono HB4.out.size))
  have HT6 : Hid (Tab w6) := Lib.hid (HT1.out.keep HB6.out)
  have HN1 : Hid (L.length = n1) := Lib.hid (OpS.len HO6.out)
  have hn16 : n1 ≤ 16 := by have := HN1.out; have := HOE.out.2.2.1; omega
  go_upto_region 4 with fail
  rw [← hw6, ← hD]
  clear hw6 hD HB45 HE4 HO4 HB46
  obtain ⟨d0, d1, d2⟩ := HD6.out.cells
  dsimp only at d0 d1 d2
  go_wp2_with (refine load_env rfl (.tmp 8) rfl E rfl a1 n1 c1 z HZ.out HE6.out ?_)
  refine (add_any a1 n1 c1 L z (p, g, s) w6 HT6.out HO6.out HZ.out (by omega) (Nat.le_trans HFO.out.2 (by decide))).mono ?_
  rintro e w7 ⟨aa, na, ca, rfl, ho7, hb7⟩
  have HB7 : Hid (Below w6.heap.size w6 w7) := Lib.hid hb7
  have HO7 := Lib.hid ho7
  clear ho7 hb7 d0 d1 d2
  by_cases hfull : hitL L p = false ∧ 16 ≤ L.length
  · have HV : Hid (addE L (p, g, s) = 5) := Lib.hid (addE_full HFO.out.1 hfull.1 hfull.2)
    obtain ⟨Z, hZ⟩ : ∃ Z, Z = addZ L z (p, g, s) := ⟨_, rfl⟩
    have HZa : Hid (Z.length = 10) := Lib.hid (by
      rw [hZ]; unfold addZ; split
      · exact HZ.out
      · rfl)
    rw [HV.out, ← hZ]
    clear hZ
    obtain rfl : n1 = 16 := by have := HN1.out; have := hfull.2; omega
    clear hfull
    go_wp2_with (refine store_env rfl (.tmp 10) (.tmp 34) rfl _ rfl aa na ca Z rfl HZa.out none 0 0 z0 z0_len (hnew w7) ?_; intro w8 he8 hq8; have HB8 : Hid (Below w6.heap.size w6 w8) := Lib.hid ((HB7.out.alloc HB7.out.size _).trans (hq8.below HB7.out.size)); have e8 := (HE6.out.below HB8.out).c0; clear he8 hq8)
    go_ret
    exact ⟨rfl, by rw [← HBB.out]; exact HB1.out.trans ((HB6.out.trans (HB8.out.mono HB6.out.size)).mono (by have := HB1.out.size; have := HBB.out; omega))⟩
  · have HV : Hid (addE L (p, g, s) = 0) := Lib.hid (by
      cases hh : hitL L p with
      | true => exact addE_hit HFO.out.1 hh
      | false => exact addE_room HFO.out.1 hh (fun h16 => hfull ⟨hh, h16⟩))
    unfold addZ
    unfold addR at HO7
    rw [if_pos HV.out] at HO7 ⊢
    rw [HV.out]
    clear hfull
    obtain ⟨La, hLa⟩ : ∃ La, La = addL L (p, g, s) := ⟨_, rfl⟩
    have HLA := Lib.hid hLa
    rw [← hLa] at HO7
    clear hLa
    have HOA : Hid (okE La z) := Lib.hid (by rw [HLA.out]; exact okE_add HOE.out HFO.out HV.out)
    have HNA : Hid (La.length = na) := Lib.hid (OpS.len HO7.out.vs)
    have hna16 : na ≤ 16 := by have := HNA.out; have := HOA.out.2.2.1; omega
    go_wp2_with (first
      | (refine load_env rfl (.tmp 10) rfl _ rfl aa na ca z HZ.out HA8.out ?_)
      | (refine store_env rfl (.tmp 10) (.tmp 34) rfl _ rfl aa na ca z rfl HZ.out none 0 0 z0 z0_len (hnew w7) ?_; intro w8 he8 hq8; have HA8 := Lib.hid he8; have HB8 : Hid (Below w6.heap.size w6 w8) := Lib.hid ((HB7.out.alloc HB7.out.size _).trans (hq8.below HB7.out.size)); have HB78 : Hid (Below w7.heap.size w7 w8) := Lib.hid ((below_alloc w7 _).trans (hq8.below (Nat.le_refl _))); obtain ⟨d0, d1, d2⟩ := (HD6.out.below HB8.out).cells; clear he8 hq8))
    obtain ⟨Fa, hFa⟩ : ∃ F, F = w7.heap.size := ⟨_, rfl⟩
    rw [← hFa] at HA8 ⊢
    have HO8 : Hid (OpS w8 aa na ca La) := Lib.hid (HO7.out.vs.below HB78.out)
    clear d0 d1 d2 hFa HO7 HB7 HB78
    refine (drop_any aa na ca La z p w8 HO8.out HZ.out (by omega)).mono ?_
    obtain ⟨hg3, hg2, hg1⟩ := last_gone HOE.out.1 (p, g, s)
    rw [← HLA.out] at hg1 hg2 hg3
    dsimp only at hg1 hg2 hg3
    unfold drpZ
    rw [hg2, if_pos rfl]
    rintro e w9 ⟨ab, nb, cb, rfl, ho9, hb9⟩
    obtain ⟨Lb, hLb⟩ : ∃ Lb, Lb = drpL La p := ⟨_, rfl⟩
    have HLB := Lib.hid hLb
    rw [← hLb] at ho9 hg1 hg3
    have HG := Lib.hid (And.intro hg1 hg3)
    have HO9 := Lib.hid ho9
    have HB89 : Hid (Below w8.heap.size w8 w9) := Lib.hid hb9
    have HNB : Hid (Lb.length = nb) := Lib.hid (OpS.len HO9.out.vs)
    have hnab : nb + 1 = na := by have := HG.out.1; have := HNA.out; have := HNB.out; omega
    clear ho9 hb9 hLb hg1 hg2 hg3
    go_wp2_with (refine store_env rfl (.tmp 12) (.tmp 50) rfl _ rfl ab nb cb z rfl HZ.out none 0 0 z0 z0_len (hnew w9) ?_; intro w10 he10 hq10)
    obtain ⟨Fb, hFb⟩ : ∃ F, F = w9.heap.size := ⟨_, rfl⟩
    have hb10 : Below w8.heap.size w8 w10 := (HB89.out.alloc HB89.out.size _).trans (hq10.below HB89.out.size)
    have hb910 : Below w9.heap.size w9 w10 := (below_alloc w9 _).trans (hq10.below (Nat.le_refl _))
    have KW : Hid (∀ w', Below w10.heap.size w10 w' → (EB w' E a1 n1 c1 z ∧ OpS w' a1 n1 c1 L) ∧ (EB w' Fa aa na ca z ∧ OpS w' aa na ca La) ∧ (EB w' Fb ab nb cb z ∧ OpS w' ab nb cb Lb) ∧ D3 w' D (p, g, s) ∧ Tab w' ∧ Below w6.heap.size w6 w') := Lib.hid fun w' hb => by
      have h8 := hb10.trans (hb.mono hb10.size)
      have h6 := HB8.out.trans (h8.mono HB8.out.size)
      exact ⟨⟨HE6.out.below h6, HO6.out.below h6⟩, ⟨HA8.out.below h8, HO8.out.below h8⟩, ⟨(by rw [hFb]; exact he10.below hb), (HO9.out.vs.below hb910).below hb⟩, HD6.out.below h6, HT6.out.keep h6, h6⟩
    rw [← hFb]
    clear he10 hq10 hb10 hb910 hFb HO9 HB89 HA8 HO8 HB8
    -- how often what was added stands there
    go_wp2
    go_loopw [14, 15] (fun v14 v15 wr => ∃ k u : Nat, v14 = .int .i64 u ∧ v15 = .int .i64 k ∧ k ≤ na ∧ u ≤ k ∧ Hid (((La.take k).filter fun y => decide (y = (p, g, s))).length = u) ∧ Hid (Below w10.heap.size w10 wr)) (fun _ v _ => na - (intOf v).toNat)
    case atStart => exact ⟨0, 0, rfl, rfl, Nat.zero_le _, Nat.le_refl _, Lib.hid rfl, Lib.hid (Below.refl _ _)⟩
    case round =>
      obtain ⟨k, u, rfl, rfl, hk, hu, HU, HW⟩ := hrel
      have e0 := (KW.out _ HW.out).2.1.1.c0
      by_cases hlt : k < na
      · have hlt' : (k : Int) < (na : Int) := by omega
        have hrow := (KW.out _ HW.out).2.1.2
        obtain ⟨b, off, rfl, _, hc⟩ := hrow.at_ (by omega)
        clear hc
        obtain ⟨c0, c1', c2⟩ := OpS.at3 hrow hlt
        obtain ⟨d0, d1, d2⟩ := (KW.out _ HW.out).2.2.2.1.cells
        dsimp only at d0 d1 d2
        have HSN := Lib.hid (count_snoc (M := La) (k := k) (by rw [HNA.out]; exact hlt) (p, g, s))
        obtain ⟨y, hy⟩ : ∃ y, y = opA La k := ⟨_, rfl⟩
        rw [← hy] at c0 c1' c2 HSN
        have heq := fun w => eq_op 9998 y (p, g, s) w
        dsimp only at heq
        clear hrow hy
        obtain ⟨dv, hdv⟩ : ∃ dv, dv = decide (y = (p, g, s)) := ⟨_, rfl⟩
        rw [← hdv] at heq HSN
        clear hdv
        cases dv with
        | true =>
          have HU1 : Hid (((La.take (k + 1)).filter fun y => decide (y = (p, g, s))).length = u + 1) := Lib.hid (by rw [HSN.out, HU.out]; rfl)
          go_wp2_with fail
          go_region
          go_wp2
          go_roundw
          case rel => exact ⟨k + 1, u + 1, by go_num, by go_num, by omega, by omega, HU1, Lib.hid HW.out.drew⟩
          case measure => simp [intOf]; omega
        | false =>
          have HU1 : Hid (((La.take (k + 1)).filter fun y => decide (y = (p, g, s))).length = u) := Lib.hid (by rw [HSN.out, HU.out]; rfl)
          go_wp2_with fail
          go_region
          go_wp2
          go_roundw
          case rel => exact ⟨k + 1, u, rfl, by go_num, by omega, by omega, HU1, Lib.hid HW.out.drew⟩
          case measure => simp [intOf]; omega
      · have hlt' : ¬ (k : Int) < (na : Int) := by omega
        obtain rfl : u = 1 := by
          rw [← HU.out, List.take_of_length_le (by rw [HNA.out]; omega), HLA.out]
          exact count_one HOE.out.1
        have HW0 := HW
        clear HU hu
        go_wp2
        -- all others as they were
        go_loopw [16] (fun v ws => ∃ i : Nat, v = .int .i64 i ∧ i ≤ n1 ∧ Hid (Below w10.heap.size w10 ws)) (fun v _ => n1 - (intOf v).toNat)
        case atStart => exact ⟨0, rfl, Nat.zero_le _, HW0⟩
        case round =>
          rename World => wv
          clear e0 HW HW0
          obtain ⟨i, rfl, hi, HW⟩ := hrel
          have e0 := (KW.out _ HW.out).1.1.c0
          by_cases hil : i < n1
          · have hil' : (i : Int) < (n1 : Int) := by omega
            have hrow := (KW.out _ HW.out).1.2
            obtain ⟨b, off, rfl, _, hc⟩ := hrow.at_ (by omega)
            clear hc
            have c0 := (OpS.at3 hrow hil).1
            obtain ⟨y, hy⟩ : ∃ y, y = opA L i := ⟨_, rfl⟩
            rw [← hy] at c0
            have HY := Lib.hid hy
            obtain ⟨yp, yg, ys⟩ := y
            dsimp only at c0
            clear hrow hy
            have d0 := (KW.out _ HW.out).2.2.2.1.cells.1
            dsimp only at d0
            have hp1 := mk_toList yp
            have hp2 := mk_toList p
            obtain ⟨t0, ht0⟩ : ∃ t0, t0 = (yp == p) := ⟨_, rfl⟩
            have HT0 := Lib.hid ht0.symm
            have ht0' : (yp == p) = t0 := ht0.symm
            have HWD : Hid (Below w10.heap.size w10 wv.drew) := Lib.hid HW.out.drew
            clear ht0
            go_wp2_with fail
            go_region
            clear c0 d0 e0 hp1 hp2 ht0'
            go_wp2
            go_loopw [17, 18] (fun v17 v18 wu => ∃ t : Bool, ∃ k : Nat, v17 = .bool t ∧ v18 = .int .i64 k ∧ k ≤ nb ∧ Hid ((t0 || (Lb.take k).any fun y => decide (y = (yp, yg, ys))) = t) ∧ Hid (Below w10.heap.size w10 wu)) (fun _ v _ => nb - (intOf v).toNat)
            case atStart => exact ⟨t0, 0, rfl, rfl, Nat.zero_le _, Lib.hid (by simp), HWD⟩
            case round =>
              rename World => wu
              obtain ⟨t, k, rfl, rfl, hk, HA, HU⟩ := hrel
              have f0 := (KW.out _ HU.out).2.2.1.1.c0
              have e0 := (KW.out _ HU.out).1.1.c0
              by_cases hkl : k < nb
              · have hkl' : (k : Int) < (nb : Int) := by omega
                have hrow := (KW.out _ HU.out).2.2.1.2
                obtain ⟨b3, o3, rfl, _, hc⟩ := hrow.at_ (by omega)
                clear hc
                obtain ⟨c0, c1', c2⟩ := OpS.at3 hrow hkl
                obtain ⟨g0, g1, g2⟩ := OpS.at3 (KW.out _ HU.out).1.2 hil
                rw [← HY.out] at g0 g1 g2
                dsimp only at g0 g1 g2
                have HSN := Lib.hid (any_op (M := Lb) (k := k) (by rw [HNB.out]; exact hkl) (yp, yg, ys))
                obtain ⟨v, hv⟩ : ∃ v, v = opA Lb k := ⟨_, rfl⟩
                rw [← hv] at c0 c1' c2 HSN
                have heq := fun w => eq_op 9998 v (yp, yg, ys) w
                dsimp only at heq
                clear hrow hv
                obtain ⟨dv, hdv⟩ : ∃ dv, dv = decide (v = (yp, yg, ys)) := ⟨_, rfl⟩
                rw [← hdv] at heq HSN
                clear hdv
                cases t with
                | true =>
                  have HA1 : Hid ((t0 || (Lb.take (k + 1)).any fun y => decide (y = (yp, yg, ys))) = true) := Lib.hid (by rw [HSN.out, ← Bool.or_assoc, HA.out]; rfl)
                  go_wp2_with fail
                  go_region
                  go_wp2
                  go_roundw
                  case rel => exact ⟨true, k + 1, rfl, by go_num, by omega, HA1, Lib.hid HU.out.drew⟩
                  case measure => simp [intOf]; omega
                | false =>
                  have HA1 : Hid ((t0 || (Lb.take (k + 1)).any fun y => decide (y = (yp, yg, ys))) = dv) := Lib.hid (by rw [HSN.out, ← Bool.or_assoc, HA.out]; rfl)
                  cases dv with
                  | true =>
                    go_wp2_with fail
                    go_region
                    go_wp2
                    go_roundw
                    case rel => exact ⟨true, k + 1, rfl, by go_num, by omega, HA1, Lib.hid HU.out.drew⟩
                    case measure => simp [intOf]; omega
                  | false =>
                    go_wp2_with fail
                    go_region
                    go_wp2
                    go_roundw
                    case rel => exact ⟨false, k + 1, rfl, by go_num, by omega, HA1, Lib.hid HU.out.drew⟩
                    case measure => simp [intOf]; omega
              · have hkl' : ¬ (k : Int) < (nb : Int) := by omega
                have ht : t = true := by
                  rw [← HA.out, List.take_of_length_le (by rw [HNB.out]; omega)]
                  by_cases hyp : yp = p
                  · rw [← HT0.out, hyp]; simp
                  · have h1 := last_there HOE.out.1 (o := (p, g, s)) (x := (yp, yg, ys)) (by rw [HY.out]; exact opA_mem (by rw [HN1.out]; exact hil)) hyp
                    rw [← HLA.out] at h1
                    dsimp only at h1
                    rw [← HLB.out] at h1
                    rw [h1, Bool.or_true]
                subst ht
                go_wp2
                go_roundw
                case rel => exact ⟨i + 1, by go_num, by omega, HU⟩
                case measure => simp [intOf]; omega
          · have hil' : ¬ (i : Int) < (n1 : Int) := by omega
            obtain ⟨d0, d1, d2⟩ := (KW.out _ HW.out).2.2.2.1.cells
            dsimp only at d0 d1 d2
            go_wp2_with fail
            clear d0 d1 d2 e0
            have HTv : Hid (Tab wv) := Lib.hid (KW.out _ HW.out).2.2.2.2.1
            obtain ⟨P, l, r, kx, hR⟩ : ∃ P l r k, ofR p = (⟨P, l, r⟩, k) := ⟨_, _, _, _, rfl⟩
            have HPR : Hid (prt p = P) := Lib.hid (by unfold prt; rw [hR])
            have KO := Lib.hid (sof_any p wv HTv.out (Nat.le_trans HFO.out.2 (by decide)))
            rw [hR] at KO
            simp only [shV] at KO
            clear hR
            refine KO.out.mono ?_
            rintro e w11 ⟨sa, sn, sc, rfl, hs11, hb11⟩
            obtain ⟨T, hT⟩ : ∃ T, T = w11.heap.size := ⟨_, rfl⟩
            obtain ⟨w12, hw12⟩ : ∃ w12, w12 = w11.alloc (.cells #[.slice sa sn sc, .bool l, .bool r] 53) := ⟨_, rfl⟩
            have HT12 : Hid (w12.heap[T]? = some (.cells #[.slice sa sn sc, .bool l, .bool r] 53 (0, 0))) := Lib.hid (by rw [hw12, hT]; exact heap_alloc_new w11 _)
            have HS12 : Hid (Ss w12 sa sn sc P) := Lib.hid (by rw [hw12]; exact hs11.below (below_alloc _ _))
            have HW12 : Hid (Below w10.heap.size w10 w12) := Lib.hid (by rw [hw12]; exact (HW.out.trans (hb11.mono HW.out.size)).alloc (Nat.le_trans HW.out.size hb11.size) _)
            have HPN : Hid (P.length = sn) := Lib.hid (Ss.len HS12.out)
            have hsn4 : sn ≤ 4 := by have := HPN.out; have := prt_len p; rw [HPR.out] at this; omega
            have f4 := (heap_alloc_new w11 (.cells #[.slice sa sn sc, .bool l, .bool r] 53))
            obtain ⟨⟨f5, f6, f7⟩, _⟩ := three f4
            clear hs11 hb11 KO f4
            go_wp2
            rw [← hw12, ← hT]
            clear hw12 hT f5 f6 f7
            go_loopw [21, 22] (fun v21 v22 wu => ∃ t : Bool, ∃ j : Nat, v21 = .bool t ∧ v22 = .int .i64 j ∧ j ≤ sn ∧ Hid (((P.take j).any fun y => y == x) = t) ∧ wu = w12) (fun _ v _ => sn - (intOf v).toNat)
            case atStart => exact ⟨false, 0, rfl, rfl, Nat.zero_le _, Lib.hid rfl, rfl⟩
            case round =>
              obtain ⟨t, j, rfl, rfl, hj, HA, rfl⟩ := hrel
              have e1 := (three HT12.out).1.1
              by_cases hjl : j < sn
              · have hjl' : (j : Int) < (sn : Int) := by omega
                obtain ⟨bs, os, rfl, _, hc⟩ := HS12.out.at_ (by omega)
                clear hc
                have c0 := Ss.str HS12.out hjl
                have HSN := Lib.hid (any_pt (P := P) (k := j) (by rw [HPN.out]; exact hjl) x)
                obtain ⟨y, hy⟩ : ∃ y, y = pt P j := ⟨_, rfl⟩
                rw [← hy] at c0 HSN
                clear hy
                have hp1 := mk_toList y
                have hp2 := mk_toList x
                cases t with
                | true =>
                  have HA1 : Hid (((P.take (j + 1)).any fun y => y == x) = true) := Lib.hid (by rw [HSN.out, HA.out]; rfl)
                  go_wp2
                  go_roundw
                  case rel => exact ⟨true, j + 1, rfl, by go_num, by omega, HA1, trivial⟩
                  case measure => simp [intOf]; omega
                | false =>
                  cases he : (y == x) with
                  | true =>
                    have HA1 : Hid (((P.take (j + 1)).any fun y => y == x) = true) := Lib.hid (by rw [HSN.out, HA.out, he]; rfl)
                    go_wp2
                    go_roundw
                    case rel => exact ⟨true, j + 1, rfl, by go_num, by omega, HA1, trivial⟩
                    case measure => simp [intOf]; omega
                  | false =>
                    have HA1 : Hid (((P.take (j + 1)).any fun y => y == x) = false) := Lib.hid (by rw [HSN.out, HA.out, he]; rfl)
                    go_wp2
                    go_roundw
                    case rel => exact ⟨false, j + 1, rfl, by go_num, by omega, HA1, trivial⟩
                    case measure => simp [intOf]; omega
              · have hjl' : ¬ (j : Int) < (sn : Int) := by omega
                have HC : Hid ((prt p).contains x = t) := Lib.hid (by
                  rw [HPR.out, ← HA.out, List.take_of_length_le (by rw [HPN.out]; omega), Bool.eq_iff_iff, List.any_eq_true, List.contains_iff_mem]
                  exact ⟨fun hm => ⟨x, hm, by simp⟩, fun ⟨y, hm, e⟩ => by rw [← eq_of_beq e]; exact hm⟩)
                obtain ⟨d0, d1, d2⟩ := (KW.out _ HW12.out).2.2.2.1.cells
                dsimp only at d0 d1 d2
                have HEb := Lib.hid (KW.out _ HW12.out).2.2.1.1
                go_wp2_with (refine load_env rfl (.tmp 12) rfl Fb rfl ab nb cb z HZ.out HEb.out ?_)
                clear d0 d1 d2 e1
                refine (drop_any ab nb cb Lb z p _ (KW.out _ HW12.out).2.2.1.2 HZ.out (by omega)).mono ?_
                rw [HG.out.2]
                obtain ⟨Zd, hZd⟩ : ∃ Zd, Zd = drpZ Lb z p := ⟨_, rfl⟩
                have HZd : Hid (Zd.length = 10) := Lib.hid (by
                  rw [hZd]; unfold drpZ; split
                  · exact HZ.out
                  · rfl)
                rw [← hZd]
                clear hZd
                rintro e w13 ⟨ad, nd, cd, rfl, _, hb13⟩
                have HB13 : Hid (Below w10.heap.size w10 w13) := Lib.hid (HW12.out.trans (hb13.mono HW12.out.size))
                clear hb13
                have hw1 : IntKind.i64.wrap ((nb : Int) + 1) = (na : Int) := by rw [IntWalk.i64_in _ (by omega)]; omega
                have HPA : Hid ((∀ y ∈ L, y.1.length ≤ 1000000) ∧ (∀ y ∈ La, y.1.length ≤ 1000000) ∧ ∀ y ∈ Lb, y.1.length ≤ 1000000) := Lib.hid (by
                  have hA : ∀ y ∈ La, y.1.length ≤ 1000000 := fun y hy => Nat.le_trans (HOA.out.2.1 y hy).2 (by decide)
                  refine ⟨fun y hy => Nat.le_trans (HOE.out.2.1 y hy).2 (by decide), hA, fun y hy => ?_⟩
                  obtain ⟨q, hq⟩ := drp_add HOE.out.1 (p, g, s)
                  rw [HLB.out] at hy
                  rw [← HLA.out] at hq
                  exact hA y ((drpL_mem HOA.out.1 hq y).1 hy).1)
                cases t with
                | false =>
                  obtain ⟨hs1, hs2⟩ := last_same HOE.out.1 z (o := (p, g, s)) HC.out
                  rw [← HLA.out] at hs1 hs2
                  dsimp only at hs2
                  rw [← HLB.out] at hs2
                  have HSM := Lib.hid (And.intro hs1 hs2)
                  clear hs1 hs2
                  go_wp2_with (first
                    | (refine load_env rfl (.tmp 8) rfl E rfl a1 n1 c1 z HZ.out HE14.out ?_)
                    | (refine load_env rfl (.tmp 10) rfl Fa rfl aa na ca z HZ.out HA14.out ?_)
                    | (refine store_env rfl (.tmp 23) (.tmp 141) rfl _ rfl ad nd cd Zd rfl HZd.out none 0 0 z0 z0_len (hnew w13) ?_; intro w14 he14 hq14; have HB14 : Hid (Below w10.heap.size w10 w14) := Lib.hid ((HB13.out.alloc HB13.out.size _).trans (hq14.below HB13.out.size)); have HE14 := Lib.hid (KW.out _ HB14.out).1.1; have HA14 := Lib.hid (KW.out _ HB14.out).2.1.1; have e14 := HA14.out.c0; have f14 := (KW.out _ HB14.out).2.2.1.1.c0; clear he14 hq14))
                  with_reducible refine (same_any a1 aa n1 na c1 ca L La z z x w14 (KW.out _ HB14.out).2.2.2.2.1 (KW.out _ HB14.out).1.2 (KW.out _ HB14.out).2.1.2 HZ.out HZ.out (by omega) (by omega) HPA.out.1 HPA.out.2.1).mono ?_
                  rw [decide_eq_true HSM.out.1]
                  rintro e w15 ⟨rfl, hb15⟩
                  have HB15 : Hid (Below w10.heap.size w10 w15) := Lib.hid (HB14.out.trans (hb15.mono HB14.out.size))
                  have HE15 := Lib.hid (KW.out _ HB15.out).1.1
                  have HF15 := Lib.hid (KW.out _ HB15.out).2.2.1.1
                  clear hb15 e14 f14
                  go_wp2_with (first
                    | (refine load_env rfl (.tmp 8) rfl E rfl a1 n1 c1 z HZ.out HE15.out ?_)
                    | (refine load_env rfl (.tmp 12) rfl Fb rfl ab nb cb z HZ.out HF15.out ?_))
                  with_reducible refine (same_any a1 ab n1 nb c1 cb L Lb z z x w15 (KW.out _ HB15.out).2.2.2.2.1 (KW.out _ HB15.out).1.2 (KW.out _ HB15.out).2.2.1.2 HZ.out HZ.out (by omega) (by omega) HPA.out.1 HPA.out.2.2).mono ?_
                  rw [decide_eq_true HSM.out.2]
                  rintro e w16 ⟨rfl, hb16⟩
                  have HX : Hid (Below B w w16) := Lib.hid (HB1.out.trans ((HB6.out.trans ((KW.out _ (HB15.out.trans (hb16.mono HB15.out.size))).2.2.2.2.2.mono HB6.out.size)).mono (by have := HB1.out.size; have := HBB.out; omega)))
                  clear hb16
                  go_wp2
                  go_ret
                  exact ⟨rfl, by rw [← HBB.out]; exact HX.out⟩
                | true =>
                  obtain ⟨y0, y1, y2, y3, y4, y5, y6, y7, y8, y9, rfl⟩ := ten HZ.out
                  have HLN : Hid (0 < (entL La [y0, y1, y2, y3, y4, y5, y6, y7, y8, y9] x).length) := Lib.hid (by rw [HLA.out]; exact last_some HOE.out.1 [y0, y1, y2, y3, y4, y5, y6, y7, y8, y9] HC.out)
                  have hq1 : ((nb : Int) + 1 == (na : Int)) = true := beq_iff_eq.2 (by omega)
                  have hw2 : IntKind.i64.wrap ((nb : Int) + 1) = (nb : Int) + 1 := IntWalk.i64_in _ (by omega)
                  clear hw1 hnab
                  go_upto_region 33 with (refine store_env rfl (.tmp 23) (.tmp 141) rfl _ rfl ad nd cd Zd rfl HZd.out none 0 0 z0 z0_len (hnew w13) ?_; intro w14 he14 hq14; have HB14 : Hid (Below w10.heap.size w10 w14) := Lib.hid ((HB13.out.alloc HB13.out.size _).trans (hq14.below HB13.out.size)); obtain ⟨e14, e15, e16, e17, e18, e19, e20, e21, e22, e23, e24⟩ := env_cells (KW.out _ HB14.out).2.1.1; have f14 := (KW.out _ HB14.out).2.2.1.1.c0; clear he14 hq14)
                  go_wp2_with fail
                  refine (entry_any aa na ca La [y0, y1, y2, y3, y4, y5, y6, y7, y8, y9] x w14 (KW.out _ HB14.out).2.2.2.2.1 (KW.out _ HB14.out).2.1.2 HZ.out (by omega) HPA.out.2.1).mono ?_
                  obtain ⟨m, hm⟩ : ∃ m, m = (entL La [y0, y1, y2, y3, y4, y5, y6, y7, y8, y9] x).length := ⟨_, rfl⟩
                  rw [← hm] at HLN ⊢
                  rintro e w15 ⟨ae, ce, rfl, _, hb15⟩
                  have hm1 : (0 : Int) < (m : Int) := by have := HLN.out; omega
                  have hm2 : 0 < m := HLN.out
                  have HX : Hid (Below B w w15) := Lib.hid (HB1.out.trans ((HB6.out.trans ((KW.out _ (HB14.out.trans (hb15.mono HB14.out.size))).2.2.2.2.2.mono HB6.out.size)).mono (by have := HB1.out.size; have := HBB.out; omega)))
                  clear hb15 e14 e15 e16 e17 e18 e19 e20 e21 e22 e23 e24 f14 hm
                  go_wp2
                  go_ret
                  exact ⟨rfl, by rw [← HBB.out]; exact HX.out⟩

end Go.Proofs.YtciijlcemmhbfaaGreatDoor
