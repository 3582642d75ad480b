/- EnvOrders. -/
import Derived.Test.YtciijlcemmhbfaaDoorBa
import Derived.Test.YtciijlcemmhbfaaDoorAy
import Derived.Test.YtciijlcemmhbfaaDoorAq
import Derived.Test.YtciijlcemmhbfaaDoorAj
namespace Go.Proofs.YtciijlcemmhbfaaDoor
open Go.RowKit

/-- One more of them is added, as a call. -/
theorem add_ok (Sq : List OP) (o : OP) (a : Option Addr) (n c : Nat) (w : World) (ht : Tab w) (h : OpS w a n c (addsL Sq)) (hg : goodL (Sq ++ [o])) (hl : Sq.length < 16) (hn : Sq.length = n) :
    Calls Tryd.prog 8 #[.agg (ev a n c zS), .agg #[.string (mk o.1), .int .i64 o.2.1, .int .i64 o.2.2]] w fun e w' => ∃ a' c', e = .returned (.tuple #[.agg (ev a' (n + 1) c' zS), .int .i64 0]) ∧ OwnO 0 w' a' (n + 1) c' (addsL (Sq ++ [o])) ∧ Below w.heap.size w w' := by
  obtain ⟨h0, h1, h2⟩ := adds_new hg hl
  have h3 : (addsL (Sq ++ [o])).length = n + 1 := by
    have := (adds_ok (Sq ++ [o]) [] srt_nil hg.1 (by simp)).2.2
    rw [List.length_append] at this
    simp only [List.length_nil, List.length_singleton, Nat.zero_add] at this
    rw [← hn]; exact this
  have hp := ((hg.2 o (by simp)).2)
  refine (add_any a n c (addsL Sq) zS o w ht h rfl (by omega) (by omega)).mono ?_
  rintro e w' ⟨a', n', c', rfl, ho, hb⟩
  unfold addR at ho
  rw [if_pos h0, h1] at ho
  obtain rfl : n' = n + 1 := by rw [← OpS.len ho.vs, h3]
  exact ⟨a', c', by unfold addZ; rw [if_pos h0, h0], ho.weak (Nat.zero_le _), hb⟩
theorem ownO_noenv {base B : Nat} {w w' : World} {a : Option Addr} {n c : Nat} {L : List OP} (h : OwnO base w a n c L) (hb : Below B w w') (hB : w.heap.size ≤ B) : OwnO base w' a n c L := h.keep hb hB

set_option maxRecDepth 100000 in
set_option maxHeartbeats 32000000 in
theorem envOrders_any (aL : Option Addr) (len cap : Nat) (L : List OP) (ys : Nat) (w : World) (ht : Tab w) (h : OpS w aL len cap L) (hp : ∀ o ∈ L, o.1.length ≤ reachBytes) (hy : ys ≤ 255) :
    Calls Tryd.prog 3 #[.slice aL len cap, .int .u8 (ys : Int)] w fun e w' => e = .returned (.bool true) ∧ Below w.heap.size w w' := by
  obtain ⟨B, hB⟩ : ∃ B, B = w.heap.size := ⟨_, rfl⟩
  have hnew : ∀ W : World, EB (W.alloc (.cells #[.slice none 0 0, .int .i64 0, .int .i64 0, .int .i64 0, .int .i64 0, .int .i64 0, .int .i64 0, .int .i64 0, .int .i64 0, .int .i64 0, .int .i64 0] 30)) W.heap.size none 0 0 z0 := fun W => EB.new W none 0 0 z0
  have hst : ∀ (a' : Option Addr) (n' c' X : Nat) (W : World), EB W X none 0 0 z0 → (storeCells ⟨X, 0, none⟩ (ev a' n' c' zS).toList).run Tryd.prog W = .ok () (W.setRow X (ev a' n' c' zS)) := fun a' n' c' X W h => run_store_env W X h a' n' c' zS rfl
  have HT := Lib.hid ht
  have HBB := Lib.hid hB
  have H := Lib.hid h
  have HP := Lib.hid hp
  have HL := Lib.hid (OpS.len h)
  have hlc := h.lc
  have hcm := h.cm
  unfold maxLen at hcm
  clear ht hB h hp
  go_enter Tryd.func3, Tryd.ntmps3
  go_wp2_with fail
  refine (shown_any w HT.out).mono ?_
  rintro e w1 ⟨rfl, hb1⟩
  have HB1 : Hid (Below B w w1) := Lib.hid (by rw [HBB.out]; exact hb1)
  clear hb1
  obtain ⟨w2, hw2⟩ : ∃ w2, w2 = w1.alloc (.cells #[] 25) := ⟨_, rfl⟩
  have HB2 : Hid (Below B w w2) := Lib.hid (by rw [hw2]; exact HB1.out.alloc (by have := HB1.out.size; have := HBB.out; omega) _)
  have HO2 : Hid (OwnO B w2 (some ⟨w1.heap.size, 0, none⟩) 0 0 []) := Lib.hid (by rw [hw2]; exact OwnV.emptyAt (heap_alloc_new w1 _) (by have := HB1.out.size; have := HBB.out; omega))
  go_wp2
  rw [← hw2]
  clear hw2
  go_loopw [6, 7] (fun v6 v7 wr => ∃ a, ∃ m c i : Nat, ∃ A : List OP, v6 = .slice a m c ∧ v7 = .int .i64 i ∧ i ≤ len ∧ i ≤ 16 ∧ m ≤ i ∧ Hid (OwnO B wr a m c A) ∧ Hid (goodL A) ∧ Hid (Below B w wr)) (fun _ v _ => len - (intOf v).toNat)
  case atStart => exact ⟨_, 0, 0, 0, [], rfl, rfl, Nat.zero_le _, Nat.zero_le _, Nat.le_refl _, HO2, Lib.hid good_nil, HB2⟩
  case round =>
    obtain ⟨a, m, c, i, A, rfl, rfl, hi, hi16, hmi, HO, HG, HB⟩ := hrel
    have HAL := Lib.hid (OpS.len HO.out.vs)
    have hbo := HO.out.bounds
    have hmc := hbo.2.1
    have hcm2 := hbo.2.2
    unfold maxLen at hcm2
    clear hbo
    by_cases hgo : i < len ∧ i < 16
    · obtain ⟨hlt, hlt16⟩ := hgo
      have hg1 : decide ((i : Int) < (len : Int)) = true := by simpa using hlt
      have hg2 : decide ((i : Int) < 16) = true := by simp; omega
      have hs := H.out.below (HBB.out ▸ HB.out)
      obtain ⟨b, off, rfl, _, hc⟩ := hs.at_ (by omega)
      clear hc
      obtain ⟨c0, c1, c2⟩ := OpS.at3 hs hlt
      obtain ⟨o, ho⟩ : ∃ o, o = opA L i := ⟨_, rfl⟩
      have HPo : Hid (o.1.length ≤ 140737488355328) := Lib.hid (by have := HP.out _ (opA_mem (k := i) (by rw [HL.out]; exact hlt)); rw [ho]; unfold reachBytes at this; omega)
      rw [← ho] at c0 c1 c2
      clear hs ho
      go_wp2_with fail
      refine (fit_any o.1 o.2.1 o.2.2 wr HPo.out).mono ?_
      rintro e w3 ⟨rfl, hb3⟩
      have HFO : Hid (mayV (fitO o).1 (fitO o).2.1 (fitO o).2.2 = 0 ∧ (fitO o).1.length ≤ 20) := Lib.hid (fitO_good o)
      obtain ⟨q, hq⟩ : ∃ q, q = fitO o := ⟨_, rfl⟩
      rw [← hq] at HFO
      obtain ⟨p, g, s⟩ := q
      have hq' : pat (fitQ o.1) = p ∧ fitG o.2.1 = g ∧ fitA o.1 o.2.1 o.2.2 = s := by simpa [fitO] using hq.symm
      rw [hq'.1, hq'.2.1, hq'.2.2]
      clear hq hq'
      have HO3 : Hid (OwnO B w3 a m c A) := Lib.hid (HO.out.keep hb3 (Nat.le_refl _))
      have HB3 : Hid (Below B w w3) := Lib.hid (HB.out.trans (hb3.mono (by have := HB.out.size; have := HBB.out; omega)))
      obtain ⟨w4, hw4⟩ : ∃ w4, w4 = w3.alloc (.cells #[.string (mk p), .int .i64 g, .int .i64 s] 25) := ⟨_, rfl⟩
      obtain ⟨D, hD⟩ : ∃ D, D = w3.heap.size := ⟨_, rfl⟩
      have HD4 : Hid (D3 w4 D (p, g, s)) := Lib.hid (by rw [hw4, hD]; exact D3.new w3 (p, g, s))
      have HO4 : Hid (OwnO B w4 a m c A) := Lib.hid (by rw [hw4]; exact HO3.out.alloc _)
      have HB4 : Hid (Below B w w4) := Lib.hid (by rw [hw4]; exact HB3.out.alloc (by have := HB3.out.size; have := HBB.out; omega) _)
      have HD0 : Hid (B ≤ D) := Lib.hid (by rw [hD]; have := HB3.out.size; have := HBB.out; omega)
      clear hb3 c0 c1 c2
      go_wp2
      rw [← hw4, ← hD]
      clear hw4 hD
      go_loopw [9, 10] (fun v9 v10 wq => ∃ t : Bool, ∃ k : Nat, v9 = .bool t ∧ v10 = .int .i64 k ∧ k ≤ m ∧ Hid (((A.take k).any fun x => x.1 == p) = t) ∧ Hid (Below w4.heap.size w4 wq)) (fun _ v _ => m - (intOf v).toNat)
      case atStart => exact ⟨false, 0, rfl, rfl, Nat.zero_le _, Lib.hid rfl, Lib.hid (Below.refl _ _)⟩
      case round =>
        rename World => wq
        obtain ⟨t, k, rfl, rfl, hk, HA, HBq⟩ := hrel
        by_cases hkm : k < m
        · have hkm' : (k : Int) < (m : Int) := by omega
          have hs := (HO4.out.keep HBq.out (Nat.le_refl _))
          obtain ⟨gq, cur, rfl, _, _, _, _, _⟩ := hs.form (hs.some (by omega))
          have c0 := (OpS.at3 hs.vs hkm).1
          rw [Nat.zero_add] at c0
          obtain ⟨x, hx⟩ : ∃ x, x = (opA A k).1 := ⟨_, rfl⟩
          have HSN := Lib.hid (any_snoc (A := A) (k := k) (by rw [HAL.out]; exact hkm) p)
          rw [← hx] at c0 HSN
          clear hs hx
          have d0 := (HD4.out.below HBq.out).cells.1
          dsimp only at d0
          have hp1 := mk_toList x
          have hp2 := mk_toList p
          cases t with
          | true =>
            have HA1 : Hid (((A.take (k + 1)).any fun x => x.1 == p) = true) := Lib.hid (by rw [HSN.out, HA.out]; rfl)
            go_wp2_with fail
            go_region
            go_wp2
            go_roundw
            case rel => exact ⟨true, k + 1, rfl, by go_num, by omega, HA1, Lib.hid HBq.out.drew⟩
            case measure => simp [intOf]; omega
          | false =>
            cases he : (x == p) with
            | true =>
              have HA1 : Hid (((A.take (k + 1)).any fun x => x.1 == p) = true) := Lib.hid (by rw [HSN.out, he]; simp)
              go_wp2_with fail
              go_region
              go_wp2
              go_roundw
              case rel => exact ⟨true, k + 1, rfl, by go_num, by omega, HA1, Lib.hid HBq.out.drew⟩
              case measure => simp [intOf]; omega
            | false =>
              have HA1 : Hid (((A.take (k + 1)).any fun x => x.1 == p) = false) := Lib.hid (by rw [HSN.out, HA.out, he]; rfl)
              go_wp2_with fail
              go_region
              go_wp2
              go_roundw
              case rel => exact ⟨false, k + 1, rfl, by go_num, by omega, HA1, Lib.hid HBq.out.drew⟩
              case measure => simp [intOf]; omega
        · have hkm' : ¬ (k : Int) < (m : Int) := by omega
          have HT4 : Hid (A.take k = A) := Lib.hid (List.take_of_length_le (by rw [HAL.out]; omega))
          rw [HT4.out] at HA
          have HO5 : Hid (OwnO B wq a m c A) := Lib.hid (HO4.out.keep HBq.out (Nat.le_refl _))
          have HB5 : Hid (Below B w wq) := Lib.hid (HB4.out.trans (HBq.out.mono (by have := HB4.out.size; have := HBB.out; omega)))
          cases t with
          | true =>
            go_wp2
            go_roundw
            case rel => exact ⟨a, m, c, i + 1, A, rfl, by go_num, by omega, by omega, by omega, HO5, HG, HB5⟩
            case measure => simp [intOf]; omega
          | false =>
            have HG1 : Hid (goodL (A ++ [(p, g, s)])) := Lib.hid (good_snoc HG.out HFO.out HA.out)
            obtain ⟨d0, d1, d2⟩ := (HD4.out.below HBq.out).cells
            dsimp only at d0 d1 d2
            have hm1 : m ≤ 16 := by omega
            go_wp2_with (at_builtin; refine wpList_appv rfl (.tmp 55) (.tmp 57) 22 rfl 25 B 3 32 _ Tryd.underlying22 op_info rfl (by omega) _ m _ (cO A) rfl (HO5.out.alloc _) _ 1 _ (cO [(p, g, s)]) rfl (Vs.lit (k := 3) (xs := cO [(p, g, s)]) wq _ rfl rfl rfl) (cO_one _) (by unfold maxLen; omega) (by omega) (by have := HB5.out.size; have := HBB.out; simp; omega) ?_; intro a6 c6 w6 ho6 hg6 hb6 _; have HO6 := Lib.hid ho6; have HB6 := Lib.hid (Below.trans (HB5.out.alloc (by have := HB5.out.size; have := HBB.out; omega) _) hb6); clear ho6 hg6 hb6)
            have HO7 : Hid (OwnO B w6 a6 (m + 1) c6 (A ++ [(p, g, s)])) := Lib.hid (by have := HO6.out; rw [← cO_app] at this; exact this)
            go_roundw
            case rel => exact ⟨a6, m + 1, c6, i + 1, A ++ [(p, g, s)], rfl, by go_num, by omega, by omega, by omega, HO7, HG1, HB6⟩
            case measure => simp [intOf]; omega
    · -- the ways out
      rcases (show (¬ i < len) ∨ (i < len ∧ ¬ i < 16) by omega) with hx | hx
      · have hg1 : ¬ (i : Int) < (len : Int) := by omega
        clear hx hgo
        have HM16 : Hid (m ≤ 16) := Lib.hid (by omega)
        have hm16 : m ≤ 16 := HM16.out
        clear hi hi16 hmi
        go_wp2_with fail
        refine (new_any wr).mono ?_
        rintro e w3 ⟨rfl, hb3⟩
        have HB3 : Hid (Below B w w3) := Lib.hid (HB.out.trans (hb3.mono (by have := HB.out.size; have := HBB.out; omega)))
        have HO3 : Hid (OwnO B w3 a m c A) := Lib.hid (HO.out.keep hb3 (Nat.le_refl _))
        clear hb3
        go_wp2_with (refine store_env rfl (.tmp 11) (.tmp 59) rfl _ rfl none 0 0 zS rfl rfl none 0 0 z0 z0_len (hnew w3) ?_; intro w4 he4 hq4)
        obtain ⟨Ea, hEa⟩ : ∃ E, E = w3.heap.size := ⟨_, rfl⟩
        rw [← hEa] at he4 hq4 ⊢
        have HBa : Hid (B ≤ Ea) := Lib.hid (by rw [hEa]; have := HB3.out.size; have := HBB.out; omega)
        have HA4 := Lib.hid he4
        have HB4 : Hid (Below B w w4) := Lib.hid ((HB3.out.alloc (by rw [← hEa]; exact HBa.out) _).trans (hq4.below HBa.out))
        have HO4 : Hid (OwnO B w4 a m c A) := Lib.hid (ownO_env (HO3.out.alloc _) (by rw [hEa]; exact hnew w3) hq4)
        clear he4 hq4 hEa
        refine (new_any w4).mono ?_
        rintro e w5 ⟨rfl, hb5⟩
        have HB5 : Hid (Below B w w5) := Lib.hid (HB4.out.trans (hb5.mono (by have := HB4.out.size; have := HBB.out; omega)))
        have HO5 : Hid (OwnO B w5 a m c A) := Lib.hid (HO4.out.keep hb5 (Nat.le_refl _))
        have HA5 := Lib.hid (HA4.out.below hb5)
        clear hb5
        go_wp2_with (refine store_env rfl (.tmp 12) (.tmp 60) rfl _ rfl none 0 0 zS rfl rfl none 0 0 z0 z0_len (hnew w5) ?_; intro w6 he6 hq6)
        obtain ⟨Eb, hEb⟩ : ∃ E, E = w5.heap.size := ⟨_, rfl⟩
        rw [← hEb] at he6 hq6 ⊢
        have HBb : Hid (B ≤ Eb) := Lib.hid (by rw [hEb]; have := HB5.out.size; have := HBB.out; omega)
        have HAB : Hid (Ea ≠ Eb) := Lib.hid (by rw [hEb]; have := HA5.out.lt; omega)
        have HE6 := Lib.hid he6
        have HB6 : Hid (Below B w w6) := Lib.hid ((HB5.out.alloc (by rw [← hEb]; exact HBb.out) _).trans (hq6.below HBb.out))
        have HO6 : Hid (OwnO B w6 a m c A) := Lib.hid (ownO_env (HO5.out.alloc _) (by rw [hEb]; exact hnew w5) hq6)
        have HA6 : Hid (EB w6 Ea none 0 0 zS) := Lib.hid ((HA5.out.alloc _).only hq6 HAB.out)
        clear he6 hq6 hEb
        clear HO HB HB3 HO3 HA4 HB4 HO4 HB5 HO5 HA5
        go_loopw [14] (fun v wq => ∃ j : Nat, v = .int .i64 j ∧ j ≤ m ∧ ∃ a1 c1 a2 c2, Hid (EB wq Ea a1 j c1 zS) ∧ Hid (OwnO 0 wq a1 j c1 (addsL (A.take j))) ∧ Hid (EB wq Eb a2 j c2 zS) ∧ Hid (OwnO 0 wq a2 j c2 (addsL ((rotL A ys).take j))) ∧ Hid (OwnO B wq a m c A) ∧ Hid (Below B w wq)) (fun v _ => m - (intOf v).toNat)
        case atStart => exact ⟨0, rfl, Nat.zero_le _, none, 0, none, 0, HA6, Lib.hid OwnV.none0, HE6, Lib.hid OwnV.none0, HO6, HB6⟩
        case round =>
          rename World => wq
          clear HA6 HE6 HO6 HB6
          obtain ⟨j, rfl, hj, a1, c1, a2, c2, HEa, HOa, HEb, HOb, HA, HBq⟩ := hrel
          by_cases hjm : j < m
          · have hjm' : (j : Int) < (m : Int) := by omega
            obtain ⟨gA, cur, rfl, _, _, _, _, _⟩ := HA.out.form (HA.out.some (by omega))
            obtain ⟨idx, hidx⟩ : ∃ idx, idx = (j + ys) % m := ⟨_, rfl⟩
            have hidm : idx < m := by rw [hidx]; exact Nat.mod_lt _ (by omega)
            have hwj : IntKind.i64.wrap ((j : Int) + (ys : Int)) = (j : Int) + (ys : Int) := IntWalk.i64_in _ (by omega)
            have hre : ((j : Int) + (ys : Int)) % (m : Int) = (idx : Int) := by rw [hidx]; simp
            have hwy : IntKind.i64.wrap (ys : Int) = (ys : Int) := IntWalk.i64_in _ (by omega)
            have hid0 : (0 : Int) ≤ (idx : Int) ∧ (idx : Int) < (m : Int) := by omega
            have hrt : Int.tmod ((j : Int) + (ys : Int)) (m : Int) = (idx : Int) := by rw [Int.tmod_eq_emod_of_nonneg (by omega)]; exact hre
            have hm0 : ((m : Int) == 0) = false := beq_eq_false_iff_ne.2 (by omega)
            have hm0' : ¬ m = 0 := by omega
            have HRI : Hid (opA (rotL A ys) j = opA A idx) := Lib.hid (by rw [rotL_at (by rw [HAL.out]; exact hjm), HAL.out, ← hidx])
            clear hidx
            obtain ⟨q, hoX⟩ : ∃ q, q = opA A j := ⟨_, rfl⟩
            obtain ⟨pX, gX, sX⟩ := q
            have HQX : Hid ((pX, gX, sX) = opA A j) := Lib.hid hoX
            have HQLX : Hid (A.length = m) := HAL
            have HGDX : Hid (goodL A) := HG
            obtain ⟨q, hoY⟩ : ∃ q, q = opA A idx := ⟨_, rfl⟩
            obtain ⟨pY, gY, sY⟩ := q
            have HQY : Hid ((pY, gY, sY) = opA (rotL A ys) j) := Lib.hid (by rw [HRI.out]; exact hoY)
            have HQLY : Hid ((rotL A ys).length = m) := Lib.hid (by rw [rotL_len]; exact HAL.out)
            have HGDY : Hid (goodL (rotL A ys)) := Lib.hid (rotL_good HG.out ys)
            have HOY0 := Lib.hid hoY
            clear hoY
            have KTX : Hid (∀ w', Below wq.heap.size wq w' → Tab w' ∧ OpS w' a1 j c1 (addsL (A.take j)) ∧ w'.cell? ⟨Ea, 0, none⟩ = some (.slice a1 j c1) ∧ w'.cell? ⟨Ea, 1, none⟩ = some (.int .i64 0) ∧ w'.cell? ⟨Ea, 2, none⟩ = some (.int .i64 0) ∧ w'.cell? ⟨Ea, 3, none⟩ = some (.int .i64 2) ∧ w'.cell? ⟨Ea, 4, none⟩ = some (.int .i64 6) ∧ w'.cell? ⟨Ea, 5, none⟩ = some (.int .i64 14) ∧ w'.cell? ⟨Ea, 6, none⟩ = some (.int .i64 30) ∧ w'.cell? ⟨Ea, 7, none⟩ = some (.int .i64 0) ∧ w'.cell? ⟨Ea, 8, none⟩ = some (.int .i64 0) ∧ w'.cell? ⟨Ea, 9, none⟩ = some (.int .i64 0) ∧ w'.cell? ⟨Ea, 10, none⟩ = some (.int .i64 0) ∧ w'.cell? ⟨gA, j * 3, none⟩ = some (.string (mk pX)) ∧ w'.cell? ⟨gA, j * 3 + 1, none⟩ = some (.int .i64 gX) ∧ w'.cell? ⟨gA, j * 3 + 2, none⟩ = some (.int .i64 sX)) := Lib.hid fun w' h => ⟨(HT.out.keep (HBB.out ▸ HBq.out)).keep h, HOa.out.vs.below h, by
              obtain ⟨n0, n1, n2⟩ := OpS.at3 (HA.out.vs.below h) (k := j) (by omega)
              rw [← hoX, Nat.zero_add] at n0 n1 n2
              obtain ⟨e0, e1, e2, e3, e4, e5, e6, e7, e8, e9, e10⟩ := env_cells (HEa.out.below h)
              exact ⟨e0, e1, e2, e3, e4, e5, e6, e7, e8, e9, e10, n0, n1, n2⟩⟩
            have KAX : Hid (∀ w', Tab w' → OpS w' a1 j c1 (addsL (A.take j)) → Calls Tryd.prog 8 #[.agg (ev a1 j c1 zS), .agg #[.string (mk pX), .int .i64 gX, .int .i64 sX]] w' fun e w'' => ∃ a' c', e = .returned (.tuple #[.agg (ev a' (j + 1) c' zS), .int .i64 0]) ∧ OwnO 0 w'' a' (j + 1) c' (addsL (A.take (j + 1))) ∧ Below w'.heap.size w' w'') := Lib.hid fun w' h1 h2 => by
              have hsn : A.take (j + 1) = A.take j ++ [(pX, gX, sX)] := by rw [HQX.out, opA_take (by have := HQLX.out; omega)]
              rw [hsn]
              exact add_ok (A.take j) (pX, gX, sX) a1 j c1 w' h1 h2 (by rw [← hsn]; exact good_take HGDX.out _) (by rw [List.length_take]; omega) (by rw [List.length_take]; have := HQLX.out; omega)
            clear hoX
            go_upto_region 20 with fail
            go_cut [15, 16] from 63 to 98 (fun u v wx => ∃ F a' c', u = .pointer (some ⟨F, 0, none⟩) ∧ v = .int .i64 0 ∧ Hid (EB wx F a' (j + 1) c' zS) ∧ Hid (OwnO 0 wx a' (j + 1) c' (addsL (A.take (j + 1)))) ∧ Hid (Below wq.heap.size wq wx) ∧ Hid (wq.heap.size ≤ F))
            case first =>
              go_region_held3 (fun w' => w'.cell? ⟨Ea, 0, none⟩ = some (.slice a1 j c1) ∧ w'.cell? ⟨Ea, 1, none⟩ = some (.int .i64 0) ∧ w'.cell? ⟨Ea, 2, none⟩ = some (.int .i64 0) ∧ w'.cell? ⟨Ea, 3, none⟩ = some (.int .i64 2) ∧ w'.cell? ⟨Ea, 4, none⟩ = some (.int .i64 6) ∧ w'.cell? ⟨Ea, 5, none⟩ = some (.int .i64 14) ∧ w'.cell? ⟨Ea, 6, none⟩ = some (.int .i64 30) ∧ w'.cell? ⟨Ea, 7, none⟩ = some (.int .i64 0) ∧ w'.cell? ⟨Ea, 8, none⟩ = some (.int .i64 0) ∧ w'.cell? ⟨Ea, 9, none⟩ = some (.int .i64 0) ∧ w'.cell? ⟨Ea, 10, none⟩ = some (.int .i64 0) ∧ w'.cell? ⟨gA, j * 3, none⟩ = some (.string (mk pX)) ∧ w'.cell? ⟨gA, j * 3 + 1, none⟩ = some (.int .i64 gX) ∧ w'.cell? ⟨gA, j * 3 + 2, none⟩ = some (.int .i64 sX))
                (first
                  | exact (KTX.out _ ((HB6.out.alloc HB6.out.size _).trans ((Only.ofRow _ _ _).below HB6.out.size))).2.2
                  | exact (KTX.out _ (HB6.out.trans ((Only.ofRow _ _ _).below (Nat.le_refl _)))).2.2
                  | exact (KTX.out _ HB6.out).2.2
                  | exact (KTX.out _ (HB6.out.alloc HB6.out.size _)).2.2
                  | exact (KTX.out _ ((Below.refl _ _).drew.alloc (Nat.le_refl _) _)).2.2
                  | exact (KTX.out _ (Below.refl _ _).drew).2.2)
                (first
                  | (go_at_call 8; (refine (KAX.out _ (KTX.out _ (by first | exact (Below.refl _ _).drew | exact (Below.refl _ _).drew.alloc (Nat.le_refl _) _)).1 (KTX.out _ (by first | exact (Below.refl _ _).drew | exact (Below.refl _ _).drew.alloc (Nat.le_refl _) _)).2.1).mono ?_); rintro e w6 ⟨a6, c6, rfl, ho6, hb6⟩; have HO6 := Lib.hid ho6; (try have hx6 : EB w6 wq.heap.size none 0 0 z0 := (hnew wq.drew).below hb6); have HB6 : Hid (Below wq.heap.size wq w6) := Lib.hid (by first | exact (Below.refl _ _).drew.trans hb6 | exact ((Below.refl _ _).drew.alloc (Nat.le_refl _) _).trans (hb6.mono (by simp))); clear ho6 hb6))
              all_goals
                go_wp2
                go_meet
                first
                  | exact ⟨_, _, _, rfl, rfl, Lib.hid (env_put hx6 HO6.out HB6.out (Nat.le_refl _)).1, Lib.hid (env_put hx6 HO6.out HB6.out (Nat.le_refl _)).2.1, Lib.hid (env_put hx6 HO6.out HB6.out (Nat.le_refl _)).2.2, Lib.hid (Nat.le_refl _)⟩
                  | exact ⟨_, _, _, rfl, rfl, Lib.hid (env_put (hnew w6) (HO6.out.alloc _) (HB6.out.alloc HB6.out.size _) HB6.out.size).1, Lib.hid (env_put (hnew w6) (HO6.out.alloc _) (HB6.out.alloc HB6.out.size _) HB6.out.size).2.1, Lib.hid (env_put (hnew w6) (HO6.out.alloc _) (HB6.out.alloc HB6.out.size _) HB6.out.size).2.2, Lib.hid HB6.out.size⟩
            case rest =>
            obtain ⟨FX, aX, cX, rfl, rfl, HFX, HRX, HWX, HGFX⟩ := hcut
            clear KTX KAX
            have HAc : Hid (OwnO B wc (some ⟨gA, 0, none⟩) m c A) := Lib.hid (HA.out.keep HWX.out (Nat.le_refl _))
            have HBc : Hid (Below B w wc) := Lib.hid (HBq.out.trans (HWX.out.mono (by have := HBq.out.size; have := HBB.out; omega)))
            have HEa2 := Lib.hid (HEa.out.below HWX.out)
            have HEb2 := Lib.hid (HEb.out.below HWX.out)
            have HOb2 : Hid (OwnO 0 wc a2 j c2 (addsL ((rotL A ys).take j))) := Lib.hid (HOb.out.keep HWX.out (Nat.le_refl _))
            have hoY := HOY0.out
            obtain ⟨wk, hwk⟩ : ∃ wk, wk = wc := ⟨_, rfl⟩
            rw [← hwk] at HFX HRX HWX HAc HBc HEa2 HEb2 HOb2 ⊢
            clear hwk
            clear HA HBq HEa HEb HOb HOa
            have KTY : Hid (∀ w', Below wk.heap.size wk w' → Tab w' ∧ OpS w' a2 j c2 (addsL ((rotL A ys).take j)) ∧ w'.cell? ⟨Eb, 0, none⟩ = some (.slice a2 j c2) ∧ w'.cell? ⟨Eb, 1, none⟩ = some (.int .i64 0) ∧ w'.cell? ⟨Eb, 2, none⟩ = some (.int .i64 0) ∧ w'.cell? ⟨Eb, 3, none⟩ = some (.int .i64 2) ∧ w'.cell? ⟨Eb, 4, none⟩ = some (.int .i64 6) ∧ w'.cell? ⟨Eb, 5, none⟩ = some (.int .i64 14) ∧ w'.cell? ⟨Eb, 6, none⟩ = some (.int .i64 30) ∧ w'.cell? ⟨Eb, 7, none⟩ = some (.int .i64 0) ∧ w'.cell? ⟨Eb, 8, none⟩ = some (.int .i64 0) ∧ w'.cell? ⟨Eb, 9, none⟩ = some (.int .i64 0) ∧ w'.cell? ⟨Eb, 10, none⟩ = some (.int .i64 0) ∧ w'.cell? ⟨gA, idx * 3, none⟩ = some (.string (mk pY)) ∧ w'.cell? ⟨gA, idx * 3 + 1, none⟩ = some (.int .i64 gY) ∧ w'.cell? ⟨gA, idx * 3 + 2, none⟩ = some (.int .i64 sY)) := Lib.hid fun w' h => ⟨(HT.out.keep (HBB.out ▸ HBc.out)).keep h, HOb2.out.vs.below h, by
              obtain ⟨n0, n1, n2⟩ := OpS.at3 (HAc.out.vs.below h) (k := idx) (by omega)
              rw [← hoY, Nat.zero_add] at n0 n1 n2
              obtain ⟨e0, e1, e2, e3, e4, e5, e6, e7, e8, e9, e10⟩ := env_cells (HEb2.out.below h)
              exact ⟨e0, e1, e2, e3, e4, e5, e6, e7, e8, e9, e10, n0, n1, n2⟩⟩
            have KAY : Hid (∀ w', Tab w' → OpS w' a2 j c2 (addsL ((rotL A ys).take j)) → Calls Tryd.prog 8 #[.agg (ev a2 j c2 zS), .agg #[.string (mk pY), .int .i64 gY, .int .i64 sY]] w' fun e w'' => ∃ a' c', e = .returned (.tuple #[.agg (ev a' (j + 1) c' zS), .int .i64 0]) ∧ OwnO 0 w'' a' (j + 1) c' (addsL ((rotL A ys).take (j + 1))) ∧ Below w'.heap.size w' w'') := Lib.hid fun w' h1 h2 => by
              have hsn : (rotL A ys).take (j + 1) = (rotL A ys).take j ++ [(pY, gY, sY)] := by rw [HQY.out, opA_take (by have := HQLY.out; omega)]
              rw [hsn]
              exact add_ok ((rotL A ys).take j) (pY, gY, sY) a2 j c2 w' h1 h2 (by rw [← hsn]; exact good_take HGDY.out _) (by rw [List.length_take]; omega) (by rw [List.length_take]; have := HQLY.out; omega)
            clear hoY
            go_upto_region 21 with fail
            go_cut [17, 18] from 63 to 98 (fun u v wx => ∃ F a' c', u = .pointer (some ⟨F, 0, none⟩) ∧ v = .int .i64 0 ∧ Hid (EB wx F a' (j + 1) c' zS) ∧ Hid (OwnO 0 wx a' (j + 1) c' (addsL ((rotL A ys).take (j + 1)))) ∧ Hid (Below wk.heap.size wk wx) ∧ Hid (wk.heap.size ≤ F))
            case first =>
              go_region_held3 (fun w' => w'.cell? ⟨Eb, 0, none⟩ = some (.slice a2 j c2) ∧ w'.cell? ⟨Eb, 1, none⟩ = some (.int .i64 0) ∧ w'.cell? ⟨Eb, 2, none⟩ = some (.int .i64 0) ∧ w'.cell? ⟨Eb, 3, none⟩ = some (.int .i64 2) ∧ w'.cell? ⟨Eb, 4, none⟩ = some (.int .i64 6) ∧ w'.cell? ⟨Eb, 5, none⟩ = some (.int .i64 14) ∧ w'.cell? ⟨Eb, 6, none⟩ = some (.int .i64 30) ∧ w'.cell? ⟨Eb, 7, none⟩ = some (.int .i64 0) ∧ w'.cell? ⟨Eb, 8, none⟩ = some (.int .i64 0) ∧ w'.cell? ⟨Eb, 9, none⟩ = some (.int .i64 0) ∧ w'.cell? ⟨Eb, 10, none⟩ = some (.int .i64 0) ∧ w'.cell? ⟨gA, idx * 3, none⟩ = some (.string (mk pY)) ∧ w'.cell? ⟨gA, idx * 3 + 1, none⟩ = some (.int .i64 gY) ∧ w'.cell? ⟨gA, idx * 3 + 2, none⟩ = some (.int .i64 sY))
                (first
                  | exact (KTY.out _ ((HB6.out.alloc HB6.out.size _).trans ((Only.ofRow _ _ _).below HB6.out.size))).2.2
                  | exact (KTY.out _ (HB6.out.trans ((Only.ofRow _ _ _).below (Nat.le_refl _)))).2.2
                  | exact (KTY.out _ HB6.out).2.2
                  | exact (KTY.out _ (HB6.out.alloc HB6.out.size _)).2.2
                  | exact (KTY.out _ ((Below.refl _ _).drew.alloc (Nat.le_refl _) _)).2.2
                  | exact (KTY.out _ (Below.refl _ _).drew).2.2)
                (first
                  | (go_at_call 8; (refine (KAY.out _ (KTY.out _ (by first | exact (Below.refl _ _).drew | exact (Below.refl _ _).drew.alloc (Nat.le_refl _) _)).1 (KTY.out _ (by first | exact (Below.refl _ _).drew | exact (Below.refl _ _).drew.alloc (Nat.le_refl _) _)).2.1).mono ?_); rintro e w6 ⟨a6, c6, rfl, ho6, hb6⟩; have HO6 := Lib.hid ho6; (try have hx6 : EB w6 wk.heap.size none 0 0 z0 := (hnew wk.drew).below hb6); have HB6 : Hid (Below wk.heap.size wk w6) := Lib.hid (by first | exact (Below.refl _ _).drew.trans hb6 | exact ((Below.refl _ _).drew.alloc (Nat.le_refl _) _).trans (hb6.mono (by simp))); clear ho6 hb6))
              all_goals
                go_wp2
                go_meet
                first
                  | exact ⟨_, _, _, rfl, rfl, Lib.hid (env_put hx6 HO6.out HB6.out (Nat.le_refl _)).1, Lib.hid (env_put hx6 HO6.out HB6.out (Nat.le_refl _)).2.1, Lib.hid (env_put hx6 HO6.out HB6.out (Nat.le_refl _)).2.2, Lib.hid (Nat.le_refl _)⟩
                  | exact ⟨_, _, _, rfl, rfl, Lib.hid (env_put (hnew w6) (HO6.out.alloc _) (HB6.out.alloc HB6.out.size _) HB6.out.size).1, Lib.hid (env_put (hnew w6) (HO6.out.alloc _) (HB6.out.alloc HB6.out.size _) HB6.out.size).2.1, Lib.hid (env_put (hnew w6) (HO6.out.alloc _) (HB6.out.alloc HB6.out.size _) HB6.out.size).2.2, Lib.hid HB6.out.size⟩
            case rest =>
            obtain ⟨FY, aY, cY, rfl, rfl, HFY, HRY, HWY, HGFY⟩ := hcut
            clear KTY KAY
            have HAd : Hid (OwnO B wc (some ⟨gA, 0, none⟩) m c A) := Lib.hid (HAc.out.keep HWY.out (Nat.le_refl _))
            have HBd : Hid (Below B w wc) := Lib.hid (HBc.out.trans (HWY.out.mono (by have := HBc.out.size; have := HBB.out; omega)))
            have HEad := Lib.hid (HEa2.out.below HWY.out)
            have HEbd := Lib.hid (HEb2.out.below HWY.out)
            have HFXd := Lib.hid (HFX.out.below HWY.out)
            have HRXd : Hid (OwnO 0 wc aX (j + 1) cX (addsL (A.take (j + 1)))) := Lib.hid (HRX.out.keep HWY.out (Nat.le_refl _))
            have HNE : Hid (FY ≠ Ea) := Lib.hid (by have := HEa2.out.lt; have := HGFY.out; omega)
            clear hst hnew hre hrt hm0 hm0' hwj hwy hid0
            go_wp2_with (first
              | (refine store_env rfl (.tmp 12) (.tmp 98) rfl Eb rfl aY (j + 1) cY zS rfl rfl a2 j c2 zS rfl HEbe.out ?_; intro w8 he8 hq8; have HE8 := Lib.hid he8; have HQ8 := Lib.hid hq8; clear he8 hq8)
              | (refine load_env rfl (.tmp 17) rfl FY rfl aY (j + 1) cY zS rfl HFYe.out ?_)
              | (refine store_env rfl (.tmp 11) (.tmp 97) rfl Ea rfl aX (j + 1) cX zS rfl rfl a1 j c1 zS rfl HEad.out ?_; intro w7 he7 hq7; have HE7 := Lib.hid he7; have HQ7 := Lib.hid hq7; have HEbe := Lib.hid (HEbd.out.only hq7 HAB.out.symm); have HFYe := Lib.hid (HFY.out.only hq7 HNE.out); clear he7 hq7)
              | (refine load_env rfl (.tmp 15) rfl FX rfl aX (j + 1) cX zS rfl HFXd.out ?_))
            have HZ1 := Lib.hid (HE7.out.only HQ8.out HAB.out)
            have HZ2 : Hid (OwnO 0 w8 aX (j + 1) cX (addsL (A.take (j + 1)))) := Lib.hid (ownO_env (ownO_env HRXd.out HEad.out HQ7.out) HEbe.out HQ8.out)
            have HZ3 : Hid (OwnO 0 w8 aY (j + 1) cY (addsL ((rotL A ys).take (j + 1)))) := Lib.hid (ownO_env (ownO_env HRY.out HEad.out HQ7.out) HEbe.out HQ8.out)
            have HZ4 : Hid (OwnO B w8 (some ⟨gA, 0, none⟩) m c A) := Lib.hid (ownO_env (ownO_env HAd.out HEad.out HQ7.out) HEbe.out HQ8.out)
            have HZ5 : Hid (Below B w w8) := Lib.hid ((HBd.out.trans (HQ7.out.below HBa.out)).trans (HQ8.out.below HBb.out))
            go_roundw
            case rel => exact ⟨j + 1, by go_num, by omega, aX, cX, aY, cY, HZ1, HZ2, HE8, HZ3, HZ4, HZ5⟩
            case measure => simp [intOf]; omega
          · have hjm' : ¬ (j : Int) < (m : Int) := by omega
            obtain rfl : j = m := by omega
            have HT1 : Hid (A.take j = A) := Lib.hid (List.take_of_length_le (by rw [HAL.out]; exact Nat.le_refl _))
            have HT2 : Hid ((rotL A ys).take j = rotL A ys) := Lib.hid (List.take_of_length_le (by rw [rotL_len, HAL.out]; exact Nat.le_refl _))
            rw [HT1.out] at HOa
            rw [HT2.out] at HOb
            clear hst hnew
            go_wp2_with (first
              | (refine load_env rfl (.tmp 11) rfl Ea rfl a1 j c1 zS rfl HEa.out ?_)
              | (refine load_env rfl (.tmp 12) rfl Eb rfl a2 j c2 zS rfl HEb.out ?_))
            refine (equal_any a1 a2 j j c1 c2 (addsL A) (addsL (rotL A ys)) zS zS wq HOa.out.vs HOb.out.vs rfl rfl (by omega) (by omega)).mono ?_
            rintro e w9 ⟨rfl, hb9⟩
            rw [decide_eq_true (show addsL A = addsL (rotL A ys) ∧ zS = zS from ⟨rotL_adds HG.out ys, rfl⟩)]
            have e9 := (HEa.out.below hb9).c0
            have HB9 : Hid (Below B w w9) := Lib.hid (HBq.out.trans (hb9.mono (by have := HBq.out.size; have := HBB.out; omega)))
            clear hb9
            go_wp2
            go_ret
            exact ⟨rfl, by rw [← HBB.out]; exact HB9.out⟩
      · obtain ⟨hx1, hx2⟩ := hx
        have hg1 : (i : Int) < (len : Int) := by omega
        have hg2 : ¬ (i : Int) < 16 := by omega
        clear hx1 hx2 hgo
        have HM16 : Hid (m ≤ 16) := Lib.hid (by omega)
        have hm16 : m ≤ 16 := HM16.out
        clear hi hi16 hmi
        go_wp2_with fail
        refine (new_any wr).mono ?_
        rintro e w3 ⟨rfl, hb3⟩
        have HB3 : Hid (Below B w w3) := Lib.hid (HB.out.trans (hb3.mono (by have := HB.out.size; have := HBB.out; omega)))
        have HO3 : Hid (OwnO B w3 a m c A) := Lib.hid (HO.out.keep hb3 (Nat.le_refl _))
        clear hb3
        go_wp2_with (refine store_env rfl (.tmp 11) (.tmp 59) rfl _ rfl none 0 0 zS rfl rfl none 0 0 z0 z0_len (hnew w3) ?_; intro w4 he4 hq4)
        obtain ⟨Ea, hEa⟩ : ∃ E, E = w3.heap.size := ⟨_, rfl⟩
        rw [← hEa] at he4 hq4 ⊢
        have HBa : Hid (B ≤ Ea) := Lib.hid (by rw [hEa]; have := HB3.out.size; have := HBB.out; omega)
        have HA4 := Lib.hid he4
        have HB4 : Hid (Below B w w4) := Lib.hid ((HB3.out.alloc (by rw [← hEa]; exact HBa.out) _).trans (hq4.below HBa.out))
        have HO4 : Hid (OwnO B w4 a m c A) := Lib.hid (ownO_env (HO3.out.alloc _) (by rw [hEa]; exact hnew w3) hq4)
        clear he4 hq4 hEa
        refine (new_any w4).mono ?_
        rintro e w5 ⟨rfl, hb5⟩
        have HB5 : Hid (Below B w w5) := Lib.hid (HB4.out.trans (hb5.mono (by have := HB4.out.size; have := HBB.out; omega)))
        have HO5 : Hid (OwnO B w5 a m c A) := Lib.hid (HO4.out.keep hb5 (Nat.le_refl _))
        have HA5 := Lib.hid (HA4.out.below hb5)
        clear hb5
        go_wp2_with (refine store_env rfl (.tmp 12) (.tmp 60) rfl _ rfl none 0 0 zS rfl rfl none 0 0 z0 z0_len (hnew w5) ?_; intro w6 he6 hq6)
        obtain ⟨Eb, hEb⟩ : ∃ E, E = w5.heap.size := ⟨_, rfl⟩
        rw [← hEb] at he6 hq6 ⊢
        have HBb : Hid (B ≤ Eb) := Lib.hid (by rw [hEb]; have := HB5.out.size; have := HBB.out; omega)
        have HAB : Hid (Ea ≠ Eb) := Lib.hid (by rw [hEb]; have := HA5.out.lt; omega)
        have HE6 := Lib.hid he6
        have HB6 : Hid (Below B w w6) := Lib.hid ((HB5.out.alloc (by rw [← hEb]; exact HBb.out) _).trans (hq6.below HBb.out))
        have HO6 : Hid (OwnO B w6 a m c A) := Lib.hid (ownO_env (HO5.out.alloc _) (by rw [hEb]; exact hnew w5) hq6)
        have HA6 : Hid (EB w6 Ea none 0 0 zS) := Lib.hid ((HA5.out.alloc _).only hq6 HAB.out)
        clear he6 hq6 hEb
        clear HO HB HB3 HO3 HA4 HB4 HO4 HB5 HO5 HA5
        go_loopw [14] (fun v wq => ∃ j : Nat, v = .int .i64 j ∧ j ≤ m ∧ ∃ a1 c1 a2 c2, Hid (EB wq Ea a1 j c1 zS) ∧ Hid (OwnO 0 wq a1 j c1 (addsL (A.take j))) ∧ Hid (EB wq Eb a2 j c2 zS) ∧ Hid (OwnO 0 wq a2 j c2 (addsL ((rotL A ys).take j))) ∧ Hid (OwnO B wq a m c A) ∧ Hid (Below B w wq)) (fun v _ => m - (intOf v).toNat)
        case atStart => exact ⟨0, rfl, Nat.zero_le _, none, 0, none, 0, HA6, Lib.hid OwnV.none0, HE6, Lib.hid OwnV.none0, HO6, HB6⟩
        case round =>
          rename World => wq
          clear HA6 HE6 HO6 HB6
          obtain ⟨j, rfl, hj, a1, c1, a2, c2, HEa, HOa, HEb, HOb, HA, HBq⟩ := hrel
          by_cases hjm : j < m
          · have hjm' : (j : Int) < (m : Int) := by omega
            obtain ⟨gA, cur, rfl, _, _, _, _, _⟩ := HA.out.form (HA.out.some (by omega))
            obtain ⟨idx, hidx⟩ : ∃ idx, idx = (j + ys) % m := ⟨_, rfl⟩
            have hidm : idx < m := by rw [hidx]; exact Nat.mod_lt _ (by omega)
            have hwj : IntKind.i64.wrap ((j : Int) + (ys : Int)) = (j : Int) + (ys : Int) := IntWalk.i64_in _ (by omega)
            have hre : ((j : Int) + (ys : Int)) % (m : Int) = (idx : Int) := by rw [hidx]; simp
            have hwy : IntKind.i64.wrap (ys : Int) = (ys : Int) := IntWalk.i64_in _ (by omega)
            have hid0 : (0 : Int) ≤ (idx : Int) ∧ (idx : Int) < (m : Int) := by omega
            have hrt : Int.tmod ((j : Int) + (ys : Int)) (m : Int) = (idx : Int) := by rw [Int.tmod_eq_emod_of_nonneg (by omega)]; exact hre
            have hm0 : ((m : Int) == 0) = false := beq_eq_false_iff_ne.2 (by omega)
            have hm0' : ¬ m = 0 := by omega
            have HRI : Hid (opA (rotL A ys) j = opA A idx) := Lib.hid (by rw [rotL_at (by rw [HAL.out]; exact hjm), HAL.out, ← hidx])
            clear hidx
            obtain ⟨q, hoX⟩ : ∃ q, q = opA A j := ⟨_, rfl⟩
            obtain ⟨pX, gX, sX⟩ := q
            have HQX : Hid ((pX, gX, sX) = opA A j) := Lib.hid hoX
            have HQLX : Hid (A.length = m) := HAL
            have HGDX : Hid (goodL A) := HG
            obtain ⟨q, hoY⟩ : ∃ q, q = opA A idx := ⟨_, rfl⟩
            obtain ⟨pY, gY, sY⟩ := q
            have HQY : Hid ((pY, gY, sY) = opA (rotL A ys) j) := Lib.hid (by rw [HRI.out]; exact hoY)
            have HQLY : Hid ((rotL A ys).length = m) := Lib.hid (by rw [rotL_len]; exact HAL.out)
            have HGDY : Hid (goodL (rotL A ys)) := Lib.hid (rotL_good HG.out ys)
            have HOY0 := Lib.hid hoY
            clear hoY
            have KTX : Hid (∀ w', Below wq.heap.size wq w' → Tab w' ∧ OpS w' a1 j c1 (addsL (A.take j)) ∧ w'.cell? ⟨Ea, 0, none⟩ = some (.slice a1 j c1) ∧ w'.cell? ⟨Ea, 1, none⟩ = some (.int .i64 0) ∧ w'.cell? ⟨Ea, 2, none⟩ = some (.int .i64 0) ∧ w'.cell? ⟨Ea, 3, none⟩ = some (.int .i64 2) ∧ w'.cell? ⟨Ea, 4, none⟩ = some (.int .i64 6) ∧ w'.cell? ⟨Ea, 5, none⟩ = some (.int .i64 14) ∧ w'.cell? ⟨Ea, 6, none⟩ = some (.int .i64 30) ∧ w'.cell? ⟨Ea, 7, none⟩ = some (.int .i64 0) ∧ w'.cell? ⟨Ea, 8, none⟩ = some (.int .i64 0) ∧ w'.cell? ⟨Ea, 9, none⟩ = some (.int .i64 0) ∧ w'.cell? ⟨Ea, 10, none⟩ = some (.int .i64 0) ∧ w'.cell? ⟨gA, j * 3, none⟩ = some (.string (mk pX)) ∧ w'.cell? ⟨gA, j * 3 + 1, none⟩ = some (.int .i64 gX) ∧ w'.cell? ⟨gA, j * 3 + 2, none⟩ = some (.int .i64 sX)) := Lib.hid fun w' h => ⟨(HT.out.keep (HBB.out ▸ HBq.out)).keep h, HOa.out.vs.below h, by
              obtain ⟨n0, n1, n2⟩ := OpS.at3 (HA.out.vs.below h) (k := j) (by omega)
              rw [← hoX, Nat.zero_add] at n0 n1 n2
              obtain ⟨e0, e1, e2, e3, e4, e5, e6, e7, e8, e9, e10⟩ := env_cells (HEa.out.below h)
              exact ⟨e0, e1, e2, e3, e4, e5, e6, e7, e8, e9, e10, n0, n1, n2⟩⟩
            have KAX : Hid (∀ w', Tab w' → OpS w' a1 j c1 (addsL (A.take j)) → Calls Tryd.prog 8 #[.agg (ev a1 j c1 zS), .agg #[.string (mk pX), .int .i64 gX, .int .i64 sX]] w' fun e w'' => ∃ a' c', e = .returned (.tuple #[.agg (ev a' (j + 1) c' zS), .int .i64 0]) ∧ OwnO 0 w'' a' (j + 1) c' (addsL (A.take (j + 1))) ∧ Below w'.heap.size w' w'') := Lib.hid fun w' h1 h2 => by
              have hsn : A.take (j + 1) = A.take j ++ [(pX, gX, sX)] := by rw [HQX.out, opA_take (by have := HQLX.out; omega)]
              rw [hsn]
              exact add_ok (A.take j) (pX, gX, sX) a1 j c1 w' h1 h2 (by rw [← hsn]; exact good_take HGDX.out _) (by rw [List.length_take]; omega) (by rw [List.length_take]; have := HQLX.out; omega)
            clear hoX
            go_upto_region 20 with fail
            go_cut [15, 16] from 63 to 98 (fun u v wx => ∃ F a' c', u = .pointer (some ⟨F, 0, none⟩) ∧ v = .int .i64 0 ∧ Hid (EB wx F a' (j + 1) c' zS) ∧ Hid (OwnO 0 wx a' (j + 1) c' (addsL (A.take (j + 1)))) ∧ Hid (Below wq.heap.size wq wx) ∧ Hid (wq.heap.size ≤ F))
            case first =>
              go_region_held3 (fun w' => w'.cell? ⟨Ea, 0, none⟩ = some (.slice a1 j c1) ∧ w'.cell? ⟨Ea, 1, none⟩ = some (.int .i64 0) ∧ w'.cell? ⟨Ea, 2, none⟩ = some (.int .i64 0) ∧ w'.cell? ⟨Ea, 3, none⟩ = some (.int .i64 2) ∧ w'.cell? ⟨Ea, 4, none⟩ = some (.int .i64 6) ∧ w'.cell? ⟨Ea, 5, none⟩ = some (.int .i64 14) ∧ w'.cell? ⟨Ea, 6, none⟩ = some (.int .i64 30) ∧ w'.cell? ⟨Ea, 7, none⟩ = some (.int .i64 0) ∧ w'.cell? ⟨Ea, 8, none⟩ = some (.int .i64 0) ∧ w'.cell? ⟨Ea, 9, none⟩ = some (.int .i64 0) ∧ w'.cell? ⟨Ea, 10, none⟩ = some (.int .i64 0) ∧ w'.cell? ⟨gA, j * 3, none⟩ = some (.string (mk pX)) ∧ w'.cell? ⟨gA, j * 3 + 1, none⟩ = some (.int .i64 gX) ∧ w'.cell? ⟨gA, j * 3 + 2, none⟩ = some (.int .i64 sX))
                (first
                  | exact (KTX.out _ ((HB6.out.alloc HB6.out.size _).trans ((Only.ofRow _ _ _).below HB6.out.size))).2.2
                  | exact (KTX.out _ (HB6.out.trans ((Only.ofRow _ _ _).below (Nat.le_refl _)))).2.2
                  | exact (KTX.out _ HB6.out).2.2
                  | exact (KTX.out _ (HB6.out.alloc HB6.out.size _)).2.2
                  | exact (KTX.out _ ((Below.refl _ _).drew.alloc (Nat.le_refl _) _)).2.2
                  | exact (KTX.out _ (Below.refl _ _).drew).2.2)
                (first
                  | (go_at_call 8; (refine (KAX.out _ (KTX.out _ (by first | exact (Below.refl _ _).drew | exact (Below.refl _ _).drew.alloc (Nat.le_refl _) _)).1 (KTX.out _ (by first | exact (Below.refl _ _).drew | exact (Below.refl _ _).drew.alloc (Nat.le_refl _) _)).2.1).mono ?_); rintro e w6 ⟨a6, c6, rfl, ho6, hb6⟩; have HO6 := Lib.hid ho6; (try have hx6 : EB w6 wq.heap.size none 0 0 z0 := (hnew wq.drew).below hb6); have HB6 : Hid (Below wq.heap.size wq w6) := Lib.hid (by first | exact (Below.refl _ _).drew.trans hb6 | exact ((Below.refl _ _).drew.alloc (Nat.le_refl _) _).trans (hb6.mono (by simp))); clear ho6 hb6))
              all_goals
                go_wp2
                go_meet
                first
                  | exact ⟨_, _, _, rfl, rfl, Lib.hid (env_put hx6 HO6.out HB6.out (Nat.le_refl _)).1, Lib.hid (env_put hx6 HO6.out HB6.out (Nat.le_refl _)).2.1, Lib.hid (env_put hx6 HO6.out HB6.out (Nat.le_refl _)).2.2, Lib.hid (Nat.le_refl _)⟩
                  | exact ⟨_, _, _, rfl, rfl, Lib.hid (env_put (hnew w6) (HO6.out.alloc _) (HB6.out.alloc HB6.out.size _) HB6.out.size).1, Lib.hid (env_put (hnew w6) (HO6.out.alloc _) (HB6.out.alloc HB6.out.size _) HB6.out.size).2.1, Lib.hid (env_put (hnew w6) (HO6.out.alloc _) (HB6.out.alloc HB6.out.size _) HB6.out.size).2.2, Lib.hid HB6.out.size⟩
            case rest =>
            obtain ⟨FX, aX, cX, rfl, rfl, HFX, HRX, HWX, HGFX⟩ := hcut
            clear KTX KAX
            have HAc : Hid (OwnO B wc (some ⟨gA, 0, none⟩) m c A) := Lib.hid (HA.out.keep HWX.out (Nat.le_refl _))
            have HBc : Hid (Below B w wc) := Lib.hid (HBq.out.trans (HWX.out.mono (by have := HBq.out.size; have := HBB.out; omega)))
            have HEa2 := Lib.hid (HEa.out.below HWX.out)
            have HEb2 := Lib.hid (HEb.out.below HWX.out)
            have HOb2 : Hid (OwnO 0 wc a2 j c2 (addsL ((rotL A ys).take j))) := Lib.hid (HOb.out.keep HWX.out (Nat.le_refl _))
            have hoY := HOY0.out
            obtain ⟨wk, hwk⟩ : ∃ wk, wk = wc := ⟨_, rfl⟩
            rw [← hwk] at HFX HRX HWX HAc HBc HEa2 HEb2 HOb2 ⊢
            clear hwk
            clear HA HBq HEa HEb HOb HOa
            have KTY : Hid (∀ w', Below wk.heap.size wk w' → Tab w' ∧ OpS w' a2 j c2 (addsL ((rotL A ys).take j)) ∧ w'.cell? ⟨Eb, 0, none⟩ = some (.slice a2 j c2) ∧ w'.cell? ⟨Eb, 1, none⟩ = some (.int .i64 0) ∧ w'.cell? ⟨Eb, 2, none⟩ = some (.int .i64 0) ∧ w'.cell? ⟨Eb, 3, none⟩ = some (.int .i64 2) ∧ w'.cell? ⟨Eb, 4, none⟩ = some (.int .i64 6) ∧ w'.cell? ⟨Eb, 5, none⟩ = some (.int .i64 14) ∧ w'.cell? ⟨Eb, 6, none⟩ = some (.int .i64 30) ∧ w'.cell? ⟨Eb, 7, none⟩ = some (.int .i64 0) ∧ w'.cell? ⟨Eb, 8, none⟩ = some (.int .i64 0) ∧ w'.cell? ⟨Eb, 9, none⟩ = some (.int .i64 0) ∧ w'.cell? ⟨Eb, 10, none⟩ = some (.int .i64 0) ∧ w'.cell? ⟨gA, idx * 3, none⟩ = some (.string (mk pY)) ∧ w'.cell? ⟨gA, idx * 3 + 1, none⟩ = some (.int .i64 gY) ∧ w'.cell? ⟨gA, idx * 3 + 2, none⟩ = some (.int .i64 sY)) := Lib.hid fun w' h => ⟨(HT.out.keep (HBB.out ▸ HBc.out)).keep h, HOb2.out.vs.below h, by
              obtain ⟨n0, n1, n2⟩ := OpS.at3 (HAc.out.vs.below h) (k := idx) (by omega)
              rw [← hoY, Nat.zero_add] at n0 n1 n2
              obtain ⟨e0, e1, e2, e3, e4, e5, e6, e7, e8, e9, e10⟩ := env_cells (HEb2.out.below h)
              exact ⟨e0, e1, e2, e3, e4, e5, e6, e7, e8, e9, e10, n0, n1, n2⟩⟩
            have KAY : Hid (∀ w', Tab w' → OpS w' a2 j c2 (addsL ((rotL A ys).take j)) → Calls Tryd.prog 8 #[.agg (ev a2 j c2 zS), .agg #[.string (mk pY), .int .i64 gY, .int .i64 sY]] w' fun e w'' => ∃ a' c', e = .returned (.tuple #[.agg (ev a' (j + 1) c' zS), .int .i64 0]) ∧ OwnO 0 w'' a' (j + 1) c' (addsL ((rotL A ys).take (j + 1))) ∧ Below w'.heap.size w' w'') := Lib.hid fun w' h1 h2 => by
              have hsn : (rotL A ys).take (j + 1) = (rotL A ys).take j ++ [(pY, gY, sY)] := by rw [HQY.out, opA_take (by have := HQLY.out; omega)]
              rw [hsn]
              exact add_ok ((rotL A ys).take j) (pY, gY, sY) a2 j c2 w' h1 h2 (by rw [← hsn]; exact good_take HGDY.out _) (by rw [List.length_take]; omega) (by rw [List.length_take]; have := HQLY.out; omega)
            clear hoY
            go_upto_region 21 with fail
            go_cut [17, 18] from 63 to 98 (fun u v wx => ∃ F a' c', u = .pointer (some ⟨F, 0, none⟩) ∧ v = .int .i64 0 ∧ Hid (EB wx F a' (j + 1) c' zS) ∧ Hid (OwnO 0 wx a' (j + 1) c' (addsL ((rotL A ys).take (j + 1)))) ∧ Hid (Below wk.heap.size wk wx) ∧ Hid (wk.heap.size ≤ F))
            case first =>
              go_region_held3 (fun w' => w'.cell? ⟨Eb, 0, none⟩ = some (.slice a2 j c2) ∧ w'.cell? ⟨Eb, 1, none⟩ = some (.int .i64 0) ∧ w'.cell? ⟨Eb, 2, none⟩ = some (.int .i64 0) ∧ w'.cell? ⟨Eb, 3, none⟩ = some (.int .i64 2) ∧ w'.cell? ⟨Eb, 4, none⟩ = some (.int .i64 6) ∧ w'.cell? ⟨Eb, 5, none⟩ = some (.int .i64 14) ∧ w'.cell? ⟨Eb, 6, none⟩ = some (.int .i64 30) ∧ w'.cell? ⟨Eb, 7, none⟩ = some (.int .i64 0) ∧ w'.cell? ⟨Eb, 8, none⟩ = some (.int .i64 0) ∧ w'.cell? ⟨Eb, 9, none⟩ = some (.int .i64 0) ∧ w'.cell? ⟨Eb, 10, none⟩ = some (.int .i64 0) ∧ w'.cell? ⟨gA, idx * 3, none⟩ = some (.string (mk pY)) ∧ w'.cell? ⟨gA, idx * 3 + 1, none⟩ = some (.int .i64 gY) ∧ w'.cell? ⟨gA, idx * 3 + 2, none⟩ = some (.int .i64 sY))
                (first
                  | exact (KTY.out _ ((HB6.out.alloc HB6.out.size _).trans ((Only.ofRow _ _ _).below HB6.out.size))).2.2
                  | exact (KTY.out _ (HB6.out.trans ((Only.ofRow _ _ _).below (Nat.le_refl _)))).2.2
                  | exact (KTY.out _ HB6.out).2.2
                  | exact (KTY.out _ (HB6.out.alloc HB6.out.size _)).2.2
                  | exact (KTY.out _ ((Below.refl _ _).drew.alloc (Nat.le_refl _) _)).2.2
                  | exact (KTY.out _ (Below.refl _ _).drew).2.2)
                (first
                  | (go_at_call 8; (refine (KAY.out _ (KTY.out _ (by first | exact (Below.refl _ _).drew | exact (Below.refl _ _).drew.alloc (Nat.le_refl _) _)).1 (KTY.out _ (by first | exact (Below.refl _ _).drew | exact (Below.refl _ _).drew.alloc (Nat.le_refl _) _)).2.1).mono ?_); rintro e w6 ⟨a6, c6, rfl, ho6, hb6⟩; have HO6 := Lib.hid ho6; (try have hx6 : EB w6 wk.heap.size none 0 0 z0 := (hnew wk.drew).below hb6); have HB6 : Hid (Below wk.heap.size wk w6) := Lib.hid (by first | exact (Below.refl _ _).drew.trans hb6 | exact ((Below.refl _ _).drew.alloc (Nat.le_refl _) _).trans (hb6.mono (by simp))); clear ho6 hb6))
              all_goals
                go_wp2
                go_meet
                first
                  | exact ⟨_, _, _, rfl, rfl, Lib.hid (env_put hx6 HO6.out HB6.out (Nat.le_refl _)).1, Lib.hid (env_put hx6 HO6.out HB6.out (Nat.le_refl _)).2.1, Lib.hid (env_put hx6 HO6.out HB6.out (Nat.le_refl _)).2.2, Lib.hid (Nat.le_refl _)⟩
                  | exact ⟨_, _, _, rfl, rfl, Lib.hid (env_put (hnew w6) (HO6.out.alloc _) (HB6.out.alloc HB6.out.size _) HB6.out.size).1, Lib.hid (env_put (hnew w6) (HO6.out.alloc _) (HB6.out.alloc HB6.out.size _) HB6.out.size).2.1, Lib.hid (env_put (hnew w6) (HO6.out.alloc _) (HB6.out.alloc HB6.out.size _) HB6.out.size).2.2, Lib.hid HB6.out.size⟩
            case rest =>
            obtain ⟨FY, aY, cY, rfl, rfl, HFY, HRY, HWY, HGFY⟩ := hcut
            clear KTY KAY
            have HAd : Hid (OwnO B wc (some ⟨gA, 0, none⟩) m c A) := Lib.hid (HAc.out.keep HWY.out (Nat.le_refl _))
            have HBd : Hid (Below B w wc) := Lib.hid (HBc.out.trans (HWY.out.mono (by have := HBc.out.size; have := HBB.out; omega)))
            have HEad := Lib.hid (HEa2.out.below HWY.out)
            have HEbd := Lib.hid (HEb2.out.below HWY.out)
            have HFXd := Lib.hid (HFX.out.below HWY.out)
            have HRXd : Hid (OwnO 0 wc aX (j + 1) cX (addsL (A.take (j + 1)))) := Lib.hid (HRX.out.keep HWY.out (Nat.le_refl _))
            have HNE : Hid (FY ≠ Ea) := Lib.hid (by have := HEa2.out.lt; have := HGFY.out; omega)
            clear hst hnew hre hrt hm0 hm0' hwj hwy hid0
            go_wp2_with (first
              | (refine store_env rfl (.tmp 12) (.tmp 98) rfl Eb rfl aY (j + 1) cY zS rfl rfl a2 j c2 zS rfl HEbe.out ?_; intro w8 he8 hq8; have HE8 := Lib.hid he8; have HQ8 := Lib.hid hq8; clear he8 hq8)
              | (refine load_env rfl (.tmp 17) rfl FY rfl aY (j + 1) cY zS rfl HFYe.out ?_)
              | (refine store_env rfl (.tmp 11) (.tmp 97) rfl Ea rfl aX (j + 1) cX zS rfl rfl a1 j c1 zS rfl HEad.out ?_; intro w7 he7 hq7; have HE7 := Lib.hid he7; have HQ7 := Lib.hid hq7; have HEbe := Lib.hid (HEbd.out.only hq7 HAB.out.symm); have HFYe := Lib.hid (HFY.out.only hq7 HNE.out); clear he7 hq7)
              | (refine load_env rfl (.tmp 15) rfl FX rfl aX (j + 1) cX zS rfl HFXd.out ?_))
            have HZ1 := Lib.hid (HE7.out.only HQ8.out HAB.out)
            have HZ2 : Hid (OwnO 0 w8 aX (j + 1) cX (addsL (A.take (j + 1)))) := Lib.hid (ownO_env (ownO_env HRXd.out HEad.out HQ7.out) HEbe.out HQ8.out)
            have HZ3 : Hid (OwnO 0 w8 aY (j + 1) cY (addsL ((rotL A ys).take (j + 1)))) := Lib.hid (ownO_env (ownO_env HRY.out HEad.out HQ7.out) HEbe.out HQ8.out)
            have HZ4 : Hid (OwnO B w8 (some ⟨gA, 0, none⟩) m c A) := Lib.hid (ownO_env (ownO_env HAd.out HEad.out HQ7.out) HEbe.out HQ8.out)
            have HZ5 : Hid (Below B w w8) := Lib.hid ((HBd.out.trans (HQ7.out.below HBa.out)).trans (HQ8.out.below HBb.out))
            go_roundw
            case rel => exact ⟨j + 1, by go_num, by omega, aX, cX, aY, cY, HZ1, HZ2, HE8, HZ3, HZ4, HZ5⟩
            case measure => simp [intOf]; omega
          · have hjm' : ¬ (j : Int) < (m : Int) := by omega
            obtain rfl : j = m := by omega
            have HT1 : Hid (A.take j = A) := Lib.hid (List.take_of_length_le (by rw [HAL.out]; exact Nat.le_refl _))
            have HT2 : Hid ((rotL A ys).take j = rotL A ys) := Lib.hid (List.take_of_length_le (by rw [rotL_len, HAL.out]; exact Nat.le_refl _))
            rw [HT1.out] at HOa
            rw [HT2.out] at HOb
            clear hst hnew
            go_wp2_with (first
              | (refine load_env rfl (.tmp 11) rfl Ea rfl a1 j c1 zS rfl HEa.out ?_)
              | (refine load_env rfl (.tmp 12) rfl Eb rfl a2 j c2 zS rfl HEb.out ?_))
            refine (equal_any a1 a2 j j c1 c2 (addsL A) (addsL (rotL A ys)) zS zS wq HOa.out.vs HOb.out.vs rfl rfl (by omega) (by omega)).mono ?_
            rintro e w9 ⟨rfl, hb9⟩
            rw [decide_eq_true (show addsL A = addsL (rotL A ys) ∧ zS = zS from ⟨rotL_adds HG.out ys, rfl⟩)]
            have e9 := (HEa.out.below hb9).c0
            have HB9 : Hid (Below B w w9) := Lib.hid (HBq.out.trans (hb9.mono (by have := HBq.out.size; have := HBB.out; omega)))
            clear hb9
            go_wp2
            go_ret
            exact ⟨rfl, by rw [← HBB.out]; exact HB9.out⟩

end Go.Proofs.YtciijlcemmhbfaaDoor
