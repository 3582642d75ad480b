/- EnvFull. -/
import Derived.Test.YtciijlcemmhbfaaDoorAx
import Derived.Test.YtciijlcemmhbfaaDoorAy
namespace Go.Proofs.YtciijlcemmhbfaaDoor
open Go.RowKit

set_option maxRecDepth 100000 in
set_option maxHeartbeats 16000000 in
theorem envFull_any (x y : Int) (w : World) (ht : Tab w) (hx : 0 ≤ x ∧ x ≤ 255) (hy : 0 ≤ y ∧ y ≤ 255) :
    Calls Tryd.prog 4 #[.int .u8 x, .int .u8 y] w fun e w' => e = .returned (.bool true) ∧ Below w.heap.size w w' := by
  obtain ⟨B, hB⟩ : ∃ B, B = w.heap.size := ⟨_, rfl⟩
  have HT := Lib.hid ht
  have HBB := Lib.hid hB
  have hst : ∀ (a' : Option Addr) (n' c' : Nat) (z' : List Int) (X : Nat) (W : World), z'.length = 10 → EB W X none 0 0 z0 → (storeCells ⟨X, 0, none⟩ (ev a' n' c' z').toList).run Tryd.prog W = .ok () (W.setRow X (ev a' n' c' z')) := fun a' n' c' z' X W hz h => run_store_env W X h a' n' c' z' hz
  have hnew : ∀ W : World, EB (W.alloc (.cells #[.slice none 0 0, .int .i64 0, .int .i64 0, .int .i64 0, .int .i64 0, .int .i64 0, .int .i64 0, .int .i64 0, .int .i64 0, .int .i64 0, .int .i64 0] 30)) W.heap.size none 0 0 z0 := fun W => EB.new W none 0 0 z0
  obtain ⟨m, hm⟩ : ∃ m : Nat, Int.tmod x 27 = (m : Int) := ⟨x.toNat % 27, by rw [Int.tmod_eq_emod_of_nonneg hx.1]; omega⟩
  have hm26 : m ≤ 26 := by rw [Int.tmod_eq_emod_of_nonneg hx.1] at hm; omega
  clear ht hB
  go_enter Tryd.func4, Tryd.ntmps4
  go_wp2_with fail
  refine (shown_any w HT.out).mono ?_
  rintro e w1 ⟨rfl, hb1⟩
  have HB1 : Hid (Below B w w1) := Lib.hid (by rw [HBB.out]; exact hb1)
  clear hb1
  go_wp2_with fail
  refine (new_any w1).mono ?_
  rintro e w2 ⟨rfl, hb2⟩
  have HB2 : Hid (Below B w w2) := Lib.hid (HB1.out.trans (hb2.mono (by have := HB1.out.size; have := HBB.out; omega)))
  clear hb2
  go_wp2_with (refine store_env rfl (.tmp 6) (.tmp 16) rfl _ rfl none 0 0 zS rfl rfl none 0 0 z0 z0_len (hnew w2) ?_; intro w3 he3 ho3)
  obtain ⟨E, hE⟩ : ∃ E, E = w2.heap.size := ⟨_, rfl⟩
  rw [← hE] at he3 ho3 ⊢
  have HBE : Hid (B ≤ E) := Lib.hid (by rw [hE]; have := HB2.out.size; have := HBB.out; omega)
  have HE3 := Lib.hid he3
  have HB3 : Hid (Below B w w3) := Lib.hid ((HB2.out.alloc (by rw [← hE]; exact HBE.out) _).trans (ho3.below HBE.out))
  clear he3 ho3 hE
  go_loopw [8] (fun v wr => ∃ i : Nat, v = .int .i64 i ∧ i ≤ m ∧ ∃ a c, Hid (EB wr E a (min i 16) c zS) ∧ Hid (OwnO 0 wr a (min i 16) c (fullL (min i 16))) ∧ Hid (Below B w wr)) (fun v _ => m - (intOf v).toNat)
  case atStart => exact ⟨0, rfl, Nat.zero_le _, none, 0, HE3, Lib.hid OwnV.none0, HB3⟩
  case round =>
    obtain ⟨i, rfl, hi, a, c, HE, HO, HB⟩ := hrel
    by_cases hlt : i < m
    · have hi26 : i < 26 := by omega
      have hlt' : (i : Int) < (m : Int) := by omega
      obtain ⟨q, hq⟩ : ∃ q, q = min i 16 := ⟨_, rfl⟩
      obtain ⟨Lq, hLq⟩ : ∃ L, L = fullL q := ⟨_, rfl⟩
      rw [← hq, ← hLq] at HO
      rw [← hq] at HE
      have HQ := Lib.hid (And.intro hq hLq)
      have hq16 : q ≤ 16 := by omega
      clear hq hLq
      obtain ⟨V, hV⟩ : ∃ V, V = addE Lq (nO i 1) := ⟨_, rfl⟩
      obtain ⟨Z, hZ⟩ : ∃ Z, Z = addZ Lq zS (nO i 1) := ⟨_, rfl⟩
      obtain ⟨R, hR⟩ : ∃ R, R = addR Lq (nO i 1) := ⟨_, rfl⟩
      have hZl : Z.length = 10 := by rw [hZ]; unfold addZ; split <;> rfl
      have HV : Hid (V = if i < 16 then 0 else 5) := Lib.hid (by rw [hV, HQ.out.2, HQ.out.1]; exact nO_step hi26)
      have HR : Hid (i < 16 → R = fullL (i + 1) ∧ Z = zS) := Lib.hid (fun h => by
        have e : Lq = fullL i := by rw [HQ.out.2, HQ.out.1, Nat.min_eq_left (by omega)]
        have h0 : addE Lq (nO i 1) = 0 := by rw [← hV, HV.out, if_pos h]
        exact ⟨by rw [hR, e]; exact nO_next h, by rw [hZ]; unfold addZ; rw [if_pos h0]⟩)
      have KT : Hid (∀ w', Below wr.heap.size wr w' → Tab w' ∧ OpS w' a q c Lq ∧ w'.cell? ⟨E, 0, none⟩ = some (.slice a q c) ∧ w'.cell? ⟨E, 1, none⟩ = some (.int .i64 0) ∧ w'.cell? ⟨E, 2, none⟩ = some (.int .i64 0) ∧ w'.cell? ⟨E, 3, none⟩ = some (.int .i64 2) ∧ w'.cell? ⟨E, 4, none⟩ = some (.int .i64 6) ∧ w'.cell? ⟨E, 5, none⟩ = some (.int .i64 14) ∧ w'.cell? ⟨E, 6, none⟩ = some (.int .i64 30) ∧ w'.cell? ⟨E, 7, none⟩ = some (.int .i64 0) ∧ w'.cell? ⟨E, 8, none⟩ = some (.int .i64 0) ∧ w'.cell? ⟨E, 9, none⟩ = some (.int .i64 0) ∧ w'.cell? ⟨E, 10, none⟩ = some (.int .i64 0)) := Lib.hid fun w' h => ⟨(HT.out.keep (HBB.out ▸ HB.out)).keep h, HO.out.vs.below h, env_cells (HE.out.below h)⟩
      have KA : Hid (∀ w', Tab w' → OpS w' a q c Lq → Calls Tryd.prog 8 #[.agg (ev a q c zS), .agg #[.string (mk (nP i)), .int .i64 1, .int .i64 0]] w' fun e w'' => ∃ a' n' c', e = .returned (.tuple #[.agg (ev a' n' c' Z), .int .i64 V]) ∧ OwnO 0 w'' a' n' c' R ∧ Below w'.heap.size w' w'') := Lib.hid fun w' h1 h2 => by
        rw [hV, hZ, hR]
        refine (add_any a q c Lq zS (nO i 1) w' h1 h2 rfl (by omega) (by simp [nO, nP])).mono ?_
        rintro e w'' ⟨a', n', c', rfl, ho, hb⟩
        exact ⟨a', n', c', rfl, ho.weak (Nat.zero_le _), hb⟩
      have hsz : ∀ (a : Option Addr) (n c : Nat), (ev a n c Z).size = 11 := fun a n c => ev_size hZl
      clear hV hZ hR
      go_upto_region 7 with fail
      go_cut [9, 10] from 20 to 47 (fun u v wx => ∃ F a' n' c', u = .pointer (some ⟨F, 0, none⟩) ∧ v = .int .i64 V ∧ Hid (EB wx F a' n' c' Z) ∧ Hid (OwnO 0 wx a' n' c' R) ∧ Hid (Below wr.heap.size wr wx) ∧ Hid (wr.heap.size ≤ F))
      case first =>
        go_region_held3 (fun w' => w'.cell? ⟨E, 0, none⟩ = some (.slice a q c) ∧ w'.cell? ⟨E, 1, none⟩ = some (.int .i64 0) ∧ w'.cell? ⟨E, 2, none⟩ = some (.int .i64 0) ∧ w'.cell? ⟨E, 3, none⟩ = some (.int .i64 2) ∧ w'.cell? ⟨E, 4, none⟩ = some (.int .i64 6) ∧ w'.cell? ⟨E, 5, none⟩ = some (.int .i64 14) ∧ w'.cell? ⟨E, 6, none⟩ = some (.int .i64 30) ∧ w'.cell? ⟨E, 7, none⟩ = some (.int .i64 0) ∧ w'.cell? ⟨E, 8, none⟩ = some (.int .i64 0) ∧ w'.cell? ⟨E, 9, none⟩ = some (.int .i64 0) ∧ w'.cell? ⟨E, 10, none⟩ = some (.int .i64 0))
          (first
            | exact (KT.out _ ((HB6.out.alloc HB6.out.size _).trans ((Only.ofRow _ _ _).below HB6.out.size))).2.2
            | exact (KT.out _ (HB6.out.trans ((Only.ofRow _ _ _).below HB5.out.size))).2.2
            | exact (KT.out _ (HB6.out.trans ((Only.ofRow _ _ _).below (Nat.le_refl _)))).2.2
            | exact (KT.out _ HB6.out).2.2
            | exact (KT.out _ (HB6.out.alloc HB6.out.size _)).2.2
            | exact (KT.out _ HB5.out).2.2
            | exact (KT.out _ (HB5.out.alloc HB5.out.size _)).2.2
            | exact (KT.out _ ((Below.refl _ _).drew.alloc (Nat.le_refl _) _)).2.2
            | exact (KT.out _ (Below.refl _ _).drew).2.2)
          (first
            | (go_at_call 8; (refine (KA.out _ (KT.out _ (by first | exact HB5.out | exact HB5.out.alloc HB5.out.size _)).1 (KT.out _ (by first | exact HB5.out | exact HB5.out.alloc HB5.out.size _)).2.1).mono ?_); rintro e w6 ⟨a6, n6, c6, rfl, ho6, hb6⟩; have HO6 := Lib.hid ho6; (try have hx6 : EB w6 w5.heap.size none 0 0 z0 := (hnew w5).below hb6); (try have hx6 : EB w6 wr.heap.size none 0 0 z0 := hx5.below hb6); have HB6 : Hid (Below wr.heap.size wr w6) := Lib.hid (by first | exact HB5.out.trans (hb6.mono HB5.out.size) | exact (HB5.out.alloc HB5.out.size _).trans (hb6.mono (Nat.le_trans HB5.out.size (by simp)))); clear ho6 hb6)
            | (go_at_call 10; (refine (numbered_any i hi26 1 _).mono ?_); rintro e w5 ⟨rfl, hb5⟩; (try have hx5 : EB w5 wr.heap.size none 0 0 z0 := (hnew wr.drew).below hb5); have HB5 : Hid (Below wr.heap.size wr w5) := Lib.hid (by first | exact (Below.refl _ _).drew.trans hb5 | exact ((Below.refl _ _).drew.alloc (Nat.le_refl _) _).trans (hb5.mono (by simp))); clear hb5))
        all_goals
          go_wp2
          go_meet
          first
            | exact ⟨_, _, _, _, rfl, rfl, Lib.hid (env_put hx6 HO6.out HB6.out HB5.out.size).1, Lib.hid (env_put hx6 HO6.out HB6.out HB5.out.size).2.1, Lib.hid (env_put hx6 HO6.out HB6.out HB5.out.size).2.2, Lib.hid HB5.out.size⟩
            | exact ⟨_, _, _, _, rfl, rfl, Lib.hid (env_put hx6 HO6.out HB6.out (Nat.le_refl _)).1, Lib.hid (env_put hx6 HO6.out HB6.out (Nat.le_refl _)).2.1, Lib.hid (env_put hx6 HO6.out HB6.out (Nat.le_refl _)).2.2, Lib.hid (Nat.le_refl _)⟩
            | exact ⟨_, _, _, _, rfl, rfl, Lib.hid (env_put (hnew w6) (HO6.out.alloc _) (HB6.out.alloc HB6.out.size _) HB6.out.size).1, Lib.hid (env_put (hnew w6) (HO6.out.alloc _) (HB6.out.alloc HB6.out.size _) HB6.out.size).2.1, Lib.hid (env_put (hnew w6) (HO6.out.alloc _) (HB6.out.alloc HB6.out.size _) HB6.out.size).2.2, Lib.hid HB6.out.size⟩
      case rest =>
        obtain ⟨F, a6, n6, c6, rfl, rfl, HF, HF6, HBW, HGF⟩ := hcut
        clear hst hnew hsz
        have HB6 : Hid (Below B w wc) := Lib.hid (HB.out.trans (HBW.out.mono (by have := HB.out.size; have := HBB.out; omega)))
        have HE6 : Hid (EB wc E a q c zS) := Lib.hid (HE.out.below HBW.out)
        have HL6 := Lib.hid (OpS.len HF6.out.vs)
        by_cases h16 : i < 16
        · obtain rfl : V = 0 := by rw [HV.out, if_pos h16]
          obtain ⟨hR, hZ⟩ := HR.out h16
          subst hR hZ
          have hd16 : decide ((i : Int) < 16) = true := by simp; omega
          have HN6 : Hid (n6 = min (i + 1) 16) := Lib.hid (by have := HL6.out; rw [fullL_len] at this; omega)
          have HM6 : Hid (min (i + 1) 16 = i + 1) := Lib.hid (by omega)
          go_wp2_with (first
            | (refine store_env rfl (.tmp 6) (.tmp 47) rfl E rfl a6 n6 c6 zS rfl rfl a q c zS rfl HE6.out ?_; intro w7 he7 ho7; have HE7 := Lib.hid he7; have HO7 := Lib.hid ho7; clear he7 ho7)
            | (refine load_env rfl (.tmp 9) rfl F rfl a6 n6 c6 zS rfl HF.out ?_))
          have HX7 : Hid (EB w7 E a6 (min (i + 1) 16) c6 zS) := Lib.hid (by rw [← HN6.out]; exact HE7.out)
          have HY7 : Hid (OwnO 0 w7 a6 (min (i + 1) 16) c6 (fullL (min (i + 1) 16))) := Lib.hid (by
            have := ownO_env HF6.out HE6.out HO7.out
            rw [HN6.out] at this
            rw [HM6.out] at this ⊢
            exact this)
          have HB7 : Hid (Below B w w7) := Lib.hid (HB6.out.trans (HO7.out.below HBE.out))
          go_roundw
          case rel => exact ⟨i + 1, by go_num, by omega, a6, c6, HX7, HY7, HB7⟩
          case measure => simp [intOf]; omega
        · obtain rfl : V = 5 := by rw [HV.out, if_neg h16]
          have hd16 : decide ((i : Int) < 16) = false := by simp; omega
          have HN6 : Hid (q = min (i + 1) 16) := Lib.hid (by rw [HQ.out.1]; omega)
          have HX6 : Hid (EB wc E a (min (i + 1) 16) c zS) := Lib.hid (by rw [← HN6.out]; exact HE6.out)
          have HY6 : Hid (OwnO 0 wc a (min (i + 1) 16) c (fullL (min (i + 1) 16))) := Lib.hid (by
            rw [← HN6.out]
            have := HO.out.keep HBW.out (Nat.le_refl _)
            rw [HQ.out.2] at this
            exact this)
          go_wp2
          go_roundw
          case rel => exact ⟨i + 1, by go_num, by omega, a, c, HX6, HY6, HB6⟩
          case measure => simp [intOf]; omega
    · obtain rfl : i = m := by omega
      obtain ⟨q, hq⟩ : ∃ q, q = min i 16 := ⟨_, rfl⟩
      rw [← hq] at HE HO
      have hmin : min (i : Int) 16 = (q : Int) := by omega
      by_cases hm0 : i = 0
      · have hmi : ((i : Int) == 0) = true := by rw [hm0]; rfl
        have hqi : ((q : Int) == 0) = true := by rw [hq, hm0]; rfl
        have e0 := HE.out.c0
        clear HO hm hst hnew hm0 hq hi hlt hm26
        go_wp2
        go_ret
        exact ⟨rfl, by rw [← HBB.out]; exact HB.out⟩
      · have hmi : ((i : Int) == 0) = false := beq_eq_false_iff_ne.2 (by omega)
        have hq1 : 1 ≤ q ∧ q ≤ 16 := by omega
        clear hq
        have e0 := HE.out.c0
        obtain ⟨k, hk⟩ : ∃ k : Nat, Int.tmod y (q : Int) = (k : Int) := ⟨(y % (q : Int)).toNat, by rw [Int.tmod_eq_emod_of_nonneg hy.1]; have := Int.emod_nonneg y (show (q : Int) ≠ 0 by omega); omega⟩
        have hkq : k < q := by
          have h1 := Int.emod_lt_of_pos y (show (0 : Int) < (q : Int) by omega)
          rw [Int.tmod_eq_emod_of_nonneg hy.1] at hk
          omega
        have hq0 : ((q : Int) == 0) = false := beq_eq_false_iff_ne.2 (by omega)
        have hq0' : ¬ (q : Int) = 0 := by omega
        go_wp2_with fail
        refine (numbered_any k (by omega) 2 wr).mono ?_
        rintro e w4 ⟨rfl, hb4⟩
        have HB4 : Hid (Below wr.heap.size wr w4) := Lib.hid hb4
        have HE4 : Hid (EB w4 E a q c zS) := Lib.hid (HE.out.below hb4)
        have HT4 : Hid (Tab w4) := Lib.hid ((HT.out.keep (HBB.out ▸ HB.out)).keep hb4)
        have HO4 : Hid (OwnO 0 w4 a q c (fullL q)) := Lib.hid (HO.out.keep hb4 (Nat.le_refl _))
        clear hb4 e0 hq0 hq0' hmin hmi
        obtain ⟨w5, hw5⟩ : ∃ w5, w5 = w4.alloc (.cells #[.string (mk (nP k)), .int .i64 2, .int .i64 0] 25) := ⟨_, rfl⟩
        obtain ⟨D, hD⟩ : ∃ D, D = w4.heap.size := ⟨_, rfl⟩
        have HD5 : Hid (D3 w5 D (nO k 2)) := Lib.hid (by rw [hw5, hD]; exact D3.new w4 (nO k 2))
        have HB5 : Hid (Below wr.heap.size wr w5) := Lib.hid (by rw [hw5]; exact HB4.out.alloc HB4.out.size _)
        have HE5 : Hid (EB w5 E a q c zS) := Lib.hid (by rw [hw5]; exact HE4.out.alloc _)
        have HT5 : Hid (Tab w5) := Lib.hid (by rw [hw5]; exact HT4.out.keep (below_alloc _ _))
        have HO5 : Hid (OwnO 0 w5 a q c (fullL q)) := Lib.hid (by rw [hw5]; exact HO4.out.alloc _)
        have HV0 : Hid (addE (fullL q) (nO k 2) = 0) := Lib.hid (addE_hit (nO_may (by omega) (g := 2) ⟨by decide, by decide⟩) (nO_hit q (by omega) k hkq))
        have d5 : (w4.alloc (.cells #[.string (mk (nP k)), .int .i64 2, .int .i64 0] 25)).cell? ⟨w4.heap.size, 0, none⟩ = some (.string (mk (nP k))) ∧ (w4.alloc (.cells #[.string (mk (nP k)), .int .i64 2, .int .i64 0] 25)).cell? ⟨w4.heap.size, 1, none⟩ = some (.int .i64 2) ∧ (w4.alloc (.cells #[.string (mk (nP k)), .int .i64 2, .int .i64 0] 25)).cell? ⟨w4.heap.size, 2, none⟩ = some (.int .i64 0) := (D3.new w4 (nO k 2)).cells
        obtain ⟨d0, d1, d2⟩ := d5
        go_wp2_with (refine load_env rfl (.tmp 6) rfl E rfl a q c zS rfl (HE4.out.alloc _) ?_)
        rw [← hw5, ← hD]
        clear d0 d1 d2 hw5 hD
        refine (add_any a q c (fullL q) zS (nO k 2) w5 HT5.out HO5.out.vs rfl (by omega) (by simp [nO, nP])).mono ?_
        unfold addZ addR
        rw [HV0.out, if_pos rfl, if_pos rfl]
        rintro e w6 ⟨a6, n6, c6, rfl, ho6, hb6⟩
        obtain rfl : n6 = q := by
          have := OpS.len ho6.vs
          rw [addL_len, fullL_len, if_pos (show hitL (fullL q) (nO k 2).1 = true from nO_hit q (by omega) k hkq)] at this
          omega
        have HO6 : Hid (OwnO 0 w6 a6 n6 c6 (addL (fullL n6) (nO k 2))) := Lib.hid (ho6.weak (Nat.zero_le _))
        have HB6 : Hid (Below wr.heap.size wr w6) := Lib.hid (HB5.out.trans (hb6.mono HB5.out.size))
        have HE6 := Lib.hid (HE5.out.below hb6)
        have HT6 := Lib.hid (HT5.out.keep hb6)
        have HD6 := Lib.hid (HD5.out.below hb6)
        clear ho6 hb6 hst
        obtain ⟨F, hF⟩ : ∃ F, F = w6.heap.size := ⟨_, rfl⟩
        go_wp2_with (refine store_env rfl (.tmp 12) (.tmp 76) rfl _ rfl a6 n6 c6 zS rfl rfl none 0 0 z0 z0_len (hnew w6) ?_; intro w7 he7 ho7; rw [← hF] at he7 ho7; have HE7 := Lib.hid he7; have HO7 := Lib.hid ho7; clear he7 ho7)
        rw [← hF]
        have HEF : Hid (E ≠ F ∧ D ≠ F) := Lib.hid ⟨by have := HE6.out.lt; omega, by have : D < w6.heap.size := (Array.getElem?_eq_some_iff.1 HD6.out).1; omega⟩
        have HB7 : Hid (Below wr.heap.size wr w7) := Lib.hid ((HB6.out.alloc HB6.out.size _).trans (HO7.out.below (by rw [hF]; exact HB6.out.size)))
        have HE8 : Hid (EB w7 E a n6 c zS) := Lib.hid ((HE6.out.alloc _).only HO7.out HEF.out.1)
        have HD8 : Hid (D3 w7 D (nO k 2)) := Lib.hid ((HO7.out.block D HEF.out.2).trans (HD6.out.below (below_alloc _ _)))
        have HO8 : Hid (OpS w7 a6 n6 c6 (addL (fullL n6) (nO k 2))) := Lib.hid (ownO_env (HO6.out.alloc _) (hnew w6) (by rw [← hF]; exact HO7.out)).vs
        have HT8 : Hid (Tab w7) := Lib.hid ((HT.out.keep (HBB.out ▸ HB.out)).keep HB7.out)
        have HKS : Hid (∀ w', Below w7.heap.size w7 w' → w'.cell? ⟨E, 0, none⟩ = some (.slice a n6 c) ∧ w'.cell? ⟨F, 0, none⟩ = some (.slice a6 n6 c6) ∧ w'.cell? ⟨F, 1, none⟩ = some (.int .i64 0) ∧ w'.cell? ⟨F, 2, none⟩ = some (.int .i64 0) ∧ w'.cell? ⟨F, 3, none⟩ = some (.int .i64 2) ∧ w'.cell? ⟨F, 4, none⟩ = some (.int .i64 6) ∧ w'.cell? ⟨F, 5, none⟩ = some (.int .i64 14) ∧ w'.cell? ⟨F, 6, none⟩ = some (.int .i64 30) ∧ w'.cell? ⟨F, 7, none⟩ = some (.int .i64 0) ∧ w'.cell? ⟨F, 8, none⟩ = some (.int .i64 0) ∧ w'.cell? ⟨F, 9, none⟩ = some (.int .i64 0) ∧ w'.cell? ⟨F, 10, none⟩ = some (.int .i64 0)) := Lib.hid fun w' h => ⟨(HE8.out.below h).c0, env_cells (HE7.out.below h)⟩
        have HPL : Hid (∀ o ∈ addL (fullL n6) (nO k 2), o.1.length ≤ 1000000) := Lib.hid fun o ho => by
          obtain ⟨j, _, hj⟩ := List.any_eq_true.1 (List.all_eq_true.1 (nO_all n6 (by omega) k hkq) o ho)
          rw [eq_of_beq hj]
          simp [nP]
        have HEN : Hid (entL (addL (fullL n6) (nO k 2)) zS (nM k) = [(nO k 2, rowV zS 2)]) := Lib.hid (nO_entry (by omega) hkq zS)
        obtain ⟨c8, hc8⟩ : ∃ c8, c8 = UInt8.ofNat (97 + k) := ⟨_, rfl⟩
        have HNM : Hid (nM k = [120, c8]) := Lib.hid (by rw [hc8]; rfl)
        have KE : Hid (∀ w', Below w7.heap.size w7 w' → Calls Tryd.prog 11 #[.agg (ev a6 n6 c6 zS), .string (mk [120, c8])] w' fun e w'' => ∃ a' c', e = .returned (.slice a' 1 c') ∧ Ens w'' a' 1 c' [(nO k 2, rowV zS 2)] ∧ Below w'.heap.size w' w'') := Lib.hid fun w' h => by
          have := entry_any a6 n6 c6 (addL (fullL n6) (nO k 2)) zS (nM k) w' (HT8.out.keep h) (HO8.out.below h) rfl (by omega) HPL.out
          rw [HEN.out, HNM.out] at this
          exact this
        have hconv := (Bs.lit w7.drew 5 (mk := (0, 0)) (n := 1) (g := w7.heap.size) (l := [97 + (k : Int)]) (cs := #[.int .u8 (97 + (k : Int))]) rfl (fun z hz => by rw [List.mem_singleton.1 hz]; omega) rfl rfl (show 1 ≤ maxLen by decide)).str (P := Tryd.prog) 40 9 5 Tryd.underlying40 Tryd.underlying5 Tryd.underlying9
        rw [bstr_one, ← hc8] at hconv
        clear hc8
        have hconv2 : (convert 40 9 (.slice (some ⟨w7.heap.size, 0, none⟩) 1 1)).run Tryd.prog (w7.alloc (.cells #[.int .u8 (97 + (k : Int))] 5)).drew = .ok (.string (mk [c8])) (w7.alloc (.cells #[.int .u8 (97 + (k : Int))] 5)).drew := hconv
        have hk2 : y % (n6 : Int) = (k : Int) := by rw [← hk, Int.tmod_eq_emod_of_nonneg hy.1]
        have hw1 : IntKind.i64.wrap (97 + (k : Int)) = 97 + (k : Int) := IntWalk.i64_in _ (by omega)
        have hw2 : IntKind.u8.wrap (97 + (k : Int)) = 97 + (k : Int) := IntWalk.u8_in _ (by omega)
        clear hconv
        have hm1 : (mk [c8]).size = 1 := mk_size _
        have hm2 : (mk [120, c8]).size = 2 := mk_size _
        have ha1 : ({ data := #[120] } : ByteArray) ++ mk [c8] = mk [120, c8] := by rw [show ({ data := #[120] } : ByteArray) = mk [120] from rfl, mk_app]; rfl
        have heq : ∀ w, (Op.equalIn 10000 25 (.agg #[.string (mk (nP k)), .int .i64 2, .int .i64 0]) (.agg #[.string (mk (nP k)), .int .i64 2, .int .i64 0])).run Tryd.prog w = .ok true w := fun w => (eq_op 9998 (nO k 2) (nO k 2) w).trans (by rw [decide_eq_true rfl])
        have hq0 : ((n6 : Int) == 0) = false := beq_eq_false_iff_ne.2 (by omega)
        have hq0' : ¬ (n6 : Int) = 0 := by omega
        have hq00 : ¬ n6 = 0 := by omega
        have hwy : IntKind.i64.wrap y = y := IntWalk.i64_in _ (by omega)
        clear hF hnew hi hlt hm hm26
        go_wp2_with fail
        -- the region (laid by genAg.py)
        refine wp_region_noPanic ?_
        refine wp_region_held_drew (S := fun w' => w'.cell? ⟨E, 0, none⟩ = some (.slice a n6 c) ∧ w'.cell? ⟨F, 0, none⟩ = some (.slice a6 n6 c6) ∧ w'.cell? ⟨F, 1, none⟩ = some (.int .i64 0) ∧ w'.cell? ⟨F, 2, none⟩ = some (.int .i64 0) ∧ w'.cell? ⟨F, 3, none⟩ = some (.int .i64 2) ∧ w'.cell? ⟨F, 4, none⟩ = some (.int .i64 6) ∧ w'.cell? ⟨F, 5, none⟩ = some (.int .i64 14) ∧ w'.cell? ⟨F, 6, none⟩ = some (.int .i64 30) ∧ w'.cell? ⟨F, 7, none⟩ = some (.int .i64 0) ∧ w'.cell? ⟨F, 8, none⟩ = some (.int .i64 0) ∧ w'.cell? ⟨F, 9, none⟩ = some (.int .i64 0) ∧ w'.cell? ⟨F, 10, none⟩ = some (.int .i64 0)) (by kernel_rfl) (HKS.out _ (Below.refl _ _).drew) (fun hHeld => ?_)
        refine wpAnyH_take (i := 0) (oi := { dst := some 78, op := Op.load 30 (Operand.tmp 12), type := 30, pos := "more.go:58", after := #[], guard := none }) (v := ?_) rfl (by kernel_rfl) (by kernel_rfl) (by kernel_rfl) (fun _ _ _ h => h) (Or.inl ⟨by rfl, ?_⟩) (by assumption) ?_
        rotate_left
        · intro w' hSw
          try dsimp only at hSw
          go_simp
          try with_reducible rfl
        try simp only [Act.put, List.setIfInBounds_toArray, List.set_cons_zero, List.set_cons_succ]
        refine wpAnyH_take (i := 1) (oi := { dst := some 79, op := Op.move (Operand.tmp 1), type := 5, pos := "more.go:58", after := #[], guard := none }) (v := ?_) rfl (by kernel_rfl) (by kernel_rfl) (by kernel_rfl) (fun _ _ _ h => h) (Or.inl ⟨by rfl, ?_⟩) (by assumption) ?_
        rotate_left
        · intro w' hSw
          try dsimp only at hSw
          go_simp
          try with_reducible rfl
        try simp only [Act.put, List.setIfInBounds_toArray, List.set_cons_zero, List.set_cons_succ]
        refine wpAnyH_take (i := 2) (oi := { dst := some 80, op := Op.convert 5 3 (Operand.tmp 79), type := 3, pos := "more.go:58", after := #[{ on := 1, ground := Ground.data }], guard := none }) (v := ?_) rfl (by kernel_rfl) (by kernel_rfl) (by kernel_rfl) (fun _ _ _ h => h) (Or.inl ⟨by rfl, ?_⟩) (by assumption) ?_
        rotate_left
        · intro w' hSw
          try dsimp only at hSw
          go_simp
          try with_reducible rfl
        try simp only [Act.put, List.setIfInBounds_toArray, List.set_cons_zero, List.set_cons_succ]
        refine wpAnyH_take (i := 3) (oi := { dst := some 81, op := Op.fieldAddr 30 (Operand.tmp 6) 0, type := 0, pos := "more.go:58", after := #[], guard := none }) (v := ?_) rfl (by kernel_rfl) (by kernel_rfl) (by kernel_rfl) (fun _ _ _ h => h) (Or.inl ⟨by rfl, ?_⟩) (by assumption) ?_
        rotate_left
        · intro w' hSw
          try dsimp only at hSw
          go_simp
          try with_reducible rfl
        try simp only [Act.put, List.setIfInBounds_toArray, List.set_cons_zero, List.set_cons_succ]
        refine wpAnyH_take (i := 4) (oi := { dst := some 82, op := Op.load 22 (Operand.tmp 81), type := 22, pos := "more.go:58", after := #[{ on := 3, ground := Ground.data }], guard := none }) (v := ?_) rfl (by kernel_rfl) (by kernel_rfl) (by kernel_rfl) (fun _ _ _ h => h) (Or.inl ⟨by rfl, ?_⟩) (by assumption) ?_
        rotate_left
        · intro w' hSw
          try dsimp only at hSw
          go_simp
          try with_reducible rfl
        try simp only [Act.put, List.setIfInBounds_toArray, List.set_cons_zero, List.set_cons_succ]
        refine wpAnyH_take (i := 5) (oi := { dst := some 83, op := Op.call { callee := Callee.builtin Builtin.len, args := #[Operand.tmp 82], argTypes := #[22] }, type := 3, pos := "more.go:58", after := #[{ on := 4, ground := Ground.data }], guard := none }) (v := ?_) rfl (by kernel_rfl) (by kernel_rfl) (by kernel_rfl) (fun _ _ _ h => h) (Or.inl ⟨by rfl, ?_⟩) (by assumption) ?_
        rotate_left
        · intro w' hSw
          try dsimp only at hSw
          go_simp
          try with_reducible rfl
        try simp only [Act.put, List.setIfInBounds_toArray, List.set_cons_zero, List.set_cons_succ]
        refine wpAnyH_ready (rs := [6]) (by kernel_rfl) (by simp) ?_
        refine AllReadyH.cons (o := { dst := some 84, op := Op.binOp BinOp.rem 3 (Operand.tmp 80) (Operand.tmp 83) 3, type := 3, pos := "more.go:58", after := #[{ on := 2, ground := Ground.data }, { on := 5, ground := Ground.data }], guard := none }) rfl (fun K hK => ?_) ?_
        · go_simp
          refine hK.out _ _ (HKS.out _ (Below.refl _ _).drew) (fun hHeld => ?_)
          clear hK K
          try simp only [Act.put, List.setIfInBounds_toArray, List.set_cons_zero, List.set_cons_succ]
          refine wpAnyH_take (i := 7) (oi := { dst := some 85, op := Op.binOp BinOp.add 3 (Operand.const (Value.int IntKind.i64 97)) (Operand.tmp 84) 3, type := 3, pos := "more.go:58", after := #[{ on := 6, ground := Ground.data }], guard := none }) (v := ?_) rfl (by kernel_rfl) (by kernel_rfl) (by kernel_rfl) (fun _ _ _ h => h) (Or.inl ⟨by rfl, ?_⟩) (by assumption) ?_
          rotate_left
          · intro w' hSw
            try dsimp only at hSw
            go_simp
            try with_reducible rfl
          try simp only [Act.put, List.setIfInBounds_toArray, List.set_cons_zero, List.set_cons_succ]
          refine wpAnyH_take (i := 8) (oi := { dst := some 86, op := Op.convert 3 5 (Operand.tmp 85), type := 5, pos := "more.go:58", after := #[{ on := 7, ground := Ground.data }], guard := none }) (v := ?_) rfl (by kernel_rfl) (by kernel_rfl) (by kernel_rfl) (fun _ _ _ h => h) (Or.inl ⟨by rfl, ?_⟩) (by assumption) ?_
          rotate_left
          · intro w' hSw
            try dsimp only at hSw
            go_simp
            try with_reducible rfl
          try simp only [Act.put, List.setIfInBounds_toArray, List.set_cons_zero, List.set_cons_succ]
          refine wpAnyH_ready (rs := [9]) (by kernel_rfl) (by simp) ?_
          refine AllReadyH.cons (o := { dst := some 87, op := Op.buildSlice 40 1 #[(0, Operand.tmp 86)], type := 40, pos := "more.go:58", after := #[{ on := 8, ground := Ground.data }], guard := none }) rfl (fun K hK => ?_) ?_
          · go_simp
            refine hK.out _ _ (HKS.out _ (((Below.refl _ _).alloc (Nat.le_refl _) _).drew)) (fun hHeld => ?_)
            clear hK K
            try simp only [Act.put, List.setIfInBounds_toArray, List.set_cons_zero, List.set_cons_succ]
            refine wpAnyH_ready (rs := [10]) (by kernel_rfl) (by simp) ?_
            refine AllReadyH.cons (o := { dst := some 88, op := Op.convert 40 9 (Operand.tmp 87), type := 9, pos := "more.go:58", after := #[{ on := 9, ground := Ground.data }], guard := none }) rfl (fun K hK => ?_) ?_
            · go_simp
              refine hK.out _ _ (HKS.out _ (((Below.refl _ _).alloc (Nat.le_refl _) _).drew)) (fun hHeld => ?_)
              clear hK K
              try simp only [Act.put, List.setIfInBounds_toArray, List.set_cons_zero, List.set_cons_succ]
              refine wpAnyH_take (i := 11) (oi := { dst := some 89, op := Op.binOp BinOp.add 9 (Operand.const (Value.string { data := #[120] })) (Operand.tmp 88) 9, type := 9, pos := "more.go:58", after := #[{ on := 10, ground := Ground.data }], guard := none }) (v := ?_) rfl (by kernel_rfl) (by kernel_rfl) (by kernel_rfl) (fun _ _ _ h => h) (Or.inl ⟨by rfl, ?_⟩) (by assumption) ?_
              rotate_left
              · intro w' hSw
                try dsimp only at hSw
                go_simp
                try with_reducible rfl
              try simp only [Act.put, List.setIfInBounds_toArray, List.set_cons_zero, List.set_cons_succ]
              refine wpAnyH_ready (rs := [12]) (by kernel_rfl) (by simp) ?_
              refine AllReadyH.cons (o := { dst := some 90, op := Op.call { callee := Callee.value (Operand.func 11), args := #[Operand.tmp 78, Operand.tmp 89], argTypes := #[30, 9] }, type := 38, pos := "more.go:58", after := #[{ on := 0, ground := Ground.data }, { on := 11, ground := Ground.data }], guard := none }) rfl (fun K hK => ?_) ?_
              · go_simp
                (go_at_call 11; (refine (KE.out _ ((Below.refl _ _).alloc (Nat.le_refl _) _).drew).mono ?_); rintro e w9 ⟨a9, c9, rfl, he9, hb9⟩)
                have HN9 := Lib.hid he9
                have HB9 : Hid (Below w7.heap.size w7 w9) := Lib.hid ((((Below.refl _ _).alloc (Nat.le_refl _) _).drew).trans (hb9.mono (by simp)))
                clear he9 hb9
                refine hK.out _ _ (HKS.out _ HB9.out) (fun hHeld => ?_)
                clear hK K
                try simp only [Act.put, List.setIfInBounds_toArray, List.set_cons_zero, List.set_cons_succ]
                refine wpAnyH_take (i := 13) (oi := { dst := some 14, op := Op.assign (Operand.tmp 90), type := 38, pos := "more.go:58", after := #[{ on := 12, ground := Ground.data }, { on := 12, ground := Ground.chain }, { on := 0, ground := Ground.phase }, { on := 1, ground := Ground.phase }, { on := 2, ground := Ground.phase }, { on := 3, ground := Ground.phase }, { on := 4, ground := Ground.phase }, { on := 5, ground := Ground.phase }, { on := 6, ground := Ground.phase }, { on := 7, ground := Ground.phase }, { on := 8, ground := Ground.phase }, { on := 9, ground := Ground.phase }, { on := 10, ground := Ground.phase }, { on := 11, ground := Ground.phase }, { on := 12, ground := Ground.phase }], guard := none }) (v := ?_) rfl (by kernel_rfl) (by kernel_rfl) (by kernel_rfl) (fun _ _ _ h => h) (Or.inl ⟨by rfl, ?_⟩) (by assumption) ?_
                rotate_left
                · intro w' hSw
                  try dsimp only at hSw
                  go_simp
                  try with_reducible rfl
                try simp only [Act.put, List.setIfInBounds_toArray, List.set_cons_zero, List.set_cons_succ]
                refine wpAnyH_done (by kernel_rfl) ?_ _
                refine NoPanic.normal ?_
                obtain ⟨b9, o9, rfl, _, hc⟩ := HN9.out.at_ (by decide)
                clear hc hconv2 ha1 hm1
                have hl9 := HN9.out.lc
                have hm9 := HN9.out.cm
                unfold maxLen at hm9
                have n9 := Ens.at4 HN9.out (k := 0) (by decide)
                rw [Nat.zero_mul, Nat.add_zero] at n9
                obtain ⟨n0, n1, n2, _⟩ : w9.cell? ⟨b9, o9, none⟩ = some (.string (mk (nP k))) ∧ w9.cell? ⟨b9, o9 + 1, none⟩ = some (.int .i64 2) ∧ w9.cell? ⟨b9, o9 + 2, none⟩ = some (.int .i64 0) ∧ True := ⟨n9.1, n9.2.1, n9.2.2.1, trivial⟩
                have e9 := (HE8.out.below HB9.out).c0
                have f9 := (HE7.out.below HB9.out).c0
                obtain ⟨d0, d1, d2⟩ : w9.cell? ⟨D, 0, none⟩ = some (.string (mk (nP k))) ∧ w9.cell? ⟨D, 1, none⟩ = some (.int .i64 2) ∧ w9.cell? ⟨D, 2, none⟩ = some (.int .i64 0) := (HD8.out.below HB9.out).cells
                have HBX : Hid (Below B w w9.drew) := Lib.hid ((HB.out.trans ((HB7.out.trans (HB9.out.mono HB7.out.size)).mono (by have := HB.out.size; have := HBB.out; omega))).drew)
                clear n9
                go_wp2_with fail
                go_region
                go_wp2
                go_ret
                exact ⟨rfl, by rw [← HBB.out]; exact HBX.out⟩
              · exact AllReadyH.nil
            · exact AllReadyH.nil
          · exact AllReadyH.nil
        · exact AllReadyH.nil

end Go.Proofs.YtciijlcemmhbfaaDoor
