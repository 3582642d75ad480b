/- The law's step, the document's Step (laid by genBg.py). -/
import Derived.Test.YtciijlcemmhbfaaGreatDoorBf
import Derived.Test.YtciijlcemmhbfaaGreatDoorBa
import Derived.Test.YtciijlcemmhbfaaGreatDoorAa
import Derived.Deep.DeepCutAuto
namespace Go.Proofs.YtciijlcemmhbfaaGreatDoor
open Go.RowKit

/-- What a change asks and gets: its number, the operators, the rows. -/
def chK (L : List OP) (z : List Int) (k g h : Nat) (o : OP) : Int × List OP × List Int :=
  if k % 4 = 2 then (eE z (1 + (g % 9 : Nat)) (1 + (h % 9 : Nat)), (if eE z (1 + (g % 9 : Nat)) (1 + (h % 9 : Nat)) = 0 then L else []), eV z (1 + (g % 9 : Nat)) (1 + (h % 9 : Nat)))
  else if k % 4 = 3 then (drpE L o.1, drpL L o.1, drpZ L z o.1) else (addE L o, addR L o, addZ L z o)
/-- An env behind a change; as it was, if that is refused. -/
def stq (L : List OP) (z : List Int) (k g h : Nat) (o : OP) : List OP × List Int := if (chK L z k g h o).1 = 0 then (chK L z k g h o).2 else (L, z)
theorem chK_len {L : List OP} {z : List Int} (hz : z.length = 10) (k g h : Nat) (o : OP) : (chK L z k g h o).2.2.length = 10 := by
  unfold chK
  split
  · exact eV_len ..
  · split
    · show (drpZ L z o.1).length = 10
      unfold drpZ; split
      · exact hz
      · rfl
    · show (addZ L z o).length = 10
      unfold addZ; split
      · exact hz
      · rfl

set_option maxRecDepth 20000 in
set_option maxHeartbeats 16000000 in
theorem step_any (B : Nat) (a : Option Addr) (n c : Nat) (L : List OP) (z : List Int) (k g h : Nat) (o : OP) (w : World) (ht : Tab w) (hO : OwnO B w a n c L) (hB : B ≤ w.heap.size) (hz : z.length = 10) (hr : ∀ i, i < 10 → I64 (bt z i)) (hn : n ≤ 1000000) (hk : k ≤ 255) (hg : g ≤ 255) (hh : h ≤ 255) (hp : o.1.length ≤ 140737488355328) :
    Calls Tryz.prog 24 #[.agg (ev a n c z), .agg #[.int .u8 (k : Int), .int .u8 (g : Int), .int .u8 (h : Int), .string (mk o.1), .int .i64 o.2.1, .int .i64 o.2.2]] w fun e w' => ∃ a' n' c', e = .returned (.agg (ev a' n' c' (stq L z k g h (fitO o)).2)) ∧ OwnO B w' a' n' c' (stq L z k g h (fitO o)).1 ∧ Below w.heap.size w w' := by
  obtain ⟨C, hC⟩ : ∃ C, C = w.heap.size := ⟨_, rfl⟩
  obtain ⟨w1, hw1⟩ : ∃ w1, w1 = w.alloc (.cells (ev a n c z) 26) := ⟨_, rfl⟩
  obtain ⟨w2, hw2⟩ : ∃ w2, w2 = w1.alloc (.cells #[.int .u8 (k : Int), .int .u8 (g : Int), .int .u8 (h : Int), .string (mk o.1), .int .i64 o.2.1, .int .i64 o.2.2] 49) := ⟨_, rfl⟩
  obtain ⟨w3, hw3⟩ : ∃ w3, w3 = w2.alloc (.cells #[.slice none 0 0, .int .i64 0, .int .i64 0, .int .i64 0, .int .i64 0, .int .i64 0, .int .i64 0, .int .i64 0, .int .i64 0, .int .i64 0, .int .i64 0] 26) := ⟨_, rfl⟩
  have s1 : w1.heap.size = C + 1 := by rw [hw1, hC]; simp
  have s2 : w2.heap.size = C + 1 + 1 := by rw [hw2]; simp [s1]
  have HE3 : Hid (EB w3 C a n c z) := Lib.hid (by rw [hw3, hw2, hw1, hC]; exact ((EB.new w a n c z).alloc _).alloc _)
  have hC3 : w3.heap[C + 1]? = some (.cells #[.int .u8 (k : Int), .int .u8 (g : Int), .int .u8 (h : Int), .string (mk o.1), .int .i64 o.2.1, .int .i64 o.2.2] 49 (0, 0)) := by rw [hw3, ← s1, hw2]; exact (Below.heap_alloc _ _ _ (by simp)).trans (heap_alloc_new w1 _)
  have HR3 : Hid (EB w3 (C + 1 + 1) none 0 0 z0) := Lib.hid (by rw [hw3, ← s2, ← ev_zero]; exact EB.new w2 none 0 0 z0)
  have HB3 : Hid (Below C w w3) := Lib.hid (by rw [hw3, hw2, hw1, hC]; exact (((Below.refl _ _).alloc (Nat.le_refl _) _).alloc (by simp) _).alloc (by simp; omega) _)
  have HS3 : Hid (C + 1 + 1 < w3.heap.size) := Lib.hid HR3.out.lt
  have HX : Hid (∀ w', Below w3.heap.size w3 w' → w'.cell? ⟨C + 1, 0, none⟩ = some (.int .u8 (k : Int)) ∧ w'.cell? ⟨C + 1, 1, none⟩ = some (.int .u8 (g : Int)) ∧ w'.cell? ⟨C + 1, 2, none⟩ = some (.int .u8 (h : Int)) ∧ w'.cell? ⟨C + 1, 3, none⟩ = some (.string (mk o.1)) ∧ w'.cell? ⟨C + 1, 4, none⟩ = some (.int .i64 o.2.1) ∧ w'.cell? ⟨C + 1, 5, none⟩ = some (.int .i64 o.2.2)) := Lib.hid fun w' hb => by
    have h2 := (hb.block (C + 1) (by have := HS3.out; omega)).trans hC3
    have hc : ∀ j : Nat, w'.cell? ⟨C + 1, j, none⟩ = #[.int .u8 (k : Int), .int .u8 (g : Int), .int .u8 (h : Int), .string (mk o.1), .int .i64 o.2.1, .int .i64 o.2.2][j]? := fun j => cell_of_row w' (C + 1) j _ _ _ h2
    exact ⟨hc 0, hc 1, hc 2, hc 3, hc 4, hc 5⟩
  have HO : Hid (OwnO B w a n c L) := Lib.hid hO
  have H3 : Hid (OpS w3 a n c L) := Lib.hid (hO.vs.below (hC ▸ HB3.out))
  have HBC : Hid (B ≤ C) := Lib.hid (by rw [hC]; exact hB)
  have HT3 : Hid (Tab w3) := Lib.hid (ht.keep (hC ▸ HB3.out))
  have HZ := Lib.hid hz
  have HCC := Lib.hid hC
  have HP := Lib.hid hp
  have HFO := Lib.hid (fitO_good o)
  have HFE : Hid (fitO o = (pat (fitQ o.1), fitG o.2.1, fitA o.1 o.2.1 o.2.2)) := Lib.hid rfl
  obtain ⟨x0, x1, x2, x3, x4, x5⟩ := HX.out w3 (Below.refl _ _)
  rw [hw3, hw2, hw1, hC] at x3 x4 x5
  clear hO hB hz s1 s2 hC3 x0 x1 x2 hp
  go_enter Tryz.func24, Tryz.ntmps24
  go_wp2_with fail
  rw [← hw1, ← hw2, ← hw3, ← hC]
  clear hw1 hw2 hw3 hC x3 x4 x5 w1 w2
  refine (fit_any o.1 o.2.1 o.2.2 w3 HP.out).mono ?_
  rintro e w4 ⟨rfl, hb4⟩
  have HE4 := Lib.hid (HE3.out.below hb4)
  have HR4 := Lib.hid (HR3.out.below hb4)
  have H4 := Lib.hid (H3.out.below hb4)
  have HB4 : Hid (Below w3.heap.size w3 w4) := Lib.hid hb4
  clear hb4
  obtain ⟨q, hq⟩ : ∃ q, q = fitO o := ⟨_, rfl⟩
  rw [← hq] at HFO HFE
  have HFQ := Lib.hid hq.symm
  clear hq
  obtain ⟨p, x, s⟩ := q
  have hq' : pat (fitQ o.1) = p ∧ fitG o.2.1 = x ∧ fitA o.1 o.2.1 o.2.2 = s := by simpa using HFE.out.symm
  rw [hq'.1, hq'.2.1, hq'.2.2]
  clear hq' HFE
  obtain ⟨D, hD⟩ : ∃ D, D = w4.heap.size := ⟨_, rfl⟩
  obtain ⟨w5, hw5⟩ : ∃ w5, w5 = w4.alloc (.cells #[.string (mk p), .int .i64 x, .int .i64 s] 28) := ⟨_, rfl⟩
  obtain ⟨w6, hw6⟩ : ∃ w6, w6 = w5.alloc (.cells #[.slice none 0 0, .int .i64 0, .int .i64 0, .int .i64 0, .int .i64 0, .int .i64 0, .int .i64 0, .int .i64 0, .int .i64 0, .int .i64 0, .int .i64 0] 26) := ⟨_, rfl⟩
  have s5 : w5.heap.size = D + 1 := by rw [hw5, hD]; simp
  have HD6 : Hid (D3 w6 D (p, x, s)) := Lib.hid (by rw [hw6, hw5, hD]; exact (D3.new w4 (p, x, s)).below (below_alloc _ _))
  have HN6 : Hid (EB w6 (D + 1) none 0 0 z0) := Lib.hid (by rw [hw6, ← s5, ← ev_zero]; exact EB.new w5 none 0 0 z0)
  have HE6 : Hid (EB w6 C a n c z) := Lib.hid (by rw [hw6, hw5]; exact (HE4.out.alloc _).alloc _)
  have HR6 : Hid (EB w6 (C + 1 + 1) none 0 0 z0) := Lib.hid (by rw [hw6, hw5]; exact (HR4.out.alloc _).alloc _)
  have HB6 : Hid (Below w3.heap.size w3 w6) := Lib.hid (by rw [hw6, hw5]; exact (HB4.out.alloc HB4.out.size _).alloc (Nat.le_trans HB4.out.size (by simp)) _)
  have H6 : Hid (OpS w6 a n c L) := Lib.hid (H3.out.below HB6.out)
  have HT6 : Hid (Tab w6) := Lib.hid (HT3.out.keep HB6.out)
  have HCD : Hid (C + 1 + 1 < D) := Lib.hid (by rw [hD]; exact HR4.out.lt)
  go_upto_region 4 with fail
  rw [← hw5, ← hw6, ← hD]
  clear hw5 hw6 hD s5 w5
  obtain ⟨x0, x1, x2, _⟩ := HX.out w6 HB6.out
  obtain ⟨κ, hκ⟩ : ∃ κ, κ = k % 4 := ⟨_, rfl⟩
  have hκ4 : κ < 4 := by omega
  have htm : Int.tmod (k : Int) 4 = (κ : Int) := by rw [Int.tmod_eq_emod_of_nonneg (by omega)]; omega
  have hem : (k : Int) % 4 = (κ : Int) := by omega
  obtain ⟨ga, hga⟩ : ∃ ga, ga = g % 9 := ⟨_, rfl⟩
  obtain ⟨ha, hha⟩ : ∃ ha, ha = h % 9 := ⟨_, rfl⟩
  have hg9 : Int.tmod (g : Int) 9 = (ga : Int) := by rw [Int.tmod_eq_emod_of_nonneg (by omega)]; omega
  have hh9 : Int.tmod (h : Int) 9 = (ha : Int) := by rw [Int.tmod_eq_emod_of_nonneg (by omega)]; omega
  have hge : (g : Int) % 9 = (ga : Int) := by omega
  have hhe : (h : Int) % 9 = (ha : Int) := by omega
  have hgr : ga ≤ 8 ∧ ha ≤ 8 := by omega
  obtain ⟨V, hV⟩ : ∃ V, V = (chK L z k g h (p, x, s)).1 := ⟨_, rfl⟩
  obtain ⟨R, hR⟩ : ∃ R, R = (chK L z k g h (p, x, s)).2.1 := ⟨_, rfl⟩
  obtain ⟨Z, hZ⟩ : ∃ Z, Z = (chK L z k g h (p, x, s)).2.2 := ⟨_, rfl⟩
  have HZL : Hid (Z.length = 10) := Lib.hid (by rw [hZ]; exact chK_len HZ.out ..)
  have HST : Hid (stq L z k g h (fitO o) = if V = 0 then (R, Z) else (L, z)) := Lib.hid (by rw [HFQ.out, hV, hR, hZ]; rfl)
  have KC : Hid ((κ = 2 → ∀ w', OpS w' a n c L → Calls Tryz.prog 13 #[.agg (ev a n c z), .int .i64 (1 + (ga : Int)), .int .i64 (1 + (ha : Int))] w' fun e w'' => ∃ a' n' c', e = .returned (.tuple #[.agg (ev a' n' c' Z), .int .i64 V]) ∧ OwnO w'.heap.size w'' a' n' c' R ∧ Below w'.heap.size w' w'') ∧ (κ = 3 → ∀ w', OpS w' a n c L → Calls Tryz.prog 11 #[.agg (ev a n c z), .string (mk p)] w' fun e w'' => ∃ a' n' c', e = .returned (.tuple #[.agg (ev a' n' c' Z), .int .i64 V]) ∧ OwnO w'.heap.size w'' a' n' c' R ∧ Below w'.heap.size w' w'') ∧ (κ < 2 → ∀ w', Tab w' → OpS w' a n c L → Calls Tryz.prog 9 #[.agg (ev a n c z), .agg #[.string (mk p), .int .i64 x, .int .i64 s]] w' fun e w'' => ∃ a' n' c', e = .returned (.tuple #[.agg (ev a' n' c' Z), .int .i64 V]) ∧ OwnO w'.heap.size w'' a' n' c' R ∧ Below w'.heap.size w' w'')) := Lib.hid (by
    rw [hV, hR, hZ]
    unfold chK
    rw [← hκ, ← hga, ← hha]
    refine ⟨fun h2 w' hs => ?_, fun h3 w' hs => ?_, fun h1 w' ht hs => ?_⟩
    · rw [if_pos h2]; exact envEdge_any a n c L z _ _ w' hs HZ.out hr hn
    · rw [if_neg (by omega), if_pos h3]; exact drop_any a n c L z p w' hs HZ.out hn
    · rw [if_neg (by omega), if_neg (by omega)]; exact add_any a n c L z (p, x, s) w' ht hs HZ.out hn (Nat.le_trans HFO.out.2 (by decide)))
  clear hV hR hZ hκ hga hha
  by_cases h2 : κ = 2
  · subst h2
    go_wp2_with (first
      | (refine load_env rfl (.tmp 2) rfl C rfl a n c z HZ.out HE6.out ?_))
    refine (KC.out.1 (by first | rfl | trivial) w6 H6.out).mono ?_
    rintro e w7 ⟨a7, n7, c7, rfl, ho7, hb7⟩
    have HO7 : Hid (OwnO B w7 a7 n7 c7 R) := Lib.hid (ho7.weak (by have := HBC.out; have := HCD.out; have := HD6.out; have h9 : D < w6.heap.size := (Array.getElem?_eq_some_iff.1 this).1; omega))
    have HE7 := Lib.hid (HE6.out.below hb7)
    have HR7 := Lib.hid (HR6.out.below hb7)
    have HN7 := Lib.hid (HN6.out.below hb7)
    have HB7 : Hid (Below w3.heap.size w3 w7) := Lib.hid (HB6.out.trans (hb7.mono HB6.out.size))
    clear ho7 hb7 x0 x1 x2
    have HW7 : Hid (Below C w w7) := Lib.hid (HB3.out.trans (HB7.out.mono (by have := HS3.out; omega)))
    by_cases hv0 : V = 0
    · subst hv0
      go_wp2_with (first
        | (refine store_env rfl (.tmp 4) (.tmp 50) rfl (C + 1 + 1) rfl a7 n7 c7 Z rfl HZL.out none 0 0 z0 z0_len HR8.out ?_; intro w9 he9 hq9; have HE9 := Lib.hid he9; have HQ9 := Lib.hid hq9; clear he9 hq9)
        | (refine load_env rfl (.tmp 6) rfl (D + 1) rfl a7 n7 c7 Z HZL.out HN8.out ?_)
        | (refine store_env rfl (.tmp 6) (.tmp 36) rfl (D + 1) rfl a7 n7 c7 Z rfl HZL.out none 0 0 z0 z0_len HN7.out ?_; intro w8 he8 hq8; have HN8 := Lib.hid he8; have HQ8 := Lib.hid hq8; have HR8 := Lib.hid (HR7.out.only hq8 (by have := HCD.out; omega)); clear he8 hq8))
      refine bodyPost_ret (ret_env rfl _ _ (C + 1 + 1) a7 n7 c7 Z HZL.out rfl HE9.out) rfl ⟨a7, n7, c7, by rw [HST.out]; rfl, ?_, ?_⟩
      · rw [HST.out]
        exact ownO_env (ownO_env HO7.out HN7.out HQ8.out) HR8.out HQ9.out
      · rw [← HCC.out]; exact (HW7.out.trans (HQ8.out.below (by have := HCD.out; omega))).trans (HQ9.out.below (by omega))
    · go_wp2_with (first
        | (refine store_env rfl (.tmp 4) (.tmp 49) rfl (C + 1 + 1) rfl a n c z rfl HZ.out none 0 0 z0 z0_len HR8.out ?_; intro w9 he9 hq9; have HE9 := Lib.hid he9; have HQ9 := Lib.hid hq9; clear he9 hq9)
        | (refine load_env rfl (.tmp 2) rfl C rfl a n c z HZ.out HE8.out ?_)
        | (refine store_env rfl (.tmp 6) (.tmp 36) rfl (D + 1) rfl a7 n7 c7 Z rfl HZL.out none 0 0 z0 z0_len HN7.out ?_; intro w8 he8 hq8; have HQ8 := Lib.hid hq8; have HE8 := Lib.hid (HE7.out.only hq8 (by have := HCD.out; omega)); have HR8 := Lib.hid (HR7.out.only hq8 (by have := HCD.out; omega)); clear he8 hq8))
      have HW9 : Hid (Below C w w9) := Lib.hid ((HW7.out.trans (HQ8.out.below (by have := HCD.out; omega))).trans (HQ9.out.below (by omega)))
      refine bodyPost_ret (ret_env rfl _ _ (C + 1 + 1) a n c z HZ.out rfl HE9.out) rfl ⟨a, n, c, by rw [HST.out, if_neg hv0], ?_, by rw [← HCC.out]; exact HW9.out⟩
      rw [HST.out, if_neg hv0]
      exact HO.out.keep HW9.out (by rw [HCC.out]; exact Nat.le_refl _)
  by_cases h3 : κ = 3
  · subst h3
    obtain ⟨d0, d1, d2⟩ := HD6.out.cells
    dsimp only at d0 d1 d2
    go_wp2_with (first
      | (refine load_env rfl (.tmp 2) rfl C rfl a n c z HZ.out HE6.out ?_))
    clear d0 d1 d2
    refine (KC.out.2.1 (by first | rfl | trivial) w6 H6.out).mono ?_
    rintro e w7 ⟨a7, n7, c7, rfl, ho7, hb7⟩
    have HO7 : Hid (OwnO B w7 a7 n7 c7 R) := Lib.hid (ho7.weak (by have := HBC.out; have := HCD.out; have := HD6.out; have h9 : D < w6.heap.size := (Array.getElem?_eq_some_iff.1 this).1; omega))
    have HE7 := Lib.hid (HE6.out.below hb7)
    have HR7 := Lib.hid (HR6.out.below hb7)
    have HN7 := Lib.hid (HN6.out.below hb7)
    have HB7 : Hid (Below w3.heap.size w3 w7) := Lib.hid (HB6.out.trans (hb7.mono HB6.out.size))
    clear ho7 hb7 x0 x1 x2
    have HW7 : Hid (Below C w w7) := Lib.hid (HB3.out.trans (HB7.out.mono (by have := HS3.out; omega)))
    by_cases hv0 : V = 0
    · subst hv0
      go_wp2_with (first
        | (refine store_env rfl (.tmp 4) (.tmp 50) rfl (C + 1 + 1) rfl a7 n7 c7 Z rfl HZL.out none 0 0 z0 z0_len HR8.out ?_; intro w9 he9 hq9; have HE9 := Lib.hid he9; have HQ9 := Lib.hid hq9; clear he9 hq9)
        | (refine load_env rfl (.tmp 6) rfl (D + 1) rfl a7 n7 c7 Z HZL.out HN8.out ?_)
        | (refine store_env rfl (.tmp 6) (.tmp 45) rfl (D + 1) rfl a7 n7 c7 Z rfl HZL.out none 0 0 z0 z0_len HN7.out ?_; intro w8 he8 hq8; have HN8 := Lib.hid he8; have HQ8 := Lib.hid hq8; have HR8 := Lib.hid (HR7.out.only hq8 (by have := HCD.out; omega)); clear he8 hq8))
      refine bodyPost_ret (ret_env rfl _ _ (C + 1 + 1) a7 n7 c7 Z HZL.out rfl HE9.out) rfl ⟨a7, n7, c7, by rw [HST.out]; rfl, ?_, ?_⟩
      · rw [HST.out]
        exact ownO_env (ownO_env HO7.out HN7.out HQ8.out) HR8.out HQ9.out
      · rw [← HCC.out]; exact (HW7.out.trans (HQ8.out.below (by have := HCD.out; omega))).trans (HQ9.out.below (by omega))
    · go_wp2_with (first
        | (refine store_env rfl (.tmp 4) (.tmp 49) rfl (C + 1 + 1) rfl a n c z rfl HZ.out none 0 0 z0 z0_len HR8.out ?_; intro w9 he9 hq9; have HE9 := Lib.hid he9; have HQ9 := Lib.hid hq9; clear he9 hq9)
        | (refine load_env rfl (.tmp 2) rfl C rfl a n c z HZ.out HE8.out ?_)
        | (refine store_env rfl (.tmp 6) (.tmp 45) rfl (D + 1) rfl a7 n7 c7 Z rfl HZL.out none 0 0 z0 z0_len HN7.out ?_; intro w8 he8 hq8; have HQ8 := Lib.hid hq8; have HE8 := Lib.hid (HE7.out.only hq8 (by have := HCD.out; omega)); have HR8 := Lib.hid (HR7.out.only hq8 (by have := HCD.out; omega)); clear he8 hq8))
      have HW9 : Hid (Below C w w9) := Lib.hid ((HW7.out.trans (HQ8.out.below (by have := HCD.out; omega))).trans (HQ9.out.below (by omega)))
      refine bodyPost_ret (ret_env rfl _ _ (C + 1 + 1) a n c z HZ.out rfl HE9.out) rfl ⟨a, n, c, by rw [HST.out, if_neg hv0], ?_, by rw [← HCC.out]; exact HW9.out⟩
      rw [HST.out, if_neg hv0]
      exact HO.out.keep HW9.out (by rw [HCC.out]; exact Nat.le_refl _)
  · have hκ2 : κ < 2 := by omega
    have hk2 : ((κ : Int) == 2) = false := beq_eq_false_iff_ne.2 (by omega)
    have hk3 : ((κ : Int) == 3) = false := beq_eq_false_iff_ne.2 (by omega)
    obtain ⟨d0, d1, d2⟩ := HD6.out.cells
    dsimp only at d0 d1 d2
    go_wp2_with (first
      | (refine load_env rfl (.tmp 2) rfl C rfl a n c z HZ.out HE6.out ?_))
    clear d0 d1 d2
    refine (KC.out.2.2 hκ2 w6 HT6.out H6.out).mono ?_
    rintro e w7 ⟨a7, n7, c7, rfl, ho7, hb7⟩
    have HO7 : Hid (OwnO B w7 a7 n7 c7 R) := Lib.hid (ho7.weak (by have := HBC.out; have := HCD.out; have := HD6.out; have h9 : D < w6.heap.size := (Array.getElem?_eq_some_iff.1 this).1; omega))
    have HE7 := Lib.hid (HE6.out.below hb7)
    have HR7 := Lib.hid (HR6.out.below hb7)
    have HN7 := Lib.hid (HN6.out.below hb7)
    have HB7 : Hid (Below w3.heap.size w3 w7) := Lib.hid (HB6.out.trans (hb7.mono HB6.out.size))
    clear ho7 hb7 x0 x1 x2
    have HW7 : Hid (Below C w w7) := Lib.hid (HB3.out.trans (HB7.out.mono (by have := HS3.out; omega)))
    by_cases hv0 : V = 0
    · subst hv0
      go_wp2_with (first
        | (refine store_env rfl (.tmp 4) (.tmp 50) rfl (C + 1 + 1) rfl a7 n7 c7 Z rfl HZL.out none 0 0 z0 z0_len HR8.out ?_; intro w9 he9 hq9; have HE9 := Lib.hid he9; have HQ9 := Lib.hid hq9; clear he9 hq9)
        | (refine load_env rfl (.tmp 6) rfl (D + 1) rfl a7 n7 c7 Z HZL.out HN8.out ?_)
        | (refine store_env rfl (.tmp 6) (.tmp 19) rfl (D + 1) rfl a7 n7 c7 Z rfl HZL.out none 0 0 z0 z0_len HN7.out ?_; intro w8 he8 hq8; have HN8 := Lib.hid he8; have HQ8 := Lib.hid hq8; have HR8 := Lib.hid (HR7.out.only hq8 (by have := HCD.out; omega)); clear he8 hq8))
      refine bodyPost_ret (ret_env rfl _ _ (C + 1 + 1) a7 n7 c7 Z HZL.out rfl HE9.out) rfl ⟨a7, n7, c7, by rw [HST.out]; rfl, ?_, ?_⟩
      · rw [HST.out]
        exact ownO_env (ownO_env HO7.out HN7.out HQ8.out) HR8.out HQ9.out
      · rw [← HCC.out]; exact (HW7.out.trans (HQ8.out.below (by have := HCD.out; omega))).trans (HQ9.out.below (by omega))
    · go_wp2_with (first
        | (refine store_env rfl (.tmp 4) (.tmp 49) rfl (C + 1 + 1) rfl a n c z rfl HZ.out none 0 0 z0 z0_len HR8.out ?_; intro w9 he9 hq9; have HE9 := Lib.hid he9; have HQ9 := Lib.hid hq9; clear he9 hq9)
        | (refine load_env rfl (.tmp 2) rfl C rfl a n c z HZ.out HE8.out ?_)
        | (refine store_env rfl (.tmp 6) (.tmp 19) rfl (D + 1) rfl a7 n7 c7 Z rfl HZL.out none 0 0 z0 z0_len HN7.out ?_; intro w8 he8 hq8; have HQ8 := Lib.hid hq8; have HE8 := Lib.hid (HE7.out.only hq8 (by have := HCD.out; omega)); have HR8 := Lib.hid (HR7.out.only hq8 (by have := HCD.out; omega)); clear he8 hq8))
      have HW9 : Hid (Below C w w9) := Lib.hid ((HW7.out.trans (HQ8.out.below (by have := HCD.out; omega))).trans (HQ9.out.below (by omega)))
      refine bodyPost_ret (ret_env rfl _ _ (C + 1 + 1) a n c z HZ.out rfl HE9.out) rfl ⟨a, n, c, by rw [HST.out, if_neg hv0], ?_, by rw [← HCC.out]; exact HW9.out⟩
      rw [HST.out, if_neg hv0]
      exact HO.out.keep HW9.out (by rw [HCC.out]; exact Nat.le_refl _)

set_option maxRecDepth 20000 in
set_option maxHeartbeats 16000000 in
theorem rstep_any (B : Nat) (a : Option Addr) (n c : Nat) (L : List OP) (z : List Int) (k g h : Nat) (o : OP) (w : World) (hO : OwnO B w a n c L) (hB : B ≤ w.heap.size) (hz : z.length = 10) (hn : n ≤ 1000000) (hk : k ≤ 255) (hg : g ≤ 255) (hh : h ≤ 255) (hp : o.1.length ≤ 140737488355328) :
    Calls Tryz.prog 46 #[.agg (ev a n c z), .agg #[.int .u8 (k : Int), .int .u8 (g : Int), .int .u8 (h : Int), .string (mk o.1), .int .i64 o.2.1, .int .i64 o.2.2]] w fun e w' => ∃ a' n' c', e = .returned (.agg (ev a' n' c' (stq L z k g h (fitO o)).2)) ∧ OwnO B w' a' n' c' (stq L z k g h (fitO o)).1 ∧ Below w.heap.size w w' := by
  obtain ⟨C, hC⟩ : ∃ C, C = w.heap.size := ⟨_, rfl⟩
  obtain ⟨w1, hw1⟩ : ∃ w1, w1 = w.alloc (.cells (ev a n c z) 26) := ⟨_, rfl⟩
  obtain ⟨w2, hw2⟩ : ∃ w2, w2 = w1.alloc (.cells #[.int .u8 (k : Int), .int .u8 (g : Int), .int .u8 (h : Int), .string (mk o.1), .int .i64 o.2.1, .int .i64 o.2.2] 49) := ⟨_, rfl⟩
  obtain ⟨w3, hw3⟩ : ∃ w3, w3 = w2.alloc (.cells #[.slice none 0 0, .int .i64 0, .int .i64 0, .int .i64 0, .int .i64 0, .int .i64 0, .int .i64 0, .int .i64 0, .int .i64 0, .int .i64 0, .int .i64 0] 26) := ⟨_, rfl⟩
  have s1 : w1.heap.size = C + 1 := by rw [hw1, hC]; simp
  have s2 : w2.heap.size = C + 1 + 1 := by rw [hw2]; simp [s1]
  have HE3 : Hid (EB w3 C a n c z) := Lib.hid (by rw [hw3, hw2, hw1, hC]; exact ((EB.new w a n c z).alloc _).alloc _)
  have hC3 : w3.heap[C + 1]? = some (.cells #[.int .u8 (k : Int), .int .u8 (g : Int), .int .u8 (h : Int), .string (mk o.1), .int .i64 o.2.1, .int .i64 o.2.2] 49 (0, 0)) := by rw [hw3, ← s1, hw2]; exact (Below.heap_alloc _ _ _ (by simp)).trans (heap_alloc_new w1 _)
  have HR3 : Hid (EB w3 (C + 1 + 1) none 0 0 z0) := Lib.hid (by rw [hw3, ← s2, ← ev_zero]; exact EB.new w2 none 0 0 z0)
  have HB3 : Hid (Below C w w3) := Lib.hid (by rw [hw3, hw2, hw1, hC]; exact (((Below.refl _ _).alloc (Nat.le_refl _) _).alloc (by simp) _).alloc (by simp; omega) _)
  have HS3 : Hid (C + 1 + 1 < w3.heap.size) := Lib.hid HR3.out.lt
  have HX : Hid (∀ w', Below w3.heap.size w3 w' → w'.cell? ⟨C + 1, 0, none⟩ = some (.int .u8 (k : Int)) ∧ w'.cell? ⟨C + 1, 1, none⟩ = some (.int .u8 (g : Int)) ∧ w'.cell? ⟨C + 1, 2, none⟩ = some (.int .u8 (h : Int)) ∧ w'.cell? ⟨C + 1, 3, none⟩ = some (.string (mk o.1)) ∧ w'.cell? ⟨C + 1, 4, none⟩ = some (.int .i64 o.2.1) ∧ w'.cell? ⟨C + 1, 5, none⟩ = some (.int .i64 o.2.2)) := Lib.hid fun w' hb => by
    have h2 := (hb.block (C + 1) (by have := HS3.out; omega)).trans hC3
    have hc : ∀ j : Nat, w'.cell? ⟨C + 1, j, none⟩ = #[.int .u8 (k : Int), .int .u8 (g : Int), .int .u8 (h : Int), .string (mk o.1), .int .i64 o.2.1, .int .i64 o.2.2][j]? := fun j => cell_of_row w' (C + 1) j _ _ _ h2
    exact ⟨hc 0, hc 1, hc 2, hc 3, hc 4, hc 5⟩
  have HO : Hid (OwnO B w a n c L) := Lib.hid hO
  have H3 : Hid (OpS w3 a n c L) := Lib.hid (hO.vs.below (hC ▸ HB3.out))
  have HBC : Hid (B ≤ C) := Lib.hid (by rw [hC]; exact hB)
  have HZ := Lib.hid hz
  have HCC := Lib.hid hC
  have HP := Lib.hid hp
  have HFO := Lib.hid (fitO_good o)
  have HFE : Hid (fitO o = (pat (fitQ o.1), fitG o.2.1, fitA o.1 o.2.1 o.2.2)) := Lib.hid rfl
  obtain ⟨x0, x1, x2, x3, x4, x5⟩ := HX.out w3 (Below.refl _ _)
  rw [hw3, hw2, hw1, hC] at x3 x4 x5
  clear hO hB hz s1 s2 hC3 x0 x1 x2 hp
  go_enter Tryz.func46, Tryz.ntmps46
  go_wp2_with fail
  rw [← hw1, ← hw2, ← hw3, ← hC]
  clear hw1 hw2 hw3 hC x3 x4 x5 w1 w2
  refine (fit_any o.1 o.2.1 o.2.2 w3 HP.out).mono ?_
  rintro e w4 ⟨rfl, hb4⟩
  have HE4 := Lib.hid (HE3.out.below hb4)
  have HR4 := Lib.hid (HR3.out.below hb4)
  have H4 := Lib.hid (H3.out.below hb4)
  have HB4 : Hid (Below w3.heap.size w3 w4) := Lib.hid hb4
  clear hb4
  obtain ⟨q, hq⟩ : ∃ q, q = fitO o := ⟨_, rfl⟩
  rw [← hq] at HFO HFE
  have HFQ := Lib.hid hq.symm
  clear hq
  obtain ⟨p, x, s⟩ := q
  have hq' : pat (fitQ o.1) = p ∧ fitG o.2.1 = x ∧ fitA o.1 o.2.1 o.2.2 = s := by simpa using HFE.out.symm
  rw [hq'.1, hq'.2.1, hq'.2.2]
  clear hq' HFE
  obtain ⟨D, hD⟩ : ∃ D, D = w4.heap.size := ⟨_, rfl⟩
  obtain ⟨w5, hw5⟩ : ∃ w5, w5 = w4.alloc (.cells #[.string (mk p), .int .i64 x, .int .i64 s] 28) := ⟨_, rfl⟩
  obtain ⟨w6, hw6⟩ : ∃ w6, w6 = w5.alloc (.cells #[.slice none 0 0, .int .i64 0, .int .i64 0, .int .i64 0, .int .i64 0, .int .i64 0, .int .i64 0, .int .i64 0, .int .i64 0, .int .i64 0, .int .i64 0] 26) := ⟨_, rfl⟩
  have s5 : w5.heap.size = D + 1 := by rw [hw5, hD]; simp
  have HD6 : Hid (D3 w6 D (p, x, s)) := Lib.hid (by rw [hw6, hw5, hD]; exact (D3.new w4 (p, x, s)).below (below_alloc _ _))
  have HN6 : Hid (EB w6 (D + 1) none 0 0 z0) := Lib.hid (by rw [hw6, ← s5, ← ev_zero]; exact EB.new w5 none 0 0 z0)
  have HE6 : Hid (EB w6 C a n c z) := Lib.hid (by rw [hw6, hw5]; exact (HE4.out.alloc _).alloc _)
  have HR6 : Hid (EB w6 (C + 1 + 1) none 0 0 z0) := Lib.hid (by rw [hw6, hw5]; exact (HR4.out.alloc _).alloc _)
  have HB6 : Hid (Below w3.heap.size w3 w6) := Lib.hid (by rw [hw6, hw5]; exact (HB4.out.alloc HB4.out.size _).alloc (Nat.le_trans HB4.out.size (by simp)) _)
  have H6 : Hid (OpS w6 a n c L) := Lib.hid (H3.out.below HB6.out)
  have HCD : Hid (C + 1 + 1 < D) := Lib.hid (by rw [hD]; exact HR4.out.lt)
  go_upto_region 4 with fail
  rw [← hw5, ← hw6, ← hD]
  clear hw5 hw6 hD s5 w5
  obtain ⟨x0, x1, x2, _⟩ := HX.out w6 HB6.out
  obtain ⟨κ, hκ⟩ : ∃ κ, κ = k % 4 := ⟨_, rfl⟩
  have hκ4 : κ < 4 := by omega
  have htm : Int.tmod (k : Int) 4 = (κ : Int) := by rw [Int.tmod_eq_emod_of_nonneg (by omega)]; omega
  have hem : (k : Int) % 4 = (κ : Int) := by omega
  obtain ⟨ga, hga⟩ : ∃ ga, ga = g % 9 := ⟨_, rfl⟩
  obtain ⟨ha, hha⟩ : ∃ ha, ha = h % 9 := ⟨_, rfl⟩
  have hg9 : Int.tmod (g : Int) 9 = (ga : Int) := by rw [Int.tmod_eq_emod_of_nonneg (by omega)]; omega
  have hh9 : Int.tmod (h : Int) 9 = (ha : Int) := by rw [Int.tmod_eq_emod_of_nonneg (by omega)]; omega
  have hge : (g : Int) % 9 = (ga : Int) := by omega
  have hhe : (h : Int) % 9 = (ha : Int) := by omega
  have hgr : ga ≤ 8 ∧ ha ≤ 8 := by omega
  obtain ⟨V, hV⟩ : ∃ V, V = (chK L z k g h (p, x, s)).1 := ⟨_, rfl⟩
  obtain ⟨R, hR⟩ : ∃ R, R = (chK L z k g h (p, x, s)).2.1 := ⟨_, rfl⟩
  obtain ⟨Z, hZ⟩ : ∃ Z, Z = (chK L z k g h (p, x, s)).2.2 := ⟨_, rfl⟩
  have HZL : Hid (Z.length = 10) := Lib.hid (by rw [hZ]; exact chK_len HZ.out ..)
  have HST : Hid (stq L z k g h (fitO o) = if V = 0 then (R, Z) else (L, z)) := Lib.hid (by rw [HFQ.out, hV, hR, hZ]; rfl)
  have KC : Hid ((κ = 2 → ∀ w', OpS w' a n c L → Calls Tryz.prog 14 #[.agg (ev a n c z), .int .i64 (1 + (ga : Int)), .int .i64 (1 + (ha : Int))] w' fun e w'' => ∃ a' n' c', e = .returned (.tuple #[.agg (ev a' n' c' Z), .int .i64 V]) ∧ OwnO w'.heap.size w'' a' n' c' R ∧ Below w'.heap.size w' w'') ∧ (κ = 3 → ∀ w', OpS w' a n c L → Calls Tryz.prog 12 #[.agg (ev a n c z), .string (mk p)] w' fun e w'' => ∃ a' n' c', e = .returned (.tuple #[.agg (ev a' n' c' Z), .int .i64 V]) ∧ OwnO w'.heap.size w'' a' n' c' R ∧ Below w'.heap.size w' w'') ∧ (κ < 2 → ∀ w', OpS w' a n c L → Calls Tryz.prog 10 #[.agg (ev a n c z), .agg #[.string (mk p), .int .i64 x, .int .i64 s]] w' fun e w'' => ∃ a' n' c', e = .returned (.tuple #[.agg (ev a' n' c' Z), .int .i64 V]) ∧ OwnO w'.heap.size w'' a' n' c' R ∧ Below w'.heap.size w' w'')) := Lib.hid (by
    rw [hV, hR, hZ]
    unfold chK
    rw [← hκ, ← hga, ← hha]
    refine ⟨fun h2 w' hs => ?_, fun h3 w' hs => ?_, fun h1 w' hs => ?_⟩
    · rw [if_pos h2]; exact renvEdge_any a n c L z _ _ w' hs HZ.out hn
    · rw [if_neg (by omega), if_pos h3]; exact rdrop_any a n c L z p w' hs HZ.out hn
    · rw [if_neg (by omega), if_neg (by omega)]; exact radd_any a n c L z (p, x, s) w' hs HZ.out hn (Nat.le_trans HFO.out.2 (by decide)))
  clear hV hR hZ hκ hga hha
  by_cases h2 : κ = 2
  · subst h2
    go_wp2_with (first
      | (refine load_env rfl (.tmp 2) rfl C rfl a n c z HZ.out HE6.out ?_))
    refine (KC.out.1 (by first | rfl | trivial) w6 H6.out).mono ?_
    rintro e w7 ⟨a7, n7, c7, rfl, ho7, hb7⟩
    have HO7 : Hid (OwnO B w7 a7 n7 c7 R) := Lib.hid (ho7.weak (by have := HBC.out; have := HCD.out; have := HD6.out; have h9 : D < w6.heap.size := (Array.getElem?_eq_some_iff.1 this).1; omega))
    have HE7 := Lib.hid (HE6.out.below hb7)
    have HR7 := Lib.hid (HR6.out.below hb7)
    have HN7 := Lib.hid (HN6.out.below hb7)
    have HB7 : Hid (Below w3.heap.size w3 w7) := Lib.hid (HB6.out.trans (hb7.mono HB6.out.size))
    clear ho7 hb7 x0 x1 x2
    have HW7 : Hid (Below C w w7) := Lib.hid (HB3.out.trans (HB7.out.mono (by have := HS3.out; omega)))
    by_cases hv0 : V = 0
    · subst hv0
      go_wp2_with (first
        | (refine store_env rfl (.tmp 4) (.tmp 50) rfl (C + 1 + 1) rfl a7 n7 c7 Z rfl HZL.out none 0 0 z0 z0_len HR8.out ?_; intro w9 he9 hq9; have HE9 := Lib.hid he9; have HQ9 := Lib.hid hq9; clear he9 hq9)
        | (refine load_env rfl (.tmp 6) rfl (D + 1) rfl a7 n7 c7 Z HZL.out HN8.out ?_)
        | (refine store_env rfl (.tmp 6) (.tmp 36) rfl (D + 1) rfl a7 n7 c7 Z rfl HZL.out none 0 0 z0 z0_len HN7.out ?_; intro w8 he8 hq8; have HN8 := Lib.hid he8; have HQ8 := Lib.hid hq8; have HR8 := Lib.hid (HR7.out.only hq8 (by have := HCD.out; omega)); clear he8 hq8))
      refine bodyPost_ret (ret_env rfl _ _ (C + 1 + 1) a7 n7 c7 Z HZL.out rfl HE9.out) rfl ⟨a7, n7, c7, by rw [HST.out]; rfl, ?_, ?_⟩
      · rw [HST.out]
        exact ownO_env (ownO_env HO7.out HN7.out HQ8.out) HR8.out HQ9.out
      · rw [← HCC.out]; exact (HW7.out.trans (HQ8.out.below (by have := HCD.out; omega))).trans (HQ9.out.below (by omega))
    · go_wp2_with (first
        | (refine store_env rfl (.tmp 4) (.tmp 49) rfl (C + 1 + 1) rfl a n c z rfl HZ.out none 0 0 z0 z0_len HR8.out ?_; intro w9 he9 hq9; have HE9 := Lib.hid he9; have HQ9 := Lib.hid hq9; clear he9 hq9)
        | (refine load_env rfl (.tmp 2) rfl C rfl a n c z HZ.out HE8.out ?_)
        | (refine store_env rfl (.tmp 6) (.tmp 36) rfl (D + 1) rfl a7 n7 c7 Z rfl HZL.out none 0 0 z0 z0_len HN7.out ?_; intro w8 he8 hq8; have HQ8 := Lib.hid hq8; have HE8 := Lib.hid (HE7.out.only hq8 (by have := HCD.out; omega)); have HR8 := Lib.hid (HR7.out.only hq8 (by have := HCD.out; omega)); clear he8 hq8))
      have HW9 : Hid (Below C w w9) := Lib.hid ((HW7.out.trans (HQ8.out.below (by have := HCD.out; omega))).trans (HQ9.out.below (by omega)))
      refine bodyPost_ret (ret_env rfl _ _ (C + 1 + 1) a n c z HZ.out rfl HE9.out) rfl ⟨a, n, c, by rw [HST.out, if_neg hv0], ?_, by rw [← HCC.out]; exact HW9.out⟩
      rw [HST.out, if_neg hv0]
      exact HO.out.keep HW9.out (by rw [HCC.out]; exact Nat.le_refl _)
  by_cases h3 : κ = 3
  · subst h3
    obtain ⟨d0, d1, d2⟩ := HD6.out.cells
    dsimp only at d0 d1 d2
    go_wp2_with (first
      | (refine load_env rfl (.tmp 2) rfl C rfl a n c z HZ.out HE6.out ?_))
    clear d0 d1 d2
    refine (KC.out.2.1 (by first | rfl | trivial) w6 H6.out).mono ?_
    rintro e w7 ⟨a7, n7, c7, rfl, ho7, hb7⟩
    have HO7 : Hid (OwnO B w7 a7 n7 c7 R) := Lib.hid (ho7.weak (by have := HBC.out; have := HCD.out; have := HD6.out; have h9 : D < w6.heap.size := (Array.getElem?_eq_some_iff.1 this).1; omega))
    have HE7 := Lib.hid (HE6.out.below hb7)
    have HR7 := Lib.hid (HR6.out.below hb7)
    have HN7 := Lib.hid (HN6.out.below hb7)
    have HB7 : Hid (Below w3.heap.size w3 w7) := Lib.hid (HB6.out.trans (hb7.mono HB6.out.size))
    clear ho7 hb7 x0 x1 x2
    have HW7 : Hid (Below C w w7) := Lib.hid (HB3.out.trans (HB7.out.mono (by have := HS3.out; omega)))
    by_cases hv0 : V = 0
    · subst hv0
      go_wp2_with (first
        | (refine store_env rfl (.tmp 4) (.tmp 50) rfl (C + 1 + 1) rfl a7 n7 c7 Z rfl HZL.out none 0 0 z0 z0_len HR8.out ?_; intro w9 he9 hq9; have HE9 := Lib.hid he9; have HQ9 := Lib.hid hq9; clear he9 hq9)
        | (refine load_env rfl (.tmp 6) rfl (D + 1) rfl a7 n7 c7 Z HZL.out HN8.out ?_)
        | (refine store_env rfl (.tmp 6) (.tmp 45) rfl (D + 1) rfl a7 n7 c7 Z rfl HZL.out none 0 0 z0 z0_len HN7.out ?_; intro w8 he8 hq8; have HN8 := Lib.hid he8; have HQ8 := Lib.hid hq8; have HR8 := Lib.hid (HR7.out.only hq8 (by have := HCD.out; omega)); clear he8 hq8))
      refine bodyPost_ret (ret_env rfl _ _ (C + 1 + 1) a7 n7 c7 Z HZL.out rfl HE9.out) rfl ⟨a7, n7, c7, by rw [HST.out]; rfl, ?_, ?_⟩
      · rw [HST.out]
        exact ownO_env (ownO_env HO7.out HN7.out HQ8.out) HR8.out HQ9.out
      · rw [← HCC.out]; exact (HW7.out.trans (HQ8.out.below (by have := HCD.out; omega))).trans (HQ9.out.below (by omega))
    · go_wp2_with (first
        | (refine store_env rfl (.tmp 4) (.tmp 49) rfl (C + 1 + 1) rfl a n c z rfl HZ.out none 0 0 z0 z0_len HR8.out ?_; intro w9 he9 hq9; have HE9 := Lib.hid he9; have HQ9 := Lib.hid hq9; clear he9 hq9)
        | (refine load_env rfl (.tmp 2) rfl C rfl a n c z HZ.out HE8.out ?_)
        | (refine store_env rfl (.tmp 6) (.tmp 45) rfl (D + 1) rfl a7 n7 c7 Z rfl HZL.out none 0 0 z0 z0_len HN7.out ?_; intro w8 he8 hq8; have HQ8 := Lib.hid hq8; have HE8 := Lib.hid (HE7.out.only hq8 (by have := HCD.out; omega)); have HR8 := Lib.hid (HR7.out.only hq8 (by have := HCD.out; omega)); clear he8 hq8))
      have HW9 : Hid (Below C w w9) := Lib.hid ((HW7.out.trans (HQ8.out.below (by have := HCD.out; omega))).trans (HQ9.out.below (by omega)))
      refine bodyPost_ret (ret_env rfl _ _ (C + 1 + 1) a n c z HZ.out rfl HE9.out) rfl ⟨a, n, c, by rw [HST.out, if_neg hv0], ?_, by rw [← HCC.out]; exact HW9.out⟩
      rw [HST.out, if_neg hv0]
      exact HO.out.keep HW9.out (by rw [HCC.out]; exact Nat.le_refl _)
  · have hκ2 : κ < 2 := by omega
    have hk2 : ((κ : Int) == 2) = false := beq_eq_false_iff_ne.2 (by omega)
    have hk3 : ((κ : Int) == 3) = false := beq_eq_false_iff_ne.2 (by omega)
    obtain ⟨d0, d1, d2⟩ := HD6.out.cells
    dsimp only at d0 d1 d2
    go_wp2_with (first
      | (refine load_env rfl (.tmp 2) rfl C rfl a n c z HZ.out HE6.out ?_))
    clear d0 d1 d2
    refine (KC.out.2.2 hκ2 w6 H6.out).mono ?_
    rintro e w7 ⟨a7, n7, c7, rfl, ho7, hb7⟩
    have HO7 : Hid (OwnO B w7 a7 n7 c7 R) := Lib.hid (ho7.weak (by have := HBC.out; have := HCD.out; have := HD6.out; have h9 : D < w6.heap.size := (Array.getElem?_eq_some_iff.1 this).1; omega))
    have HE7 := Lib.hid (HE6.out.below hb7)
    have HR7 := Lib.hid (HR6.out.below hb7)
    have HN7 := Lib.hid (HN6.out.below hb7)
    have HB7 : Hid (Below w3.heap.size w3 w7) := Lib.hid (HB6.out.trans (hb7.mono HB6.out.size))
    clear ho7 hb7 x0 x1 x2
    have HW7 : Hid (Below C w w7) := Lib.hid (HB3.out.trans (HB7.out.mono (by have := HS3.out; omega)))
    by_cases hv0 : V = 0
    · subst hv0
      go_wp2_with (first
        | (refine store_env rfl (.tmp 4) (.tmp 50) rfl (C + 1 + 1) rfl a7 n7 c7 Z rfl HZL.out none 0 0 z0 z0_len HR8.out ?_; intro w9 he9 hq9; have HE9 := Lib.hid he9; have HQ9 := Lib.hid hq9; clear he9 hq9)
        | (refine load_env rfl (.tmp 6) rfl (D + 1) rfl a7 n7 c7 Z HZL.out HN8.out ?_)
        | (refine store_env rfl (.tmp 6) (.tmp 19) rfl (D + 1) rfl a7 n7 c7 Z rfl HZL.out none 0 0 z0 z0_len HN7.out ?_; intro w8 he8 hq8; have HN8 := Lib.hid he8; have HQ8 := Lib.hid hq8; have HR8 := Lib.hid (HR7.out.only hq8 (by have := HCD.out; omega)); clear he8 hq8))
      refine bodyPost_ret (ret_env rfl _ _ (C + 1 + 1) a7 n7 c7 Z HZL.out rfl HE9.out) rfl ⟨a7, n7, c7, by rw [HST.out]; rfl, ?_, ?_⟩
      · rw [HST.out]
        exact ownO_env (ownO_env HO7.out HN7.out HQ8.out) HR8.out HQ9.out
      · rw [← HCC.out]; exact (HW7.out.trans (HQ8.out.below (by have := HCD.out; omega))).trans (HQ9.out.below (by omega))
    · go_wp2_with (first
        | (refine store_env rfl (.tmp 4) (.tmp 49) rfl (C + 1 + 1) rfl a n c z rfl HZ.out none 0 0 z0 z0_len HR8.out ?_; intro w9 he9 hq9; have HE9 := Lib.hid he9; have HQ9 := Lib.hid hq9; clear he9 hq9)
        | (refine load_env rfl (.tmp 2) rfl C rfl a n c z HZ.out HE8.out ?_)
        | (refine store_env rfl (.tmp 6) (.tmp 19) rfl (D + 1) rfl a7 n7 c7 Z rfl HZL.out none 0 0 z0 z0_len HN7.out ?_; intro w8 he8 hq8; have HQ8 := Lib.hid hq8; have HE8 := Lib.hid (HE7.out.only hq8 (by have := HCD.out; omega)); have HR8 := Lib.hid (HR7.out.only hq8 (by have := HCD.out; omega)); clear he8 hq8))
      have HW9 : Hid (Below C w w9) := Lib.hid ((HW7.out.trans (HQ8.out.below (by have := HCD.out; omega))).trans (HQ9.out.below (by omega)))
      refine bodyPost_ret (ret_env rfl _ _ (C + 1 + 1) a n c z HZ.out rfl HE9.out) rfl ⟨a, n, c, by rw [HST.out, if_neg hv0], ?_, by rw [← HCC.out]; exact HW9.out⟩
      rw [HST.out, if_neg hv0]
      exact HO.out.keep HW9.out (by rw [HCC.out]; exact Nat.le_refl _)

end Go.Proofs.YtciijlcemmhbfaaGreatDoor
