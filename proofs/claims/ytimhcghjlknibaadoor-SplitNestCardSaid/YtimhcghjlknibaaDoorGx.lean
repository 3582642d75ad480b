/- The law SplitNest. -/
import Derived.Test.YtimhcghjlknibaaDoorGr
import Derived.Test.YtimhcghjlknibaaDoorMB
import Derived.Deep.RegionHeld3
namespace Go.Proofs.YtimhcghjlknibaaDoor
open Go.RowKit

def tO : TK := ⟨6, 0, 0, { data := #[40] }, 0⟩
def tC : TK := ⟨6, 0, 0, { data := #[41] }, 0⟩
def brk (m : Nat → Nat) : Nat → List TK
  | 0 => []
  | i + 1 => brk m i ++ List.replicate (m i) (if i % 2 = 0 then tC else tO)
theorem isO_tO : isO tO = true := by unfold isO tO; rw [lit40]; rfl
theorem isC_tC : isC tC = true := by unfold isC tC; rw [lit41]; rfl
theorem nst_brk (m : Nat → Nat) : nst 0 0 (brk m 4) = max (m 1) (m 1 - m 2 + m 3) := by
  have e : brk m 4 = List.replicate (m 0) tC ++ (List.replicate (m 1) tO ++ (List.replicate (m 2) tC ++ (List.replicate (m 3) tO ++ []))) := by
    simp [brk]
  rw [e, nst_shuts isC_tC, Nat.zero_sub, nst_opens isO_tO _ _ _ _ (Nat.le_refl _), Nat.zero_add, nst_shuts isC_tC, nst_opens isO_tO _ _ _ _ (by omega), nst]
  omega

set_option maxRecDepth 100000 in
set_option maxHeartbeats 8000000 in
theorem splitNest_any (n0 n1 n2 n3 : Int) (w : World) (ht : Tab w) (h0 : 0 ≤ n0 ∧ n0 ≤ 255) (h1 : 0 ≤ n1 ∧ n1 ≤ 255) (h2 : 0 ≤ n2 ∧ n2 ≤ 255) (h3 : 0 ≤ n3 ∧ n3 ≤ 255) :
    Calls Tryd.prog 6 #[.agg #[.int .u8 n0, .int .u8 n1, .int .u8 n2, .int .u8 n3]] w fun e w' => e = .returned (.bool true) ∧ Below w.heap.size w w' := by
  obtain ⟨m0, hm0⟩ : ∃ m : Nat, n0 % 16 = (m : Int) := ⟨(n0 % 16).toNat, by omega⟩
  have hb0 : m0 ≤ 15 := by omega
  have ht0 : Int.tmod n0 16 = (m0 : Int) := by rw [Int.tmod_eq_emod_of_nonneg h0.1]; exact hm0
  have hc01 := h0.1
  have hc02 := h0.2
  obtain ⟨m1, hm1⟩ : ∃ m : Nat, n1 % 16 = (m : Int) := ⟨(n1 % 16).toNat, by omega⟩
  have hb1 : m1 ≤ 15 := by omega
  have ht1 : Int.tmod n1 16 = (m1 : Int) := by rw [Int.tmod_eq_emod_of_nonneg h1.1]; exact hm1
  have hc11 := h1.1
  have hc12 := h1.2
  obtain ⟨m2, hm2⟩ : ∃ m : Nat, n2 % 16 = (m : Int) := ⟨(n2 % 16).toNat, by omega⟩
  have hb2 : m2 ≤ 15 := by omega
  have ht2 : Int.tmod n2 16 = (m2 : Int) := by rw [Int.tmod_eq_emod_of_nonneg h2.1]; exact hm2
  have hc21 := h2.1
  have hc22 := h2.2
  obtain ⟨m3, hm3⟩ : ∃ m : Nat, n3 % 16 = (m : Int) := ⟨(n3 % 16).toNat, by omega⟩
  have hb3 : m3 ≤ 15 := by omega
  have ht3 : Int.tmod n3 16 = (m3 : Int) := by rw [Int.tmod_eq_emod_of_nonneg h3.1]; exact hm3
  have hc31 := h3.1
  have hc32 := h3.2
  obtain ⟨M, hM⟩ : ∃ M : Nat → Nat, M = fun i => [m0, m1, m2, m3].getD i 0 := ⟨_, rfl⟩
  have HM0 : Hid (M 0 = m0) := Lib.hid (by rw [hM]; rfl)
  have HM1 : Hid (M 1 = m1) := Lib.hid (by rw [hM]; rfl)
  have HM2 : Hid (M 2 = m2) := Lib.hid (by rw [hM]; rfl)
  have HM3 : Hid (M 3 = m3) := Lib.hid (by rw [hM]; rfl)
  have HT := Lib.hid ht
  have HA : Hid (Below w.heap.size w (w.alloc (.cells #[.int .u8 n0, .int .u8 n1, .int .u8 n2, .int .u8 n3] 44))) := Lib.hid ((Below.refl _ _).alloc (Nat.le_refl _) _)
  clear hM ht h0 h1 h2 h3
  go_enter Tryd.func6, Tryd.ntmps6
  go_wp2_with fail
  refine (shown_any _ (HT.out.keep HA.out)).mono ?_
  rintro e w1 ⟨rfl, hb1⟩
  have HW1 : Hid (Below w.heap.size w w1) := Lib.hid (HA.out.trans (hb1.mono (by simp)))
  have HC1 : Hid (w.heap.size < w1.heap.size ∧ w1.cell? ⟨w.heap.size, 0, none⟩ = some (.int .u8 n0) ∧ w1.cell? ⟨w.heap.size, 1, none⟩ = some (.int .u8 n1) ∧ w1.cell? ⟨w.heap.size, 2, none⟩ = some (.int .u8 n2) ∧ w1.cell? ⟨w.heap.size, 3, none⟩ = some (.int .u8 n3)) :=
    Lib.hid ⟨by have := hb1.size; simp at this; omega, (hb1.cell (by simp)).trans (by simp), (hb1.cell (by simp)).trans (by simp), (hb1.cell (by simp)).trans (by simp), (hb1.cell (by simp)).trans (by simp)⟩
  clear hb1
  go_wp2
  go_loopw [4, 5] (fun v x wr => ∃ a3, ∃ c3 s i : Nat, v = .slice a3 s c3 ∧ x = .int .i64 i ∧ i ≤ 4 ∧ s ≤ 15 * i ∧ Hid (OwnT w1.heap.size 38 wr a3 s c3 (brk M i)) ∧ Hid (Below w1.heap.size w1 wr)) (fun _ x _ => 4 - (intOf x).toNat)
  case atStart => exact ⟨_, _, 0, 0, rfl, rfl, by omega, by omega, Lib.hid (OwnT.emptyAt (heap_alloc_new w1 _) (Nat.le_refl _)), Lib.hid ((Below.refl _ _).alloc (Nat.le_refl _) _)⟩
  case round =>
    obtain ⟨a3, c3, s, i, rfl, rfl, hi, hs, HO, HB⟩ := hrel
    rename World => wa
    have e0 := (HB.out.cell HC1.out.1).trans HC1.out.2.1
    have e1 := (HB.out.cell HC1.out.1).trans HC1.out.2.2.1
    have e2 := (HB.out.cell HC1.out.1).trans HC1.out.2.2.2.1
    have e3 := (HB.out.cell HC1.out.1).trans HC1.out.2.2.2.2
    obtain hi0 | hi0 | hi0 | hi0 | hi0 : i = 0 ∨ i = 1 ∨ i = 2 ∨ i = 3 ∨ i = 4 := by omega
    · have hI : (i : Int) = 0 := by omega
      rw [hi0] at hs HO
      rw [hI]
      clear hi0 hI hi
      have HBK : Hid (∀ k, k = m0 → brk M 0 ++ List.replicate k tC = brk M (0 + 1)) := Lib.hid fun k hk => by rw [hk, ← HM0.out]; rfl
      go_wp2
      go_loopw [4, 7] (fun v x wr => ∃ a4, ∃ c4 k : Nat, v = .slice a4 (s + k) c4 ∧ x = .int .i64 k ∧ k ≤ m0 ∧ Hid (OwnT w1.heap.size 38 wr a4 (s + k) c4 (brk M 0 ++ List.replicate k tC)) ∧ Hid (Below w1.heap.size w1 wr)) (fun _ x _ => m0 - (intOf x).toNat)
      case atStart => exact ⟨a3, c3, 0, rfl, rfl, by omega, Lib.hid (by rw [List.replicate_zero, List.append_nil]; exact HO.out), HB⟩
      case round =>
        obtain ⟨a4, c4, k, rfl, rfl, hk, HO4, HB4⟩ := hrel
        rename World => wb
        have f0 := (HB4.out.cell HC1.out.1).trans HC1.out.2.1
        by_cases hlt : k < m0
        · go_wp2_with (at_builtin; refine Hid.out ?_)
          refine Lib.hid ?_
          refine wpList_appT rfl (.tmp 28) (.tmp 31) rfl w1.heap.size _ _ _ (brk M 0 ++ List.replicate k tC) rfl (HO4.out.alloc _) _ _ _ [tC] rfl (Ts.one _ _ tC (by simp [cellsT, tC]) rfl) (by omega) (by have := HB4.out.size; simp; omega) ?_
          intro a5 c5 w5 ho5 hg5 hb5
          have HO5 : Hid (OwnT w1.heap.size 38 w5 a5 (s + (k + 1)) c5 (brk M 0 ++ List.replicate (k + 1) tC)) := Lib.hid (by
            rw [List.replicate_succ', ← List.append_assoc, ← Nat.add_assoc]; exact ho5)
          have HB5 : Hid (Below w1.heap.size w1 w5) := Lib.hid ((HB4.out.alloc HB4.out.size _).trans hb5)
          clear ho5 hg5 hb5
          go_wp2
          go_roundw
          case rel => exact ⟨_, _, k + 1, by go_num, by go_num, by omega, HO5, HB5⟩
          case measure => simp [intOf]; omega
        · have hkm : k = m0 := by omega
          have HO5 : Hid (OwnT w1.heap.size 38 wb a4 (s + k) c4 (brk M (0 + 1))) := Lib.hid (by rw [← HBK.out k hkm]; exact HO4.out)
          go_wp2
          go_roundw
          case rel => exact ⟨_, _, s + k, 0 + 1, rfl, by go_num, by omega, by omega, HO5, HB4⟩
          case measure => simp [intOf]
    · have hI : (i : Int) = 1 := by omega
      rw [hi0] at hs HO
      rw [hI]
      clear hi0 hI hi
      have HBK : Hid (∀ k, k = m1 → brk M 1 ++ List.replicate k tO = brk M (1 + 1)) := Lib.hid fun k hk => by rw [hk, ← HM1.out]; rfl
      go_wp2
      go_loopw [4, 7] (fun v x wr => ∃ a4, ∃ c4 k : Nat, v = .slice a4 (s + k) c4 ∧ x = .int .i64 k ∧ k ≤ m1 ∧ Hid (OwnT w1.heap.size 38 wr a4 (s + k) c4 (brk M 1 ++ List.replicate k tO)) ∧ Hid (Below w1.heap.size w1 wr)) (fun _ x _ => m1 - (intOf x).toNat)
      case atStart => exact ⟨a3, c3, 0, rfl, rfl, by omega, Lib.hid (by rw [List.replicate_zero, List.append_nil]; exact HO.out), HB⟩
      case round =>
        obtain ⟨a4, c4, k, rfl, rfl, hk, HO4, HB4⟩ := hrel
        rename World => wb
        have f1 := (HB4.out.cell HC1.out.1).trans HC1.out.2.2.1
        by_cases hlt : k < m1
        · go_wp2_with (at_builtin; refine Hid.out ?_)
          refine Lib.hid ?_
          refine wpList_appT rfl (.tmp 28) (.tmp 31) rfl w1.heap.size _ _ _ (brk M 1 ++ List.replicate k tO) rfl (HO4.out.alloc _) _ _ _ [tO] rfl (Ts.one _ _ tO (by simp [cellsT, tO]) rfl) (by omega) (by have := HB4.out.size; simp; omega) ?_
          intro a5 c5 w5 ho5 hg5 hb5
          have HO5 : Hid (OwnT w1.heap.size 38 w5 a5 (s + (k + 1)) c5 (brk M 1 ++ List.replicate (k + 1) tO)) := Lib.hid (by
            rw [List.replicate_succ', ← List.append_assoc, ← Nat.add_assoc]; exact ho5)
          have HB5 : Hid (Below w1.heap.size w1 w5) := Lib.hid ((HB4.out.alloc HB4.out.size _).trans hb5)
          clear ho5 hg5 hb5
          go_wp2
          go_roundw
          case rel => exact ⟨_, _, k + 1, by go_num, by go_num, by omega, HO5, HB5⟩
          case measure => simp [intOf]; omega
        · have hkm : k = m1 := by omega
          have HO5 : Hid (OwnT w1.heap.size 38 wb a4 (s + k) c4 (brk M (1 + 1))) := Lib.hid (by rw [← HBK.out k hkm]; exact HO4.out)
          go_wp2
          go_roundw
          case rel => exact ⟨_, _, s + k, 1 + 1, rfl, by go_num, by omega, by omega, HO5, HB4⟩
          case measure => simp [intOf]
    · have hI : (i : Int) = 2 := by omega
      rw [hi0] at hs HO
      rw [hI]
      clear hi0 hI hi
      have HBK : Hid (∀ k, k = m2 → brk M 2 ++ List.replicate k tC = brk M (2 + 1)) := Lib.hid fun k hk => by rw [hk, ← HM2.out]; rfl
      go_wp2
      go_loopw [4, 7] (fun v x wr => ∃ a4, ∃ c4 k : Nat, v = .slice a4 (s + k) c4 ∧ x = .int .i64 k ∧ k ≤ m2 ∧ Hid (OwnT w1.heap.size 38 wr a4 (s + k) c4 (brk M 2 ++ List.replicate k tC)) ∧ Hid (Below w1.heap.size w1 wr)) (fun _ x _ => m2 - (intOf x).toNat)
      case atStart => exact ⟨a3, c3, 0, rfl, rfl, by omega, Lib.hid (by rw [List.replicate_zero, List.append_nil]; exact HO.out), HB⟩
      case round =>
        obtain ⟨a4, c4, k, rfl, rfl, hk, HO4, HB4⟩ := hrel
        rename World => wb
        have f2 := (HB4.out.cell HC1.out.1).trans HC1.out.2.2.2.1
        by_cases hlt : k < m2
        · go_wp2_with (at_builtin; refine Hid.out ?_)
          refine Lib.hid ?_
          refine wpList_appT rfl (.tmp 28) (.tmp 31) rfl w1.heap.size _ _ _ (brk M 2 ++ List.replicate k tC) rfl (HO4.out.alloc _) _ _ _ [tC] rfl (Ts.one _ _ tC (by simp [cellsT, tC]) rfl) (by omega) (by have := HB4.out.size; simp; omega) ?_
          intro a5 c5 w5 ho5 hg5 hb5
          have HO5 : Hid (OwnT w1.heap.size 38 w5 a5 (s + (k + 1)) c5 (brk M 2 ++ List.replicate (k + 1) tC)) := Lib.hid (by
            rw [List.replicate_succ', ← List.append_assoc, ← Nat.add_assoc]; exact ho5)
          have HB5 : Hid (Below w1.heap.size w1 w5) := Lib.hid ((HB4.out.alloc HB4.out.size _).trans hb5)
          clear ho5 hg5 hb5
          go_wp2
          go_roundw
          case rel => exact ⟨_, _, k + 1, by go_num, by go_num, by omega, HO5, HB5⟩
          case measure => simp [intOf]; omega
        · have hkm : k = m2 := by omega
          have HO5 : Hid (OwnT w1.heap.size 38 wb a4 (s + k) c4 (brk M (2 + 1))) := Lib.hid (by rw [← HBK.out k hkm]; exact HO4.out)
          go_wp2
          go_roundw
          case rel => exact ⟨_, _, s + k, 2 + 1, rfl, by go_num, by omega, by omega, HO5, HB4⟩
          case measure => simp [intOf]
    · have hI : (i : Int) = 3 := by omega
      rw [hi0] at hs HO
      rw [hI]
      clear hi0 hI hi
      have HBK : Hid (∀ k, k = m3 → brk M 3 ++ List.replicate k tO = brk M (3 + 1)) := Lib.hid fun k hk => by rw [hk, ← HM3.out]; rfl
      go_wp2
      go_loopw [4, 7] (fun v x wr => ∃ a4, ∃ c4 k : Nat, v = .slice a4 (s + k) c4 ∧ x = .int .i64 k ∧ k ≤ m3 ∧ Hid (OwnT w1.heap.size 38 wr a4 (s + k) c4 (brk M 3 ++ List.replicate k tO)) ∧ Hid (Below w1.heap.size w1 wr)) (fun _ x _ => m3 - (intOf x).toNat)
      case atStart => exact ⟨a3, c3, 0, rfl, rfl, by omega, Lib.hid (by rw [List.replicate_zero, List.append_nil]; exact HO.out), HB⟩
      case round =>
        obtain ⟨a4, c4, k, rfl, rfl, hk, HO4, HB4⟩ := hrel
        rename World => wb
        have f3 := (HB4.out.cell HC1.out.1).trans HC1.out.2.2.2.2
        by_cases hlt : k < m3
        · go_wp2_with (at_builtin; refine Hid.out ?_)
          refine Lib.hid ?_
          refine wpList_appT rfl (.tmp 28) (.tmp 31) rfl w1.heap.size _ _ _ (brk M 3 ++ List.replicate k tO) rfl (HO4.out.alloc _) _ _ _ [tO] rfl (Ts.one _ _ tO (by simp [cellsT, tO]) rfl) (by omega) (by have := HB4.out.size; simp; omega) ?_
          intro a5 c5 w5 ho5 hg5 hb5
          have HO5 : Hid (OwnT w1.heap.size 38 w5 a5 (s + (k + 1)) c5 (brk M 3 ++ List.replicate (k + 1) tO)) := Lib.hid (by
            rw [List.replicate_succ', ← List.append_assoc, ← Nat.add_assoc]; exact ho5)
          have HB5 : Hid (Below w1.heap.size w1 w5) := Lib.hid ((HB4.out.alloc HB4.out.size _).trans hb5)
          clear ho5 hg5 hb5
          go_wp2
          go_roundw
          case rel => exact ⟨_, _, k + 1, by go_num, by go_num, by omega, HO5, HB5⟩
          case measure => simp [intOf]; omega
        · have hkm : k = m3 := by omega
          have HO5 : Hid (OwnT w1.heap.size 38 wb a4 (s + k) c4 (brk M (3 + 1))) := Lib.hid (by rw [← HBK.out k hkm]; exact HO4.out)
          go_wp2
          go_roundw
          case rel => exact ⟨_, _, s + k, 3 + 1, rfl, by go_num, by omega, by omega, HO5, HB4⟩
          case measure => simp [intOf]
    · have hI : (i : Int) = 4 := by omega
      rw [hi0] at hs HO
      rw [hI]
      clear hi0 hI hi
      have HN := Lib.hid (nst_brk M)
      have HTS := Lib.hid HO.out.ts
      have hlc := HO.out.row.lc
      have hcm := HO.out.row.cm
      unfold maxLen at hcm
      have hw1 : IntKind.i64.wrap n3 = n3 := IntWalk.i64_in _ (by omega)
      have hw3 : IntKind.i64.wrap (m3 : Int) = (m3 : Int) := IntWalk.i64_in _ (by omega)
      by_cases hq0 : m2 ≤ m1
      · obtain ⟨q, hq⟩ : ∃ q : Nat, (m1 : Int) - (m2 : Int) = (q : Int) := ⟨m1 - m2, by omega⟩
        have hq1 : (0 : Int) ≤ (q : Int) := Int.natCast_nonneg _
        have hw2 : IntKind.i64.wrap ((q : Int) + (m3 : Int)) = (q : Int) + (m3 : Int) := IntWalk.i64_in _ (by omega)
        by_cases hm : m1 < q + m3
        · have hm' : (m1 : Int) < (q : Int) + (m3 : Int) := by omega
          have HR : Hid (nst 0 0 (brk M 4) = q + m3) := Lib.hid (by rw [HN.out, HM1.out, HM2.out, HM3.out]; omega)
          go_wp2
          have hS : wa.cell? ⟨w.heap.size, 3, none⟩ = some (.int .u8 n3) := e3
          go_region_held3 (fun w' => w'.cell? ⟨w.heap.size, 3, none⟩ = some (.int .u8 n3))
            (first
              | go_keep
              | exact (HB5.out.cell HC1.out.1).trans HC1.out.2.2.2.2)
            (first
              | (go_at_call 16; (with_reducible refine (nest_any 0 0 0 a3 s c3 (brk M 4) _ (HTS.out.below ?_) ?_).mono ?_); (exact (Below.refl _ _).drew); (omega); (rw [HR.out]); (rintro e w5 ⟨rfl, hb5⟩); (have HB5 : Hid (Below w1.heap.size w1 w5) := Lib.hid (HB.out.drew.trans (hb5.mono HB.out.size))); clear hb5))
          all_goals
            go_wp2
            go_ret
            exact ⟨ret_bool (by simp <;> omega), HW1.out.trans (HB5.out.mono HW1.out.size)⟩
        · have hm' : ¬ (m1 : Int) < (q : Int) + (m3 : Int) := by omega
          have HR : Hid (nst 0 0 (brk M 4) = m1) := Lib.hid (by rw [HN.out, HM1.out, HM2.out, HM3.out]; omega)
          go_wp2
          have hS : wa.cell? ⟨w.heap.size, 3, none⟩ = some (.int .u8 n3) := e3
          go_region_held3 (fun w' => w'.cell? ⟨w.heap.size, 3, none⟩ = some (.int .u8 n3))
            (first
              | go_keep
              | exact (HB5.out.cell HC1.out.1).trans HC1.out.2.2.2.2)
            (first
              | (go_at_call 16; (with_reducible refine (nest_any 0 0 0 a3 s c3 (brk M 4) _ (HTS.out.below ?_) ?_).mono ?_); (exact (Below.refl _ _).drew); (omega); (rw [HR.out]); (rintro e w5 ⟨rfl, hb5⟩); (have HB5 : Hid (Below w1.heap.size w1 w5) := Lib.hid (HB.out.drew.trans (hb5.mono HB.out.size))); clear hb5))
          all_goals
            go_wp2
            go_ret
            exact ⟨ret_bool (by simp <;> omega), HW1.out.trans (HB5.out.mono HW1.out.size)⟩
      · have hq1 : (m1 : Int) - (m2 : Int) < 0 := by omega
        have hq2 : max ((m1 : Int) - (m2 : Int)) 0 = 0 := by omega
        by_cases hm : m1 < m3
        · have hm' : (m1 : Int) < (m3 : Int) := by omega
          have HR : Hid (nst 0 0 (brk M 4) = m3) := Lib.hid (by rw [HN.out, HM1.out, HM2.out, HM3.out]; omega)
          go_wp2
          have hS : wa.cell? ⟨w.heap.size, 3, none⟩ = some (.int .u8 n3) := e3
          go_region_held3 (fun w' => w'.cell? ⟨w.heap.size, 3, none⟩ = some (.int .u8 n3))
            (first
              | go_keep
              | exact (HB5.out.cell HC1.out.1).trans HC1.out.2.2.2.2)
            (first
              | (go_at_call 16; (with_reducible refine (nest_any 0 0 0 a3 s c3 (brk M 4) _ (HTS.out.below ?_) ?_).mono ?_); (exact (Below.refl _ _).drew); (omega); (rw [HR.out]); (rintro e w5 ⟨rfl, hb5⟩); (have HB5 : Hid (Below w1.heap.size w1 w5) := Lib.hid (HB.out.drew.trans (hb5.mono HB.out.size))); clear hb5))
          all_goals
            go_wp2
            go_ret
            exact ⟨ret_bool (by simp <;> omega), HW1.out.trans (HB5.out.mono HW1.out.size)⟩
        · have hm' : ¬ (m1 : Int) < (m3 : Int) := by omega
          have HR : Hid (nst 0 0 (brk M 4) = m1) := Lib.hid (by rw [HN.out, HM1.out, HM2.out, HM3.out]; omega)
          go_wp2
          have hS : wa.cell? ⟨w.heap.size, 3, none⟩ = some (.int .u8 n3) := e3
          go_region_held3 (fun w' => w'.cell? ⟨w.heap.size, 3, none⟩ = some (.int .u8 n3))
            (first
              | go_keep
              | exact (HB5.out.cell HC1.out.1).trans HC1.out.2.2.2.2)
            (first
              | (go_at_call 16; (with_reducible refine (nest_any 0 0 0 a3 s c3 (brk M 4) _ (HTS.out.below ?_) ?_).mono ?_); (exact (Below.refl _ _).drew); (omega); (rw [HR.out]); (rintro e w5 ⟨rfl, hb5⟩); (have HB5 : Hid (Below w1.heap.size w1 w5) := Lib.hid (HB.out.drew.trans (hb5.mono HB.out.size))); clear hb5))
          all_goals
            go_wp2
            go_ret
            exact ⟨ret_bool (by simp <;> omega), HW1.out.trans (HB5.out.mono HW1.out.size)⟩


end Go.Proofs.YtimhcghjlknibaaDoor
