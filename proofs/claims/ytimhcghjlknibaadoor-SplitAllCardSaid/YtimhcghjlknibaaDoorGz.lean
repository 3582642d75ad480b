/- The law SplitAll. -/
import Derived.Test.YtimhcghjlknibaaDoorGr
import Derived.Test.YtimhcghjlknibaaDoorGp
import Derived.Test.YtimhcghjlknibaaDoorGd
import Derived.Test.YtimhcghjlknibaaDoorGq
import Derived.Test.YtimhcghjlknibaaDoorGw
namespace Go.Proofs.YtimhcghjlknibaaDoor
open Go.RowKit

theorem vs_enc' {w : World} {b o n c p : Nat} {M : List Nm} (h : Vs 1 w (some ⟨b, o, none⟩) n c (M.map encStr)) (hp : p < n) {S : ByteArray} (hS : S.toList = at_ M p) : w.cell? ⟨b, o + p, none⟩ = some (.string S) := by
  have hl := h.hl
  rw [List.length_map, Nat.mul_one] at hl
  have := h.cells (by omega) (j := p) (by omega)
  rw [List.getElem?_map] at this
  rw [this, ← enc_str S, hS]
  unfold at_
  rw [List.getD_eq_getElem?_getD, List.getElem?_eq_getElem (by omega)]
  rfl

/-- The four cells of the piece that came in. -/
def Box (w : World) (p : Nat) (f t i : Int) (v : Value) : Prop :=
  w.cell? ⟨p, 0, none⟩ = some (.int .i64 f) ∧ w.cell? ⟨p, 1, none⟩ = some (.int .i64 t) ∧ w.cell? ⟨p, 2, none⟩ = some (.int .i64 i) ∧ w.cell? ⟨p, 3, none⟩ = some v
theorem Box.keep {w w' : World} {p B : Nat} {f t i : Int} {v : Value} (h : Box w p f t i v) (hb : Below B w w') (hp : p < B) : Box w' p f t i v :=
  ⟨(hb.cell hp).trans h.1, (hb.cell hp).trans h.2.1, (hb.cell hp).trans h.2.2.1, (hb.cell hp).trans h.2.2.2⟩

set_option maxRecDepth 100000 in
set_option maxHeartbeats 16000000 in
theorem splitAll_any (a : Option Addr) (len cap : Nat) (l : List Int) (f0 t0 i0 : Int) (a1 : Option Addr) (len1 cap1 : Nat) (L : List TK) (w : World) (h : Bs w a len cap l) (h1 : Ts w a1 len1 cap1 L) (ht : Tab w) :
    Calls Tryd.prog 3 #[.slice a len cap, .agg #[.int .i64 f0, .int .i64 t0, .int .i64 i0, .slice a1 len1 cap1]] w fun e w' => e = .returned (.bool true) ∧ Below w.heap.size w w' := by
  obtain ⟨M, hM⟩ : ∃ M, M = min len 200 := ⟨_, rfl⟩
  obtain ⟨F, hF⟩ : ∃ F, F = l.take 200 := ⟨_, rfl⟩
  have hf := bs_few h 200
  rw [← hM, ← hF] at hf
  have HF := Lib.hid hf
  have HM := Lib.hid hM
  have hM200 : M ≤ 200 := by omega
  have hlc := h.lc
  obtain ⟨n, hn⟩ : ∃ n, n = min len1 40 := ⟨_, rfl⟩
  obtain ⟨T, hT⟩ : ∃ T, T = L.take 40 := ⟨_, rfl⟩
  have hf1 := ts_few h1 40
  rw [← hn, ← hT] at hf1
  have HF1 := Lib.hid hf1
  have HN := Lib.hid hn
  have hn40 : n ≤ 40 := by omega
  have hlc1 := h1.lc
  have HTl : Hid (T.length = n) := Lib.hid hf1.hl
  have HT := Lib.hid ht
  have HA : Hid (Below w.heap.size w (w.alloc (.cells #[.int .i64 f0, .int .i64 t0, .int .i64 i0, .slice a1 len1 cap1] 25))) := Lib.hid ((Below.refl _ _).alloc (Nat.le_refl _) _)
  clear h h1 ht hM hF hf hn hT hf1
  go_enter Tryd.func3, Tryd.ntmps3
  go_wp2_with fail
  refine (shown_any _ (HT.out.keep HA.out)).mono ?_
  rintro e w1 ⟨rfl, hb1⟩
  have HW1 : Hid (Below w.heap.size w w1) := Lib.hid (HA.out.trans (hb1.mono (by simp)))
  have HX1 : Hid (Box w1 w.heap.size f0 t0 i0 (.slice a1 len1 cap1)) := Lib.hid ⟨(hb1.cell (by simp)).trans (by simp), (hb1.cell (by simp)).trans (by simp), (hb1.cell (by simp)).trans (by simp), (hb1.cell (by simp)).trans (by simp)⟩
  have HZ1 : Hid (w.heap.size < w1.heap.size) := Lib.hid (by have := hb1.size; simp at this; omega)
  clear hb1
  obtain ⟨k0, k1, k2, k3⟩ := HX1.out
  go_wp2_with fail
  refine (short_any f0 t0 i0 a1 len1 cap1 n _ HN.out hlc1).mono ?_
  rintro e w2 ⟨rfl, hb2⟩
  have HW2 : Hid (Below w.heap.size w w2) := Lib.hid (HW1.out.trans (hb2.mono HW1.out.size))
  have HX2 := Lib.hid (HX1.out.keep hb2 HZ1.out)
  have HZ2 : Hid (w.heap.size < w2.heap.size) := Lib.hid (Nat.lt_of_lt_of_le HZ1.out hb2.size)
  clear hb2 k0 k1 k2 k3
  go_wp2_with fail
  refine (names_any f0 t0 i0 a1 n cap1 T _ (HF1.out.below HW2.out) (by omega)).mono ?_
  obtain ⟨R, hR⟩ : ∃ R, R = nmR (nms T) := ⟨_, rfl⟩
  obtain ⟨r, hr⟩ : ∃ r, r = R.length := ⟨_, rfl⟩
  rw [← hR, ← hr]
  have HR := Lib.hid hR
  have HRl := Lib.hid hr
  have hr40 : r ≤ 40 := by
    have h1 := nmR_len (nms T)
    have h2 := nms_len T
    rw [← hR, ← hr] at h1
    have h3 := HTl.out
    omega
  clear hR hr
  rintro e w3 ⟨a6, c6, rfl, hv3, hb3⟩
  have HW3 : Hid (Below w.heap.size w w3) := Lib.hid (HW2.out.trans (hb3.mono HW2.out.size))
  have HX3 := Lib.hid (HX2.out.keep hb3 HZ2.out)
  have HZ3 : Hid (w.heap.size < w3.heap.size) := Lib.hid (Nat.lt_of_lt_of_le HZ2.out hb3.size)
  have HV3 := Lib.hid hv3
  clear hb3 hv3
  obtain ⟨k0, k1, k2, k3⟩ := HX3.out
  go_wp2_with fail
  refine (short_any f0 t0 i0 a1 len1 cap1 n _ HN.out hlc1).mono ?_
  rintro e w4 ⟨rfl, hb4⟩
  have HW4 : Hid (Below w.heap.size w w4) := Lib.hid (HW3.out.trans (hb4.mono HW3.out.size))
  have HX4 := Lib.hid (HX3.out.keep hb4 HZ3.out)
  have HZ4 : Hid (w.heap.size < w4.heap.size) := Lib.hid (Nat.lt_of_lt_of_le HZ3.out hb4.size)
  have HV4 := Lib.hid (HV3.out.below hb4)
  clear hb4 k0 k1 k2 k3
  go_wp2_with fail
  refine (rnames_any f0 t0 i0 a1 n cap1 T _ (HF1.out.below HW4.out) (by omega)).mono ?_
  rw [← HR.out, ← HRl.out]
  rintro e w5 ⟨a7, c7, rfl, hv5, hb5⟩
  have HW5 : Hid (Below w.heap.size w w5) := Lib.hid (HW4.out.trans (hb5.mono HW4.out.size))
  have HX5 := Lib.hid (HX4.out.keep hb5 HZ4.out)
  have HZ5 : Hid (w.heap.size < w5.heap.size) := Lib.hid (Nat.lt_of_lt_of_le HZ4.out hb5.size)
  have HV6 := Lib.hid (HV4.out.below hb5)
  have HV7 := Lib.hid hv5
  have hlc6 := HV6.out.lc
  have hcm6 := HV6.out.cm
  have hlc7 := HV7.out.lc
  have hcm7 := HV7.out.cm
  unfold maxLen at hcm6 hcm7
  clear hb5 hv5
  go_wp2
  go_loopw [8] (fun v wr => ∃ i : Nat, v = .int .i64 i ∧ i ≤ r ∧ Hid (Below w5.heap.size w5 wr)) (fun v _ => r - (intOf v).toNat)
  case atStart => exact ⟨0, rfl, by omega, Lib.hid (Below.refl _ _)⟩
  case round =>
    obtain ⟨i, rfl, hi, HB⟩ := hrel
    rename World => wa
    have hi0 : (0 : Int) ≤ (i : Int) := Int.natCast_nonneg _
    by_cases hlt : i < r
    · have hi1 : (i : Int) < (r : Int) := by omega
      have h6 := HV6.out.below HB.out
      have h7 := HV7.out.below HB.out
      obtain ⟨b6, o6, rfl, _, hx6⟩ := h6.at_ (by omega)
      obtain ⟨b7, o7, rfl, _, hx7⟩ := h7.at_ (by omega)
      clear hx6 hx7
      obtain ⟨S, hS⟩ := str_at R i
      have v6 := vs_enc' h6 hlt hS
      have v7 := vs_enc' h7 hlt hS
      clear h6 h7 hS
      go_wp2
      go_quiet (fail)
      go_wp2
      go_roundw
      case rel => exact ⟨i + 1, by go_num, by omega, Lib.hid (below_drewN HB.out _)⟩
      case measure => simp [intOf]; omega
    · have HBn : Hid (Below w.heap.size w wa) := Lib.hid (HW5.out.trans (HB.out.mono HW5.out.size))
      have HX := Lib.hid (HX5.out.keep HB.out HZ5.out)
      have HZ : Hid (w.heap.size < wa.heap.size) := Lib.hid (Nat.lt_of_lt_of_le HZ5.out HB.out.size)
      go_wp2
      have hS : wa.cell? ⟨w.heap.size, 0, none⟩ = some (.int .i64 f0) ∧ wa.cell? ⟨w.heap.size, 1, none⟩ = some (.int .i64 t0) ∧ wa.cell? ⟨w.heap.size, 2, none⟩ = some (.int .i64 i0) ∧ wa.cell? ⟨w.heap.size, 3, none⟩ = some (.slice a1 len1 cap1) := HX.out
      go_region_held3 (fun w' => w'.cell? ⟨w.heap.size, 0, none⟩ = some (.int .i64 f0) ∧ w'.cell? ⟨w.heap.size, 1, none⟩ = some (.int .i64 t0) ∧ w'.cell? ⟨w.heap.size, 2, none⟩ = some (.int .i64 i0) ∧ w'.cell? ⟨w.heap.size, 3, none⟩ = some (.slice a1 len1 cap1))
        (first
          | go_keep
          | exact HX12.out
          | exact HX11.out
          | exact HX10.out
          | exact HX9.out
          | exact HX8.out
          | exact HX7.out
          | exact HX6.out)
        (first
          | (go_at_call 14; (refine (few_any _ _ _ _ _ HM.out hlc).mono ?_); (rintro e w' ⟨rfl, rfl⟩))
          | (go_at_call 13; (with_reducible refine (pieces_any a M cap F _ (HF.out.below ?_) (HT.out.keep ?_) ?_).mono ?_); (exact HBn.out.drew); (exact HBn.out.drew); (omega); (rintro e w6 ⟨a8, n8, c8, V, rfl, hp6, hm6, hb6⟩); (have HB6 : Hid (Below w.heap.size w w6) := Lib.hid (HBn.out.drew.trans (hb6.mono HBn.out.size))); (have HX6 := Lib.hid (HX.out.keep ((Below.refl _ _).drew.trans hb6) HZ.out)); (have HZ6 : Hid (w.heap.size < w6.heap.size) := Lib.hid (Nat.lt_of_lt_of_le HZ.out hb6.size)); (have HP6 := Lib.hid hp6); (have HM6 := Lib.hid hm6); clear hp6 hm6 hb6)
          | (go_at_call 15; (with_reducible refine (rpieces_any a M cap F _ (HF.out.below ?_) ?_).mono ?_); (exact HB6.out); (omega); (rintro e w7 ⟨a9, n9, c9, V', rfl, hp7, hm7, hb7⟩); (have HB7 : Hid (Below w.heap.size w w7) := Lib.hid (HB6.out.trans (hb7.mono HB6.out.size))); (have HX7 := Lib.hid (HX6.out.keep hb7 HZ6.out)); (have HZ7 : Hid (w.heap.size < w7.heap.size) := Lib.hid (Nat.lt_of_lt_of_le HZ6.out hb7.size)); (have HP67 := Lib.hid (HP6.out.below hb7)); (have HP7 := Lib.hid hp7); (have HM7 : Hid (V.map PV.k = V'.map PV.k) := Lib.hid (HM6.out.trans hm7.symm)); (obtain rfl : n9 = n8 := by rw [← HP7.out.hl, ← HP67.out.hl]; simpa using (congrArg List.length HM7.out).symm); clear hp7 hm7 hb7)
          | (go_at_call 12; (with_reducible refine (rsame_any _ _ _ V _ _ V' _ HP67.out HP7.out HM7.out).mono ?_); (rintro e w8 ⟨rfl, hb8⟩); (have HB8 : Hid (Below w.heap.size w w8) := Lib.hid (HB7.out.trans (hb8.mono HB7.out.size))); (have HX8 := Lib.hid (HX7.out.keep hb8 HZ7.out)); (have HZ8 : Hid (w.heap.size < w8.heap.size) := Lib.hid (Nat.lt_of_lt_of_le HZ7.out hb8.size)); clear hb8)
          | (go_at_call 16; (with_reducible refine (nest_any f0 t0 i0 a1 n cap1 T _ (HF1.out.below HB9.out) ?_).mono ?_); (omega); (rintro e w10 ⟨rfl, hb10⟩); (have HB10 : Hid (Below w.heap.size w w10) := Lib.hid (HB9.out.trans (hb10.mono HB9.out.size))); (have HX10 := Lib.hid (HX9.out.keep hb10 HZ9.out)); (have HZ10 : Hid (w.heap.size < w10.heap.size) := Lib.hid (Nat.lt_of_lt_of_le HZ9.out hb10.size)); clear hb10)
          | (go_at_call 17; (with_reducible refine (rnest_any f0 t0 i0 a1 n cap1 T _ (HF1.out.below HB11.out) ?_).mono ?_); (omega); (rintro e w12 ⟨rfl, hb12⟩); (have HB12 : Hid (Below w.heap.size w w12) := Lib.hid (HB11.out.trans (hb12.mono HB11.out.size))); (have HX12 := Lib.hid (HX11.out.keep hb12 HZ11.out)); clear hb12)
          | (go_at_call 10; (refine (short_any f0 t0 i0 a1 len1 cap1 n _ HN.out hlc1).mono ?_); (rintro e w11 ⟨rfl, hb11⟩); (have HB11 : Hid (Below w.heap.size w w11) := Lib.hid (HB10.out.trans (hb11.mono HB10.out.size))); (have HX11 := Lib.hid (HX10.out.keep hb11 HZ10.out)); (have HZ11 : Hid (w.heap.size < w11.heap.size) := Lib.hid (Nat.lt_of_lt_of_le HZ10.out hb11.size)); clear hb11)
          | (go_at_call 10; (refine (short_any f0 t0 i0 a1 len1 cap1 n _ HN.out hlc1).mono ?_); (rintro e w9 ⟨rfl, hb9⟩); (have HB9 : Hid (Below w.heap.size w w9) := Lib.hid (HB8.out.trans (hb9.mono HB8.out.size))); (have HX9 := Lib.hid (HX8.out.keep hb9 HZ8.out)); (have HZ9 : Hid (w.heap.size < w9.heap.size) := Lib.hid (Nat.lt_of_lt_of_le HZ8.out hb9.size)); clear hb9))
      all_goals
        go_wp2
        go_ret
        exact ⟨ret_bool (by simp), HB12.out⟩

end Go.Proofs.YtimhcghjlknibaaDoor
