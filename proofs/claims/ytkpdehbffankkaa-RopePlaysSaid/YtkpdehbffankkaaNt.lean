/- RopeBounds' walk. -/
import Derived.Test.YtkpdehbffankkaaNs
namespace Go.Proofs.Ytkpdehbffankkaa
open Go.RowKit

theorem make_zeros (w : World) (q : Nat) (hq : q ≤ 4000000) : ∃ W, (Instr.makeSlice 22 (.int .i64 q) (.int .i64 q)).run Try.prog w = .ok (.slice (some ⟨w.heap.size, 0, none⟩) q q) W ∧ OwnB w.heap.size 5 W (some ⟨w.heap.size, 0, none⟩) q q (List.replicate q 0) ∧ Below w.heap.size w W := by
  obtain ⟨i, hi, hz, hs, hby⟩ := info_parts info5
  have := run_make (P := Try.prog) w 22 5 i (.int .u8 0) Try.underlying22 hi hz .i64 .i64 q q (by omega) (by omega) (by rw [hby]; omega) (by omega)
  rw [hs] at this
  simp only [Int.toNat_natCast, Nat.mul_one] at this
  exact ⟨_, this, OwnB.zeros w 5 q (Nat.le_refl _) (by omega), (Below.refl _ _).alloc (Nat.le_refl _) _⟩

set_option maxRecDepth 100000 in
set_option maxHeartbeats 2000000 in
theorem bounds_any (x y z : Nat) (hx : x ≤ 65535) (hy : y ≤ 65535) (hz : z ≤ 65535) (w : World) :
    Calls Try.prog 4 #[.int .u16 x, .int .u16 y, .int .u16 z] w fun e w' => e = .returned (.bool true) ∧ Below w.heap.size w w' := by
  obtain ⟨k, hk⟩ : ∃ k, k = x % 2300 := ⟨_, rfl⟩
  have hk2 : k < 2300 := by omega
  obtain ⟨d, hd⟩ : ∃ d, d = z % (k + 1) := ⟨_, rfl⟩
  have hd2 : d ≤ k := by have := Nat.mod_lt z (show 0 < k + 1 by omega); omega
  obtain ⟨p, hp⟩ : ∃ p, p = y % 2300 := ⟨_, rfl⟩
  have hp2 : p < 2300 := by omega
  have e1 : (x : Int) % 2300 = (k : Int) := by omega
  have e2 : (y : Int) % 2300 = (p : Int) := by omega
  have e3 : (z : Int) % ((k : Int) + 1) = (d : Int) := by rw [hd]; simp
  have t1 : Int.tmod (x : Int) 2300 = (k : Int) := by rw [Int.tmod_eq_emod_of_nonneg (by omega)]; exact e1
  have t2 : Int.tmod (y : Int) 2300 = (p : Int) := by rw [Int.tmod_eq_emod_of_nonneg (by omega)]; exact e2
  have t3 : Int.tmod (z : Int) ((k : Int) + 1) = (d : Int) := by rw [Int.tmod_eq_emod_of_nonneg (by omega)]; exact e3
  have x1 := wrap_nat x (by omega)
  have x2 := wrap_nat y (by omega)
  have x3 := wrap_nat z (by omega)
  clear hk hd hp
  go_enter Try.func4, Try.ntmps4
  go_wp2_with fail
  refine (shown_any w).mono ?_
  rintro e w1 ⟨rfl, hb1⟩
  have HB1 := Lib.hid hb1
  clear hb1
  obtain ⟨W2, km, ho, hb2⟩ := make_zeros w1 k (by omega)
  have HO := Lib.hid ho
  have HB2 := Lib.hid (HB1.out.trans (hb2.mono HB1.out.size))
  clear ho hb2
  go_wp2_with fail
  by_cases hbig : 2048 < k
  · have hd0 : decide ((k : Int) > 2048) = true := by simp; omega
    refine (new_big _ k _ W2 hbig (by omega)).mono ?_
    rintro e w' ⟨rfl, rfl⟩
    go_wp2
    go_ret
    exact ⟨rfl, HB2.out⟩
  · have hd0 : decide ((k : Int) > 2048) = false := by simp; omega
    refine (new_any _ k _ _ W2 HO.out.bs (by omega)).mono ?_
    rintro e w3 ⟨g, t, rfl, h1, h2, h3, h4⟩
    have HB3 := Lib.hid (HB2.out.trans (h4.mono HB2.out.size))
    have hl3 : t.l.length = k := by rw [h2, List.length_replicate]
    have HL3 := Lib.hid hl3
    have HR3 := Lib.hid h1
    clear h1 h2 h3 h4 km hl3
    have a1 := wrap_nat (k + 1) (by omega)
    rw [Int.natCast_add, show ((1 : Nat) : Int) = 1 from rfl] at a1
    have a2 : IntKind.i64.wrap ((k : Int) - (d : Int)) = ((k - d : Nat) : Int) := by rw [IntKind.wrap_i64]; omega
    have z0 : ¬ ((k : Int) + 1 = 0) := by omega
    obtain ⟨q, hq⟩ : ∃ q, q = k - d := ⟨_, rfl⟩
    rw [← hq] at a2
    have hq1 : q + d ≤ k := by omega
    have hq2 : k ≤ q + d := by omega
    clear hq
    have a3 : IntKind.i64.wrap ((q : Int) + (p : Int)) = (q : Int) + (p : Int) := by rw [IntKind.wrap_i64]; omega
    obtain ⟨W4, km, ho, hb4⟩ := make_zeros w3 p (by omega)
    have HO4 := Lib.hid ho
    have HB4 := Lib.hid (HB3.out.trans (hb4.mono HB3.out.size))
    have HR4 := Lib.hid (HR3.out.below hb4)
    clear ho hb4
    go_wp2_with fail
    by_cases hov : 2048 < q + p
    · have hd1 : decide ((q : Int) + (p : Int) > 2048) = true := by simp; omega
      have hd1' : decide (2048 < (q : Int) + (p : Int)) = true := by simp; omega
      refine (rep_big q d _ p _ HR4.out (by rw [HL3.out]; omega) (by omega) (by rw [HL3.out]; omega)).mono ?_
      rintro e w' ⟨rfl, rfl⟩
      have KL := len_any HR4.out
      rw [HL3.out] at KL
      have HKL := Lib.hid KL
      clear KL
      go_wp2_with (first | (go_at_call 20; refine HKL.out.mono ?_; rintro r w' ⟨rfl, rfl⟩))
      go_ret
      exact ⟨rfl, HB4.out⟩
    · have hd1 : decide ((q : Int) + (p : Int) > 2048) = false := by simp; omega
      have hd1' : decide (2048 < (q : Int) + (p : Int)) = false := by simp; omega
      refine (rep_any q d _ p _ _ HR4.out HO4.out.bs (by rw [HL3.out]; omega) (by rw [HL3.out]; omega)).mono ?_
      rintro e w5 ⟨g5, t5, e5, rfl, h1, h2, h3, h4⟩
      have HB5 := Lib.hid (HB4.out.trans (h4.mono HB4.out.size))
      have HL5 : Hid (t5.l.length = q + p) := Lib.hid (by
        rw [h2, List.length_append, List.length_append, List.length_take, List.length_drop, List.length_replicate, HL3.out]
        omega)
      have HR5 := Lib.hid h1
      have HR3 := Lib.hid (HR4.out.below h4)
      have KL3 := len_any HR3.out
      have KL5 := len_any HR5.out
      rw [HL3.out] at KL3
      rw [HL5.out] at KL5
      rw [Int.natCast_add] at KL5
      have HK3 := Lib.hid KL3
      have HK5 := Lib.hid KL5
      clear h1 h2 h3 h4 KL3 KL5 km
      have b1 : IntKind.i64.wrap ((q : Int) + (p : Int) + 1) = (q : Int) + (p : Int) + 1 := by rw [IntKind.wrap_i64]; omega
      have HE1 := Lib.hid (rep_range 0 ((q : Int) + (p : Int) + 1) none 0 0 HR5.out (by rw [HL5.out]; omega))
      have HE2 := Lib.hid (rep_range ((q : Int) + (p : Int) + 1) 0 none 0 0 HR5.out (by rw [HL5.out]; omega))
      have HE3 := Lib.hid (rep_range (-1) 0 none 0 0 HR5.out (by omega))
      have HE4 := Lib.hid (rep_range 0 (-1) none 0 0 HR5.out (by omega))
      go_wp2_with (first | (go_at_call 20; (with_reducible refine HK5.out.mono ?_); rintro r w' ⟨rfl, rfl⟩))
      (with_reducible refine HE1.out.mono ?_)
      rintro r w' ⟨rfl, rfl⟩
      go_wp2_with (first | (go_at_call 20; (with_reducible refine HK5.out.mono ?_); rintro r w' ⟨rfl, rfl⟩))
      (with_reducible refine HE2.out.mono ?_)
      rintro r w' ⟨rfl, rfl⟩
      go_wp2_with fail
      (with_reducible refine HE3.out.mono ?_)
      rintro r w' ⟨rfl, rfl⟩
      go_wp2_with fail
      (with_reducible refine HE4.out.mono ?_)
      rintro r w' ⟨rfl, rfl⟩
      go_wp2_with (first | (go_at_call 20; (with_reducible refine HK5.out.mono ?_); rintro r w' ⟨rfl, rfl⟩) | (go_at_call 20; (with_reducible refine HK3.out.mono ?_); rintro r w' ⟨rfl, rfl⟩))
      go_ret
      exact ⟨ret_bool (by simp <;> omega), HB5.out⟩

end Go.Proofs.Ytkpdehbffankkaa
