/- TokenDots' walk. -/
import Derived.Test.YtglgdpcfjbahdaaDoorTi
namespace Go.Proofs.YtglgdpcfjbahdaaDoor
open Go.RowKit

def ends5 (c : Int) : Bool := decide (c = 32) || (decide (c = 9) || (decide (c = 10) || (decide (c = 13) || decide (c = 37))))
theorem dots1 : ∀ n : Nat, n < 256 → (nx [46, (n : Int)] 0).map (fun p => p.2.k) = some (if ends5 n then 7 else 2) := by decide +kernel
theorem dots2 : ∀ n : Nat, n < 256 → (nx [46, 46, (n : Int)] 0).map (fun p => p.2.k) = some 2 := by decide +kernel
theorem dots3 : ∀ n : Nat, n < 256 → (nx [(n : Int), 46] 1).map (fun p => p.2.k) = some 7 := by decide +kernel
theorem dots0 : (nx [46] 0).map (fun p => p.2.k) = some 7 := by decide +kernel

theorem nxV_known {x : Option (Nat × TR)} {k : Int} (h : x.map (fun p => p.2.k) = some k) : ∃ f t e s, nxV x = .tuple #[.agg #[.int .i64 k, .int .i64 f, .int .i64 t, .string s, .int .i64 e], .bool true] := by
  cases x with
  | none => cases h
  | some p =>
    simp only [Option.map_some, Option.some.injEq] at h
    subst h
    exact ⟨_, _, _, _, rfl⟩

set_option maxRecDepth 100000 in
set_option maxHeartbeats 2000000 in
theorem tokenDots_any (c d : Int) (w : World) (ht : Tab w) (hc : 0 ≤ c ∧ c ≤ 255) (hd : 0 ≤ d ∧ d ≤ 255) :
    Calls Tryd.prog 8 #[.int .u8 c, .int .u8 d] w fun e w' => e = .returned (.bool true) ∧ Below w.heap.size w w' := by
  have HT := Lib.hid ht
  obtain ⟨C, rfl⟩ := Int.eq_ofNat_of_zero_le hc.1
  obtain ⟨D, rfl⟩ := Int.eq_ofNat_of_zero_le hd.1
  obtain ⟨K, hK⟩ : ∃ K : Int, K = if ends5 C then 7 else 2 := ⟨_, rfl⟩
  have d1 := dots1 C (by omega)
  rw [← hK] at d1
  obtain ⟨f1, t1, e1, s1, hv1⟩ := nxV_known d1
  obtain ⟨f2, t2, e2, s2, hv2⟩ := nxV_known dots0
  obtain ⟨f3, t3, e3, s3, hv3⟩ := nxV_known (dots2 C (by omega))
  obtain ⟨f4, t4, e4, s4, hv4⟩ := nxV_known (dots3 D (by omega))
  obtain ⟨c, hcc⟩ : ∃ c : Int, c = (C : Int) := ⟨_, rfl⟩
  obtain ⟨d, hdd⟩ : ∃ d : Int, d = (D : Int) := ⟨_, rfl⟩
  have hE : K = if ends5 c then 7 else 2 := by rw [hcc]; exact hK
  rw [← hcc] at hv1 hv3 hc
  rw [← hdd] at hv4 hd
  rw [← hcc, ← hdd]
  have HV1 := Lib.hid hv1
  have HV2 := Lib.hid hv2
  have HV3 := Lib.hid hv3
  have HV4 := Lib.hid hv4
  have HE := Lib.hid hE
  obtain ⟨hc0, hc1⟩ := hc
  obtain ⟨hd0, hd1⟩ := hd
  clear ht hK d1 hv1 hv2 hv3 hv4 hcc hdd hE
  go_enter Tryd.func8, Tryd.ntmps8
  go_wp2_with fail
  refine (shown_any _ HT.out).mono ?_
  rintro e w1 ⟨rfl, hb1⟩
  have HW1 := Lib.hid hb1
  clear hb1
  go_wp2_with fail
  refine (next_any _ _ _ [46, c] 0 _ (Bs.lit w1 5 (by simp) (by simp; omega) rfl rfl (Nat.le_of_ble_eq_true rfl)) (HT.out.keep (HW1.out.alloc HW1.out.size _)) (Nat.le_of_ble_eq_true rfl) (Nat.le_of_ble_eq_true rfl)).mono ?_
  rw [HV1.out]
  rintro e w2 ⟨rfl, hb2⟩
  have hc2 := past_alloc hb2
  have HW2 : Hid (Below w.heap.size w w2) := Lib.hid (HW1.out.trans (hc2.mono HW1.out.size))
  clear hb2 hc2
  have kc := Joins.run_convert_bytes_const_at (P := Tryd.prog) (w2.alloc (.cells #[.int .i64 K, .int .i64 f1, .int .i64 t1, .string s1, .int .i64 e1] 27)) 22 5 #[.int .u8 46] 1 1 (w2.heap.size + 1) (by simp) Tryd.underlying22 Tryd.underlying5
  go_wp2_with fail
  refine (next_any _ _ _ [46] 0 _ (Bs.lit (w2.alloc (.cells #[.int .i64 K, .int .i64 f1, .int .i64 t1, .string s1, .int .i64 e1] 27)) 5 (by simp) (by simp) (by simp) rfl (Nat.le_of_ble_eq_true rfl)) (HT.out.keep ((HW2.out.alloc HW2.out.size _).alloc (HW2.out.alloc HW2.out.size _).size _)) (Nat.le_of_ble_eq_true rfl) (Nat.le_of_ble_eq_true rfl)).mono ?_
  rw [HV2.out]
  rintro e w3 ⟨rfl, hb3⟩
  have hc3 := past_alloc (past_alloc hb3)
  have HW3 : Hid (Below w.heap.size w w3) := Lib.hid (HW2.out.trans (hc3.mono HW2.out.size))
  have HA3 : Hid (TV w2.heap.size #[.int .i64 K, .int .i64 f1, .int .i64 t1, .string s1, .int .i64 e1] w3) := Lib.hid ((tv_new w2 _ 27).keep (past_alloc hb3))
  clear hb3 hc3 kc
  go_wp2_with fail
  refine (next_any _ _ _ [46, 46, c] 0 _ (Bs.lit (w3.alloc (.cells #[.int .i64 7, .int .i64 f2, .int .i64 t2, .string s2, .int .i64 e2] 27)) 5 (by simp) (by simp; omega) (by simp) rfl (Nat.le_of_ble_eq_true rfl)) (HT.out.keep ((HW3.out.alloc HW3.out.size _).alloc (HW3.out.alloc HW3.out.size _).size _)) (Nat.le_of_ble_eq_true rfl) (Nat.le_of_ble_eq_true rfl)).mono ?_
  rw [HV3.out]
  rintro e w4 ⟨rfl, hb4⟩
  have hc4 := past_alloc (past_alloc hb4)
  have HW4 : Hid (Below w.heap.size w w4) := Lib.hid (HW3.out.trans (hc4.mono HW3.out.size))
  have HA4 := Lib.hid (HA3.out.keep hc4)
  have HB4 : Hid (TV w3.heap.size #[.int .i64 7, .int .i64 f2, .int .i64 t2, .string s2, .int .i64 e2] w4) := Lib.hid ((tv_new w3 _ 27).keep (past_alloc hb4))
  clear hb4 hc4
  go_wp2_with fail
  refine (next_any _ _ _ [d, 46] 1 _ (Bs.lit (w4.alloc (.cells #[.int .i64 2, .int .i64 f3, .int .i64 t3, .string s3, .int .i64 e3] 27)) 5 (by simp) (by simp; omega) (by simp) rfl (Nat.le_of_ble_eq_true rfl)) (HT.out.keep ((HW4.out.alloc HW4.out.size _).alloc (HW4.out.alloc HW4.out.size _).size _)) (Nat.le_of_ble_eq_true rfl) (Nat.le_of_ble_eq_true rfl)).mono ?_
  rw [HV4.out]
  rintro e w5 ⟨rfl, hb5⟩
  have hc5 := past_alloc (past_alloc hb5)
  have HW5 : Hid (Below w.heap.size w w5) := Lib.hid (HW4.out.trans (hc5.mono HW4.out.size))
  have HA5 := Lib.hid (HA4.out.keep hc5)
  have HB5 := Lib.hid (HB4.out.keep hc5)
  have HC5 : Hid (TV w4.heap.size #[.int .i64 2, .int .i64 f3, .int .i64 t3, .string s3, .int .i64 e3] w5) := Lib.hid ((tv_new w4 _ 27).keep (past_alloc hb5))
  clear hb5 hc5
  have qa := HA5.out.c 0
  have qb := HB5.out.c 0
  have qc := HC5.out.c 0
  have la := HA5.out.lt
  have lb := HB5.out.lt
  have lc := HC5.out.lt
  simp only [List.getElem?_toArray, List.getElem?_cons_zero] at qa qb qc
  have hee := HE.out
  obtain rfl | rfl | rfl | rfl | rfl | ho : c = 32 ∨ c = 9 ∨ c = 10 ∨ c = 13 ∨ c = 37 ∨ (c ≠ 32 ∧ c ≠ 9 ∧ c ≠ 10 ∧ c ≠ 13 ∧ c ≠ 37) := by omega
  · obtain rfl : K = 7 := by rw [hee]; rfl
    clear hee
    go_wp2
    go_ret
    exact ⟨rfl, HW5.out.alloc HW5.out.size _⟩
  · obtain rfl : K = 7 := by rw [hee]; rfl
    clear hee
    go_wp2
    go_ret
    exact ⟨rfl, HW5.out.alloc HW5.out.size _⟩
  · obtain rfl : K = 7 := by rw [hee]; rfl
    clear hee
    go_wp2
    go_ret
    exact ⟨rfl, HW5.out.alloc HW5.out.size _⟩
  · obtain rfl : K = 7 := by rw [hee]; rfl
    clear hee
    go_wp2
    go_ret
    exact ⟨rfl, HW5.out.alloc HW5.out.size _⟩
  · obtain rfl : K = 7 := by rw [hee]; rfl
    clear hee
    go_wp2
    go_ret
    exact ⟨rfl, HW5.out.alloc HW5.out.size _⟩
  · obtain rfl : K = 2 := by
      rw [hee]
      unfold ends5
      rw [decide_eq_false ho.1, decide_eq_false ho.2.1, decide_eq_false ho.2.2.1, decide_eq_false ho.2.2.2.1, decide_eq_false ho.2.2.2.2]
      rfl
    have b1 : (c == 32) = false := beq_eq_false_iff_ne.2 ho.1
    have b2 : (c == 9) = false := beq_eq_false_iff_ne.2 ho.2.1
    have b3 : (c == 10) = false := beq_eq_false_iff_ne.2 ho.2.2.1
    have b4 : (c == 13) = false := beq_eq_false_iff_ne.2 ho.2.2.2.1
    have b5 : (c == 37) = false := beq_eq_false_iff_ne.2 ho.2.2.2.2
    clear hee ho
    go_wp2
    go_ret
    exact ⟨rfl, HW5.out.alloc HW5.out.size _⟩

end Go.Proofs.YtglgdpcfjbahdaaDoor
