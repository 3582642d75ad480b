/- The walk of ClassNames. -/
import Derived.Test.YthmpedmfpbfdaaaDoorVe
namespace Go.Proofs.YthmpedmfpbfdaaaDoor
open Go.RowKit

set_option maxHeartbeats 4000000 in
theorem classNames_any (c : Int) (w : World) (ht : Tab w) (h0 : 0 ≤ c) (h1 : c ≤ 255) :
    Calls Tryd.prog 5 #[.int .u8 c] w fun e w' => e = .returned (.bool true) ∧ Below w.heap.size w w' := by
  have HT := Lib.hid ht
  clear ht
  by_cases l : 97 ≤ c ∧ c ≤ 122
  · obtain ⟨l1, l2⟩ := l
    have hf := (by decide +kernel : ∀ n : Nat, n < 256 → (97 ≤ n ∧ n ≤ 122) → cls n = 2 ∧ nameB n = true) c.toNat (by omega) (by omega)
    rw [Int.toNat_of_nonneg h0] at hf
    have HF := Lib.hid hf
    clear hf
    go_enter Tryd.func5, Tryd.ntmps5
    go_wp2_with fail
    refine (shown_any _ HT.out).mono ?_
    rintro e w1 ⟨rfl, hb1⟩
    have HW1 := Lib.hid hb1
    clear hb1
    go_wp2_with fail
    refine (of_any _ _ (HT.out.keep HW1.out) h0 h1).mono ?_
    rintro e w2 ⟨rfl, hb2⟩
    rw [HF.out.1]
    have HW2 : Hid (Below w.heap.size w w2) := Lib.hid (HW1.out.trans (hb2.mono HW1.out.size))
    clear hb2
    go_wp2_with fail
    refine (name_any _ _ (HT.out.keep HW2.out) h0 h1).mono ?_
    rintro e w3 ⟨rfl, hb3⟩
    rw [HF.out.2]
    have HW3 : Hid (Below w.heap.size w w3) := Lib.hid (HW2.out.trans (hb3.mono HW2.out.size))
    clear hb3
    go_wp2
    go_ret
    exact ⟨ret_bool (by first | rfl | (simp; omega) | simp), HW3.out⟩
  by_cases u : 65 ≤ c ∧ c ≤ 90
  · obtain ⟨l1, l2⟩ := u
    clear l
    have hf := (by decide +kernel : ∀ n : Nat, n < 256 → (65 ≤ n ∧ n ≤ 90) → cls n = 3 ∧ nameB n = true) c.toNat (by omega) (by omega)
    rw [Int.toNat_of_nonneg h0] at hf
    have HF := Lib.hid hf
    clear hf
    go_enter Tryd.func5, Tryd.ntmps5
    go_wp2_with fail
    refine (shown_any _ HT.out).mono ?_
    rintro e w1 ⟨rfl, hb1⟩
    have HW1 := Lib.hid hb1
    clear hb1
    go_wp2_with fail
    refine (of_any _ _ (HT.out.keep HW1.out) h0 h1).mono ?_
    rintro e w2 ⟨rfl, hb2⟩
    rw [HF.out.1]
    have HW2 : Hid (Below w.heap.size w w2) := Lib.hid (HW1.out.trans (hb2.mono HW1.out.size))
    clear hb2
    go_wp2_with fail
    refine (name_any _ _ (HT.out.keep HW2.out) h0 h1).mono ?_
    rintro e w3 ⟨rfl, hb3⟩
    rw [HF.out.2]
    have HW3 : Hid (Below w.heap.size w w3) := Lib.hid (HW2.out.trans (hb3.mono HW2.out.size))
    clear hb3
    go_wp2
    go_ret
    exact ⟨ret_bool (by first | rfl | (simp; omega) | simp), HW3.out⟩
  by_cases d : 48 ≤ c ∧ c ≤ 57
  · obtain ⟨l1, l2⟩ := d
    clear l u
    have hf := (by decide +kernel : ∀ n : Nat, n < 256 → (48 ≤ n ∧ n ≤ 57) → cls n = 4 ∧ nameB n = true) c.toNat (by omega) (by omega)
    rw [Int.toNat_of_nonneg h0] at hf
    have HF := Lib.hid hf
    clear hf
    go_enter Tryd.func5, Tryd.ntmps5
    go_wp2_with fail
    refine (shown_any _ HT.out).mono ?_
    rintro e w1 ⟨rfl, hb1⟩
    have HW1 := Lib.hid hb1
    clear hb1
    go_wp2_with fail
    refine (of_any _ _ (HT.out.keep HW1.out) h0 h1).mono ?_
    rintro e w2 ⟨rfl, hb2⟩
    rw [HF.out.1]
    have HW2 : Hid (Below w.heap.size w w2) := Lib.hid (HW1.out.trans (hb2.mono HW1.out.size))
    clear hb2
    go_wp2_with fail
    refine (name_any _ _ (HT.out.keep HW2.out) h0 h1).mono ?_
    rintro e w3 ⟨rfl, hb3⟩
    rw [HF.out.2]
    have HW3 : Hid (Below w.heap.size w w3) := Lib.hid (HW2.out.trans (hb3.mono HW2.out.size))
    clear hb3
    go_wp2
    go_ret
    exact ⟨ret_bool (by first | rfl | (simp; omega) | simp), HW3.out⟩
  by_cases q : c = 95
  · subst q
    clear l u d
    have HF : Hid (cls 95 = 3 ∧ nameB 95 = true) := Lib.hid (by decide +kernel)
    go_enter Tryd.func5, Tryd.ntmps5
    go_wp2_with fail
    refine (shown_any _ HT.out).mono ?_
    rintro e w1 ⟨rfl, hb1⟩
    have HW1 := Lib.hid hb1
    clear hb1
    go_wp2_with fail
    refine (of_any _ _ (HT.out.keep HW1.out) h0 h1).mono ?_
    rintro e w2 ⟨rfl, hb2⟩
    rw [HF.out.1]
    have HW2 : Hid (Below w.heap.size w w2) := Lib.hid (HW1.out.trans (hb2.mono HW1.out.size))
    clear hb2
    go_wp2_with fail
    refine (name_any _ _ (HT.out.keep HW2.out) h0 h1).mono ?_
    rintro e w3 ⟨rfl, hb3⟩
    rw [HF.out.2]
    have HW3 : Hid (Below w.heap.size w w3) := Lib.hid (HW2.out.trans (hb3.mono HW2.out.size))
    clear hb3
    go_wp2
    go_ret
    exact ⟨ret_bool (by first | rfl | (simp; omega) | simp), HW3.out⟩
  have q1 : (c == 95) = false := by simpa using q
  by_cases r : c = 39
  · subst r
    clear l u d q
    have HF : Hid (cls 39 = 7 ∧ nameB 39 = false) := Lib.hid (by decide +kernel)
    go_enter Tryd.func5, Tryd.ntmps5
    go_wp2_with fail
    refine (shown_any _ HT.out).mono ?_
    rintro e w1 ⟨rfl, hb1⟩
    have HW1 := Lib.hid hb1
    clear hb1
    go_wp2_with fail
    refine (of_any _ _ (HT.out.keep HW1.out) h0 h1).mono ?_
    rintro e w2 ⟨rfl, hb2⟩
    rw [HF.out.1]
    have HW2 : Hid (Below w.heap.size w w2) := Lib.hid (HW1.out.trans (hb2.mono HW1.out.size))
    clear hb2
    go_wp2_with fail
    refine (name_any _ _ (HT.out.keep HW2.out) h0 h1).mono ?_
    rintro e w3 ⟨rfl, hb3⟩
    rw [HF.out.2]
    have HW3 : Hid (Below w.heap.size w w3) := Lib.hid (HW2.out.trans (hb3.mono HW2.out.size))
    clear hb3
    go_wp2
    go_ret
    exact ⟨ret_bool (by first | rfl | (simp; omega) | simp), HW3.out⟩
  have r1 : (c == 39) = false := by simpa using r
  by_cases s : c = 37
  · subst s
    clear l u d q r
    have HF : Hid (cls 37 = 8 ∧ nameB 37 = false) := Lib.hid (by decide +kernel)
    go_enter Tryd.func5, Tryd.ntmps5
    go_wp2_with fail
    refine (shown_any _ HT.out).mono ?_
    rintro e w1 ⟨rfl, hb1⟩
    have HW1 := Lib.hid hb1
    clear hb1
    go_wp2_with fail
    refine (of_any _ _ (HT.out.keep HW1.out) h0 h1).mono ?_
    rintro e w2 ⟨rfl, hb2⟩
    rw [HF.out.1]
    have HW2 : Hid (Below w.heap.size w w2) := Lib.hid (HW1.out.trans (hb2.mono HW1.out.size))
    clear hb2
    go_wp2_with fail
    refine (name_any _ _ (HT.out.keep HW2.out) h0 h1).mono ?_
    rintro e w3 ⟨rfl, hb3⟩
    rw [HF.out.2]
    have HW3 : Hid (Below w.heap.size w w3) := Lib.hid (HW2.out.trans (hb3.mono HW2.out.size))
    clear hb3
    go_wp2
    go_ret
    exact ⟨ret_bool (by first | rfl | (simp; omega) | simp), HW3.out⟩
  have s1 : (c == 37) = false := by simpa using s
  by_cases t : 127 < c
  · clear l u d q r s
    have hf := (by decide +kernel : ∀ n : Nat, n < 256 → (127 < n) → cls n = 9 ∧ nameB n = false) c.toNat (by omega) (by omega)
    rw [Int.toNat_of_nonneg h0] at hf
    have HF := Lib.hid hf
    clear hf
    go_enter Tryd.func5, Tryd.ntmps5
    go_wp2_with fail
    refine (shown_any _ HT.out).mono ?_
    rintro e w1 ⟨rfl, hb1⟩
    have HW1 := Lib.hid hb1
    clear hb1
    go_wp2_with fail
    refine (of_any _ _ (HT.out.keep HW1.out) h0 h1).mono ?_
    rintro e w2 ⟨rfl, hb2⟩
    rw [HF.out.1]
    have HW2 : Hid (Below w.heap.size w w2) := Lib.hid (HW1.out.trans (hb2.mono HW1.out.size))
    clear hb2
    go_wp2_with fail
    refine (name_any _ _ (HT.out.keep HW2.out) h0 h1).mono ?_
    rintro e w3 ⟨rfl, hb3⟩
    rw [HF.out.2]
    have HW3 : Hid (Below w.heap.size w w3) := Lib.hid (HW2.out.trans (hb3.mono HW2.out.size))
    clear hb3
    go_wp2
    go_ret
    exact ⟨ret_bool (by first | rfl | (simp; omega) | simp), HW3.out⟩
  have hf := (by decide +kernel : ∀ n : Nat, n < 256 → (¬ (97 ≤ n ∧ n ≤ 122) ∧ ¬ (65 ≤ n ∧ n ≤ 90) ∧ ¬ (48 ≤ n ∧ n ≤ 57) ∧ n ≠ 95 ∧ n ≠ 39 ∧ n ≠ 37 ∧ ¬ 127 < n) → (0 ≤ cls n ∧ cls n ≤ 9 ∧ (cls n == 2) = false ∧ (cls n == 3) = false ∧ (cls n == 4) = false ∧ (cls n == 9) = false ∧ (cls n == 7) = false ∧ (cls n == 8) = false) ∧ nameB n = false) c.toNat (by omega) (by omega)
  rw [Int.toNat_of_nonneg h0] at hf
  have gap : c < 48 ∨ (57 < c ∧ c < 65) ∨ (90 < c ∧ c < 97) ∨ 122 < c := by omega
  clear l u d q r s
  obtain ⟨⟨k1, k2, k3, k4, k5, k6, k7, k8⟩, hn⟩ := hf
  have HF := Lib.hid hn
  clear hn
  obtain ⟨K, hKK⟩ : ∃ K, cls c = K := ⟨_, rfl⟩
  rw [hKK] at k1 k2 k3 k4 k5 k6 k7 k8
  have hK := Lib.hid hKK
  clear hKK
  rcases gap with g | ⟨g, g'⟩ | ⟨g, g'⟩ | g
  all_goals
    go_enter Tryd.func5, Tryd.ntmps5
    go_wp2_with fail
    refine (shown_any _ HT.out).mono ?_
    rintro e w1 ⟨rfl, hb1⟩
    have HW1 := Lib.hid hb1
    clear hb1
    go_wp2_with fail
    with_reducible refine (of_any _ _ (HT.out.keep HW1.out) h0 h1).mono ?_
    rintro e w2 ⟨rfl, hb2⟩
    rw [hK.out]
    have HW2 : Hid (Below w.heap.size w w2) := Lib.hid (HW1.out.trans (hb2.mono HW1.out.size))
    clear hb2
    go_wp2_with fail
    refine (name_any _ _ (HT.out.keep HW2.out) h0 h1).mono ?_
    rintro e w3 ⟨rfl, hb3⟩
    rw [HF.out]
    have HW3 : Hid (Below w.heap.size w w3) := Lib.hid (HW2.out.trans (hb3.mono HW2.out.size))
    clear hb3
    go_wp2
    go_ret
    exact ⟨ret_bool (by first | rfl | (simp; omega) | simp), HW3.out⟩

end Go.Proofs.YthmpedmfpbfdaaaDoor
