/- TokenStands' walk. -/
import Derived.Test.YtglgdpcfjbahdaaDoorTi
import Derived.Deep.QuietTactic
import Derived.BigQuiet
namespace Go.Proofs.YtglgdpcfjbahdaaDoor
open Go.RowKit

set_option maxRecDepth 100000 in
set_option maxHeartbeats 4000000 in
theorem tokenStands_any (a : Option Addr) (len cap : Nat) (l : List Int) (c : Int) (w : World) (h : Bs w a len cap l) (ht : Tab w) (h0 : 0 ≤ c) (h1 : c ≤ 255) :
    Calls Tryd.prog 4 #[.slice a len cap, .int .u8 c] w fun e w' => e = .returned (.bool true) ∧ Below w.heap.size w w' := by
  have hb := few_bs h
  have H := Lib.hid h
  have HT := Lib.hid ht
  obtain ⟨C, rfl⟩ := Int.eq_ofNat_of_zero_le h0
  obtain ⟨L, hL⟩ : ∃ L, L = l.take 120 := ⟨_, rfl⟩
  obtain ⟨m, hm⟩ : ∃ m, m = min len 120 := ⟨_, rfl⟩
  rw [← hL, ← hm] at hb
  have hm1 : m ≤ 120 := by omega
  have HM := Lib.hid hm
  have HLL := Lib.hid hb.hl
  have hlc := hb.lc
  have hcm := hb.cm
  unfold maxLen at hcm
  have HC := Lib.hid hb.cm
  have HB := Lib.hid hb
  obtain ⟨k, hk⟩ : ∃ k, k = C % (m + 1) := ⟨_, rfl⟩
  have hkm : k ≤ m := by have := Nat.mod_lt C (show 0 < m + 1 by omega); omega
  have hri : ((C : Nat) : Int) % ((m : Int) + 1) = (k : Int) := by rw [hk, Int.natCast_emod]; rfl
  have hkL : k ≤ L.length := by rw [hb.hl]; exact hkm
  obtain ⟨n, z, hs, hn, hz⟩ := sk_ways L k hkL
  have HS := Lib.hid hs
  have HE1 := fun (f : Nat) (t : TR) => nx_good (f := f) (t := t) hkL hb.rng
  have HE0 := nx_gone (l := L) hkL
  clear h ht hL hm hk h0
  cases hx : nx L k with
  | none =>
    have HX := Lib.hid hx
    have hsn := HE0 hx
    rw [hs, Prod.mk.injEq, HLL.out] at hsn
    obtain ⟨hn1, rfl⟩ := hsn
    clear hs HE1 HE0 hz hn hx
    have hnm : ((n : Int) == (m : Int) - k) = true := by simp only [beq_iff_eq]; omega
    have e1 := eq_tok 0 0 0 0 0 0 0 0 ⟨#[]⟩ ⟨#[]⟩
    by_cases hm0 : 0 < m
    · obtain ⟨b, off, rfl, _, _⟩ := HB.out.at_ hm0
      by_cases hkc : k < cap
      · go_enter Tryd.func4, Tryd.ntmps4
        go_wp2_with fail
        refine (shown_any _ HT.out).mono ?_
        rintro e w1 ⟨rfl, hb1⟩
        have HW1 := Lib.hid hb1
        clear hb1
        go_wp2_with fail
        refine (few_any _ _ _ _ _ (H.out.below HW1.out)).mono ?_
        rintro e w' ⟨rfl, rfl⟩
        rw [← HM.out]
        go_wp2_with fail
        try rw [hri]
        refine (next_any _ _ _ L k _ (HB.out.below HW1.out) (HT.out.keep HW1.out) (by omega) hkm).mono ?_
        rw [HX.out, nxV_none]
        rintro e w2 ⟨rfl, hb2⟩
        have HW2 : Hid (Below w.heap.size w w2) := Lib.hid (HW1.out.trans (hb2.mono HW1.out.size))
        clear hb2 hri
        go_wp2_with fail
        refine (lskip_any _ _ _ (L.drop k) _ ((HB.out.below (HW2.out.alloc HW2.out.size _)).drop hkm) (HT.out.keep (HW2.out.alloc HW2.out.size _)) (by omega)).mono ?_
        rw [HS.out]
        rintro e w3 ⟨rfl, hb3⟩
        have hc3 := past_alloc hb3
        have HW3 : Hid (Below w.heap.size w w3) := Lib.hid (HW2.out.trans (hc3.mono HW2.out.size))
        have HV : Hid (TV w2.heap.size _ w3) := Lib.hid ((tv_new w2 _ 27).keep hb3)
        clear hb3 hc3
        have q0 := HV.out.c 0
        have q1 := HV.out.c 1
        have q2 := HV.out.c 2
        have q3 := HV.out.c 3
        have q4 := HV.out.c 4
        have hlt := HV.out.lt
        simp only [List.getElem?_toArray, List.getElem?_cons_zero, List.getElem?_cons_succ] at q0 q1 q2 q3 q4
        go_wp2
        go_ret
        exact ⟨rfl, HW3.out⟩
      · have hkk : cap ≤ k := by omega
        have HDN : Hid (L.drop k = []) := Lib.hid (List.drop_eq_nil_iff.2 (by rw [HLL.out]; omega))
        have hkm2 : k = m := by omega
        subst hkm2
        go_enter Tryd.func4, Tryd.ntmps4
        go_wp2_with fail
        refine (shown_any _ HT.out).mono ?_
        rintro e w1 ⟨rfl, hb1⟩
        have HW1 := Lib.hid hb1
        clear hb1
        go_wp2_with fail
        refine (few_any _ _ _ _ _ (H.out.below HW1.out)).mono ?_
        rintro e w' ⟨rfl, rfl⟩
        rw [← HM.out]
        go_wp2_with fail
        try rw [hri]
        refine (next_any _ _ _ L k _ (HB.out.below HW1.out) (HT.out.keep HW1.out) (by omega) hkm).mono ?_
        rw [HX.out, nxV_none]
        rintro e w2 ⟨rfl, hb2⟩
        have HW2 : Hid (Below w.heap.size w w2) := Lib.hid (HW1.out.trans (hb2.mono HW1.out.size))
        clear hb2 hri
        go_wp2_with fail
        refine (lskip_any _ _ _ (L.drop k) _ (HDN.out ▸ Bs.nil _ (some ⟨b, off, none⟩) 0 (by decide)) (HT.out.keep (HW2.out.alloc HW2.out.size _)) (by omega)).mono ?_
        rw [HS.out]
        rintro e w3 ⟨rfl, hb3⟩
        have hc3 := past_alloc hb3
        have HW3 : Hid (Below w.heap.size w w3) := Lib.hid (HW2.out.trans (hc3.mono HW2.out.size))
        have HV : Hid (TV w2.heap.size _ w3) := Lib.hid ((tv_new w2 _ 27).keep hb3)
        clear hb3 hc3
        have q0 := HV.out.c 0
        have q1 := HV.out.c 1
        have q2 := HV.out.c 2
        have q3 := HV.out.c 3
        have q4 := HV.out.c 4
        have hlt := HV.out.lt
        simp only [List.getElem?_toArray, List.getElem?_cons_zero, List.getElem?_cons_succ] at q0 q1 q2 q3 q4
        go_wp2
        go_ret
        exact ⟨rfl, HW3.out⟩
    · have hz0 : m = 0 := by omega
      obtain rfl : k = 0 := by omega
      subst hz0
      have HDN : Hid (L.drop 0 = []) := Lib.hid (by rw [List.drop_zero]; exact List.eq_nil_of_length_eq_zero HLL.out)
      go_enter Tryd.func4, Tryd.ntmps4
      go_wp2_with fail
      refine (shown_any _ HT.out).mono ?_
      rintro e w1 ⟨rfl, hb1⟩
      have HW1 := Lib.hid hb1
      clear hb1
      go_wp2_with fail
      refine (few_any _ _ _ _ _ (H.out.below HW1.out)).mono ?_
      rintro e w' ⟨rfl, rfl⟩
      rw [← HM.out]
      go_wp2_with fail
      try rw [hri]
      refine (next_any _ _ _ L 0 _ (HB.out.below HW1.out) (HT.out.keep HW1.out) (by omega) hkm).mono ?_
      rw [HX.out, nxV_none]
      rintro e w2 ⟨rfl, hb2⟩
      have HW2 : Hid (Below w.heap.size w w2) := Lib.hid (HW1.out.trans (hb2.mono HW1.out.size))
      clear hb2 hri
      go_wp2_with fail
      refine (lskip_any _ _ _ (L.drop 0) _ (HDN.out ▸ Bs.nil _ a cap HC.out) (HT.out.keep (HW2.out.alloc HW2.out.size _)) (by omega)).mono ?_
      rw [HS.out]
      rintro e w3 ⟨rfl, hb3⟩
      have hc3 := past_alloc hb3
      have HW3 : Hid (Below w.heap.size w w3) := Lib.hid (HW2.out.trans (hc3.mono HW2.out.size))
      have HV : Hid (TV w2.heap.size _ w3) := Lib.hid ((tv_new w2 _ 27).keep hb3)
      clear hb3 hc3
      have q0 := HV.out.c 0
      have q1 := HV.out.c 1
      have q2 := HV.out.c 2
      have q3 := HV.out.c 3
      have q4 := HV.out.c 4
      have hlt := HV.out.lt
      simp only [List.getElem?_toArray, List.getElem?_cons_zero, List.getElem?_cons_succ] at q0 q1 q2 q3 q4
      go_wp2
      go_ret
      exact ⟨rfl, HW3.out⟩
  | some ft =>
    obtain ⟨f, t⟩ := ft
    obtain ⟨hf, hfl, hg⟩ := HE1 _ _ hx
    rw [hs] at hf
    subst hf
    have HX := Lib.hid hx
    have HG := Lib.hid hg
    have hkm' : k < m := by rw [HLL.out] at hfl; omega
    rw [HLL.out] at hfl
    have g1 := hg.n1
    have g2 := hg.nl
    rw [List.length_drop, HLL.out] at g2
    have g3 := hg.k1
    have g4 := hg.k8
    clear hs HE1 HE0 hz hn hx hg
    obtain ⟨b, off, rfl, _, _⟩ := HB.out.at_ (by omega)
    have hk8 : (t.e == 0) = !(t.k == 8) := by
      have := HG.out.e0
      by_cases h8 : t.k = 8
      · rw [h8]; simp only [beq_self_eq_true, Bool.not_true, beq_eq_false_iff_ne]; intro h0; exact this.1 h0 h8
      · rw [beq_eq_false_iff_ne.2 h8, this.2 h8]; rfl
    have b1 : decide (((k + n + t.n : Nat) : Int) ≤ ((k + n : Nat) : Int)) = false := decide_eq_false (by omega)
    have b2 : decide ((m : Int) < ((k + n + t.n : Nat) : Int)) = false := decide_eq_false (by omega)
    have b3 : decide (t.k < 1) = false := decide_eq_false (by omega)
    have b4 : decide (8 < t.k) = false := decide_eq_false (by omega)
    by_cases h8 : t.k = 8
    · have hbe : (bstr t.t).toList.isEmpty = true := by rw [HG.out.bad h8, bstr_toList]; rfl
      have h8b : (t.k == 8) = true := by simpa using h8
      rw [h8b] at hk8
      clear g3 g4 h8
      go_enter Tryd.func4, Tryd.ntmps4
      go_wp2_with fail
      refine (shown_any _ HT.out).mono ?_
      rintro e w1 ⟨rfl, hb1⟩
      have HW1 := Lib.hid hb1
      clear hb1
      go_wp2_with fail
      refine (few_any _ _ _ _ _ (H.out.below HW1.out)).mono ?_
      rintro e w' ⟨rfl, rfl⟩
      rw [← HM.out]
      go_wp2_with fail
      try rw [hri]
      refine (next_any _ _ _ L k _ (HB.out.below HW1.out) (HT.out.keep HW1.out) (by omega) hkm).mono ?_
      rw [HX.out, nxV_some]
      rintro e w2 ⟨rfl, hb2⟩
      have HW2 : Hid (Below w.heap.size w w2) := Lib.hid (HW1.out.trans (hb2.mono HW1.out.size))
      clear hb2 hri
      go_wp2_with fail
      refine (lskip_any _ _ _ (L.drop k) _ ((HB.out.below (HW2.out.alloc HW2.out.size _)).drop hkm) (HT.out.keep (HW2.out.alloc HW2.out.size _)) (by omega)).mono ?_
      rw [HS.out]
      rintro e w3 ⟨rfl, hb3⟩
      have hc3 := past_alloc hb3
      have HW3 : Hid (Below w.heap.size w w3) := Lib.hid (HW2.out.trans (hc3.mono HW2.out.size))
      have HV : Hid (TV w2.heap.size _ w3) := Lib.hid ((tv_new w2 _ 27).keep hb3)
      clear hb3 hc3
      have q0 := HV.out.c 0
      have q1 := HV.out.c 1
      have q2 := HV.out.c 2
      have q3 := HV.out.c 3
      have q4 := HV.out.c 4
      have hlt := HV.out.lt
      simp only [List.getElem?_toArray, List.getElem?_cons_zero, List.getElem?_cons_succ] at q0 q1 q2 q3 q4
      go_wp2
      go_ret
      exact ⟨rfl, HW3.out⟩
    · by_cases h5 : t.k = 5
      · have h8b : (t.k == 8) = false := by simpa using h8
        have h5b : (t.k == 5) = true := by simpa using h5
        rw [h8b] at hk8
        clear g3 g4 h8 h5
        go_enter Tryd.func4, Tryd.ntmps4
        go_wp2_with fail
        refine (shown_any _ HT.out).mono ?_
        rintro e w1 ⟨rfl, hb1⟩
        have HW1 := Lib.hid hb1
        clear hb1
        go_wp2_with fail
        refine (few_any _ _ _ _ _ (H.out.below HW1.out)).mono ?_
        rintro e w' ⟨rfl, rfl⟩
        rw [← HM.out]
        go_wp2_with fail
        try rw [hri]
        refine (next_any _ _ _ L k _ (HB.out.below HW1.out) (HT.out.keep HW1.out) (by omega) hkm).mono ?_
        rw [HX.out, nxV_some]
        rintro e w2 ⟨rfl, hb2⟩
        have HW2 : Hid (Below w.heap.size w w2) := Lib.hid (HW1.out.trans (hb2.mono HW1.out.size))
        clear hb2 hri
        go_wp2_with fail
        refine (lskip_any _ _ _ (L.drop k) _ ((HB.out.below (HW2.out.alloc HW2.out.size _)).drop hkm) (HT.out.keep (HW2.out.alloc HW2.out.size _)) (by omega)).mono ?_
        rw [HS.out]
        rintro e w3 ⟨rfl, hb3⟩
        have hc3 := past_alloc hb3
        have HW3 : Hid (Below w.heap.size w w3) := Lib.hid (HW2.out.trans (hc3.mono HW2.out.size))
        have HV : Hid (TV w2.heap.size _ w3) := Lib.hid ((tv_new w2 _ 27).keep hb3)
        clear hb3 hc3
        have q0 := HV.out.c 0
        have q1 := HV.out.c 1
        have q2 := HV.out.c 2
        have q3 := HV.out.c 3
        have q4 := HV.out.c 4
        have hlt := HV.out.lt
        simp only [List.getElem?_toArray, List.getElem?_cons_zero, List.getElem?_cons_succ] at q0 q1 q2 q3 q4
        go_wp2_with fail
        go_quiet (fail)
        go_wp2
        go_ret
        exact ⟨rfl, below_drewN HW3.out _⟩
      · have h8b : (t.k == 8) = false := by simpa using h8
        have h5b : (t.k == 5) = false := by simpa using h5
        rw [h8b] at hk8
        have htx := HG.out.says h8 h5
        obtain ⟨T, hT⟩ : ∃ T, T = t.t := ⟨_, rfl⟩
        have HTX : Hid (t.t = (L.drop (k + n)).take t.n) := Lib.hid htx
        clear g3 g4 h8 h5 hT htx
        go_enter Tryd.func4, Tryd.ntmps4
        go_wp2_with fail
        refine (shown_any _ HT.out).mono ?_
        rintro e w1 ⟨rfl, hb1⟩
        have HW1 := Lib.hid hb1
        clear hb1
        go_wp2_with fail
        refine (few_any _ _ _ _ _ (H.out.below HW1.out)).mono ?_
        rintro e w' ⟨rfl, rfl⟩
        rw [← HM.out]
        go_wp2_with fail
        try rw [hri]
        refine (next_any _ _ _ L k _ (HB.out.below HW1.out) (HT.out.keep HW1.out) (by omega) hkm).mono ?_
        rw [HX.out, nxV_some]
        rintro e w2 ⟨rfl, hb2⟩
        have HW2 : Hid (Below w.heap.size w w2) := Lib.hid (HW1.out.trans (hb2.mono HW1.out.size))
        clear hb2 hri
        go_wp2_with fail
        refine (lskip_any _ _ _ (L.drop k) _ ((HB.out.below (HW2.out.alloc HW2.out.size _)).drop hkm) (HT.out.keep (HW2.out.alloc HW2.out.size _)) (by omega)).mono ?_
        rw [HS.out]
        rintro e w3 ⟨rfl, hb3⟩
        have hc3 := past_alloc hb3
        have HW3 : Hid (Below w.heap.size w w3) := Lib.hid (HW2.out.trans (hc3.mono HW2.out.size))
        have HV : Hid (TV w2.heap.size _ w3) := Lib.hid ((tv_new w2 _ 27).keep hb3)
        clear hb3 hc3
        have q0 := HV.out.c 0
        have q1 := HV.out.c 1
        have q2 := HV.out.c 2
        have q3 := HV.out.c 3
        have q4 := HV.out.c 4
        have hlt := HV.out.lt
        simp only [List.getElem?_toArray, List.getElem?_cons_zero, List.getElem?_cons_succ] at q0 q1 q2 q3 q4
        go_wp2_with fail
        have kc := (((HB.out.below HW3.out).drop (k := k + n) (by omega)).take (k := t.n) (c' := cap - (k + n)) (by omega) (by omega) (by unfold maxLen; omega)).str (P := Tryd.prog) 22 9 5 Tryd.underlying22 Tryd.underlying5 Tryd.underlying9
        have kd := fun nq => (((HB.out.below (below_drewN HW3.out nq)).drop (k := k + n) (by omega)).take (k := t.n) (c' := cap - (k + n)) (by omega) (by omega) (by unfold maxLen; omega)).str (P := Tryd.prog) 22 9 5 Tryd.underlying22 Tryd.underlying5 Tryd.underlying9
        rw [← HTX.out] at kc kd
        have hx1 : (0 : Int) ≤ (k : Int) + n := by omega
        have hx2 : (k : Int) + n ≤ (k : Int) + n + t.n := by omega
        have hx3 : (k : Int) + n + t.n ≤ (cap : Int) := by omega
        have hx4 : ((k : Int) + n + t.n).toNat = k + n + t.n := by omega
        have hx5 : ((k : Int) + n).toNat = k + n := by omega
        have hx6 : k + n + t.n - (k + n) = t.n := by omega
        go_quiet (fail)
        go_wp2
        go_ret
        exact ⟨rfl, below_drewN HW3.out _⟩

end Go.Proofs.YtglgdpcfjbahdaaDoor
