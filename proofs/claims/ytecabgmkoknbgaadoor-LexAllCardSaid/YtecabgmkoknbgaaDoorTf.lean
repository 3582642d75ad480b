/- Contract of the document's first and Next (layer 6). -/
import Derived.Test.YtecabgmkoknbgaaDoorTe
import Derived.Test.YtecabgmkoknbgaaDoorTq
import Derived.Test.YtecabgmkoknbgaaDoorM3
import Derived.Test.YtecabgmkoknbgaaDoorDr
import Derived.Test.YtecabgmkoknbgaaDoorQr
import Derived.Test.YtecabgmkoknbgaaDoorLc
namespace Go.Proofs.YtecabgmkoknbgaaDoor
open Go.RowKit

theorem high_two {l : List Int} (h : 128 ≤ bt l 0) (ho : okSeq l = true) : 1 < takeN l := by
  rw [takeN_eq ho]
  have := (okSeq_pos ho).1
  unfold lenOf at this ⊢
  repeat' split
  all_goals first | omega | (simp_all; omega) | simp_all

set_option maxHeartbeats 2000000 in
set_option maxRecDepth 100000 in
theorem rfirst2 (a : Option Addr) (len cap : Nat) (l : List Int) (w : World) (h : Bs w a len cap l) (h0 : 0 < len) (hk : cls (bt l 0) = 2) :
    Calls Tryd.prog 34 #[.slice a len cap] w fun r w' => r = .returned (tkv (nameT 1 l)) ∧ Below w.heap.size w w' := by
  have hlc := h.lc
  have hcm := h.cm
  have hl := h.hl
  unfold maxLen at hcm
  have HMC := Lib.hid h.cm
  have r0 := (bt_rng h.rng 0).1
  have r1 := (bt_rng h.rng 0).2
  have HW0 := Lib.hid (wTok_below w)
  have HC0 := Lib.hid (wTok_tc w)
  have H := Lib.hid h
  obtain ⟨b, off, rfl, hbl, hc⟩ := h.at_ h0
  have hck : (wTok w).cell? ⟨b, off, none⟩ = some (.int .u8 (bt l 0)) := (HW0.out.cell hbl).trans (hc 0 h0)
  have HK : Hid (cls (bt l 0) = 2) := Lib.hid hk
  obtain ⟨n, hn⟩ : ∃ n, n = nmL l := ⟨_, rfl⟩
  have hnl := nmL_le l
  rw [← hn, hl] at hnl
  have hnc : n ≤ cap := by omega
  have HN := Lib.hid hn
  clear hn
  clear h hc hl hbl hk
  go_enter Tryd.func34, Tryd.ntmps34
  go_wp2_with fail
  refine (rof_any _ _ r0 r1).mono ?_
  rw [HK.out]
  rintro e w' ⟨rfl, rfl⟩
  go_wp2_with fail
  refine (rtake_any _ _ _ l _ (H.out.below HW0.out)).mono ?_
  rintro e w1 ⟨rfl, hb1⟩
  have HW1 : Hid (Below w.heap.size w w1) := Lib.hid (hb1.below HW0.out)
  have HC1 : Hid (TC w.heap.size w1) := Lib.hid (HC0.out.keep (hb1.below (Below.refl _ _)))
  clear hb1
  go_wp2_with fail
  refine (rname6_any _ _ _ l _ (H.out.below HW1.out)).mono ?_
  rw [← HN.out]
  rintro e w2 ⟨rfl, hb2⟩
  have HW2 : Hid (Below w.heap.size w w2) := Lib.hid (hb2.below HW1.out)
  have HC2 : Hid (TC w.heap.size w2) := Lib.hid (HC1.out.keep (hb2.below (Below.refl _ _)))
  clear hb2
  have kc := ((H.out.below HW2.out).take (k := n) (c' := cap) (by omega) (by omega) HMC.out).str (P := Tryd.prog) 22 9 5 Tryd.underlying22 Tryd.underlying5 Tryd.underlying9
  have q0 := HC2.out.q0
  have q1 := HC2.out.q1
  have q2 := HC2.out.q2
  have q3 := HC2.out.q3
  have q4 := HC2.out.q4
  have z0 := HC2.out.z 0
  have z1 := HC2.out.z 1
  have z2 := HC2.out.z 2
  have z3 := HC2.out.z 3
  have z4 := HC2.out.z 4
  have hlt := HC2.out.lt
  go_wp2
  exact bodyPost_ret (v := .agg #[.int .i64 1, .int .i64 0, .int .i64 n, .string (bstr (l.take n)), .int .i64 0]) (by simp [results, Tryd.results34, go_sem, q0, q1, q2, q3, q4]) rfl ⟨by rw [nameT, ← HN.out]; rfl, set5_below HW2.out (Nat.le_refl _) _ _ _ _ _⟩

set_option maxHeartbeats 2000000 in
set_option maxRecDepth 100000 in
theorem rfirst3 (a : Option Addr) (len cap : Nat) (l : List Int) (w : World) (h : Bs w a len cap l) (h0 : 0 < len) (hk : cls (bt l 0) = 3) :
    Calls Tryd.prog 34 #[.slice a len cap] w fun r w' => r = .returned (tkv (nameT 3 l)) ∧ Below w.heap.size w w' := by
  have hlc := h.lc
  have hcm := h.cm
  have hl := h.hl
  unfold maxLen at hcm
  have HMC := Lib.hid h.cm
  have r0 := (bt_rng h.rng 0).1
  have r1 := (bt_rng h.rng 0).2
  have HW0 := Lib.hid (wTok_below w)
  have HC0 := Lib.hid (wTok_tc w)
  have H := Lib.hid h
  obtain ⟨b, off, rfl, hbl, hc⟩ := h.at_ h0
  have hck : (wTok w).cell? ⟨b, off, none⟩ = some (.int .u8 (bt l 0)) := (HW0.out.cell hbl).trans (hc 0 h0)
  have HK : Hid (cls (bt l 0) = 3) := Lib.hid hk
  obtain ⟨n, hn⟩ : ∃ n, n = nmL l := ⟨_, rfl⟩
  have hnl := nmL_le l
  rw [← hn, hl] at hnl
  have hnc : n ≤ cap := by omega
  have HN := Lib.hid hn
  clear hn
  clear h hc hl hbl hk
  go_enter Tryd.func34, Tryd.ntmps34
  go_wp2_with fail
  refine (rof_any _ _ r0 r1).mono ?_
  rw [HK.out]
  rintro e w' ⟨rfl, rfl⟩
  go_wp2_with fail
  refine (rtake_any _ _ _ l _ (H.out.below HW0.out)).mono ?_
  rintro e w1 ⟨rfl, hb1⟩
  have HW1 : Hid (Below w.heap.size w w1) := Lib.hid (hb1.below HW0.out)
  have HC1 : Hid (TC w.heap.size w1) := Lib.hid (HC0.out.keep (hb1.below (Below.refl _ _)))
  clear hb1
  go_wp2_with fail
  refine (rname6_any _ _ _ l _ (H.out.below HW1.out)).mono ?_
  rw [← HN.out]
  rintro e w2 ⟨rfl, hb2⟩
  have HW2 : Hid (Below w.heap.size w w2) := Lib.hid (hb2.below HW1.out)
  have HC2 : Hid (TC w.heap.size w2) := Lib.hid (HC1.out.keep (hb2.below (Below.refl _ _)))
  clear hb2
  have kc := ((H.out.below HW2.out).take (k := n) (c' := cap) (by omega) (by omega) HMC.out).str (P := Tryd.prog) 22 9 5 Tryd.underlying22 Tryd.underlying5 Tryd.underlying9
  have q0 := HC2.out.q0
  have q1 := HC2.out.q1
  have q2 := HC2.out.q2
  have q3 := HC2.out.q3
  have q4 := HC2.out.q4
  have z0 := HC2.out.z 0
  have z1 := HC2.out.z 1
  have z2 := HC2.out.z 2
  have z3 := HC2.out.z 3
  have z4 := HC2.out.z 4
  have hlt := HC2.out.lt
  go_wp2
  exact bodyPost_ret (v := .agg #[.int .i64 3, .int .i64 0, .int .i64 n, .string (bstr (l.take n)), .int .i64 0]) (by simp [results, Tryd.results34, go_sem, q0, q1, q2, q3, q4]) rfl ⟨by rw [nameT, ← HN.out]; rfl, set5_below HW2.out (Nat.le_refl _) _ _ _ _ _⟩

set_option maxHeartbeats 2000000 in
set_option maxRecDepth 100000 in
theorem rfirst9 (a : Option Addr) (len cap : Nat) (l : List Int) (w : World) (h : Bs w a len cap l) (h0 : 0 < len) (hk : cls (bt l 0) = 9) :
    Calls Tryd.prog 34 #[.slice a len cap] w fun r w' => r = .returned (tkv (highT l)) ∧ Below w.heap.size w w' := by
  have hlc := h.lc
  have hcm := h.cm
  have hl := h.hl
  unfold maxLen at hcm
  have HMC := Lib.hid h.cm
  have r0 := (bt_rng h.rng 0).1
  have r1 := (bt_rng h.rng 0).2
  have HW0 := Lib.hid (wTok_below w)
  have HC0 := Lib.hid (wTok_tc w)
  have H := Lib.hid h
  obtain ⟨b, off, rfl, hbl, hc⟩ := h.at_ h0
  have hck : (wTok w).cell? ⟨b, off, none⟩ = some (.int .u8 (bt l 0)) := (HW0.out.cell hbl).trans (hc 0 h0)
  have HK : Hid (cls (bt l 0) = 9) := Lib.hid hk
  have hhi := cls_high r0 r1 hk
  cases hok : okSeq l with
  | true =>
    have h2 := high_two hhi hok
    have HO := Lib.hid hok
    have HP : Hid (nmL l ≠ 0) := Lib.hid (by have := nmL_pos (nmB_long hok (by omega)); omega)
    obtain ⟨m, hm⟩ : ∃ m, m = takeN l := ⟨_, rfl⟩
    rw [← hm] at h2
    have hm4 := takeN_le4 l
    rw [← hm] at hm4
    have HM := Lib.hid hm
    clear hm
    obtain ⟨n, hn⟩ : ∃ n, n = nmL l := ⟨_, rfl⟩
    have hnl := nmL_le l
    rw [← hn, hl] at hnl
    have hnc : n ≤ cap := by omega
    have HN := Lib.hid hn
    clear hn
    clear h hc hl hbl hk hok hhi
    go_enter Tryd.func34, Tryd.ntmps34
    go_wp2_with fail
    refine (rof_any _ _ r0 r1).mono ?_
    rw [HK.out]
    rintro e w' ⟨rfl, rfl⟩
    go_wp2_with fail
    refine (rtake_any _ _ _ l _ (H.out.below HW0.out)).mono ?_
    rw [HO.out, ← HM.out]
    rintro e w1 ⟨rfl, hb1⟩
    have HW1 : Hid (Below w.heap.size w w1) := Lib.hid (hb1.below HW0.out)
    have HC1 : Hid (TC w.heap.size w1) := Lib.hid (HC0.out.keep (hb1.below (Below.refl _ _)))
    clear hb1
    go_wp2_with fail
    refine (rname6_any _ _ _ l _ (H.out.below HW1.out)).mono ?_
    rw [← HN.out]
    rintro e w2 ⟨rfl, hb2⟩
    have HW2 : Hid (Below w.heap.size w w2) := Lib.hid (hb2.below HW1.out)
    have HC2 : Hid (TC w.heap.size w2) := Lib.hid (HC1.out.keep (hb2.below (Below.refl _ _)))
    clear hb2
    have kc := ((H.out.below HW2.out).take (k := n) (c' := cap) (by omega) (by omega) HMC.out).str (P := Tryd.prog) 22 9 5 Tryd.underlying22 Tryd.underlying5 Tryd.underlying9
    have q0 := HC2.out.q0
    have q1 := HC2.out.q1
    have q2 := HC2.out.q2
    have q3 := HC2.out.q3
    have q4 := HC2.out.q4
    have z0 := HC2.out.z 0
    have z1 := HC2.out.z 1
    have z2 := HC2.out.z 2
    have z3 := HC2.out.z 3
    have z4 := HC2.out.z 4
    have hlt := HC2.out.lt
    go_wp2
    exact bodyPost_ret (v := .agg #[.int .i64 1, .int .i64 0, .int .i64 n, .string (bstr (l.take n)), .int .i64 0]) (by simp [results, Tryd.results34, go_sem, q0, q1, q2, q3, q4]) rfl ⟨by rw [highT, if_neg HP.out, nameT, ← HN.out]; rfl, set5_below HW2.out (Nat.le_refl _) _ _ _ _ _⟩
  | false =>
    have HO := Lib.hid hok
    have HP : Hid (nmL l = 0) := Lib.hid (nmL_no (nmB_bad hok))
    clear h hc hl hbl hk hok hhi
    go_enter Tryd.func34, Tryd.ntmps34
    go_wp2_with fail
    refine (rof_any _ _ r0 r1).mono ?_
    rw [HK.out]
    rintro e w' ⟨rfl, rfl⟩
    go_wp2_with fail
    refine (rtake_any _ _ _ l _ (H.out.below HW0.out)).mono ?_
    rw [HO.out]
    rintro e w1 ⟨rfl, hb1⟩
    have HW1 : Hid (Below w.heap.size w w1) := Lib.hid (hb1.below HW0.out)
    have HC1 : Hid (TC w.heap.size w1) := Lib.hid (HC0.out.keep (hb1.below (Below.refl _ _)))
    clear hb1
    have q0 := HC1.out.q0
    have q1 := HC1.out.q1
    have q2 := HC1.out.q2
    have q3 := HC1.out.q3
    have q4 := HC1.out.q4
    have z0 := HC1.out.z 0
    have z1 := HC1.out.z 1
    have z2 := HC1.out.z 2
    have z3 := HC1.out.z 3
    have z4 := HC1.out.z 4
    have hlt := HC1.out.lt
    go_wp2
    exact bodyPost_ret (v := .agg #[.int .i64 8, .int .i64 0, .int .i64 1, .string ⟨#[]⟩, .int .i64 10]) (by simp [results, Tryd.results34, go_sem, q0, q1, q2, q3, q4]) rfl ⟨by rw [highT, if_pos HP.out]; rfl, set5_below HW1.out (Nat.le_refl _) _ _ _ _ _⟩

theorem endT_ends {l : List Int} (h1 : runL 5 l = 1) (h2 : bt l 0 = 46) : endT l = endsB l := by
  unfold endT endsB
  rw [h1, h2]
  simp

set_option maxHeartbeats 2000000 in
set_option maxRecDepth 100000 in
theorem rfirst5 (a : Option Addr) (len cap : Nat) (l : List Int) (w : World) (h : Bs w a len cap l) (h0 : 0 < len) (hk : cls (bt l 0) = 5) :
    Calls Tryd.prog 34 #[.slice a len cap] w fun r w' => r = .returned (tkv (symT l)) ∧ Below w.heap.size w w' := by
  have hlc := h.lc
  have hcm := h.cm
  have hl := h.hl
  unfold maxLen at hcm
  have HMC := Lib.hid h.cm
  have r0 := (bt_rng h.rng 0).1
  have r1 := (bt_rng h.rng 0).2
  have HW0 := Lib.hid (wTok_below w)
  have HC0 := Lib.hid (wTok_tc w)
  have H := Lib.hid h
  obtain ⟨b, off, rfl, hbl, hc⟩ := h.at_ h0
  have hck : (wTok w).cell? ⟨b, off, none⟩ = some (.int .u8 (bt l 0)) := (HW0.out.cell hbl).trans (hc 0 h0)
  have HK : Hid (cls (bt l 0) = 5) := Lib.hid hk
  have hrp := runL_pos (by omega) hk
  have hrn := runL_le 5 l
  obtain ⟨n, hn⟩ : ∃ n, n = runL 5 l := ⟨_, rfl⟩
  rw [← hn] at hrp hrn
  rw [hl] at hrn
  have hnc : n ≤ cap := by omega
  have HN := Lib.hid hn
  have hck1 : ∀ w', Below w.heap.size w w' → w'.cell? ⟨b, off, none⟩ = some (.int .u8 (bt l 0)) := fun w' hb => (hb.cell hbl).trans (hc 0 h0)
  have HCK := Lib.hid hck1
  clear hn hck1
  by_cases hd : n = 1 ∧ bt l 0 = 46
  · obtain ⟨hn1, hd2⟩ := hd
    subst hn1
    cases he : endsB l with
    | true =>
      have HE : Hid (endsB l = true) := Lib.hid he
      have HET : Hid (endT l = true) := Lib.hid (by rw [endT_ends HN.out.symm hd2, he])
      have hd2' : (bt l 0 == 46) = true := by simpa using hd2
      have HD2 := Lib.hid hd2
      clear hd2
      clear h hc hl hbl hk he
      go_enter Tryd.func34, Tryd.ntmps34
      go_wp2_with fail
      refine (rof_any _ _ r0 r1).mono ?_
      rw [HK.out]
      rintro e w' ⟨rfl, rfl⟩
      go_wp2_with fail
      refine (rtake_any _ _ _ l _ (H.out.below HW0.out)).mono ?_
      rintro e w1 ⟨rfl, hb1⟩
      have HW1 : Hid (Below w.heap.size w w1) := Lib.hid (hb1.below HW0.out)
      have HC1 : Hid (TC w.heap.size w1) := Lib.hid (HC0.out.keep (hb1.below (Below.refl _ _)))
      clear hb1
      have hck2 := HCK.out _ HW1.out
      go_wp2_with fail
      refine (rrun_any _ _ _ l 5 _ (H.out.below HW1.out)).mono ?_
      rw [← HN.out]
      rintro e w' ⟨rfl, rfl⟩
      go_wp2_with fail
      refine (rends_any _ _ _ l _ (H.out.below HW1.out) h0).mono ?_
      rw [HE.out]
      rintro e w' ⟨rfl, rfl⟩
      have kc := ((H.out.below HW1.out).take (k := 1) (c' := cap) (by omega) (by omega) HMC.out).str (P := Tryd.prog) 22 9 5 Tryd.underlying22 Tryd.underlying5 Tryd.underlying9
      have q0 := HC1.out.q0
      have q1 := HC1.out.q1
      have q2 := HC1.out.q2
      have q3 := HC1.out.q3
      have q4 := HC1.out.q4
      have z0 := HC1.out.z 0
      have z1 := HC1.out.z 1
      have z2 := HC1.out.z 2
      have z3 := HC1.out.z 3
      have z4 := HC1.out.z 4
      have hlt := HC1.out.lt
      go_wp2
      exact bodyPost_ret (v := .agg #[.int .i64 7, .int .i64 0, .int .i64 1, .string (bstr (l.take 1)), .int .i64 0]) (by simp [results, Tryd.results34, go_sem, q0, q1, q2, q3, q4]) rfl ⟨by rw [symT, ← HN.out, HET.out]; rfl, set5_below HW1.out (Nat.le_refl _) _ _ _ _ _⟩
    | false =>
      have HE : Hid (endsB l = false) := Lib.hid he
      have HET : Hid (endT l = false) := Lib.hid (by rw [endT_ends HN.out.symm hd2, he])
      have hd2' : (bt l 0 == 46) = true := by simpa using hd2
      have HD2 := Lib.hid hd2
      clear hd2
      clear h hc hl hbl hk he
      go_enter Tryd.func34, Tryd.ntmps34
      go_wp2_with fail
      refine (rof_any _ _ r0 r1).mono ?_
      rw [HK.out]
      rintro e w' ⟨rfl, rfl⟩
      go_wp2_with fail
      refine (rtake_any _ _ _ l _ (H.out.below HW0.out)).mono ?_
      rintro e w1 ⟨rfl, hb1⟩
      have HW1 : Hid (Below w.heap.size w w1) := Lib.hid (hb1.below HW0.out)
      have HC1 : Hid (TC w.heap.size w1) := Lib.hid (HC0.out.keep (hb1.below (Below.refl _ _)))
      clear hb1
      have hck2 := HCK.out _ HW1.out
      go_wp2_with fail
      refine (rrun_any _ _ _ l 5 _ (H.out.below HW1.out)).mono ?_
      rw [← HN.out]
      rintro e w' ⟨rfl, rfl⟩
      go_wp2_with fail
      refine (rends_any _ _ _ l _ (H.out.below HW1.out) h0).mono ?_
      rw [HE.out]
      rintro e w' ⟨rfl, rfl⟩
      have kc := ((H.out.below HW1.out).take (k := 1) (c' := cap) (by omega) (by omega) HMC.out).str (P := Tryd.prog) 22 9 5 Tryd.underlying22 Tryd.underlying5 Tryd.underlying9
      have q0 := HC1.out.q0
      have q1 := HC1.out.q1
      have q2 := HC1.out.q2
      have q3 := HC1.out.q3
      have q4 := HC1.out.q4
      have z0 := HC1.out.z 0
      have z1 := HC1.out.z 1
      have z2 := HC1.out.z 2
      have z3 := HC1.out.z 3
      have z4 := HC1.out.z 4
      have hlt := HC1.out.lt
      go_wp2
      exact bodyPost_ret (v := .agg #[.int .i64 2, .int .i64 0, .int .i64 1, .string (bstr (l.take 1)), .int .i64 0]) (by simp [results, Tryd.results34, go_sem, q0, q1, q2, q3, q4]) rfl ⟨by rw [symT, ← HN.out, HET.out]; rfl, set5_below HW1.out (Nat.le_refl _) _ _ _ _ _⟩
  · have HET : Hid (endT l = false) := Lib.hid (endT_no (fun hx => hd ⟨HN.out.trans hx.1, hx.2⟩))
    by_cases hn1 : n = 1
    · have hd2 : (bt l 0 == 46) = false := by simp only [beq_eq_false_iff_ne]; exact fun hx => hd ⟨hn1, hx⟩
      subst hn1
      clear hd
      clear h hc hl hbl hk
      go_enter Tryd.func34, Tryd.ntmps34
      go_wp2_with fail
      refine (rof_any _ _ r0 r1).mono ?_
      rw [HK.out]
      rintro e w' ⟨rfl, rfl⟩
      go_wp2_with fail
      refine (rtake_any _ _ _ l _ (H.out.below HW0.out)).mono ?_
      rintro e w1 ⟨rfl, hb1⟩
      have HW1 : Hid (Below w.heap.size w w1) := Lib.hid (hb1.below HW0.out)
      have HC1 : Hid (TC w.heap.size w1) := Lib.hid (HC0.out.keep (hb1.below (Below.refl _ _)))
      clear hb1
      have hck2 := HCK.out _ HW1.out
      go_wp2_with fail
      refine (rrun_any _ _ _ l 5 _ (H.out.below HW1.out)).mono ?_
      rw [← HN.out]
      rintro e w' ⟨rfl, rfl⟩
      have kc := ((H.out.below HW1.out).take (k := 1) (c' := cap) (by omega) (by omega) HMC.out).str (P := Tryd.prog) 22 9 5 Tryd.underlying22 Tryd.underlying5 Tryd.underlying9
      have q0 := HC1.out.q0
      have q1 := HC1.out.q1
      have q2 := HC1.out.q2
      have q3 := HC1.out.q3
      have q4 := HC1.out.q4
      have z0 := HC1.out.z 0
      have z1 := HC1.out.z 1
      have z2 := HC1.out.z 2
      have z3 := HC1.out.z 3
      have z4 := HC1.out.z 4
      have hlt := HC1.out.lt
      go_wp2
      exact bodyPost_ret (v := .agg #[.int .i64 2, .int .i64 0, .int .i64 1, .string (bstr (l.take 1)), .int .i64 0]) (by simp [results, Tryd.results34, go_sem, q0, q1, q2, q3, q4]) rfl ⟨by rw [symT, ← HN.out, HET.out]; rfl, set5_below HW1.out (Nat.le_refl _) _ _ _ _ _⟩
    · have hnb : ((n : Int) == 1) = false := by simp only [beq_eq_false_iff_ne]; omega
      clear hd hn1
      clear h hc hl hbl hk
      go_enter Tryd.func34, Tryd.ntmps34
      go_wp2_with fail
      refine (rof_any _ _ r0 r1).mono ?_
      rw [HK.out]
      rintro e w' ⟨rfl, rfl⟩
      go_wp2_with fail
      refine (rtake_any _ _ _ l _ (H.out.below HW0.out)).mono ?_
      rintro e w1 ⟨rfl, hb1⟩
      have HW1 : Hid (Below w.heap.size w w1) := Lib.hid (hb1.below HW0.out)
      have HC1 : Hid (TC w.heap.size w1) := Lib.hid (HC0.out.keep (hb1.below (Below.refl _ _)))
      clear hb1
      go_wp2_with fail
      refine (rrun_any _ _ _ l 5 _ (H.out.below HW1.out)).mono ?_
      rw [← HN.out]
      rintro e w' ⟨rfl, rfl⟩
      have kc := ((H.out.below HW1.out).take (k := n) (c' := cap) (by omega) (by omega) HMC.out).str (P := Tryd.prog) 22 9 5 Tryd.underlying22 Tryd.underlying5 Tryd.underlying9
      have q0 := HC1.out.q0
      have q1 := HC1.out.q1
      have q2 := HC1.out.q2
      have q3 := HC1.out.q3
      have q4 := HC1.out.q4
      have z0 := HC1.out.z 0
      have z1 := HC1.out.z 1
      have z2 := HC1.out.z 2
      have z3 := HC1.out.z 3
      have z4 := HC1.out.z 4
      have hlt := HC1.out.lt
      go_wp2
      exact bodyPost_ret (v := .agg #[.int .i64 2, .int .i64 0, .int .i64 n, .string (bstr (l.take n)), .int .i64 0]) (by simp [results, Tryd.results34, go_sem, q0, q1, q2, q3, q4]) rfl ⟨by rw [symT, ← HN.out, HET.out]; rfl, set5_below HW1.out (Nat.le_refl _) _ _ _ _ _⟩

set_option maxHeartbeats 2000000 in
set_option maxRecDepth 100000 in
theorem rfirst4 (a : Option Addr) (len cap : Nat) (l : List Int) (w : World) (h : Bs w a len cap l) (h0 : 0 < len) (hk : cls (bt l 0) = 4) :
    Calls Tryd.prog 34 #[.slice a len cap] w fun r w' => r = .returned (tkv (numT l)) ∧ Below w.heap.size w w' := by
  have hlc := h.lc
  have hcm := h.cm
  have hl := h.hl
  unfold maxLen at hcm
  have HMC := Lib.hid h.cm
  have r0 := (bt_rng h.rng 0).1
  have r1 := (bt_rng h.rng 0).2
  have HW0 := Lib.hid (wTok_below w)
  have HC0 := Lib.hid (wTok_tc w)
  have H := Lib.hid h
  obtain ⟨b, off, rfl, hbl, hc⟩ := h.at_ h0
  have hck : (wTok w).cell? ⟨b, off, none⟩ = some (.int .u8 (bt l 0)) := (HW0.out.cell hbl).trans (hc 0 h0)
  have HK : Hid (cls (bt l 0) = 4) := Lib.hid hk
  have hrn := runL_le 4 l
  have hkc : dkK l ≤ cap := by unfold dkK; omega
  have hkl : dkK l ≤ len := by unfold dkK; omega
  by_cases hz : dkE l = 0
  · have HZ := Lib.hid hz
    clear h hc hl hbl hk hz
    go_enter Tryd.func34, Tryd.ntmps34
    go_wp2_with fail
    refine (rof_any _ _ r0 r1).mono ?_
    rw [HK.out]
    rintro e w' ⟨rfl, rfl⟩
    go_wp2_with fail
    refine (rtake_any _ _ _ l _ (H.out.below HW0.out)).mono ?_
    rintro e w1 ⟨rfl, hb1⟩
    have HW1 : Hid (Below w.heap.size w w1) := Lib.hid (hb1.below HW0.out)
    have HC1 : Hid (TC w.heap.size w1) := Lib.hid (HC0.out.keep (hb1.below (Below.refl _ _)))
    clear hb1
    go_wp2_with fail
    refine (rdtake_any _ _ _ l _ (H.out.below HW1.out)).mono ?_
    unfold dkV
    rw [HZ.out]
    rintro e w' ⟨rfl, rfl⟩
    have kc := ((H.out.below HW1.out).take (k := dkK l) (c' := cap) (by omega) (by omega) HMC.out).str (P := Tryd.prog) 22 9 5 Tryd.underlying22 Tryd.underlying5 Tryd.underlying9
    have q0 := HC1.out.q0
    have q1 := HC1.out.q1
    have q2 := HC1.out.q2
    have q3 := HC1.out.q3
    have q4 := HC1.out.q4
    have z0 := HC1.out.z 0
    have z1 := HC1.out.z 1
    have z2 := HC1.out.z 2
    have z3 := HC1.out.z 3
    have z4 := HC1.out.z 4
    have hlt := HC1.out.lt
    go_wp2
    exact bodyPost_ret (v := .agg #[.int .i64 4, .int .i64 0, .int .i64 (dkK l : Nat), .string (bstr (l.take (dkK l))), .int .i64 0]) (by simp [results, Tryd.results34, go_sem, q0, q1, q2, q3, q4]) rfl ⟨by rw [numT, if_pos HZ.out]; rfl, set5_below HW1.out (Nat.le_refl _) _ _ _ _ _⟩
  · have HZ := Lib.hid hz
    have hzb : (dkE l != 0) = true := by simpa using hz
    clear h hc hl hbl hk hz
    go_enter Tryd.func34, Tryd.ntmps34
    go_wp2_with fail
    refine (rof_any _ _ r0 r1).mono ?_
    rw [HK.out]
    rintro e w' ⟨rfl, rfl⟩
    go_wp2_with fail
    refine (rtake_any _ _ _ l _ (H.out.below HW0.out)).mono ?_
    rintro e w1 ⟨rfl, hb1⟩
    have HW1 : Hid (Below w.heap.size w w1) := Lib.hid (hb1.below HW0.out)
    have HC1 : Hid (TC w.heap.size w1) := Lib.hid (HC0.out.keep (hb1.below (Below.refl _ _)))
    clear hb1
    go_wp2_with fail
    refine (rdtake_any _ _ _ l _ (H.out.below HW1.out)).mono ?_
    unfold dkV
    rintro e w' ⟨rfl, rfl⟩
    have q0 := HC1.out.q0
    have q1 := HC1.out.q1
    have q2 := HC1.out.q2
    have q3 := HC1.out.q3
    have q4 := HC1.out.q4
    have z0 := HC1.out.z 0
    have z1 := HC1.out.z 1
    have z2 := HC1.out.z 2
    have z3 := HC1.out.z 3
    have z4 := HC1.out.z 4
    have hlt := HC1.out.lt
    go_wp2
    exact bodyPost_ret (v := .agg #[.int .i64 8, .int .i64 0, .int .i64 (dkK l : Nat), .string ⟨#[]⟩, .int .i64 (dkE l)]) (by simp [results, Tryd.results34, go_sem, q0, q1, q2, q3, q4]) rfl ⟨by rw [numT, if_neg HZ.out]; rfl, set5_below HW1.out (Nat.le_refl _) _ _ _ _ _⟩

set_option maxHeartbeats 2000000 in
set_option maxRecDepth 100000 in
theorem rfirst7 (a : Option Addr) (len cap : Nat) (l : List Int) (w : World) (h : Bs w a len cap l) (h0 : 0 < len) (hsz : len ≤ 1000000) (hk : cls (bt l 0) = 7) :
    Calls Tryd.prog 34 #[.slice a len cap] w fun r w' => r = .returned (tkv (quoT l)) ∧ Below w.heap.size w w' := by
  have hlc := h.lc
  have hcm := h.cm
  have hl := h.hl
  unfold maxLen at hcm
  have HMC := Lib.hid h.cm
  have r0 := (bt_rng h.rng 0).1
  have r1 := (bt_rng h.rng 0).2
  have HW0 := Lib.hid (wTok_below w)
  have HC0 := Lib.hid (wTok_tc w)
  have H := Lib.hid h
  obtain ⟨b, off, rfl, hbl, hc⟩ := h.at_ h0
  have hck : (wTok w).cell? ⟨b, off, none⟩ = some (.int .u8 (bt l 0)) := (HW0.out.cell hbl).trans (hc 0 h0)
  have HK : Hid (cls (bt l 0) = 7) := Lib.hid hk
  by_cases hz : (tk l).e = 0
  · have HZ := Lib.hid hz
    clear h hc hl hbl hk hz
    go_enter Tryd.func34, Tryd.ntmps34
    go_wp2_with fail
    refine (rof_any _ _ r0 r1).mono ?_
    rw [HK.out]
    rintro e w' ⟨rfl, rfl⟩
    go_wp2_with fail
    refine (rtake_any _ _ _ l _ (H.out.below HW0.out)).mono ?_
    rintro e w1 ⟨rfl, hb1⟩
    have HW1 : Hid (Below w.heap.size w w1) := Lib.hid (hb1.below HW0.out)
    have HC1 : Hid (TC w.heap.size w1) := Lib.hid (HC0.out.keep (hb1.below (Below.refl _ _)))
    clear hb1
    go_wp2_with fail
    refine (rqtake_any _ _ _ l _ (H.out.below HW1.out) hsz).mono ?_
    rw [HZ.out]
    rintro e w2 ⟨a', c', rfl, ho2, hb2⟩
    have HW2 : Hid (Below w.heap.size w w2) := Lib.hid (HW1.out.trans (hb2.mono HW1.out.size))
    have HC2 : Hid (TC w.heap.size w2) := Lib.hid (HC1.out.keep hb2)
    clear hb2
    have kc := ho2.bs.str (P := Tryd.prog) 22 9 5 Tryd.underlying22 Tryd.underlying5 Tryd.underlying9
    clear ho2
    have q0 := HC2.out.q0
    have q1 := HC2.out.q1
    have q2 := HC2.out.q2
    have q3 := HC2.out.q3
    have q4 := HC2.out.q4
    have z0 := HC2.out.z 0
    have z1 := HC2.out.z 1
    have z2 := HC2.out.z 2
    have z3 := HC2.out.z 3
    have z4 := HC2.out.z 4
    have hlt := HC2.out.lt
    go_wp2
    exact bodyPost_ret (v := .agg #[.int .i64 5, .int .i64 0, .int .i64 ((tk l).n : Nat), .string (bstr (tk l).t), .int .i64 0]) (by simp [results, Tryd.results34, go_sem, q0, q1, q2, q3, q4]) rfl ⟨by rw [quoT, if_pos HZ.out]; rfl, set5_below HW2.out (Nat.le_refl _) _ _ _ _ _⟩
  · have HZ := Lib.hid hz
    have hzb : ((tk l).e != 0) = true := by simpa using hz
    clear h hc hl hbl hk hz
    go_enter Tryd.func34, Tryd.ntmps34
    go_wp2_with fail
    refine (rof_any _ _ r0 r1).mono ?_
    rw [HK.out]
    rintro e w' ⟨rfl, rfl⟩
    go_wp2_with fail
    refine (rtake_any _ _ _ l _ (H.out.below HW0.out)).mono ?_
    rintro e w1 ⟨rfl, hb1⟩
    have HW1 : Hid (Below w.heap.size w w1) := Lib.hid (hb1.below HW0.out)
    have HC1 : Hid (TC w.heap.size w1) := Lib.hid (HC0.out.keep (hb1.below (Below.refl _ _)))
    clear hb1
    go_wp2_with fail
    refine (rqtake_any _ _ _ l _ (H.out.below HW1.out) hsz).mono ?_
    rintro e w2 ⟨a', c', rfl, ho2, hb2⟩
    have HW2 : Hid (Below w.heap.size w w2) := Lib.hid (HW1.out.trans (hb2.mono HW1.out.size))
    have HC2 : Hid (TC w.heap.size w2) := Lib.hid (HC1.out.keep hb2)
    clear hb2
    clear ho2
    have q0 := HC2.out.q0
    have q1 := HC2.out.q1
    have q2 := HC2.out.q2
    have q3 := HC2.out.q3
    have q4 := HC2.out.q4
    have z0 := HC2.out.z 0
    have z1 := HC2.out.z 1
    have z2 := HC2.out.z 2
    have z3 := HC2.out.z 3
    have z4 := HC2.out.z 4
    have hlt := HC2.out.lt
    go_wp2
    exact bodyPost_ret (v := .agg #[.int .i64 8, .int .i64 0, .int .i64 ((tk l).n : Nat), .string ⟨#[]⟩, .int .i64 (tk l).e]) (by simp [results, Tryd.results34, go_sem, q0, q1, q2, q3, q4]) rfl ⟨by rw [quoT, if_neg HZ.out]; rfl, set5_below HW2.out (Nat.le_refl _) _ _ _ _ _⟩

set_option maxHeartbeats 2000000 in
set_option maxRecDepth 100000 in
theorem rfirst6 (a : Option Addr) (len cap : Nat) (l : List Int) (w : World) (h : Bs w a len cap l) (h0 : 0 < len) (hk : cls (bt l 0) = 6) :
    Calls Tryd.prog 34 #[.slice a len cap] w fun r w' => r = .returned (tkv (⟨6, 1, l.take 1, 0⟩)) ∧ Below w.heap.size w w' := by
  have hlc := h.lc
  have hcm := h.cm
  have hl := h.hl
  unfold maxLen at hcm
  have HMC := Lib.hid h.cm
  have r0 := (bt_rng h.rng 0).1
  have r1 := (bt_rng h.rng 0).2
  have HW0 := Lib.hid (wTok_below w)
  have HC0 := Lib.hid (wTok_tc w)
  have H := Lib.hid h
  obtain ⟨b, off, rfl, hbl, hc⟩ := h.at_ h0
  have hck : (wTok w).cell? ⟨b, off, none⟩ = some (.int .u8 (bt l 0)) := (HW0.out.cell hbl).trans (hc 0 h0)
  have HK : Hid (cls (bt l 0) = 6) := Lib.hid hk
  have hc1 : 1 ≤ cap := by omega
  clear h hc hl hbl hk
  go_enter Tryd.func34, Tryd.ntmps34
  go_wp2_with fail
  refine (rof_any _ _ r0 r1).mono ?_
  rw [HK.out]
  rintro e w' ⟨rfl, rfl⟩
  go_wp2_with fail
  refine (rtake_any _ _ _ l _ (H.out.below HW0.out)).mono ?_
  rintro e w1 ⟨rfl, hb1⟩
  have HW1 : Hid (Below w.heap.size w w1) := Lib.hid (hb1.below HW0.out)
  have HC1 : Hid (TC w.heap.size w1) := Lib.hid (HC0.out.keep (hb1.below (Below.refl _ _)))
  clear hb1
  have kc := ((H.out.below HW1.out).take (k := 1) (c' := cap) (by omega) (by omega) HMC.out).str (P := Tryd.prog) 22 9 5 Tryd.underlying22 Tryd.underlying5 Tryd.underlying9
  have q0 := HC1.out.q0
  have q1 := HC1.out.q1
  have q2 := HC1.out.q2
  have q3 := HC1.out.q3
  have q4 := HC1.out.q4
  have z0 := HC1.out.z 0
  have z1 := HC1.out.z 1
  have z2 := HC1.out.z 2
  have z3 := HC1.out.z 3
  have z4 := HC1.out.z 4
  have hlt := HC1.out.lt
  go_wp2
  exact bodyPost_ret (v := .agg #[.int .i64 6, .int .i64 0, .int .i64 1, .string (bstr (l.take 1)), .int .i64 0]) (by simp [results, Tryd.results34, go_sem, q0, q1, q2, q3, q4]) rfl ⟨rfl, set5_below HW1.out (Nat.le_refl _) _ _ _ _ _⟩

set_option maxHeartbeats 2000000 in
set_option maxRecDepth 100000 in
theorem rfirst0 (a : Option Addr) (len cap : Nat) (l : List Int) (w : World) (h : Bs w a len cap l) (h0 : 0 < len) (hk : cls (bt l 0) = 0 ∨ cls (bt l 0) = 1 ∨ cls (bt l 0) = 8) :
    Calls Tryd.prog 34 #[.slice a len cap] w fun r w' => r = .returned (tkv (⟨8, 1, [], 11⟩)) ∧ Below w.heap.size w w' := by
  rcases hk with hk | hk | hk
  · have hlc := h.lc
    have hcm := h.cm
    have hl := h.hl
    unfold maxLen at hcm
    have HMC := Lib.hid h.cm
    have r0 := (bt_rng h.rng 0).1
    have r1 := (bt_rng h.rng 0).2
    have HW0 := Lib.hid (wTok_below w)
    have HC0 := Lib.hid (wTok_tc w)
    have H := Lib.hid h
    obtain ⟨b, off, rfl, hbl, hc⟩ := h.at_ h0
    have hck : (wTok w).cell? ⟨b, off, none⟩ = some (.int .u8 (bt l 0)) := (HW0.out.cell hbl).trans (hc 0 h0)
    have HK : Hid (cls (bt l 0) = 0) := Lib.hid hk
    clear h hc hl hbl hk
    go_enter Tryd.func34, Tryd.ntmps34
    go_wp2_with fail
    refine (rof_any _ _ r0 r1).mono ?_
    rw [HK.out]
    rintro e w' ⟨rfl, rfl⟩
    go_wp2_with fail
    refine (rtake_any _ _ _ l _ (H.out.below HW0.out)).mono ?_
    rintro e w1 ⟨rfl, hb1⟩
    have HW1 : Hid (Below w.heap.size w w1) := Lib.hid (hb1.below HW0.out)
    have HC1 : Hid (TC w.heap.size w1) := Lib.hid (HC0.out.keep (hb1.below (Below.refl _ _)))
    clear hb1
    have q0 := HC1.out.q0
    have q1 := HC1.out.q1
    have q2 := HC1.out.q2
    have q3 := HC1.out.q3
    have q4 := HC1.out.q4
    have z0 := HC1.out.z 0
    have z1 := HC1.out.z 1
    have z2 := HC1.out.z 2
    have z3 := HC1.out.z 3
    have z4 := HC1.out.z 4
    have hlt := HC1.out.lt
    go_wp2
    exact bodyPost_ret (v := .agg #[.int .i64 8, .int .i64 0, .int .i64 1, .string ⟨#[]⟩, .int .i64 11]) (by simp [results, Tryd.results34, go_sem, q0, q1, q2, q3, q4]) rfl ⟨rfl, set5_below HW1.out (Nat.le_refl _) _ _ _ _ _⟩
  · have hlc := h.lc
    have hcm := h.cm
    have hl := h.hl
    unfold maxLen at hcm
    have HMC := Lib.hid h.cm
    have r0 := (bt_rng h.rng 0).1
    have r1 := (bt_rng h.rng 0).2
    have HW0 := Lib.hid (wTok_below w)
    have HC0 := Lib.hid (wTok_tc w)
    have H := Lib.hid h
    obtain ⟨b, off, rfl, hbl, hc⟩ := h.at_ h0
    have hck : (wTok w).cell? ⟨b, off, none⟩ = some (.int .u8 (bt l 0)) := (HW0.out.cell hbl).trans (hc 0 h0)
    have HK : Hid (cls (bt l 0) = 1) := Lib.hid hk
    clear h hc hl hbl hk
    go_enter Tryd.func34, Tryd.ntmps34
    go_wp2_with fail
    refine (rof_any _ _ r0 r1).mono ?_
    rw [HK.out]
    rintro e w' ⟨rfl, rfl⟩
    go_wp2_with fail
    refine (rtake_any _ _ _ l _ (H.out.below HW0.out)).mono ?_
    rintro e w1 ⟨rfl, hb1⟩
    have HW1 : Hid (Below w.heap.size w w1) := Lib.hid (hb1.below HW0.out)
    have HC1 : Hid (TC w.heap.size w1) := Lib.hid (HC0.out.keep (hb1.below (Below.refl _ _)))
    clear hb1
    have q0 := HC1.out.q0
    have q1 := HC1.out.q1
    have q2 := HC1.out.q2
    have q3 := HC1.out.q3
    have q4 := HC1.out.q4
    have z0 := HC1.out.z 0
    have z1 := HC1.out.z 1
    have z2 := HC1.out.z 2
    have z3 := HC1.out.z 3
    have z4 := HC1.out.z 4
    have hlt := HC1.out.lt
    go_wp2
    exact bodyPost_ret (v := .agg #[.int .i64 8, .int .i64 0, .int .i64 1, .string ⟨#[]⟩, .int .i64 11]) (by simp [results, Tryd.results34, go_sem, q0, q1, q2, q3, q4]) rfl ⟨rfl, set5_below HW1.out (Nat.le_refl _) _ _ _ _ _⟩
  · have hlc := h.lc
    have hcm := h.cm
    have hl := h.hl
    unfold maxLen at hcm
    have HMC := Lib.hid h.cm
    have r0 := (bt_rng h.rng 0).1
    have r1 := (bt_rng h.rng 0).2
    have HW0 := Lib.hid (wTok_below w)
    have HC0 := Lib.hid (wTok_tc w)
    have H := Lib.hid h
    obtain ⟨b, off, rfl, hbl, hc⟩ := h.at_ h0
    have hck : (wTok w).cell? ⟨b, off, none⟩ = some (.int .u8 (bt l 0)) := (HW0.out.cell hbl).trans (hc 0 h0)
    have HK : Hid (cls (bt l 0) = 8) := Lib.hid hk
    clear h hc hl hbl hk
    go_enter Tryd.func34, Tryd.ntmps34
    go_wp2_with fail
    refine (rof_any _ _ r0 r1).mono ?_
    rw [HK.out]
    rintro e w' ⟨rfl, rfl⟩
    go_wp2_with fail
    refine (rtake_any _ _ _ l _ (H.out.below HW0.out)).mono ?_
    rintro e w1 ⟨rfl, hb1⟩
    have HW1 : Hid (Below w.heap.size w w1) := Lib.hid (hb1.below HW0.out)
    have HC1 : Hid (TC w.heap.size w1) := Lib.hid (HC0.out.keep (hb1.below (Below.refl _ _)))
    clear hb1
    have q0 := HC1.out.q0
    have q1 := HC1.out.q1
    have q2 := HC1.out.q2
    have q3 := HC1.out.q3
    have q4 := HC1.out.q4
    have z0 := HC1.out.z 0
    have z1 := HC1.out.z 1
    have z2 := HC1.out.z 2
    have z3 := HC1.out.z 3
    have z4 := HC1.out.z 4
    have hlt := HC1.out.lt
    go_wp2
    exact bodyPost_ret (v := .agg #[.int .i64 8, .int .i64 0, .int .i64 1, .string ⟨#[]⟩, .int .i64 11]) (by simp [results, Tryd.results34, go_sem, q0, q1, q2, q3, q4]) rfl ⟨rfl, set5_below HW1.out (Nat.le_refl _) _ _ _ _ _⟩

theorem rfirst_any (a : Option Addr) (len cap : Nat) (l : List Int) (w : World) (h : Bs w a len cap l) (h0 : 0 < len) (hsz : len ≤ 1000000) :
    Calls Tryd.prog 34 #[.slice a len cap] w fun r w' => r = .returned (tkv (firstT l)) ∧ Below w.heap.size w w' := by
  have hr := cls_rng (bt_rng h.rng 0).1 (bt_rng h.rng 0).2
  obtain hk | hk | hk | hk | hk | hk | hk | hk : cls (bt l 0) = 2 ∨ cls (bt l 0) = 3 ∨ cls (bt l 0) = 9 ∨ cls (bt l 0) = 5 ∨ cls (bt l 0) = 4 ∨ cls (bt l 0) = 7 ∨ cls (bt l 0) = 6 ∨ (cls (bt l 0) = 0 ∨ cls (bt l 0) = 1 ∨ cls (bt l 0) = 8) := by omega
  · rw [firstT2 hk]; exact rfirst2 a len cap l w h h0 hk
  · rw [firstT3 hk]; exact rfirst3 a len cap l w h h0 hk
  · rw [firstT9 hk]; exact rfirst9 a len cap l w h h0 hk
  · rw [firstT5 hk]; exact rfirst5 a len cap l w h h0 hk
  · rw [firstT4 hk]; exact rfirst4 a len cap l w h h0 hk
  · rw [firstT7 hk]; exact rfirst7 a len cap l w h h0 hsz hk
  · rw [firstT6 hk]; exact rfirst6 a len cap l w h h0 hk
  · rw [firstT0 hk]; exact rfirst0 a len cap l w h h0 hk

end Go.Proofs.YtecabgmkoknbgaaDoor
