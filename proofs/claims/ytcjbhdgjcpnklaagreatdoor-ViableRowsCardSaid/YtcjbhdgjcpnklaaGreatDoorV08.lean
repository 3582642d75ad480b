import Derived.Test.YtcjbhdgjcpnklaaGreatDoorV22
import Derived.Test.YtcjbhdgjcpnklaaGreatDoorV01
import Derived.Test.YtcjbhdgjcpnklaaGreatDoorV03
import Derived.Test.YtcjbhdgjcpnklaaGreatDoorV04
import Derived.Test.YtcjbhdgjcpnklaaGreatDoorV05
import Derived.Test.YtcjbhdgjcpnklaaGreatDoorV06
namespace Go.Proofs.YtcjbhdgjcpnklaaGreatDoor
section
open Go.RowKit
theorem zC9 (a : Option Addr) (len cap : Nat) (l : List Int) (w : World) (h : Bs w a len cap l) :
  Calls Tryz.prog 205 #[.slice a len cap] w fun e w' => e = .returned (.int .i64 (nmL l)) ∧ Dr w w' := by
 have hm := h.cm
 have hlc := h.lc
 unfold maxLen at hm
 have H := hid h
 clear h
 go_enter Tryz.func205, Tryz.ntmps205
 go_wp2
 go_loopw [3] (fun i wr => ∃ k : Nat, i = .int .i64 k ∧ k ≤ len ∧ Hid (k + nmL (l.drop k) = nmL l) ∧ Hid (Dr w wr)) (fun i _ => len - (intOf i).toNat)
 case atStart => exact ⟨0, rfl, by omega, hid (by simp), hid (Dr.refl _)⟩
 case round =>
  obtain ⟨k, rfl, hk, HM, HB⟩ := hrel
  have HBB : Hid (Below w.heap.size w wr) := hid (HB.out.below (Below.refl _ _))
  by_cases hlt : k < len
  ·have hb := H.out.below HBB.out
   have hkc : k < cap := by omega
   have h0 := (zAI hb.rng k).1
   have h1 := (zAI hb.rng k).2
   obtain ⟨b, off, rfl, _, hc⟩ := hb.at_ (by omega)
   have hck := hc k hlt
   have HD := hid (hb.drop (k := k) (by omega))
   have hne : l.drop k ≠ [] := fun hn => by have := congrArg List.length hn; rw [List.length_drop, hb.hl] at this; simp at this; omega
   have hbt : bt (l.drop k) 0 = bt l k := by rw [zAB, Nat.add_zero]
   have HRD := hid HD.out.rng
   have hll := hb.hl
   have htle := zCK (l.drop k)
   rw [List.length_drop, hll] at htle
   have htp := zAy hne
   have HST : Hid (nmB (l.drop k) = true → (k + takeN (l.drop k)) + nmL (l.drop (k + takeN (l.drop k))) = nmL l) := hid (fun hy => by rw [← HM.out, zGx hy, List.drop_drop]; omega)
   have HNO : Hid (nmB (l.drop k) = false → nmL l = k) := hid (fun hn => by rw [← HM.out, zF8 hn]; rfl)
   have HNE := hid hne
   have HBT := hid hbt
   clear hb hc hll hne hbt
   cases hnb : nameB (bt l k) with
   | true =>
    have h1t := (zCP HNE.out HRD.out (by rw [HBT.out]; exact hnb)).2
    have HF : Hid ((k + 1) + nmL (l.drop (k + 1)) = nmL l) := hid (by have := HST.out (zCP HNE.out HRD.out (by rw [HBT.out]; exact hnb)).1; rwa [h1t] at this)
    have HNB := hid hnb
    clear hnb h1t htle htp
    go_wp2_with (first | (go_at_call 213; refine (zCe _ _ h0 h1).mono ?_; rw [HNB.out]; rintro e w' ⟨rfl, rfl⟩))
    go_roundw
    case rel => exact ⟨k + 1, by go_num, by omega, HF, HB⟩
    case measure => simp [intOf]; omega
   | false =>
    have HNB := hid hnb
    clear hnb
    cases ho : okSeq (l.drop k) with
    | false =>
     have HF : Hid (nmL l = k) := hid (HNO.out (zG0 ho))
     go_wp2_with (first | (go_at_call 213; refine (zCe _ _ h0 h1).mono ?_; rw [HNB.out]; rintro e w' ⟨rfl, rfl⟩) | (go_at_call 204; refine (zAM _ _ _ _ _ HD.out).mono ?_; rw [ho]; rintro e w' ⟨rfl, hd⟩; have HDR := hid (HB.out.trans hd); clear hd))
     go_ret
     exact ⟨by rw [HF.out]; rfl, HDR.out⟩
    | true =>
     have HO := hid ho
     clear ho
     by_cases h1t : takeN (l.drop k) = 1
     ·have HF : Hid (nmL l = k) := hid (HNO.out (zJm h1t (by rw [HBT.out]; exact HNB.out)))
      have H1T := hid h1t
      clear h1t htle htp
      go_wp2_with (first | (go_at_call 213; refine (zCe _ _ h0 h1).mono ?_; rw [HNB.out]; rintro e w' ⟨rfl, rfl⟩) | (go_at_call 204; refine (zAM _ _ _ _ _ HD.out).mono ?_; rw [HO.out, H1T.out]; rintro e w' ⟨rfl, hd⟩; have HDR := hid (HB.out.trans hd); clear hd))
      go_ret
      exact ⟨by rw [HF.out]; rfl, HDR.out⟩
     ·have HF : Hid ((k + takeN (l.drop k)) + nmL (l.drop (k + takeN (l.drop k))) = nmL l) := hid (HST.out (zFG HO.out h1t))
      have h4 := zDk (l.drop k)
      obtain ⟨m, hmm⟩ : ∃ m, m = takeN (l.drop k) := ⟨_, rfl⟩
      rw [← hmm] at HF h1t h4 htle htp
      have HMM := hid hmm
      clear hmm
      have hm1 : ((m : Int) == 1) = false := by simp; omega
      go_wp2_with (first | (go_at_call 213; refine (zCe _ _ h0 h1).mono ?_; rw [HNB.out]; rintro e w' ⟨rfl, rfl⟩) | (go_at_call 204; refine (zAM _ _ _ _ _ HD.out).mono ?_; rw [HO.out, ← HMM.out]; rintro e w' ⟨rfl, hd⟩; have HDR := hid (HB.out.trans hd); clear hd))
      go_roundw
      case rel => exact ⟨k + m, by go_num, by omega, HF, HDR⟩
      case measure => simp [intOf]; omega
  ·have HF : Hid (nmL l = k) := hid (by rw [← HM.out, List.drop_eq_nil_iff.2 (by have := H.out.hl; omega), zF8 zDt]; rfl)
   go_wp2
   go_ret
   exact ⟨by rw [HF.out]; rfl, HB.out⟩
def endsB (l : List Int) : Bool := decide (l.length = 1) || (decide (cls (bt l 1) = 1) || decide (cls (bt l 1) = 8))
theorem zGB (a : Option Addr) (len cap : Nat) (l : List Int) (w : World) (h : Bs w a len cap l) (h0 : 0 < len) :
  Calls Tryz.prog 207 #[.slice a len cap] w fun e w' => e = .returned (.bool (endsB l)) ∧ w = w' := by
 have hm := h.cm
 have hlc := h.lc
 unfold maxLen at hm
 have hl := h.hl
 by_cases h1 : len = 1
 ·have HF : Hid (endsB l = true) := hid (by unfold endsB; rw [decide_eq_true (by omega)]; rfl)
  subst h1
  clear h hl
  go_enter Tryz.func207, Tryz.ntmps207
  go_wp2
  go_ret
  exact ⟨by rw [HF.out]; rfl, rfl⟩
 ·have r0 := (zAI h.rng 1).1
  have r1 := (zAI h.rng 1).2
  have h2 : 1 < len := by omega
  obtain ⟨b, off, rfl, _, hc⟩ := h.at_ h0
  have hck := hc 1 h2
  have HF : Hid (endsB l = (decide (cls (bt l 1) = 1) || decide (cls (bt l 1) = 8))) := hid (by unfold endsB; rw [decide_eq_false (by omega)]; rfl)
  have hm1 : ((len : Int) == 1) = false := by simp; omega
  clear h hc hl
  by_cases e1 : cls (bt l 1) = 1
  ·have HF : Hid (endsB l = true) := hid (by rw [HF.out, e1]; rfl)
   have HE := hid e1
   clear e1
   go_enter Tryz.func207, Tryz.ntmps207
   go_wp2_with (first | (go_at_call 201; refine (zAQ _ _ r0 r1).mono ?_; rw [HE.out]; rintro e w' ⟨rfl, rfl⟩))
   go_ret
   exact ⟨by rw [HF.out]; rfl, rfl⟩
  ·obtain ⟨c, hcc⟩ : ∃ c, c = cls (bt l 1) := ⟨_, rfl⟩
   rw [← hcc] at e1 HF
   rw [decide_eq_false e1, Bool.false_or] at HF
   have e1' : (c == 1) = false := by simpa using e1
   have HE := hid hcc
   clear hcc
   go_enter Tryz.func207, Tryz.ntmps207
   go_wp2_with (first | (go_at_call 201; refine (zAQ _ _ r0 r1).mono ?_; rw [← HE.out]; rintro e w' ⟨rfl, rfl⟩))
   go_ret
   exact ⟨by rw [HF.out]; rfl, rfl⟩
end
section
open Go.RowKit
theorem zL2 {l : List Int} (h : 128 ≤ bt l 0) (ho : okSeq l = true) : 1 < takeN l := by
 rw [zLt ho]
 have := (zDj ho).1
 unfold lenOf at this ⊢
 repeat' split
 all_goals first | omega | (simp_all; omega) | simp_all
set_option maxHeartbeats 2000000 in
set_option maxRecDepth 100000 in
theorem rfirst2 (a : Option Addr) (len cap : Nat) (l : List Int) (w : World) (h : Bs w a len cap l) (h0 : 0 < len) (hk : cls (bt l 0) = 2) :
  Calls Tryz.prog 198 #[.slice a len cap] w fun r w' => r = .returned (tkv (nameT 1 l)) ∧ Below w.heap.size w w' := by
 have hlc := h.lc
 have hcm := h.cm
 have hl := h.hl
 unfold maxLen at hcm
 have HMC := hid h.cm
 have r0 := (zAI h.rng 0).1
 have r1 := (zAI h.rng 0).2
 have HW0 := hid (zAE w)
 have HC0 := hid (zAR w)
 have H := hid h
 obtain ⟨b, off, rfl, hbl, hc⟩ := h.at_ h0
 have hck : (wTok w).cell? ⟨b, off, none⟩ = some (.int .u8 (bt l 0)) := (HW0.out.cell hbl).trans (hc 0 h0)
 have HK : Hid (cls (bt l 0) = 2) := hid hk
 obtain ⟨n, hn⟩ : ∃ n, n = nmL l := ⟨_, rfl⟩
 have hnl := zEo l
 rw [← hn, hl] at hnl
 have hnc : n ≤ cap := by omega
 have HN := hid hn
 clear hn
 clear h hc hl hbl hk
 go_enter Tryz.func198, Tryz.ntmps198
 go_wp2_with fail
 refine (zAQ _ _ r0 r1).mono ?_
 rw [HK.out]
 rintro e w' ⟨rfl, rfl⟩
 go_wp2_with fail
 refine (zAM _ _ _ l _ (H.out.below HW0.out)).mono ?_
 rintro e w1 ⟨rfl, hb1⟩
 have HW1 : Hid (Below w.heap.size w w1) := hid (hb1.below HW0.out)
 have HC1 : Hid (TC w.heap.size w1) := hid (HC0.out.keep (hb1.below (Below.refl _ _)))
 clear hb1
 go_wp2_with fail
 refine (zC9 _ _ _ l _ (H.out.below HW1.out)).mono ?_
 rw [← HN.out]
 rintro e w2 ⟨rfl, hb2⟩
 have HW2 : Hid (Below w.heap.size w w2) := hid (hb2.below HW1.out)
 have HC2 : Hid (TC w.heap.size w2) := hid (HC1.out.keep (hb2.below (Below.refl _ _)))
 clear hb2
 have kc := ((H.out.below HW2.out).take (k := n) (c' := cap) (by omega) (by omega) HMC.out).str (P := Tryz.prog) 59 9 5 Tryz.underlying59 Tryz.underlying5 Tryz.underlying9
 have q0 := HC2.out.q0
 have q1 := HC2.out.q1
 have q2 := HC2.out.q2
 have q3 := HC2.out.q3
 have q4 := HC2.out.q4
 have z0 := HC2.out.z 0
 have z1 := HC2.out.z 1
 have z2 := HC2.out.z 2
 have z3 := HC2.out.z 3
 have z4 := HC2.out.z 4
 have hlt := HC2.out.lt
 go_wp2
 exact bodyPost_ret (v := .agg #[.int .i64 1, .int .i64 0, .int .i64 n, .string (bstr (l.take n)), .int .i64 0]) (by simp [results, Tryz.results198, go_sem, q0, q1, q2, q3, q4]) rfl ⟨by rw [nameT, ← HN.out]; rfl, zAC HW2.out (Nat.le_refl _) _ _ _ _ _⟩
set_option maxHeartbeats 2000000 in
set_option maxRecDepth 100000 in
theorem rfirst3 (a : Option Addr) (len cap : Nat) (l : List Int) (w : World) (h : Bs w a len cap l) (h0 : 0 < len) (hk : cls (bt l 0) = 3) :
  Calls Tryz.prog 198 #[.slice a len cap] w fun r w' => r = .returned (tkv (nameT 3 l)) ∧ Below w.heap.size w w' := by
 have hlc := h.lc
 have hcm := h.cm
 have hl := h.hl
 unfold maxLen at hcm
 have HMC := hid h.cm
 have r0 := (zAI h.rng 0).1
 have r1 := (zAI h.rng 0).2
 have HW0 := hid (zAE w)
 have HC0 := hid (zAR w)
 have H := hid h
 obtain ⟨b, off, rfl, hbl, hc⟩ := h.at_ h0
 have hck : (wTok w).cell? ⟨b, off, none⟩ = some (.int .u8 (bt l 0)) := (HW0.out.cell hbl).trans (hc 0 h0)
 have HK : Hid (cls (bt l 0) = 3) := hid hk
 obtain ⟨n, hn⟩ : ∃ n, n = nmL l := ⟨_, rfl⟩
 have hnl := zEo l
 rw [← hn, hl] at hnl
 have hnc : n ≤ cap := by omega
 have HN := hid hn
 clear hn
 clear h hc hl hbl hk
 go_enter Tryz.func198, Tryz.ntmps198
 go_wp2_with fail
 refine (zAQ _ _ r0 r1).mono ?_
 rw [HK.out]
 rintro e w' ⟨rfl, rfl⟩
 go_wp2_with fail
 refine (zAM _ _ _ l _ (H.out.below HW0.out)).mono ?_
 rintro e w1 ⟨rfl, hb1⟩
 have HW1 : Hid (Below w.heap.size w w1) := hid (hb1.below HW0.out)
 have HC1 : Hid (TC w.heap.size w1) := hid (HC0.out.keep (hb1.below (Below.refl _ _)))
 clear hb1
 go_wp2_with fail
 refine (zC9 _ _ _ l _ (H.out.below HW1.out)).mono ?_
 rw [← HN.out]
 rintro e w2 ⟨rfl, hb2⟩
 have HW2 : Hid (Below w.heap.size w w2) := hid (hb2.below HW1.out)
 have HC2 : Hid (TC w.heap.size w2) := hid (HC1.out.keep (hb2.below (Below.refl _ _)))
 clear hb2
 have kc := ((H.out.below HW2.out).take (k := n) (c' := cap) (by omega) (by omega) HMC.out).str (P := Tryz.prog) 59 9 5 Tryz.underlying59 Tryz.underlying5 Tryz.underlying9
 have q0 := HC2.out.q0
 have q1 := HC2.out.q1
 have q2 := HC2.out.q2
 have q3 := HC2.out.q3
 have q4 := HC2.out.q4
 have z0 := HC2.out.z 0
 have z1 := HC2.out.z 1
 have z2 := HC2.out.z 2
 have z3 := HC2.out.z 3
 have z4 := HC2.out.z 4
 have hlt := HC2.out.lt
 go_wp2
 exact bodyPost_ret (v := .agg #[.int .i64 3, .int .i64 0, .int .i64 n, .string (bstr (l.take n)), .int .i64 0]) (by simp [results, Tryz.results198, go_sem, q0, q1, q2, q3, q4]) rfl ⟨by rw [nameT, ← HN.out]; rfl, zAC HW2.out (Nat.le_refl _) _ _ _ _ _⟩
set_option maxHeartbeats 2000000 in
set_option maxRecDepth 100000 in
theorem rfirst9 (a : Option Addr) (len cap : Nat) (l : List Int) (w : World) (h : Bs w a len cap l) (h0 : 0 < len) (hk : cls (bt l 0) = 9) :
  Calls Tryz.prog 198 #[.slice a len cap] w fun r w' => r = .returned (tkv (highT l)) ∧ Below w.heap.size w w' := by
 have hlc := h.lc
 have hcm := h.cm
 have hl := h.hl
 unfold maxLen at hcm
 have HMC := hid h.cm
 have r0 := (zAI h.rng 0).1
 have r1 := (zAI h.rng 0).2
 have HW0 := hid (zAE w)
 have HC0 := hid (zAR w)
 have H := hid h
 obtain ⟨b, off, rfl, hbl, hc⟩ := h.at_ h0
 have hck : (wTok w).cell? ⟨b, off, none⟩ = some (.int .u8 (bt l 0)) := (HW0.out.cell hbl).trans (hc 0 h0)
 have HK : Hid (cls (bt l 0) = 9) := hid hk
 have hhi := zLv r0 r1 hk
 cases hok : okSeq l with
 | true =>
  have h2 := zL2 hhi hok
  have HO := hid hok
  have HP : Hid (nmL l ≠ 0) := hid (by have := zFE (zFG hok (by omega)); omega)
  obtain ⟨m, hm⟩ : ∃ m, m = takeN l := ⟨_, rfl⟩
  rw [← hm] at h2
  have hm4 := zDk l
  rw [← hm] at hm4
  have HM := hid hm
  clear hm
  obtain ⟨n, hn⟩ : ∃ n, n = nmL l := ⟨_, rfl⟩
  have hnl := zEo l
  rw [← hn, hl] at hnl
  have hnc : n ≤ cap := by omega
  have HN := hid hn
  clear hn
  clear h hc hl hbl hk hok hhi
  go_enter Tryz.func198, Tryz.ntmps198
  go_wp2_with fail
  refine (zAQ _ _ r0 r1).mono ?_
  rw [HK.out]
  rintro e w' ⟨rfl, rfl⟩
  go_wp2_with fail
  refine (zAM _ _ _ l _ (H.out.below HW0.out)).mono ?_
  rw [HO.out, ← HM.out]
  rintro e w1 ⟨rfl, hb1⟩
  have HW1 : Hid (Below w.heap.size w w1) := hid (hb1.below HW0.out)
  have HC1 : Hid (TC w.heap.size w1) := hid (HC0.out.keep (hb1.below (Below.refl _ _)))
  clear hb1
  go_wp2_with fail
  refine (zC9 _ _ _ l _ (H.out.below HW1.out)).mono ?_
  rw [← HN.out]
  rintro e w2 ⟨rfl, hb2⟩
  have HW2 : Hid (Below w.heap.size w w2) := hid (hb2.below HW1.out)
  have HC2 : Hid (TC w.heap.size w2) := hid (HC1.out.keep (hb2.below (Below.refl _ _)))
  clear hb2
  have kc := ((H.out.below HW2.out).take (k := n) (c' := cap) (by omega) (by omega) HMC.out).str (P := Tryz.prog) 59 9 5 Tryz.underlying59 Tryz.underlying5 Tryz.underlying9
  have q0 := HC2.out.q0
  have q1 := HC2.out.q1
  have q2 := HC2.out.q2
  have q3 := HC2.out.q3
  have q4 := HC2.out.q4
  have z0 := HC2.out.z 0
  have z1 := HC2.out.z 1
  have z2 := HC2.out.z 2
  have z3 := HC2.out.z 3
  have z4 := HC2.out.z 4
  have hlt := HC2.out.lt
  go_wp2
  exact bodyPost_ret (v := .agg #[.int .i64 1, .int .i64 0, .int .i64 n, .string (bstr (l.take n)), .int .i64 0]) (by simp [results, Tryz.results198, go_sem, q0, q1, q2, q3, q4]) rfl ⟨by rw [highT, if_neg HP.out, nameT, ← HN.out]; rfl, zAC HW2.out (Nat.le_refl _) _ _ _ _ _⟩
 | false =>
  have HO := hid hok
  have HP : Hid (nmL l = 0) := hid (zF8 (zG0 hok))
  clear h hc hl hbl hk hok hhi
  go_enter Tryz.func198, Tryz.ntmps198
  go_wp2_with fail
  refine (zAQ _ _ r0 r1).mono ?_
  rw [HK.out]
  rintro e w' ⟨rfl, rfl⟩
  go_wp2_with fail
  refine (zAM _ _ _ l _ (H.out.below HW0.out)).mono ?_
  rw [HO.out]
  rintro e w1 ⟨rfl, hb1⟩
  have HW1 : Hid (Below w.heap.size w w1) := hid (hb1.below HW0.out)
  have HC1 : Hid (TC w.heap.size w1) := hid (HC0.out.keep (hb1.below (Below.refl _ _)))
  clear hb1
  have q0 := HC1.out.q0
  have q1 := HC1.out.q1
  have q2 := HC1.out.q2
  have q3 := HC1.out.q3
  have q4 := HC1.out.q4
  have z0 := HC1.out.z 0
  have z1 := HC1.out.z 1
  have z2 := HC1.out.z 2
  have z3 := HC1.out.z 3
  have z4 := HC1.out.z 4
  have hlt := HC1.out.lt
  go_wp2
  exact bodyPost_ret (v := .agg #[.int .i64 8, .int .i64 0, .int .i64 1, .string ⟨#[]⟩, .int .i64 10]) (by simp [results, Tryz.results198, go_sem, q0, q1, q2, q3, q4]) rfl ⟨by rw [highT, if_pos HP.out]; rfl, zAC HW1.out (Nat.le_refl _) _ _ _ _ _⟩
theorem zGC {l : List Int} (h1 : runL 5 l = 1) (h2 : bt l 0 = 46) : endT l = endsB l := by
 unfold endT endsB
 rw [h1, h2]
 simp
set_option maxHeartbeats 2000000 in
set_option maxRecDepth 100000 in
theorem rfirst5 (a : Option Addr) (len cap : Nat) (l : List Int) (w : World) (h : Bs w a len cap l) (h0 : 0 < len) (hk : cls (bt l 0) = 5) :
  Calls Tryz.prog 198 #[.slice a len cap] w fun r w' => r = .returned (tkv (symT l)) ∧ Below w.heap.size w w' := by
 have hlc := h.lc
 have hcm := h.cm
 have hl := h.hl
 unfold maxLen at hcm
 have HMC := hid h.cm
 have r0 := (zAI h.rng 0).1
 have r1 := (zAI h.rng 0).2
 have HW0 := hid (zAE w)
 have HC0 := hid (zAR w)
 have H := hid h
 obtain ⟨b, off, rfl, hbl, hc⟩ := h.at_ h0
 have hck : (wTok w).cell? ⟨b, off, none⟩ = some (.int .u8 (bt l 0)) := (HW0.out.cell hbl).trans (hc 0 h0)
 have HK : Hid (cls (bt l 0) = 5) := hid hk
 have hrp := zFH (by omega) hk
 have hrn := zAz 5 l
 obtain ⟨n, hn⟩ : ∃ n, n = runL 5 l := ⟨_, rfl⟩
 rw [← hn] at hrp hrn
 rw [hl] at hrn
 have hnc : n ≤ cap := by omega
 have HN := hid hn
 have hck1 : ∀ w', Below w.heap.size w w' → w'.cell? ⟨b, off, none⟩ = some (.int .u8 (bt l 0)) := fun w' hb => (hb.cell hbl).trans (hc 0 h0)
 have HCK := hid hck1
 clear hn hck1
 by_cases hd : n = 1 ∧ bt l 0 = 46
 ·obtain ⟨hn1, hd2⟩ := hd
  subst hn1
  cases he : endsB l with
  | true =>
   have HE : Hid (endsB l = true) := hid he
   have HET : Hid (endT l = true) := hid (by rw [zGC HN.out.symm hd2, he])
   have hd2' : (bt l 0 == 46) = true := by simpa using hd2
   have HD2 := hid hd2
   clear hd2
   clear h hc hl hbl hk he
   go_enter Tryz.func198, Tryz.ntmps198
   go_wp2_with fail
   refine (zAQ _ _ r0 r1).mono ?_
   rw [HK.out]
   rintro e w' ⟨rfl, rfl⟩
   go_wp2_with fail
   refine (zAM _ _ _ l _ (H.out.below HW0.out)).mono ?_
   rintro e w1 ⟨rfl, hb1⟩
   have HW1 : Hid (Below w.heap.size w w1) := hid (hb1.below HW0.out)
   have HC1 : Hid (TC w.heap.size w1) := hid (HC0.out.keep (hb1.below (Below.refl _ _)))
   clear hb1
   have hck2 := HCK.out _ HW1.out
   go_wp2_with fail
   refine (zCN _ _ _ l 5 _ (H.out.below HW1.out)).mono ?_
   rw [← HN.out]
   rintro e w' ⟨rfl, rfl⟩
   go_wp2_with fail
   refine (zGB _ _ _ l _ (H.out.below HW1.out) h0).mono ?_
   rw [HE.out]
   rintro e w' ⟨rfl, rfl⟩
   have kc := ((H.out.below HW1.out).take (k := 1) (c' := cap) (by omega) (by omega) HMC.out).str (P := Tryz.prog) 59 9 5 Tryz.underlying59 Tryz.underlying5 Tryz.underlying9
   have q0 := HC1.out.q0
   have q1 := HC1.out.q1
   have q2 := HC1.out.q2
   have q3 := HC1.out.q3
   have q4 := HC1.out.q4
   have z0 := HC1.out.z 0
   have z1 := HC1.out.z 1
   have z2 := HC1.out.z 2
   have z3 := HC1.out.z 3
   have z4 := HC1.out.z 4
   have hlt := HC1.out.lt
   go_wp2
   exact bodyPost_ret (v := .agg #[.int .i64 7, .int .i64 0, .int .i64 1, .string (bstr (l.take 1)), .int .i64 0]) (by simp [results, Tryz.results198, go_sem, q0, q1, q2, q3, q4]) rfl ⟨by rw [symT, ← HN.out, HET.out]; rfl, zAC HW1.out (Nat.le_refl _) _ _ _ _ _⟩
  | false =>
   have HE : Hid (endsB l = false) := hid he
   have HET : Hid (endT l = false) := hid (by rw [zGC HN.out.symm hd2, he])
   have hd2' : (bt l 0 == 46) = true := by simpa using hd2
   have HD2 := hid hd2
   clear hd2
   clear h hc hl hbl hk he
   go_enter Tryz.func198, Tryz.ntmps198
   go_wp2_with fail
   refine (zAQ _ _ r0 r1).mono ?_
   rw [HK.out]
   rintro e w' ⟨rfl, rfl⟩
   go_wp2_with fail
   refine (zAM _ _ _ l _ (H.out.below HW0.out)).mono ?_
   rintro e w1 ⟨rfl, hb1⟩
   have HW1 : Hid (Below w.heap.size w w1) := hid (hb1.below HW0.out)
   have HC1 : Hid (TC w.heap.size w1) := hid (HC0.out.keep (hb1.below (Below.refl _ _)))
   clear hb1
   have hck2 := HCK.out _ HW1.out
   go_wp2_with fail
   refine (zCN _ _ _ l 5 _ (H.out.below HW1.out)).mono ?_
   rw [← HN.out]
   rintro e w' ⟨rfl, rfl⟩
   go_wp2_with fail
   refine (zGB _ _ _ l _ (H.out.below HW1.out) h0).mono ?_
   rw [HE.out]
   rintro e w' ⟨rfl, rfl⟩
   have kc := ((H.out.below HW1.out).take (k := 1) (c' := cap) (by omega) (by omega) HMC.out).str (P := Tryz.prog) 59 9 5 Tryz.underlying59 Tryz.underlying5 Tryz.underlying9
   have q0 := HC1.out.q0
   have q1 := HC1.out.q1
   have q2 := HC1.out.q2
   have q3 := HC1.out.q3
   have q4 := HC1.out.q4
   have z0 := HC1.out.z 0
   have z1 := HC1.out.z 1
   have z2 := HC1.out.z 2
   have z3 := HC1.out.z 3
   have z4 := HC1.out.z 4
   have hlt := HC1.out.lt
   go_wp2
   exact bodyPost_ret (v := .agg #[.int .i64 2, .int .i64 0, .int .i64 1, .string (bstr (l.take 1)), .int .i64 0]) (by simp [results, Tryz.results198, go_sem, q0, q1, q2, q3, q4]) rfl ⟨by rw [symT, ← HN.out, HET.out]; rfl, zAC HW1.out (Nat.le_refl _) _ _ _ _ _⟩
 ·have HET : Hid (endT l = false) := hid (zJq (fun hx => hd ⟨HN.out.trans hx.1, hx.2⟩))
  by_cases hn1 : n = 1
  ·have hd2 : (bt l 0 == 46) = false := by simp only [beq_eq_false_iff_ne]; exact fun hx => hd ⟨hn1, hx⟩
   subst hn1
   clear hd
   clear h hc hl hbl hk
   go_enter Tryz.func198, Tryz.ntmps198
   go_wp2_with fail
   refine (zAQ _ _ r0 r1).mono ?_
   rw [HK.out]
   rintro e w' ⟨rfl, rfl⟩
   go_wp2_with fail
   refine (zAM _ _ _ l _ (H.out.below HW0.out)).mono ?_
   rintro e w1 ⟨rfl, hb1⟩
   have HW1 : Hid (Below w.heap.size w w1) := hid (hb1.below HW0.out)
   have HC1 : Hid (TC w.heap.size w1) := hid (HC0.out.keep (hb1.below (Below.refl _ _)))
   clear hb1
   have hck2 := HCK.out _ HW1.out
   go_wp2_with fail
   refine (zCN _ _ _ l 5 _ (H.out.below HW1.out)).mono ?_
   rw [← HN.out]
   rintro e w' ⟨rfl, rfl⟩
   have kc := ((H.out.below HW1.out).take (k := 1) (c' := cap) (by omega) (by omega) HMC.out).str (P := Tryz.prog) 59 9 5 Tryz.underlying59 Tryz.underlying5 Tryz.underlying9
   have q0 := HC1.out.q0
   have q1 := HC1.out.q1
   have q2 := HC1.out.q2
   have q3 := HC1.out.q3
   have q4 := HC1.out.q4
   have z0 := HC1.out.z 0
   have z1 := HC1.out.z 1
   have z2 := HC1.out.z 2
   have z3 := HC1.out.z 3
   have z4 := HC1.out.z 4
   have hlt := HC1.out.lt
   go_wp2
   exact bodyPost_ret (v := .agg #[.int .i64 2, .int .i64 0, .int .i64 1, .string (bstr (l.take 1)), .int .i64 0]) (by simp [results, Tryz.results198, go_sem, q0, q1, q2, q3, q4]) rfl ⟨by rw [symT, ← HN.out, HET.out]; rfl, zAC HW1.out (Nat.le_refl _) _ _ _ _ _⟩
  ·have hnb : ((n : Int) == 1) = false := by simp only [beq_eq_false_iff_ne]; omega
   clear hd hn1
   clear h hc hl hbl hk
   go_enter Tryz.func198, Tryz.ntmps198
   go_wp2_with fail
   refine (zAQ _ _ r0 r1).mono ?_
   rw [HK.out]
   rintro e w' ⟨rfl, rfl⟩
   go_wp2_with fail
   refine (zAM _ _ _ l _ (H.out.below HW0.out)).mono ?_
   rintro e w1 ⟨rfl, hb1⟩
   have HW1 : Hid (Below w.heap.size w w1) := hid (hb1.below HW0.out)
   have HC1 : Hid (TC w.heap.size w1) := hid (HC0.out.keep (hb1.below (Below.refl _ _)))
   clear hb1
   go_wp2_with fail
   refine (zCN _ _ _ l 5 _ (H.out.below HW1.out)).mono ?_
   rw [← HN.out]
   rintro e w' ⟨rfl, rfl⟩
   have kc := ((H.out.below HW1.out).take (k := n) (c' := cap) (by omega) (by omega) HMC.out).str (P := Tryz.prog) 59 9 5 Tryz.underlying59 Tryz.underlying5 Tryz.underlying9
   have q0 := HC1.out.q0
   have q1 := HC1.out.q1
   have q2 := HC1.out.q2
   have q3 := HC1.out.q3
   have q4 := HC1.out.q4
   have z0 := HC1.out.z 0
   have z1 := HC1.out.z 1
   have z2 := HC1.out.z 2
   have z3 := HC1.out.z 3
   have z4 := HC1.out.z 4
   have hlt := HC1.out.lt
   go_wp2
   exact bodyPost_ret (v := .agg #[.int .i64 2, .int .i64 0, .int .i64 n, .string (bstr (l.take n)), .int .i64 0]) (by simp [results, Tryz.results198, go_sem, q0, q1, q2, q3, q4]) rfl ⟨by rw [symT, ← HN.out, HET.out]; rfl, zAC HW1.out (Nat.le_refl _) _ _ _ _ _⟩
set_option maxHeartbeats 2000000 in
set_option maxRecDepth 100000 in
theorem rfirst4 (a : Option Addr) (len cap : Nat) (l : List Int) (w : World) (h : Bs w a len cap l) (h0 : 0 < len) (hk : cls (bt l 0) = 4) :
  Calls Tryz.prog 198 #[.slice a len cap] w fun r w' => r = .returned (tkv (numT l)) ∧ Below w.heap.size w w' := by
 have hlc := h.lc
 have hcm := h.cm
 have hl := h.hl
 unfold maxLen at hcm
 have HMC := hid h.cm
 have r0 := (zAI h.rng 0).1
 have r1 := (zAI h.rng 0).2
 have HW0 := hid (zAE w)
 have HC0 := hid (zAR w)
 have H := hid h
 obtain ⟨b, off, rfl, hbl, hc⟩ := h.at_ h0
 have hck : (wTok w).cell? ⟨b, off, none⟩ = some (.int .u8 (bt l 0)) := (HW0.out.cell hbl).trans (hc 0 h0)
 have HK : Hid (cls (bt l 0) = 4) := hid hk
 have hrn := zAz 4 l
 have hkc : dkK l ≤ cap := by unfold dkK; omega
 have hkl : dkK l ≤ len := by unfold dkK; omega
 by_cases hz : dkE l = 0
 ·have HZ := hid hz
  clear h hc hl hbl hk hz
  go_enter Tryz.func198, Tryz.ntmps198
  go_wp2_with fail
  refine (zAQ _ _ r0 r1).mono ?_
  rw [HK.out]
  rintro e w' ⟨rfl, rfl⟩
  go_wp2_with fail
  refine (zAM _ _ _ l _ (H.out.below HW0.out)).mono ?_
  rintro e w1 ⟨rfl, hb1⟩
  have HW1 : Hid (Below w.heap.size w w1) := hid (hb1.below HW0.out)
  have HC1 : Hid (TC w.heap.size w1) := hid (HC0.out.keep (hb1.below (Below.refl _ _)))
  clear hb1
  go_wp2_with fail
  refine (zEj _ _ _ l _ (H.out.below HW1.out)).mono ?_
  unfold dkV
  rw [HZ.out]
  rintro e w' ⟨rfl, rfl⟩
  have kc := ((H.out.below HW1.out).take (k := dkK l) (c' := cap) (by omega) (by omega) HMC.out).str (P := Tryz.prog) 59 9 5 Tryz.underlying59 Tryz.underlying5 Tryz.underlying9
  have q0 := HC1.out.q0
  have q1 := HC1.out.q1
  have q2 := HC1.out.q2
  have q3 := HC1.out.q3
  have q4 := HC1.out.q4
  have z0 := HC1.out.z 0
  have z1 := HC1.out.z 1
  have z2 := HC1.out.z 2
  have z3 := HC1.out.z 3
  have z4 := HC1.out.z 4
  have hlt := HC1.out.lt
  go_wp2
  exact bodyPost_ret (v := .agg #[.int .i64 4, .int .i64 0, .int .i64 (dkK l : Nat), .string (bstr (l.take (dkK l))), .int .i64 0]) (by simp [results, Tryz.results198, go_sem, q0, q1, q2, q3, q4]) rfl ⟨by rw [numT, if_pos HZ.out]; rfl, zAC HW1.out (Nat.le_refl _) _ _ _ _ _⟩
 ·have HZ := hid hz
  have hzb : (dkE l != 0) = true := by simpa using hz
  clear h hc hl hbl hk hz
  go_enter Tryz.func198, Tryz.ntmps198
  go_wp2_with fail
  refine (zAQ _ _ r0 r1).mono ?_
  rw [HK.out]
  rintro e w' ⟨rfl, rfl⟩
  go_wp2_with fail
  refine (zAM _ _ _ l _ (H.out.below HW0.out)).mono ?_
  rintro e w1 ⟨rfl, hb1⟩
  have HW1 : Hid (Below w.heap.size w w1) := hid (hb1.below HW0.out)
  have HC1 : Hid (TC w.heap.size w1) := hid (HC0.out.keep (hb1.below (Below.refl _ _)))
  clear hb1
  go_wp2_with fail
  refine (zEj _ _ _ l _ (H.out.below HW1.out)).mono ?_
  unfold dkV
  rintro e w' ⟨rfl, rfl⟩
  have q0 := HC1.out.q0
  have q1 := HC1.out.q1
  have q2 := HC1.out.q2
  have q3 := HC1.out.q3
  have q4 := HC1.out.q4
  have z0 := HC1.out.z 0
  have z1 := HC1.out.z 1
  have z2 := HC1.out.z 2
  have z3 := HC1.out.z 3
  have z4 := HC1.out.z 4
  have hlt := HC1.out.lt
  go_wp2
  exact bodyPost_ret (v := .agg #[.int .i64 8, .int .i64 0, .int .i64 (dkK l : Nat), .string ⟨#[]⟩, .int .i64 (dkE l)]) (by simp [results, Tryz.results198, go_sem, q0, q1, q2, q3, q4]) rfl ⟨by rw [numT, if_neg HZ.out]; rfl, zAC HW1.out (Nat.le_refl _) _ _ _ _ _⟩
set_option maxHeartbeats 2000000 in
set_option maxRecDepth 100000 in
theorem rfirst7 (a : Option Addr) (len cap : Nat) (l : List Int) (w : World) (h : Bs w a len cap l) (h0 : 0 < len) (hsz : len ≤ 1000000) (hk : cls (bt l 0) = 7) :
  Calls Tryz.prog 198 #[.slice a len cap] w fun r w' => r = .returned (tkv (quoT l)) ∧ Below w.heap.size w w' := by
 have hlc := h.lc
 have hcm := h.cm
 have hl := h.hl
 unfold maxLen at hcm
 have HMC := hid h.cm
 have r0 := (zAI h.rng 0).1
 have r1 := (zAI h.rng 0).2
 have HW0 := hid (zAE w)
 have HC0 := hid (zAR w)
 have H := hid h
 obtain ⟨b, off, rfl, hbl, hc⟩ := h.at_ h0
 have hck : (wTok w).cell? ⟨b, off, none⟩ = some (.int .u8 (bt l 0)) := (HW0.out.cell hbl).trans (hc 0 h0)
 have HK : Hid (cls (bt l 0) = 7) := hid hk
 by_cases hz : (tk l).e = 0
 ·have HZ := hid hz
  clear h hc hl hbl hk hz
  go_enter Tryz.func198, Tryz.ntmps198
  go_wp2_with fail
  refine (zAQ _ _ r0 r1).mono ?_
  rw [HK.out]
  rintro e w' ⟨rfl, rfl⟩
  go_wp2_with fail
  refine (zAM _ _ _ l _ (H.out.below HW0.out)).mono ?_
  rintro e w1 ⟨rfl, hb1⟩
  have HW1 : Hid (Below w.heap.size w w1) := hid (hb1.below HW0.out)
  have HC1 : Hid (TC w.heap.size w1) := hid (HC0.out.keep (hb1.below (Below.refl _ _)))
  clear hb1
  go_wp2_with fail
  refine (zEk _ _ _ l _ (H.out.below HW1.out) hsz).mono ?_
  rw [HZ.out]
  rintro e w2 ⟨a', c', rfl, ho2, hb2⟩
  have HW2 : Hid (Below w.heap.size w w2) := hid (HW1.out.trans (hb2.mono HW1.out.size))
  have HC2 : Hid (TC w.heap.size w2) := hid (HC1.out.keep hb2)
  clear hb2
  have kc := ho2.bs.str (P := Tryz.prog) 59 9 5 Tryz.underlying59 Tryz.underlying5 Tryz.underlying9
  clear ho2
  have q0 := HC2.out.q0
  have q1 := HC2.out.q1
  have q2 := HC2.out.q2
  have q3 := HC2.out.q3
  have q4 := HC2.out.q4
  have z0 := HC2.out.z 0
  have z1 := HC2.out.z 1
  have z2 := HC2.out.z 2
  have z3 := HC2.out.z 3
  have z4 := HC2.out.z 4
  have hlt := HC2.out.lt
  go_wp2
  exact bodyPost_ret (v := .agg #[.int .i64 5, .int .i64 0, .int .i64 ((tk l).n : Nat), .string (bstr (tk l).t), .int .i64 0]) (by simp [results, Tryz.results198, go_sem, q0, q1, q2, q3, q4]) rfl ⟨by rw [quoT, if_pos HZ.out]; rfl, zAC HW2.out (Nat.le_refl _) _ _ _ _ _⟩
 ·have HZ := hid hz
  have hzb : ((tk l).e != 0) = true := by simpa using hz
  clear h hc hl hbl hk hz
  go_enter Tryz.func198, Tryz.ntmps198
  go_wp2_with fail
  refine (zAQ _ _ r0 r1).mono ?_
  rw [HK.out]
  rintro e w' ⟨rfl, rfl⟩
  go_wp2_with fail
  refine (zAM _ _ _ l _ (H.out.below HW0.out)).mono ?_
  rintro e w1 ⟨rfl, hb1⟩
  have HW1 : Hid (Below w.heap.size w w1) := hid (hb1.below HW0.out)
  have HC1 : Hid (TC w.heap.size w1) := hid (HC0.out.keep (hb1.below (Below.refl _ _)))
  clear hb1
  go_wp2_with fail
  refine (zEk _ _ _ l _ (H.out.below HW1.out) hsz).mono ?_
  rintro e w2 ⟨a', c', rfl, ho2, hb2⟩
  have HW2 : Hid (Below w.heap.size w w2) := hid (HW1.out.trans (hb2.mono HW1.out.size))
  have HC2 : Hid (TC w.heap.size w2) := hid (HC1.out.keep hb2)
  clear hb2
  clear ho2
  have q0 := HC2.out.q0
  have q1 := HC2.out.q1
  have q2 := HC2.out.q2
  have q3 := HC2.out.q3
  have q4 := HC2.out.q4
  have z0 := HC2.out.z 0
  have z1 := HC2.out.z 1
  have z2 := HC2.out.z 2
  have z3 := HC2.out.z 3
  have z4 := HC2.out.z 4
  have hlt := HC2.out.lt
  go_wp2
  exact bodyPost_ret (v := .agg #[.int .i64 8, .int .i64 0, .int .i64 ((tk l).n : Nat), .string ⟨#[]⟩, .int .i64 (tk l).e]) (by simp [results, Tryz.results198, go_sem, q0, q1, q2, q3, q4]) rfl ⟨by rw [quoT, if_neg HZ.out]; rfl, zAC HW2.out (Nat.le_refl _) _ _ _ _ _⟩
set_option maxHeartbeats 2000000 in
set_option maxRecDepth 100000 in
theorem rfirst6 (a : Option Addr) (len cap : Nat) (l : List Int) (w : World) (h : Bs w a len cap l) (h0 : 0 < len) (hk : cls (bt l 0) = 6) :
  Calls Tryz.prog 198 #[.slice a len cap] w fun r w' => r = .returned (tkv (⟨6, 1, l.take 1, 0⟩)) ∧ Below w.heap.size w w' := by
 have hlc := h.lc
 have hcm := h.cm
 have hl := h.hl
 unfold maxLen at hcm
 have HMC := hid h.cm
 have r0 := (zAI h.rng 0).1
 have r1 := (zAI h.rng 0).2
 have HW0 := hid (zAE w)
 have HC0 := hid (zAR w)
 have H := hid h
 obtain ⟨b, off, rfl, hbl, hc⟩ := h.at_ h0
 have hck : (wTok w).cell? ⟨b, off, none⟩ = some (.int .u8 (bt l 0)) := (HW0.out.cell hbl).trans (hc 0 h0)
 have HK : Hid (cls (bt l 0) = 6) := hid hk
 have hc1 : 1 ≤ cap := by omega
 clear h hc hl hbl hk
 go_enter Tryz.func198, Tryz.ntmps198
 go_wp2_with fail
 refine (zAQ _ _ r0 r1).mono ?_
 rw [HK.out]
 rintro e w' ⟨rfl, rfl⟩
 go_wp2_with fail
 refine (zAM _ _ _ l _ (H.out.below HW0.out)).mono ?_
 rintro e w1 ⟨rfl, hb1⟩
 have HW1 : Hid (Below w.heap.size w w1) := hid (hb1.below HW0.out)
 have HC1 : Hid (TC w.heap.size w1) := hid (HC0.out.keep (hb1.below (Below.refl _ _)))
 clear hb1
 have kc := ((H.out.below HW1.out).take (k := 1) (c' := cap) (by omega) (by omega) HMC.out).str (P := Tryz.prog) 59 9 5 Tryz.underlying59 Tryz.underlying5 Tryz.underlying9
 have q0 := HC1.out.q0
 have q1 := HC1.out.q1
 have q2 := HC1.out.q2
 have q3 := HC1.out.q3
 have q4 := HC1.out.q4
 have z0 := HC1.out.z 0
 have z1 := HC1.out.z 1
 have z2 := HC1.out.z 2
 have z3 := HC1.out.z 3
 have z4 := HC1.out.z 4
 have hlt := HC1.out.lt
 go_wp2
 exact bodyPost_ret (v := .agg #[.int .i64 6, .int .i64 0, .int .i64 1, .string (bstr (l.take 1)), .int .i64 0]) (by simp [results, Tryz.results198, go_sem, q0, q1, q2, q3, q4]) rfl ⟨rfl, zAC HW1.out (Nat.le_refl _) _ _ _ _ _⟩
set_option maxHeartbeats 2000000 in
set_option maxRecDepth 100000 in
theorem rfirst0 (a : Option Addr) (len cap : Nat) (l : List Int) (w : World) (h : Bs w a len cap l) (h0 : 0 < len) (hk : cls (bt l 0) = 0 ∨ cls (bt l 0) = 1 ∨ cls (bt l 0) = 8) :
  Calls Tryz.prog 198 #[.slice a len cap] w fun r w' => r = .returned (tkv (⟨8, 1, [], 11⟩)) ∧ Below w.heap.size w w' := by
 rcases hk with hk | hk | hk
 ·have hlc := h.lc
  have hcm := h.cm
  have hl := h.hl
  unfold maxLen at hcm
  have HMC := hid h.cm
  have r0 := (zAI h.rng 0).1
  have r1 := (zAI h.rng 0).2
  have HW0 := hid (zAE w)
  have HC0 := hid (zAR w)
  have H := hid h
  obtain ⟨b, off, rfl, hbl, hc⟩ := h.at_ h0
  have hck : (wTok w).cell? ⟨b, off, none⟩ = some (.int .u8 (bt l 0)) := (HW0.out.cell hbl).trans (hc 0 h0)
  have HK : Hid (cls (bt l 0) = 0) := hid hk
  clear h hc hl hbl hk
  go_enter Tryz.func198, Tryz.ntmps198
  go_wp2_with fail
  refine (zAQ _ _ r0 r1).mono ?_
  rw [HK.out]
  rintro e w' ⟨rfl, rfl⟩
  go_wp2_with fail
  refine (zAM _ _ _ l _ (H.out.below HW0.out)).mono ?_
  rintro e w1 ⟨rfl, hb1⟩
  have HW1 : Hid (Below w.heap.size w w1) := hid (hb1.below HW0.out)
  have HC1 : Hid (TC w.heap.size w1) := hid (HC0.out.keep (hb1.below (Below.refl _ _)))
  clear hb1
  have q0 := HC1.out.q0
  have q1 := HC1.out.q1
  have q2 := HC1.out.q2
  have q3 := HC1.out.q3
  have q4 := HC1.out.q4
  have z0 := HC1.out.z 0
  have z1 := HC1.out.z 1
  have z2 := HC1.out.z 2
  have z3 := HC1.out.z 3
  have z4 := HC1.out.z 4
  have hlt := HC1.out.lt
  go_wp2
  exact bodyPost_ret (v := .agg #[.int .i64 8, .int .i64 0, .int .i64 1, .string ⟨#[]⟩, .int .i64 11]) (by simp [results, Tryz.results198, go_sem, q0, q1, q2, q3, q4]) rfl ⟨rfl, zAC HW1.out (Nat.le_refl _) _ _ _ _ _⟩
 ·have hlc := h.lc
  have hcm := h.cm
  have hl := h.hl
  unfold maxLen at hcm
  have HMC := hid h.cm
  have r0 := (zAI h.rng 0).1
  have r1 := (zAI h.rng 0).2
  have HW0 := hid (zAE w)
  have HC0 := hid (zAR w)
  have H := hid h
  obtain ⟨b, off, rfl, hbl, hc⟩ := h.at_ h0
  have hck : (wTok w).cell? ⟨b, off, none⟩ = some (.int .u8 (bt l 0)) := (HW0.out.cell hbl).trans (hc 0 h0)
  have HK : Hid (cls (bt l 0) = 1) := hid hk
  clear h hc hl hbl hk
  go_enter Tryz.func198, Tryz.ntmps198
  go_wp2_with fail
  refine (zAQ _ _ r0 r1).mono ?_
  rw [HK.out]
  rintro e w' ⟨rfl, rfl⟩
  go_wp2_with fail
  refine (zAM _ _ _ l _ (H.out.below HW0.out)).mono ?_
  rintro e w1 ⟨rfl, hb1⟩
  have HW1 : Hid (Below w.heap.size w w1) := hid (hb1.below HW0.out)
  have HC1 : Hid (TC w.heap.size w1) := hid (HC0.out.keep (hb1.below (Below.refl _ _)))
  clear hb1
  have q0 := HC1.out.q0
  have q1 := HC1.out.q1
  have q2 := HC1.out.q2
  have q3 := HC1.out.q3
  have q4 := HC1.out.q4
  have z0 := HC1.out.z 0
  have z1 := HC1.out.z 1
  have z2 := HC1.out.z 2
  have z3 := HC1.out.z 3
  have z4 := HC1.out.z 4
  have hlt := HC1.out.lt
  go_wp2
  exact bodyPost_ret (v := .agg #[.int .i64 8, .int .i64 0, .int .i64 1, .string ⟨#[]⟩, .int .i64 11]) (by simp [results, Tryz.results198, go_sem, q0, q1, q2, q3, q4]) rfl ⟨rfl, zAC HW1.out (Nat.le_refl _) _ _ _ _ _⟩
 ·have hlc := h.lc
  have hcm := h.cm
  have hl := h.hl
  unfold maxLen at hcm
  have HMC := hid h.cm
  have r0 := (zAI h.rng 0).1
  have r1 := (zAI h.rng 0).2
  have HW0 := hid (zAE w)
  have HC0 := hid (zAR w)
  have H := hid h
  obtain ⟨b, off, rfl, hbl, hc⟩ := h.at_ h0
  have hck : (wTok w).cell? ⟨b, off, none⟩ = some (.int .u8 (bt l 0)) := (HW0.out.cell hbl).trans (hc 0 h0)
  have HK : Hid (cls (bt l 0) = 8) := hid hk
  clear h hc hl hbl hk
  go_enter Tryz.func198, Tryz.ntmps198
  go_wp2_with fail
  refine (zAQ _ _ r0 r1).mono ?_
  rw [HK.out]
  rintro e w' ⟨rfl, rfl⟩
  go_wp2_with fail
  refine (zAM _ _ _ l _ (H.out.below HW0.out)).mono ?_
  rintro e w1 ⟨rfl, hb1⟩
  have HW1 : Hid (Below w.heap.size w w1) := hid (hb1.below HW0.out)
  have HC1 : Hid (TC w.heap.size w1) := hid (HC0.out.keep (hb1.below (Below.refl _ _)))
  clear hb1
  have q0 := HC1.out.q0
  have q1 := HC1.out.q1
  have q2 := HC1.out.q2
  have q3 := HC1.out.q3
  have q4 := HC1.out.q4
  have z0 := HC1.out.z 0
  have z1 := HC1.out.z 1
  have z2 := HC1.out.z 2
  have z3 := HC1.out.z 3
  have z4 := HC1.out.z 4
  have hlt := HC1.out.lt
  go_wp2
  exact bodyPost_ret (v := .agg #[.int .i64 8, .int .i64 0, .int .i64 1, .string ⟨#[]⟩, .int .i64 11]) (by simp [results, Tryz.results198, go_sem, q0, q1, q2, q3, q4]) rfl ⟨rfl, zAC HW1.out (Nat.le_refl _) _ _ _ _ _⟩
theorem zI4 (a : Option Addr) (len cap : Nat) (l : List Int) (w : World) (h : Bs w a len cap l) (h0 : 0 < len) (hsz : len ≤ 1000000) :
  Calls Tryz.prog 198 #[.slice a len cap] w fun r w' => r = .returned (tkv (firstT l)) ∧ Below w.heap.size w w' := by
 have hr := zGz (zAI h.rng 0).1 (zAI h.rng 0).2
 obtain hk | hk | hk | hk | hk | hk | hk | hk : cls (bt l 0) = 2 ∨ cls (bt l 0) = 3 ∨ cls (bt l 0) = 9 ∨ cls (bt l 0) = 5 ∨ cls (bt l 0) = 4 ∨ cls (bt l 0) = 7 ∨ cls (bt l 0) = 6 ∨ (cls (bt l 0) = 0 ∨ cls (bt l 0) = 1 ∨ cls (bt l 0) = 8) := by omega
 ·rw [firstT2 hk]; exact rfirst2 a len cap l w h h0 hk
 ·rw [firstT3 hk]; exact rfirst3 a len cap l w h h0 hk
 ·rw [firstT9 hk]; exact rfirst9 a len cap l w h h0 hk
 ·rw [firstT5 hk]; exact rfirst5 a len cap l w h h0 hk
 ·rw [firstT4 hk]; exact rfirst4 a len cap l w h h0 hk
 ·rw [firstT7 hk]; exact rfirst7 a len cap l w h h0 hsz hk
 ·rw [firstT6 hk]; exact rfirst6 a len cap l w h h0 hk
 ·rw [firstT0 hk]; exact rfirst0 a len cap l w h h0 hk
end
section
open Go.RowKit
set_option maxHeartbeats 1000000 in
set_option maxRecDepth 20000 in
theorem zJz (a : Option Addr) (len cap : Nat) (l : List Int) (k : Nat) (w : World) (h : Bs w a len cap l) (hsz : len ≤ 1000000) (hk : k ≤ len) :
  Calls Tryz.prog 190 #[.slice a len cap, .int .i64 k] w fun r w' => r = .returned (nxV (nx l k)) ∧ Below w.heap.size w w' := by
 have hlc := h.lc
 have hcm := h.cm
 have hl := h.hl
 unfold maxLen at hcm
 have HMC := hid h.cm
 obtain ⟨n, z, hs, hn, hz⟩ := zG2 l k (by omega)
 rw [hl] at hn hz
 have HW0 := hid (zAE w)
 have HC0 := hid (zAR w)
 have H := hid h
 have HS := hid hs
 have hA : decide ((k : Int) < 0) = false := decide_eq_false (by omega)
 have hB : decide ((len : Int) < k) = false := decide_eq_false (by omega)
 by_cases h0 : 0 < len
 ·obtain ⟨b, off, rfl, _, _⟩ := h.at_ h0
  by_cases hkl : k < len
  ·by_cases hze : z = 0
   ·subst hze
    by_cases he : k + n < len
    ·have HX : Hid (nx l k = some (k + n, firstT (l.drop (k + n)))) := hid (zG1 hs (by omega))
     have HG := hid (zCZ (l := l.drop (k + n)) (by rw [List.length_drop]; omega) (fun x hx => h.rng x (List.drop_subset _ _ hx)))
     have hg1 := HG.out.nl
     rw [List.length_drop, hl] at hg1
     obtain ⟨t, hte⟩ : ∃ t, t = firstT (l.drop (k + n)) := ⟨_, rfl⟩
     have HTE := hid hte
     rw [← hte] at HX hg1
     have hne : ((k : Int) + n == len) = false := by simp only [beq_eq_false_iff_ne]; omega
     clear h hs hte hl hz
     go_enter Tryz.func190, Tryz.ntmps190
     go_wp2_with fail
     refine (zBf _ _ _ (l.drop k) _ ((H.out.below HW0.out).drop (k := k) (by omega)) (by omega)).mono ?_
     rw [HS.out]
     rintro e w1 ⟨rfl, rfl⟩
     go_wp2_with fail
     refine (zI4 _ _ _ (l.drop (k + n)) _ ((H.out.below HW0.out).drop (k := k + n) (by omega)) (by omega) (by omega)).mono ?_
     rw [← HTE.out]
     unfold tkv
     rintro e w2 ⟨rfl, hb2⟩
     have HW2 : Hid (Below w.heap.size w w2) := hid (HW0.out.trans (hb2.mono HW0.out.size))
     have HC2 : Hid (TC w.heap.size w2) := hid (HC0.out.keep hb2)
     clear hb2
     have q0 := HC2.out.q0
     have q1 := HC2.out.q1
     have q2 := HC2.out.q2
     have q3 := HC2.out.q3
     have q4 := HC2.out.q4
     have z0 := HC2.out.z 0
     have z1 := HC2.out.z 1
     have z2 := HC2.out.z 2
     have z3 := HC2.out.z 3
     have z4 := HC2.out.z 4
     have hlt := HC2.out.lt
     go_wp2
     exact bodyPost_ret (v := .tuple #[.agg #[.int .i64 t.k, .int .i64 (k + n : Nat), .int .i64 (k + n + t.n : Nat), .string (bstr t.t), .int .i64 t.e], .bool true]) (by simp [results, Tryz.results190, go_sem, q0, q1, q2, q3, q4, hlt] <;> omega) rfl ⟨by rw [HX.out]; exact zFJ rfl rfl (by omega) rfl rfl, (zAC HW2.out (Nat.le_refl _) _ _ _ _ _).alloc (zAC HW2.out (Nat.le_refl _) _ _ _ _ _).size _⟩
    ·have HX : Hid (nx l k = none) := hid (zCC hs (by omega))
     have hee : k + n = len := by omega
     have hne : ((k : Int) + n == len) = true := by simp only [beq_iff_eq]; omega
     clear h hs hl hz he hee
     go_enter Tryz.func190, Tryz.ntmps190
     go_wp2_with fail
     refine (zBf _ _ _ (l.drop k) _ ((H.out.below HW0.out).drop (k := k) (by omega)) (by omega)).mono ?_
     rw [HS.out]
     rintro e w1 ⟨rfl, rfl⟩
     go_wp2
     exact bodyPost_ret (v := .tuple #[.agg #[.int .i64 0, .int .i64 0, .int .i64 0, .string ⟨#[]⟩, .int .i64 0], .bool false]) (by simp [results, Tryz.results190, go_sem]) rfl ⟨by rw [HX.out]; rfl, HW0.out⟩
   ·obtain ⟨hz1, hz2⟩ := hz hze
    have HX : Hid (nx l k = some (k + n, ⟨8, l.length - (k + n), [], z⟩)) := hid (zJn hs hze)
    rw [hl] at HX
    have hzb : (z != 0) = true := by simpa using hze
    clear h hs hl hz hze hz2
    go_enter Tryz.func190, Tryz.ntmps190
    go_wp2_with fail
    refine (zBf _ _ _ (l.drop k) _ ((H.out.below HW0.out).drop (k := k) (by omega)) (by omega)).mono ?_
    rw [HS.out]
    rintro e w1 ⟨rfl, rfl⟩
    go_wp2
    exact bodyPost_ret (v := .tuple #[.agg #[.int .i64 8, .int .i64 (k + n : Nat), .int .i64 (len : Nat), .string ⟨#[]⟩, .int .i64 z], .bool true]) (by simp [results, Tryz.results190, go_sem] <;> omega) rfl ⟨by rw [HX.out]; exact zFJ rfl rfl (by simp; omega) rfl rfl, (Below.refl _ _).alloc (Nat.le_refl _) _⟩
  ·have hkk : k = len := by omega
   subst hkk
   have HDN : Hid (l.drop k = []) := hid (List.drop_eq_nil_iff.2 (by omega))
   have hnz : n = 0 ∧ z = 0 := by
    rw [HDN.out, zEl] at hs
    injection hs with h1 h2
    exact ⟨h1.symm, h2.symm⟩
   obtain ⟨rfl, rfl⟩ := hnz
   have HX : Hid (nx l k = none) := hid (zCC hs (by omega))
   by_cases hcap : k < cap
   ·clear h hs hl hz
    go_enter Tryz.func190, Tryz.ntmps190
    go_wp2_with fail
    refine (zBf _ _ _ (l.drop k) _ (HDN.out ▸ Bs.nil _ (some ⟨b, off + k, none⟩) (cap - k) (by unfold maxLen; omega)) (by omega)).mono ?_
    rw [HS.out]
    rintro e w1 ⟨rfl, rfl⟩
    go_wp2
    exact bodyPost_ret (v := .tuple #[.agg #[.int .i64 0, .int .i64 0, .int .i64 0, .string ⟨#[]⟩, .int .i64 0], .bool false]) (by simp [results, Tryz.results190, go_sem]) rfl ⟨by rw [HX.out]; rfl, HW0.out⟩
   ·have hcc : cap ≤ k := by omega
    clear h hs hl hz hcap
    go_enter Tryz.func190, Tryz.ntmps190
    go_wp2_with fail
    refine (zBf _ _ _ (l.drop k) _ (HDN.out ▸ Bs.nil _ (some ⟨b, off, none⟩) 0 (by decide)) (by omega)).mono ?_
    rw [HS.out]
    rintro e w1 ⟨rfl, rfl⟩
    go_wp2
    exact bodyPost_ret (v := .tuple #[.agg #[.int .i64 0, .int .i64 0, .int .i64 0, .string ⟨#[]⟩, .int .i64 0], .bool false]) (by simp [results, Tryz.results190, go_sem]) rfl ⟨by rw [HX.out]; rfl, HW0.out⟩
 ·have hlen : len = 0 := by omega
  subst hlen
  obtain rfl : k = 0 := by omega
  have HDN : Hid (l.drop 0 = []) := hid (by rw [List.drop_zero]; exact List.eq_nil_of_length_eq_zero hl)
  have hnz : n = 0 ∧ z = 0 := by
   rw [HDN.out, zEl] at hs
   injection hs with h1 h2
   exact ⟨h1.symm, h2.symm⟩
  obtain ⟨rfl, rfl⟩ := hnz
  have HX : Hid (nx l 0 = none) := hid (zCC hs (by omega))
  clear h hs hl hz
  go_enter Tryz.func190, Tryz.ntmps190
  go_wp2_with fail
  refine (zBf _ _ _ (l.drop 0) _ (HDN.out ▸ Bs.nil _ a cap HMC.out) (by omega)).mono ?_
  rw [HS.out]
  rintro e w1 ⟨rfl, rfl⟩
  go_wp2
  exact bodyPost_ret (v := .tuple #[.agg #[.int .i64 0, .int .i64 0, .int .i64 0, .string ⟨#[]⟩, .int .i64 0], .bool false]) (by simp [results, Tryz.results190, go_sem]) rfl ⟨by rw [HX.out]; rfl, HW0.out⟩
end
end Go.Proofs.YtcjbhdgjcpnklaaGreatDoor
