/- Contract of the document's May of layer 11. -/
import Derived.Test.YtcadeannnjpaeaaDoorMC
import Derived.Test.YtcadeannnjpaeaaDoorHp
import Derived.Test.YtcadeannnjpaeaaDoorHo
namespace Go.Proofs.YtcadeannnjpaeaaDoor
open Go.RowKit

def dB (p : Nm) : Bool := !p.contains 95 && stB p
theorem shD_none {P : List Nm} {l r : Bool} (h : P.length < 1 ∨ 4 < P.length) : shD ⟨P, l, r⟩ = false := by
  unfold shD
  rw [show decide (1 ≤ (⟨P, l, r⟩ : SH).P.length ∧ (⟨P, l, r⟩ : SH).P.length ≤ 4) = false by simp; omega]; rfl
theorem shD_lone {P : List Nm} (h : P.length = 1) : shD ⟨P, false, false⟩ = false := by
  unfold shD hlB; simp [h]
theorem shD_is {P : List Nm} {l r : Bool} (h1 : 1 ≤ P.length) (h4 : P.length ≤ 4) (hh : P.length ≠ 1 ∨ l = true ∨ r = true) : shD ⟨P, l, r⟩ = (decide ((stx ⟨P, l, r⟩).length ≤ 40) && P.all dB) := by
  unfold shD hlB
  rw [show decide (1 ≤ (⟨P, l, r⟩ : SH).P.length ∧ (⟨P, l, r⟩ : SH).P.length ≤ 4) = true by simp; omega]
  have : (((⟨P, l, r⟩ : SH).P.length != 1) || ((⟨P, l, r⟩ : SH).l || (⟨P, l, r⟩ : SH).r)) = true := by
    rcases hh with h | rfl | rfl
    · simp [h]
    · simp
    · simp
  rw [this, Bool.true_and, Bool.true_and]
  rfl
theorem dB_step {P : List Nm} {k : Nat} (h : k < P.length) : (P.drop k).all dB = (dB (pt P k) && (P.drop (k + 1)).all dB) := by
  rw [List.drop_eq_getElem_cons h, List.all_cons]
  unfold pt
  simp [List.getD, h]

set_option maxRecDepth 100000 in
set_option maxHeartbeats 8000000 in
theorem rmay_any (a : Option Addr) (n c : Nat) (P : List Nm) (l r : Bool) (w : World) (h : Ss w a n c P) (hsz : (stx ⟨P, l, r⟩).length ≤ 100000) :
    Calls Tryd.prog 21 #[.agg #[.slice a n c, .bool l, .bool r]] w fun e w' => e = .returned (.bool (shD ⟨P, l, r⟩)) ∧ Below w.heap.size w w' := by
  have hcm := h.cm
  have hlc := h.lc
  unfold maxLen at hcm
  have H := Lib.hid h
  have HP := Lib.hid (Ss.len h)
  have HZ : Hid (∀ p ∈ P, p.length ≤ 100000) := Lib.hid fun p hp => Nat.le_trans (stx_mem ⟨P, l, r⟩ p hp) hsz
  obtain ⟨B, hB⟩ : ∃ B, B = w.heap.size := ⟨_, rfl⟩
  obtain ⟨wA, hwA⟩ : ∃ wA, wA = w.alloc (.cells #[.slice a n c, .bool l, .bool r] 35) := ⟨_, rfl⟩
  have HA : Hid (Below B w wA) := Lib.hid (by rw [hwA, hB]; exact (Below.refl _ _).alloc (Nat.le_refl _) _)
  have hsA : wA.heap.size = B + 1 := by rw [hwA, hB]; simp
  have HC : Hid (∀ w', Below (B + 1) wA w' → w'.cell? ⟨B, 0, none⟩ = some (.slice a n c) ∧ w'.cell? ⟨B, 1, none⟩ = some (.bool l) ∧ w'.cell? ⟨B, 2, none⟩ = some (.bool r)) := Lib.hid fun w' hk => by
    have hb : wA.heap[B]? = some (.cells #[.slice a n c, .bool l, .bool r] 35 (0, 0)) := by rw [hwA, hB]; exact heap_alloc_new w _
    exact (three ((hk.block B (by omega)).trans hb)).1
  obtain ⟨m, hm⟩ : ∃ m, m = (stx ⟨P, l, r⟩).length := ⟨_, rfl⟩
  have HW : Hid (B = w.heap.size) := Lib.hid hB
  rw [← hB]
  clear h
  by_cases h1 : n < 1
  · have HE : Hid (shD ⟨P, l, r⟩ = false) := Lib.hid (shD_none (by rw [HP.out]; exact .inl h1))
    go_enter Tryd.func21, Tryd.ntmps21
    go_wp2
    rw [← hwA]
    go_ret
    exact ⟨by rw [HE.out]; rfl, by rw [← hB]; exact HA.out⟩
  by_cases h4 : 4 < n
  · have HE : Hid (shD ⟨P, l, r⟩ = false) := Lib.hid (shD_none (by rw [HP.out]; exact .inr h4))
    go_enter Tryd.func21, Tryd.ntmps21
    go_wp2
    rw [← hwA]
    go_ret
    exact ⟨by rw [HE.out]; rfl, by rw [← hB]; exact HA.out⟩
  have h1' : ¬ (n : Int) < 1 := by omega
  have h4' : ¬ (4 : Int) < (n : Int) := by omega
  by_cases hn : n = 1
  · subst hn
    cases l with
    | true =>
      have HE : Hid (shD ⟨P, true, r⟩ = (decide (m ≤ 40) && P.all dB)) := Lib.hid (by rw [hm]; exact shD_is (by rw [HP.out]; omega) (by rw [HP.out]; omega) (.inr (.inl rfl)))
      have HX : Hid (Calls Tryd.prog 22 #[.agg #[.slice a 1 c, .bool true, .bool r]] wA fun e w' => e = .returned (.string (mk (stx ⟨P, true, r⟩))) ∧ Below wA.heap.size wA w') := Lib.hid (rtext_any a 1 c P true r wA (Vs.below H.out (by rw [← hB]; exact HA.out)) hsz)
      have hms : (mk (stx ⟨P, true, r⟩)).size = m := by rw [mk_size, hm]
      obtain ⟨S, hS⟩ : ∃ S, S = mk (stx ⟨P, true, r⟩) := ⟨_, rfl⟩
      rw [← hS] at hms HX
      obtain ⟨j0, j1, j2⟩ := HC.out wA (Below.refl _ _)
      clear hm hsz hS
      go_enter Tryd.func21, Tryd.ntmps21
      go_wp2_with fail
      rw [← hwA, ← hB]
      refine HX.out.mono ?_
      rintro e w2 ⟨rfl, hb2⟩
      rw [hsA] at hb2
      have HB2 := Lib.hid hb2
      clear hb2 hwA hB
      obtain ⟨k0, k1, k2⟩ := HC.out w2 HB2.out
      clear j0 j1 j2
      by_cases hm40 : 40 < m
      · have HF : Hid (shD ⟨P, true, r⟩ = false) := Lib.hid (by rw [HE.out, show decide (m ≤ 40) = false by simp; omega]; rfl)
        go_wp2
        go_ret
        exact ⟨by rw [HF.out]; rfl, HA.out.trans (HB2.out.mono (by omega))⟩
      · have HF : Hid (shD ⟨P, true, r⟩ = P.all dB) := Lib.hid (by rw [HE.out, show decide (m ≤ 40) = true by simp; omega]; rfl)
        have hm40' : ¬ (40 : Int) < (m : Int) := by omega
        go_wp2
        go_loopw [2, 4] (fun v2 v wr => ∃ k : Nat, v = .int .i64 k ∧ k ≤ 1 ∧ Hid ((P.drop k).all dB = P.all dB) ∧ Hid (Below (B + 1) wA wr)) (fun _ v _ => 1 - (intOf v).toNat)
        case atStart => exact ⟨0, rfl, by omega, Lib.hid rfl, HB2⟩
        case round =>
          obtain ⟨k, rfl, hk, HD, HB⟩ := hrel
          obtain ⟨j0, j1, j2⟩ := HC.out wr HB.out
          have hk0 : (0 : Int) ≤ (k : Int) := Int.natCast_nonneg _
          by_cases hlt : k < 1
          · have hk1 : (k : Int) < 1 := by omega
            have hSs := H.out.keep (w' := wr) (Nat.le_trans HA.out.size HB.out.size) (fun x hx => (HB.out.cell (by have := HW.out; omega)).trans (HA.out.cell (by rw [HW.out]; exact hx)))
            obtain ⟨d, o, rfl, _, hx⟩ := hSs.at_ (by omega)
            clear hx
            have hs := Ss.str hSs hlt
            have hst := dB_step (P := P) (k := k) (by rw [HP.out]; exact hlt)
            have hpm := pt_mem (P := P) (k := k) (by rw [HP.out]; exact hlt)
            obtain ⟨p, hp⟩ : ∃ p, p = pt P k := ⟨_, rfl⟩
            rw [← hp] at hs hst hpm
            have hpl := HZ.out p hpm
            have HST : Hid (P.all dB = (dB p && (P.drop (k + 1)).all dB)) := Lib.hid (by rw [← hst]; exact HD.out.symm)
            clear hSs hp hst hpm
            go_wp2_with fail
            refine (rpart_any p _ hpl).mono ?_
            rintro e w4 ⟨rfl, hb4⟩
            rw [show (!p.contains 95 && stB p) = dB p from rfl]
            have HB4 : Hid (Below (B + 1) wA w4) := Lib.hid (HB.out.trans (hb4.mono (by have := HB.out.size; omega)))
            clear hb4 hs
            cases hq : dB p with
            | true =>
              have HA4 : Hid ((P.drop (k + 1)).all dB = P.all dB) := Lib.hid (by rw [HST.out, hq, Bool.true_and])
              go_wp2
              go_roundw
              case rel => exact ⟨k + 1, by go_num, by omega, HA4, HB4⟩
              case measure => simp [intOf]; omega
            | false =>
              have HG : Hid (P.all dB = false) := Lib.hid (by rw [HST.out, hq, Bool.false_and])
              go_wp2
              go_ret
              exact ⟨by rw [HF.out, HG.out]; rfl, HA.out.trans (HB4.out.mono (by omega))⟩
          · have HG : Hid (P.all dB = true) := Lib.hid (by rw [← HD.out, List.drop_of_length_le (by rw [HP.out]; omega)]; rfl)
            go_wp2
            go_ret
            exact ⟨by rw [HF.out, HG.out]; rfl, HA.out.trans (HB.out.mono (by omega))⟩
    | false =>
      cases r with
      | true =>
        have HE : Hid (shD ⟨P, false, true⟩ = (decide (m ≤ 40) && P.all dB)) := Lib.hid (by rw [hm]; exact shD_is (by rw [HP.out]; omega) (by rw [HP.out]; omega) (.inr (.inr rfl)))
        have HX : Hid (Calls Tryd.prog 22 #[.agg #[.slice a 1 c, .bool false, .bool true]] wA fun e w' => e = .returned (.string (mk (stx ⟨P, false, true⟩))) ∧ Below wA.heap.size wA w') := Lib.hid (rtext_any a 1 c P false true wA (Vs.below H.out (by rw [← hB]; exact HA.out)) hsz)
        have hms : (mk (stx ⟨P, false, true⟩)).size = m := by rw [mk_size, hm]
        obtain ⟨S, hS⟩ : ∃ S, S = mk (stx ⟨P, false, true⟩) := ⟨_, rfl⟩
        rw [← hS] at hms HX
        obtain ⟨j0, j1, j2⟩ := HC.out wA (Below.refl _ _)
        clear hm hsz hS
        go_enter Tryd.func21, Tryd.ntmps21
        go_wp2_with fail
        rw [← hwA, ← hB]
        refine HX.out.mono ?_
        rintro e w2 ⟨rfl, hb2⟩
        rw [hsA] at hb2
        have HB2 := Lib.hid hb2
        clear hb2 hwA hB
        obtain ⟨k0, k1, k2⟩ := HC.out w2 HB2.out
        clear j0 j1 j2
        by_cases hm40 : 40 < m
        · have HF : Hid (shD ⟨P, false, true⟩ = false) := Lib.hid (by rw [HE.out, show decide (m ≤ 40) = false by simp; omega]; rfl)
          go_wp2
          go_ret
          exact ⟨by rw [HF.out]; rfl, HA.out.trans (HB2.out.mono (by omega))⟩
        · have HF : Hid (shD ⟨P, false, true⟩ = P.all dB) := Lib.hid (by rw [HE.out, show decide (m ≤ 40) = true by simp; omega]; rfl)
          have hm40' : ¬ (40 : Int) < (m : Int) := by omega
          go_wp2
          go_loopw [2, 4] (fun v2 v wr => ∃ k : Nat, v = .int .i64 k ∧ k ≤ 1 ∧ Hid ((P.drop k).all dB = P.all dB) ∧ Hid (Below (B + 1) wA wr)) (fun _ v _ => 1 - (intOf v).toNat)
          case atStart => exact ⟨0, rfl, by omega, Lib.hid rfl, HB2⟩
          case round =>
            obtain ⟨k, rfl, hk, HD, HB⟩ := hrel
            obtain ⟨j0, j1, j2⟩ := HC.out wr HB.out
            have hk0 : (0 : Int) ≤ (k : Int) := Int.natCast_nonneg _
            by_cases hlt : k < 1
            · have hk1 : (k : Int) < 1 := by omega
              have hSs := H.out.keep (w' := wr) (Nat.le_trans HA.out.size HB.out.size) (fun x hx => (HB.out.cell (by have := HW.out; omega)).trans (HA.out.cell (by rw [HW.out]; exact hx)))
              obtain ⟨d, o, rfl, _, hx⟩ := hSs.at_ (by omega)
              clear hx
              have hs := Ss.str hSs hlt
              have hst := dB_step (P := P) (k := k) (by rw [HP.out]; exact hlt)
              have hpm := pt_mem (P := P) (k := k) (by rw [HP.out]; exact hlt)
              obtain ⟨p, hp⟩ : ∃ p, p = pt P k := ⟨_, rfl⟩
              rw [← hp] at hs hst hpm
              have hpl := HZ.out p hpm
              have HST : Hid (P.all dB = (dB p && (P.drop (k + 1)).all dB)) := Lib.hid (by rw [← hst]; exact HD.out.symm)
              clear hSs hp hst hpm
              go_wp2_with fail
              refine (rpart_any p _ hpl).mono ?_
              rintro e w4 ⟨rfl, hb4⟩
              rw [show (!p.contains 95 && stB p) = dB p from rfl]
              have HB4 : Hid (Below (B + 1) wA w4) := Lib.hid (HB.out.trans (hb4.mono (by have := HB.out.size; omega)))
              clear hb4 hs
              cases hq : dB p with
              | true =>
                have HA4 : Hid ((P.drop (k + 1)).all dB = P.all dB) := Lib.hid (by rw [HST.out, hq, Bool.true_and])
                go_wp2
                go_roundw
                case rel => exact ⟨k + 1, by go_num, by omega, HA4, HB4⟩
                case measure => simp [intOf]; omega
              | false =>
                have HG : Hid (P.all dB = false) := Lib.hid (by rw [HST.out, hq, Bool.false_and])
                go_wp2
                go_ret
                exact ⟨by rw [HF.out, HG.out]; rfl, HA.out.trans (HB4.out.mono (by omega))⟩
            · have HG : Hid (P.all dB = true) := Lib.hid (by rw [← HD.out, List.drop_of_length_le (by rw [HP.out]; omega)]; rfl)
              go_wp2
              go_ret
              exact ⟨by rw [HF.out, HG.out]; rfl, HA.out.trans (HB.out.mono (by omega))⟩
      | false =>
        have HE : Hid (shD ⟨P, false, false⟩ = false) := Lib.hid (shD_lone HP.out)
        go_enter Tryd.func21, Tryd.ntmps21
        go_wp2
        rw [← hwA]
        go_ret
        exact ⟨by rw [HE.out]; rfl, by rw [← hB]; exact HA.out⟩
  · have hn1 : ((n : Int) == 1) = false := by simp; omega
    have HE : Hid (shD ⟨P, l, r⟩ = (decide (m ≤ 40) && P.all dB)) := Lib.hid (by rw [hm]; exact shD_is (by rw [HP.out]; omega) (by rw [HP.out]; omega) (.inl (by rw [HP.out]; exact hn)))
    have HX : Hid (Calls Tryd.prog 22 #[.agg #[.slice a n c, .bool l, .bool r]] wA fun e w' => e = .returned (.string (mk (stx ⟨P, l, r⟩))) ∧ Below wA.heap.size wA w') := Lib.hid (rtext_any a n c P l r wA (Vs.below H.out (by rw [← hB]; exact HA.out)) hsz)
    have hms : (mk (stx ⟨P, l, r⟩)).size = m := by rw [mk_size, hm]
    obtain ⟨S, hS⟩ : ∃ S, S = mk (stx ⟨P, l, r⟩) := ⟨_, rfl⟩
    rw [← hS] at hms HX
    obtain ⟨j0, j1, j2⟩ := HC.out wA (Below.refl _ _)
    clear hm hsz hS
    go_enter Tryd.func21, Tryd.ntmps21
    go_wp2_with fail
    rw [← hwA, ← hB]
    refine HX.out.mono ?_
    rintro e w2 ⟨rfl, hb2⟩
    rw [hsA] at hb2
    have HB2 := Lib.hid hb2
    clear hb2 hwA hB
    obtain ⟨k0, k1, k2⟩ := HC.out w2 HB2.out
    clear j0 j1 j2
    by_cases hm40 : 40 < m
    · have HF : Hid (shD ⟨P, l, r⟩ = false) := Lib.hid (by rw [HE.out, show decide (m ≤ 40) = false by simp; omega]; rfl)
      go_wp2
      go_ret
      exact ⟨by rw [HF.out]; rfl, HA.out.trans (HB2.out.mono (by omega))⟩
    · have HF : Hid (shD ⟨P, l, r⟩ = P.all dB) := Lib.hid (by rw [HE.out, show decide (m ≤ 40) = true by simp; omega]; rfl)
      have hm40' : ¬ (40 : Int) < (m : Int) := by omega
      go_wp2
      go_loopw [2, 4] (fun v2 v wr => ∃ k : Nat, v = .int .i64 k ∧ k ≤ n ∧ Hid ((P.drop k).all dB = P.all dB) ∧ Hid (Below (B + 1) wA wr)) (fun _ v _ => n - (intOf v).toNat)
      case atStart => exact ⟨0, rfl, by omega, Lib.hid rfl, HB2⟩
      case round =>
        obtain ⟨k, rfl, hk, HD, HB⟩ := hrel
        obtain ⟨j0, j1, j2⟩ := HC.out wr HB.out
        have hk0 : (0 : Int) ≤ (k : Int) := Int.natCast_nonneg _
        by_cases hlt : k < n
        · have hk1 : (k : Int) < (n : Int) := by omega
          have hSs := H.out.keep (w' := wr) (Nat.le_trans HA.out.size HB.out.size) (fun x hx => (HB.out.cell (by have := HW.out; omega)).trans (HA.out.cell (by rw [HW.out]; exact hx)))
          obtain ⟨d, o, rfl, _, hx⟩ := hSs.at_ (by omega)
          clear hx
          have hs := Ss.str hSs hlt
          have hst := dB_step (P := P) (k := k) (by rw [HP.out]; exact hlt)
          have hpm := pt_mem (P := P) (k := k) (by rw [HP.out]; exact hlt)
          obtain ⟨p, hp⟩ : ∃ p, p = pt P k := ⟨_, rfl⟩
          rw [← hp] at hs hst hpm
          have hpl := HZ.out p hpm
          have HST : Hid (P.all dB = (dB p && (P.drop (k + 1)).all dB)) := Lib.hid (by rw [← hst]; exact HD.out.symm)
          clear hSs hp hst hpm
          go_wp2_with fail
          refine (rpart_any p _ hpl).mono ?_
          rintro e w4 ⟨rfl, hb4⟩
          rw [show (!p.contains 95 && stB p) = dB p from rfl]
          have HB4 : Hid (Below (B + 1) wA w4) := Lib.hid (HB.out.trans (hb4.mono (by have := HB.out.size; omega)))
          clear hb4 hs
          cases hq : dB p with
          | true =>
            have HA4 : Hid ((P.drop (k + 1)).all dB = P.all dB) := Lib.hid (by rw [HST.out, hq, Bool.true_and])
            go_wp2
            go_roundw
            case rel => exact ⟨k + 1, by go_num, by omega, HA4, HB4⟩
            case measure => simp [intOf]; omega
          | false =>
            have HG : Hid (P.all dB = false) := Lib.hid (by rw [HST.out, hq, Bool.false_and])
            go_wp2
            go_ret
            exact ⟨by rw [HF.out, HG.out]; rfl, HA.out.trans (HB4.out.mono (by omega))⟩
        · have HG : Hid (P.all dB = true) := Lib.hid (by rw [← HD.out, List.drop_of_length_le (by rw [HP.out]; omega)]; rfl)
          go_wp2
          go_ret
          exact ⟨by rw [HF.out, HG.out]; rfl, HA.out.trans (HB.out.mono (by omega))⟩

end Go.Proofs.YtcadeannnjpaeaaDoor
