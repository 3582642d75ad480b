/- Contracts of the document's Simple, and of the law's few. -/
import Derived.Test.YtcadeannnjpaeaaDoorFc
namespace Go.Proofs.YtcadeannnjpaeaaDoor
open Go.RowKit

theorem getD_at {n : Nm} {j : Nat} (hj : j < n.length) : n.getD j 0 = n[j] := by simp [List.getD, hj]
theorem ub_yes {n : Nm} (j : Nat) (hj : j < n.length) (h : (ub n j == 95) = true) : n.contains 95 = true := by
  have h1 : n.getD j 0 = 95 := by
    have h2 := eq_of_beq h
    unfold ub at h2
    have h3 : (n.getD j 0).toNat = 95 := by omega
    exact UInt8.toNat_inj.1 h3
  rw [getD_at hj] at h1
  rw [List.contains_iff_mem, ← h1]
  exact List.getElem_mem hj
theorem ub_no {n : Nm} (j : Nat) (hj : j < n.length) (hp : (n.take j).contains 95 = false) (h : (ub n j == 95) = false) : (n.take (j + 1)).contains 95 = false := by
  have h1 : n.getD j 0 ≠ 95 := by
    intro he
    unfold ub at h
    rw [he] at h
    exact absurd h (by decide)
  rw [getD_at hj] at h1
  rw [List.take_succ_eq_append_getElem hj]
  have h2 : (95 : UInt8) ∉ n.take j := by simpa using hp
  have h3 : (95 : UInt8) ∉ n.take j ++ [n[j]] := by
    intro hm
    rcases List.mem_append.1 hm with hm | hm
    · exact h2 hm
    · exact h1 (List.mem_singleton.1 hm).symm
  simpa using h3

set_option maxRecDepth 20000 in
set_option maxHeartbeats 8000000 in
theorem rsimple_any (k n : Nm) (w : World) (hn : n.length ≤ 1000000) :
    Calls Tryd.prog 10 #[.string (mk k), .string (mk n)] w fun e w' => e = .returned (simT (simV k n)) ∧ w = w' := by
  have hns := mk_size n
  have HUY := Lib.hid (@ub_yes n)
  have HUN := Lib.hid (@ub_no n)
  have HFULL : Hid (n.take n.length = n) := Lib.hid (List.take_length)
  have HIX : Hid (∀ (w : World) (j : Nat), j < n.length → (Instr.index 9 (.string (mk n)) (.int .i64 j)).run Tryd.prog w = .ok (.int .u8 (ub n j)) w) := Lib.hid fun w j h => run_ix w n j h
  obtain ⟨m, hm⟩ : ∃ m, m = n.length := ⟨_, rfl⟩
  rw [← hm] at hns hn HUY HUN HFULL HIX
  clear hm
  obtain ⟨s, hs⟩ : ∃ s, s = mk k := ⟨_, rfl⟩
  have hk : s.toList = k := by rw [hs, mk_toList]
  obtain ⟨V, hV⟩ : ∃ V, V = simV k n := ⟨_, rfl⟩
  have HV := Lib.hid hV
  rw [← hs, ← hV]
  clear hs hV
  rcases kd_ways k with ⟨i, hi, hki⟩ | hno
  · obtain rfl | rfl | rfl | rfl | rfl | rfl | rfl : i = 0 ∨ i = 1 ∨ i = 2 ∨ i = 3 ∨ i = 4 ∨ i = 5 ∨ i = 6 := by omega
    · have hk0 : s.toList = [120, 102, 120] := hk.trans hki
      have HB : Hid (∀ b, (n == [] || n.contains 95) = b → V = if b = true then ([], 0, 23) else (hol true ++ n ++ hol true, 0, 0)) := Lib.hid fun b hb => by
        cases b with
        | true => exact HV.out.trans (simV_bad hi (by rw [hki]; exact beq_self_eq_true _) hb)
        | false => exact HV.out.trans (simV_good hi (by rw [hki]; exact beq_self_eq_true _) hb)
      have HP : Hid (⟨#[95]⟩ ++ mk n ++ ⟨#[95]⟩ = mk (hol true ++ n ++ hol true)) := Lib.hid (by
        rw [← mk_app, ← mk_app]; rfl)
      clear hk hki HV
      go_enter Tryd.func10, Tryd.ntmps10
      go_wp2
      go_loopw [9] (fun v wr => ∃ j : Nat, v = .int .i64 j ∧ j ≤ m ∧ Hid ((n.take j).contains 95 = false) ∧ wr = w) (fun v _ => m - (intOf v).toNat)
      case atStart => exact ⟨0, rfl, by omega, Lib.hid rfl, rfl⟩
      case round =>
        obtain ⟨j, rfl, hj, HM, rfl⟩ := hrel
        by_cases hlt : j < m
        · have hlt' : (j : Int) < (m : Int) := by omega
          have hx := HIX.out wr j hlt
          cases hu : (ub n j == 95) with
          | true =>
            have HE := Lib.hid (HB.out true (by rw [HUY.out j hlt hu, Bool.or_true]))
            go_wp2
            go_ret3
            exact ⟨by rw [HE.out]; rfl, rfl⟩
          | false =>
            have HN := Lib.hid (HUN.out j hlt HM.out hu)
            go_wp2
            go_roundw
            case rel => exact ⟨j + 1, by go_num, by omega, HN, trivial⟩
            case measure => simp [intOf]; omega
        · have hlt' : ¬ (j : Int) < (m : Int) := by omega
          have HC : Hid (n.contains 95 = false) := Lib.hid (by
            have h1 := HM.out
            rw [show j = m by omega, HFULL.out] at h1
            exact h1)
          by_cases hn0 : (mk n).toList = []
          · have HE := Lib.hid (HB.out true (by rw [mk_toList] at hn0; rw [hn0]; rfl))
            go_wp2
            go_ret3
            exact ⟨by rw [HE.out]; rfl, rfl⟩
          · have hem : (mk n).toList.isEmpty = false := by cases he : (mk n).toList with | nil => exact absurd he hn0 | cons c r => rfl
            have HE := Lib.hid (HB.out false (by rw [HC.out, Bool.or_false]; rw [mk_toList] at hn0; exact beq_eq_false_iff_ne.2 hn0))
            go_wp2
            go_ret3
            exact ⟨by rw [HE.out, HP.out]; rfl, rfl⟩
    · have hk0 : s.toList = [120, 102, 121] := hk.trans hki
      have HB : Hid (∀ b, (n == [] || n.contains 95) = b → V = if b = true then ([], 0, 23) else (hol true ++ n ++ hol true, 2, 0)) := Lib.hid fun b hb => by
        cases b with
        | true => exact HV.out.trans (simV_bad hi (by rw [hki]; exact beq_self_eq_true _) hb)
        | false => exact HV.out.trans (simV_good hi (by rw [hki]; exact beq_self_eq_true _) hb)
      have HP : Hid (⟨#[95]⟩ ++ mk n ++ ⟨#[95]⟩ = mk (hol true ++ n ++ hol true)) := Lib.hid (by
        rw [← mk_app, ← mk_app]; rfl)
      clear hk hki HV
      go_enter Tryd.func10, Tryd.ntmps10
      go_wp2
      go_loopw [9] (fun v wr => ∃ j : Nat, v = .int .i64 j ∧ j ≤ m ∧ Hid ((n.take j).contains 95 = false) ∧ wr = w) (fun v _ => m - (intOf v).toNat)
      case atStart => exact ⟨0, rfl, by omega, Lib.hid rfl, rfl⟩
      case round =>
        obtain ⟨j, rfl, hj, HM, rfl⟩ := hrel
        by_cases hlt : j < m
        · have hlt' : (j : Int) < (m : Int) := by omega
          have hx := HIX.out wr j hlt
          cases hu : (ub n j == 95) with
          | true =>
            have HE := Lib.hid (HB.out true (by rw [HUY.out j hlt hu, Bool.or_true]))
            go_wp2
            go_ret3
            exact ⟨by rw [HE.out]; rfl, rfl⟩
          | false =>
            have HN := Lib.hid (HUN.out j hlt HM.out hu)
            go_wp2
            go_roundw
            case rel => exact ⟨j + 1, by go_num, by omega, HN, trivial⟩
            case measure => simp [intOf]; omega
        · have hlt' : ¬ (j : Int) < (m : Int) := by omega
          have HC : Hid (n.contains 95 = false) := Lib.hid (by
            have h1 := HM.out
            rw [show j = m by omega, HFULL.out] at h1
            exact h1)
          by_cases hn0 : (mk n).toList = []
          · have HE := Lib.hid (HB.out true (by rw [mk_toList] at hn0; rw [hn0]; rfl))
            go_wp2
            go_ret3
            exact ⟨by rw [HE.out]; rfl, rfl⟩
          · have hem : (mk n).toList.isEmpty = false := by cases he : (mk n).toList with | nil => exact absurd he hn0 | cons c r => rfl
            have HE := Lib.hid (HB.out false (by rw [HC.out, Bool.or_false]; rw [mk_toList] at hn0; exact beq_eq_false_iff_ne.2 hn0))
            go_wp2
            go_ret3
            exact ⟨by rw [HE.out, HP.out]; rfl, rfl⟩
    · have hk0 : s.toList = [121, 102, 120] := hk.trans hki
      have HB : Hid (∀ b, (n == [] || n.contains 95) = b → V = if b = true then ([], 0, 23) else (hol true ++ n ++ hol true, 1, 0)) := Lib.hid fun b hb => by
        cases b with
        | true => exact HV.out.trans (simV_bad hi (by rw [hki]; exact beq_self_eq_true _) hb)
        | false => exact HV.out.trans (simV_good hi (by rw [hki]; exact beq_self_eq_true _) hb)
      have HP : Hid (⟨#[95]⟩ ++ mk n ++ ⟨#[95]⟩ = mk (hol true ++ n ++ hol true)) := Lib.hid (by
        rw [← mk_app, ← mk_app]; rfl)
      clear hk hki HV
      go_enter Tryd.func10, Tryd.ntmps10
      go_wp2
      go_loopw [9] (fun v wr => ∃ j : Nat, v = .int .i64 j ∧ j ≤ m ∧ Hid ((n.take j).contains 95 = false) ∧ wr = w) (fun v _ => m - (intOf v).toNat)
      case atStart => exact ⟨0, rfl, by omega, Lib.hid rfl, rfl⟩
      case round =>
        obtain ⟨j, rfl, hj, HM, rfl⟩ := hrel
        by_cases hlt : j < m
        · have hlt' : (j : Int) < (m : Int) := by omega
          have hx := HIX.out wr j hlt
          cases hu : (ub n j == 95) with
          | true =>
            have HE := Lib.hid (HB.out true (by rw [HUY.out j hlt hu, Bool.or_true]))
            go_wp2
            go_ret3
            exact ⟨by rw [HE.out]; rfl, rfl⟩
          | false =>
            have HN := Lib.hid (HUN.out j hlt HM.out hu)
            go_wp2
            go_roundw
            case rel => exact ⟨j + 1, by go_num, by omega, HN, trivial⟩
            case measure => simp [intOf]; omega
        · have hlt' : ¬ (j : Int) < (m : Int) := by omega
          have HC : Hid (n.contains 95 = false) := Lib.hid (by
            have h1 := HM.out
            rw [show j = m by omega, HFULL.out] at h1
            exact h1)
          by_cases hn0 : (mk n).toList = []
          · have HE := Lib.hid (HB.out true (by rw [mk_toList] at hn0; rw [hn0]; rfl))
            go_wp2
            go_ret3
            exact ⟨by rw [HE.out]; rfl, rfl⟩
          · have hem : (mk n).toList.isEmpty = false := by cases he : (mk n).toList with | nil => exact absurd he hn0 | cons c r => rfl
            have HE := Lib.hid (HB.out false (by rw [HC.out, Bool.or_false]; rw [mk_toList] at hn0; exact beq_eq_false_iff_ne.2 hn0))
            go_wp2
            go_ret3
            exact ⟨by rw [HE.out, HP.out]; rfl, rfl⟩
    · have hk0 : s.toList = [102, 120] := hk.trans hki
      have HB : Hid (∀ b, (n == [] || n.contains 95) = b → V = if b = true then ([], 0, 23) else (hol false ++ n ++ hol true, 0, 0)) := Lib.hid fun b hb => by
        cases b with
        | true => exact HV.out.trans (simV_bad hi (by rw [hki]; exact beq_self_eq_true _) hb)
        | false => exact HV.out.trans (simV_good hi (by rw [hki]; exact beq_self_eq_true _) hb)
      have HP : Hid (mk n ++ ⟨#[95]⟩ = mk (hol false ++ n ++ hol true)) := Lib.hid (by
        rw [show hol false ++ n = n from rfl, ← mk_app]; rfl)
      clear hk hki HV
      go_enter Tryd.func10, Tryd.ntmps10
      go_wp2
      go_loopw [9] (fun v wr => ∃ j : Nat, v = .int .i64 j ∧ j ≤ m ∧ Hid ((n.take j).contains 95 = false) ∧ wr = w) (fun v _ => m - (intOf v).toNat)
      case atStart => exact ⟨0, rfl, by omega, Lib.hid rfl, rfl⟩
      case round =>
        obtain ⟨j, rfl, hj, HM, rfl⟩ := hrel
        by_cases hlt : j < m
        · have hlt' : (j : Int) < (m : Int) := by omega
          have hx := HIX.out wr j hlt
          cases hu : (ub n j == 95) with
          | true =>
            have HE := Lib.hid (HB.out true (by rw [HUY.out j hlt hu, Bool.or_true]))
            go_wp2
            go_ret3
            exact ⟨by rw [HE.out]; rfl, rfl⟩
          | false =>
            have HN := Lib.hid (HUN.out j hlt HM.out hu)
            go_wp2
            go_roundw
            case rel => exact ⟨j + 1, by go_num, by omega, HN, trivial⟩
            case measure => simp [intOf]; omega
        · have hlt' : ¬ (j : Int) < (m : Int) := by omega
          have HC : Hid (n.contains 95 = false) := Lib.hid (by
            have h1 := HM.out
            rw [show j = m by omega, HFULL.out] at h1
            exact h1)
          by_cases hn0 : (mk n).toList = []
          · have HE := Lib.hid (HB.out true (by rw [mk_toList] at hn0; rw [hn0]; rfl))
            go_wp2
            go_ret3
            exact ⟨by rw [HE.out]; rfl, rfl⟩
          · have hem : (mk n).toList.isEmpty = false := by cases he : (mk n).toList with | nil => exact absurd he hn0 | cons c r => rfl
            have HE := Lib.hid (HB.out false (by rw [HC.out, Bool.or_false]; rw [mk_toList] at hn0; exact beq_eq_false_iff_ne.2 hn0))
            go_wp2
            go_ret3
            exact ⟨by rw [HE.out, HP.out]; rfl, rfl⟩
    · have hk0 : s.toList = [102, 121] := hk.trans hki
      have HB : Hid (∀ b, (n == [] || n.contains 95) = b → V = if b = true then ([], 0, 23) else (hol false ++ n ++ hol true, 2, 0)) := Lib.hid fun b hb => by
        cases b with
        | true => exact HV.out.trans (simV_bad hi (by rw [hki]; exact beq_self_eq_true _) hb)
        | false => exact HV.out.trans (simV_good hi (by rw [hki]; exact beq_self_eq_true _) hb)
      have HP : Hid (mk n ++ ⟨#[95]⟩ = mk (hol false ++ n ++ hol true)) := Lib.hid (by
        rw [show hol false ++ n = n from rfl, ← mk_app]; rfl)
      clear hk hki HV
      go_enter Tryd.func10, Tryd.ntmps10
      go_wp2
      go_loopw [9] (fun v wr => ∃ j : Nat, v = .int .i64 j ∧ j ≤ m ∧ Hid ((n.take j).contains 95 = false) ∧ wr = w) (fun v _ => m - (intOf v).toNat)
      case atStart => exact ⟨0, rfl, by omega, Lib.hid rfl, rfl⟩
      case round =>
        obtain ⟨j, rfl, hj, HM, rfl⟩ := hrel
        by_cases hlt : j < m
        · have hlt' : (j : Int) < (m : Int) := by omega
          have hx := HIX.out wr j hlt
          cases hu : (ub n j == 95) with
          | true =>
            have HE := Lib.hid (HB.out true (by rw [HUY.out j hlt hu, Bool.or_true]))
            go_wp2
            go_ret3
            exact ⟨by rw [HE.out]; rfl, rfl⟩
          | false =>
            have HN := Lib.hid (HUN.out j hlt HM.out hu)
            go_wp2
            go_roundw
            case rel => exact ⟨j + 1, by go_num, by omega, HN, trivial⟩
            case measure => simp [intOf]; omega
        · have hlt' : ¬ (j : Int) < (m : Int) := by omega
          have HC : Hid (n.contains 95 = false) := Lib.hid (by
            have h1 := HM.out
            rw [show j = m by omega, HFULL.out] at h1
            exact h1)
          by_cases hn0 : (mk n).toList = []
          · have HE := Lib.hid (HB.out true (by rw [mk_toList] at hn0; rw [hn0]; rfl))
            go_wp2
            go_ret3
            exact ⟨by rw [HE.out]; rfl, rfl⟩
          · have hem : (mk n).toList.isEmpty = false := by cases he : (mk n).toList with | nil => exact absurd he hn0 | cons c r => rfl
            have HE := Lib.hid (HB.out false (by rw [HC.out, Bool.or_false]; rw [mk_toList] at hn0; exact beq_eq_false_iff_ne.2 hn0))
            go_wp2
            go_ret3
            exact ⟨by rw [HE.out, HP.out]; rfl, rfl⟩
    · have hk0 : s.toList = [120, 102] := hk.trans hki
      have HB : Hid (∀ b, (n == [] || n.contains 95) = b → V = if b = true then ([], 0, 23) else (hol true ++ n ++ hol false, 0, 0)) := Lib.hid fun b hb => by
        cases b with
        | true => exact HV.out.trans (simV_bad hi (by rw [hki]; exact beq_self_eq_true _) hb)
        | false => exact HV.out.trans (simV_good hi (by rw [hki]; exact beq_self_eq_true _) hb)
      have HP : Hid (⟨#[95]⟩ ++ mk n = mk (hol true ++ n ++ hol false)) := Lib.hid (by
        rw [show hol true ++ n ++ hol false = [95] ++ n from List.append_nil _, ← mk_app]; rfl)
      clear hk hki HV
      go_enter Tryd.func10, Tryd.ntmps10
      go_wp2
      go_loopw [9] (fun v wr => ∃ j : Nat, v = .int .i64 j ∧ j ≤ m ∧ Hid ((n.take j).contains 95 = false) ∧ wr = w) (fun v _ => m - (intOf v).toNat)
      case atStart => exact ⟨0, rfl, by omega, Lib.hid rfl, rfl⟩
      case round =>
        obtain ⟨j, rfl, hj, HM, rfl⟩ := hrel
        by_cases hlt : j < m
        · have hlt' : (j : Int) < (m : Int) := by omega
          have hx := HIX.out wr j hlt
          cases hu : (ub n j == 95) with
          | true =>
            have HE := Lib.hid (HB.out true (by rw [HUY.out j hlt hu, Bool.or_true]))
            go_wp2
            go_ret3
            exact ⟨by rw [HE.out]; rfl, rfl⟩
          | false =>
            have HN := Lib.hid (HUN.out j hlt HM.out hu)
            go_wp2
            go_roundw
            case rel => exact ⟨j + 1, by go_num, by omega, HN, trivial⟩
            case measure => simp [intOf]; omega
        · have hlt' : ¬ (j : Int) < (m : Int) := by omega
          have HC : Hid (n.contains 95 = false) := Lib.hid (by
            have h1 := HM.out
            rw [show j = m by omega, HFULL.out] at h1
            exact h1)
          by_cases hn0 : (mk n).toList = []
          · have HE := Lib.hid (HB.out true (by rw [mk_toList] at hn0; rw [hn0]; rfl))
            go_wp2
            go_ret3
            exact ⟨by rw [HE.out]; rfl, rfl⟩
          · have hem : (mk n).toList.isEmpty = false := by cases he : (mk n).toList with | nil => exact absurd he hn0 | cons c r => rfl
            have HE := Lib.hid (HB.out false (by rw [HC.out, Bool.or_false]; rw [mk_toList] at hn0; exact beq_eq_false_iff_ne.2 hn0))
            go_wp2
            go_ret3
            exact ⟨by rw [HE.out, HP.out]; rfl, rfl⟩
    · have hk0 : s.toList = [121, 102] := hk.trans hki
      have HB : Hid (∀ b, (n == [] || n.contains 95) = b → V = if b = true then ([], 0, 23) else (hol true ++ n ++ hol false, 1, 0)) := Lib.hid fun b hb => by
        cases b with
        | true => exact HV.out.trans (simV_bad hi (by rw [hki]; exact beq_self_eq_true _) hb)
        | false => exact HV.out.trans (simV_good hi (by rw [hki]; exact beq_self_eq_true _) hb)
      have HP : Hid (⟨#[95]⟩ ++ mk n = mk (hol true ++ n ++ hol false)) := Lib.hid (by
        rw [show hol true ++ n ++ hol false = [95] ++ n from List.append_nil _, ← mk_app]; rfl)
      clear hk hki HV
      go_enter Tryd.func10, Tryd.ntmps10
      go_wp2
      go_loopw [9] (fun v wr => ∃ j : Nat, v = .int .i64 j ∧ j ≤ m ∧ Hid ((n.take j).contains 95 = false) ∧ wr = w) (fun v _ => m - (intOf v).toNat)
      case atStart => exact ⟨0, rfl, by omega, Lib.hid rfl, rfl⟩
      case round =>
        obtain ⟨j, rfl, hj, HM, rfl⟩ := hrel
        by_cases hlt : j < m
        · have hlt' : (j : Int) < (m : Int) := by omega
          have hx := HIX.out wr j hlt
          cases hu : (ub n j == 95) with
          | true =>
            have HE := Lib.hid (HB.out true (by rw [HUY.out j hlt hu, Bool.or_true]))
            go_wp2
            go_ret3
            exact ⟨by rw [HE.out]; rfl, rfl⟩
          | false =>
            have HN := Lib.hid (HUN.out j hlt HM.out hu)
            go_wp2
            go_roundw
            case rel => exact ⟨j + 1, by go_num, by omega, HN, trivial⟩
            case measure => simp [intOf]; omega
        · have hlt' : ¬ (j : Int) < (m : Int) := by omega
          have HC : Hid (n.contains 95 = false) := Lib.hid (by
            have h1 := HM.out
            rw [show j = m by omega, HFULL.out] at h1
            exact h1)
          by_cases hn0 : (mk n).toList = []
          · have HE := Lib.hid (HB.out true (by rw [mk_toList] at hn0; rw [hn0]; rfl))
            go_wp2
            go_ret3
            exact ⟨by rw [HE.out]; rfl, rfl⟩
          · have hem : (mk n).toList.isEmpty = false := by cases he : (mk n).toList with | nil => exact absurd he hn0 | cons c r => rfl
            have HE := Lib.hid (HB.out false (by rw [HC.out, Bool.or_false]; rw [mk_toList] at hn0; exact beq_eq_false_iff_ne.2 hn0))
            go_wp2
            go_ret3
            exact ⟨by rw [HE.out, HP.out]; rfl, rfl⟩
  · have HE : Hid (V = ([], 0, 22)) := Lib.hid (HV.out.trans (simV_type hno n))
    have q0 : (s.toList == [120, 102, 120]) = false := beq_eq_false_iff_ne.2 fun h => by
      have := hno 0 (by omega)
      rw [← hk, h] at this
      exact absurd this (by decide)
    have q1 : (s.toList == [120, 102, 121]) = false := beq_eq_false_iff_ne.2 fun h => by
      have := hno 1 (by omega)
      rw [← hk, h] at this
      exact absurd this (by decide)
    have q2 : (s.toList == [121, 102, 120]) = false := beq_eq_false_iff_ne.2 fun h => by
      have := hno 2 (by omega)
      rw [← hk, h] at this
      exact absurd this (by decide)
    have q3 : (s.toList == [102, 120]) = false := beq_eq_false_iff_ne.2 fun h => by
      have := hno 3 (by omega)
      rw [← hk, h] at this
      exact absurd this (by decide)
    have q4 : (s.toList == [102, 121]) = false := beq_eq_false_iff_ne.2 fun h => by
      have := hno 4 (by omega)
      rw [← hk, h] at this
      exact absurd this (by decide)
    have q5 : (s.toList == [120, 102]) = false := beq_eq_false_iff_ne.2 fun h => by
      have := hno 5 (by omega)
      rw [← hk, h] at this
      exact absurd this (by decide)
    have q6 : (s.toList == [121, 102]) = false := beq_eq_false_iff_ne.2 fun h => by
      have := hno 6 (by omega)
      rw [← hk, h] at this
      exact absurd this (by decide)
    clear hno hk HV
    go_enter Tryd.func10, Tryd.ntmps10
    go_wp2
    go_ret3
    exact ⟨by rw [HE.out]; rfl, rfl⟩

end Go.Proofs.YtcadeannnjpaeaaDoor
