/- Contracts: names, runs, the statements' own 'few' and 'shown'. -/
import Derived.Test.YthmpedmfpbfdaaaDoorVc
import Derived.Lib.SmallJoins
namespace Go.Proofs.YthmpedmfpbfdaaaDoor
open Go.RowKit

def nameB (c : Int) : Bool := cls c == 2 || (cls c == 3 || cls c == 4)
theorem ret_bool {a b : Bool} (h : a = b) : Ending.returned (.bool a) = .returned (.bool b) := by rw [h]

set_option maxHeartbeats 400000 in
theorem name_any (c : Int) (w : World) (ht : Tab w) (h0 : 0 ≤ c) (h1 : c ≤ 255) :
    Calls Tryd.prog 10 #[.int .u8 c] w fun e w' => e = .returned (.bool (nameB c)) ∧ Below w.heap.size w w' := by
  have HT := Lib.hid ht
  clear ht
  go_enter Tryd.func10, Tryd.ntmps10
  go_wp2_with (first | (go_at_call 8; refine (of_any c _ HT.out h0 h1).mono ?_; rintro e w' ⟨rfl, hb⟩; have HB := Lib.hid hb; clear hb))
  all_goals
    go_ret
    exact ⟨ret_bool (by simp_all [nameB]), HB.out⟩

set_option maxHeartbeats 400000 in
theorem rname_any (c : Int) (w : World) (h0 : 0 ≤ c) (h1 : c ≤ 255) :
    Calls Tryd.prog 11 #[.int .u8 c] w fun e w' => e = .returned (.bool (nameB c)) ∧ w = w' := by
  by_cases e2 : cls c = 2
  · have HN : Hid (nameB c = true) := Lib.hid (by simp [nameB, e2])
    go_enter Tryd.func11, Tryd.ntmps11
    go_wp2_with (first | (go_at_call 9; refine (rof_any c _ h0 h1).mono ?_; rintro e w' ⟨rfl, rfl⟩))
    go_ret
    exact ⟨by rw [HN.out]; rfl, rfl⟩
  have f2 : (cls c == 2) = false := by simpa using e2
  by_cases e3 : cls c = 3
  · have HN : Hid (nameB c = true) := Lib.hid (by simp [nameB, e3])
    clear e2
    go_enter Tryd.func11, Tryd.ntmps11
    go_wp2_with (first | (go_at_call 9; refine (rof_any c _ h0 h1).mono ?_; rintro e w' ⟨rfl, rfl⟩))
    go_ret
    exact ⟨by rw [HN.out]; rfl, rfl⟩
  have f3 : (cls c == 3) = false := by simpa using e3
  have HN : Hid (nameB c = (cls c == 4)) := Lib.hid (by simp [nameB, f2, f3])
  clear e2 e3
  go_enter Tryd.func11, Tryd.ntmps11
  go_wp2_with (first | (go_at_call 9; refine (rof_any c _ h0 h1).mono ?_; rintro e w' ⟨rfl, rfl⟩))
  go_ret
  exact ⟨by rw [HN.out]; rfl, rfl⟩

/-- How many bytes at the beginning are of class n. -/
def runL (n : Int) : List Int → Nat
  | [] => 0
  | c :: r => if cls c = n then 1 + runL n r else 0

theorem runL_le (n : Int) : ∀ l : List Int, runL n l ≤ l.length
  | [] => Nat.le_refl _
  | c :: r => by have := runL_le n r; simp only [runL, List.length_cons]; split <;> omega

theorem runL_drop (n : Int) (l : List Int) (k : Nat) (h : k < l.length) : runL n (l.drop k) = if cls (bt l k) = n then 1 + runL n (l.drop (k + 1)) else 0 := by
  rw [List.drop_eq_getElem_cons h, runL, show bt l k = l[k] from by simp [bt, List.getD, h]]

set_option maxHeartbeats 400000 in
theorem run_any (a : Option Addr) (len cap : Nat) (l : List Int) (n : Int) (w : World) (h : Bs w a len cap l) (ht : Tab w) :
    Calls Tryd.prog 12 #[.slice a len cap, .int .i64 n] w fun e w' => e = .returned (.int .i64 (runL n l)) ∧ Below w.heap.size w w' := by
  have hm := h.lt
  unfold maxLen at hm
  have H := Lib.hid h
  have HT := Lib.hid ht
  clear h ht
  go_enter Tryd.func12, Tryd.ntmps12
  go_wp2
  go_loopw [9] (fun i wr => ∃ k : Nat, i = .int .i64 k ∧ k ≤ len ∧ Hid (k + runL n (l.drop k) = runL n l) ∧ Hid (Below w.heap.size w wr)) (fun i _ => len - (intOf i).toNat)
  case atStart => exact ⟨0, rfl, by omega, Lib.hid (by simp), Lib.hid (Below.refl _ _)⟩
  case round =>
    obtain ⟨k, rfl, hk, HM, HB⟩ := hrel
    by_cases hlt : k < len
    · have hb := H.out.below HB.out
      have hll := hb.hl
      have HS := Lib.hid (runL_drop n l k (by omega))
      have h0 := (bt_rng hb.rng k).1
      have h1 := (bt_rng hb.rng k).2
      obtain ⟨b, off, rfl, _, hc⟩ := hb.at_ (by omega)
      have hck := hc k hlt
      have HTT := Lib.hid (HT.out.keep HB.out)
      clear hb hll hc
      go_wp2_with (first | (go_at_call 8; refine (of_any _ _ HTT.out h0 h1).mono ?_; rintro e w' ⟨rfl, hb2⟩; have HB2 := Lib.hid hb2; clear hb2))
      · rename_i hq
        have HF : Hid (runL n l = k) := Lib.hid (by rw [← HM.out, HS.out, if_neg (by simpa using hq)]; rfl)
        go_ret
        exact ⟨by rw [HF.out]; rfl, HB.out.trans (HB2.out.mono HB.out.size)⟩
      · rename_i hq
        go_roundw
        case rel => exact ⟨k + 1, by go_num, by omega, Lib.hid (by rw [← HM.out, HS.out, if_pos (by simpa using hq)]; omega), Lib.hid (HB.out.trans (HB2.out.mono HB.out.size))⟩
        case measure => simp [intOf]; omega
    · have HF : Hid (runL n l = len) := Lib.hid (by rw [← HM.out, List.drop_eq_nil_iff.2 (by have := H.out.hl; omega)]; simp [runL]; omega)
      go_wp2
      go_ret
      exact ⟨by rw [HF.out]; rfl, HB.out⟩

set_option maxHeartbeats 400000 in
theorem rrun_any (a : Option Addr) (len cap : Nat) (l : List Int) (n : Int) (w : World) (h : Bs w a len cap l) :
    Calls Tryd.prog 14 #[.slice a len cap, .int .i64 n] w fun e w' => e = .returned (.int .i64 (runL n l)) ∧ w = w' := by
  have hm := h.lt
  unfold maxLen at hm
  have H := Lib.hid h
  clear h
  go_enter Tryd.func14, Tryd.ntmps14
  go_wp2
  go_loop [5] (fun i => ∃ k : Nat, i = .int .i64 k ∧ k ≤ len ∧ Hid (k + runL n (l.drop k) = runL n l)) (fun i => len - (intOf i).toNat)
  case atStart => exact ⟨0, rfl, by omega, Lib.hid (by simp)⟩
  case round =>
    obtain ⟨k, rfl, hk, HM⟩ := hrel
    by_cases hlt : k < len
    · have hll := H.out.hl
      have HS := Lib.hid (runL_drop n l k (by omega))
      have h0 := (bt_rng H.out.rng k).1
      have h1 := (bt_rng H.out.rng k).2
      obtain ⟨b, off, rfl, _, hc⟩ := H.out.at_ (by omega)
      have hck := hc k hlt
      clear hll hc
      go_wp2_with (first | (go_at_call 9; refine (rof_any _ _ h0 h1).mono ?_; rintro e w' ⟨rfl, rfl⟩))
      · rename_i hq
        go_round
        case rel => exact ⟨k + 1, by go_num, by omega, Lib.hid (by rw [← HM.out, HS.out, if_pos (by simpa using hq)]; omega)⟩
        case measure => simp [intOf]; omega
      · rename_i hq
        have HF : Hid (runL n l = k) := Lib.hid (by rw [← HM.out, HS.out, if_neg (by simpa using hq)]; rfl)
        go_ret
        exact ⟨by rw [HF.out]; rfl, rfl⟩
    · have HF : Hid (runL n l = len) := Lib.hid (by rw [← HM.out, List.drop_eq_nil_iff.2 (by have := H.out.hl; omega)]; simp [runL]; omega)
      have hkl : k = len := by omega
      subst hkl
      go_wp2
      go_ret
      exact ⟨by rw [HF.out]; rfl, rfl⟩

-- 'few': 200 bytes at most.
set_option maxHeartbeats 400000 in
theorem few_any (a : Option Addr) (len cap : Nat) (l : List Int) (w : World) (h : Bs w a len cap l) :
    Calls Tryd.prog 13 #[.slice a len cap] w fun e w' => e = .returned (.slice a (min len 200) cap) ∧ w = w' := by
  have hm := h.lt
  have hlc := h.lc
  have hcm := h.cm
  unfold maxLen at hm hcm
  clear h
  by_cases h200 : len ≤ 200
  · have HM : Hid (min len 200 = len) := Lib.hid (Nat.min_eq_left h200)
    go_enter Tryd.func13, Tryd.ntmps13
    go_wp2
    go_ret
    exact ⟨by rw [HM.out]; rfl, rfl⟩
  · have HM : Hid (min len 200 = 200) := Lib.hid (Nat.min_eq_right (by omega))
    go_enter Tryd.func13, Tryd.ntmps13
    go_wp2
    go_ret
    exact ⟨by rw [HM.out]; rfl, rfl⟩

theorem few_bs {w : World} {a : Option Addr} {len cap : Nat} {l : List Int} (h : Bs w a len cap l) : Bs w a (min len 200) cap (l.take 200) := by
  have h1 := h.lc
  have h2 := h.cm
  have h3 := h.take (k := min len 200) (c' := cap) (Nat.min_le_left _ _) (by omega) h2
  rwa [show l.take (min len 200) = l.take 200 from by
    rw [← h.hl, Nat.min_comm, ← List.take_take, List.take_length]] at h3

end Go.Proofs.YthmpedmfpbfdaaaDoor
