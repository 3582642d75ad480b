/- Texts laid one behind the other. -/
import Derived.Test.YtkaeanaeklilfaaGreatDoorM2
import Derived.Test.YtkaeanaeklilfaaGreatDoorM1

/- Contracts: the document's own class of a byte. -/
namespace Go.Proofs.YtkaeanaeklilfaaGreatDoor
open Go.RowKit

set_option maxHeartbeats 400000 in
theorem in_any (s : ByteArray) (c : Int) (w : World) (hm : s.size ≤ 1000) :
    Calls Tryz.prog 158 #[.int .u8 c, .string s] w fun e w' => e = .returned (.bool (memFrom s c 0)) ∧ w = w' := by
  go_enter Tryz.func158, Tryz.ntmps158
  go_wp2
  go_loop [5] (fun i => ∃ k : Nat, i = .int .i64 k ∧ k ≤ s.size ∧ Hid (memFrom s c k = memFrom s c 0)) (fun i => s.size - (intOf i).toNat)
  case atStart => exact ⟨0, rfl, by omega, Lib.hid rfl⟩
  case round =>
    obtain ⟨k, rfl, hk, HM⟩ := hrel
    by_cases hp : k < s.size
    · have hst := memFrom_step (c := c) hp
      have HS := Lib.hid hst
      clear hst
      go_wp2
      · rename_i hq _
        have HT : Hid (memFrom s c 0 = true) := Lib.hid (by rw [← HM.out, HS.out, hq]; rfl)
        go_ret
        exact ⟨by rw [HT.out]; rfl, rfl⟩
      · rename_i hq
        go_round
        case rel => exact ⟨k + 1, by go_num, by omega, Lib.hid (by rw [← HM.out, HS.out, hq]; rfl)⟩
        case measure => simp [intOf]; omega
    · have HT : Hid (memFrom s c 0 = false) := Lib.hid (by rw [← HM.out]; exact memFrom_end hp)
      go_wp2
      go_ret
      exact ⟨by rw [HT.out]; rfl, rfl⟩

/-- The class of a byte by ranges, as the document puts it. -/
def clsR (c : Int) : Int :=
  if c = 9 then 1 else if c = 10 then 1 else if c = 13 then 1 else if c = 32 then 1
  else if 97 ≤ c ∧ c ≤ 122 then 2 else if 65 ≤ c ∧ c ≤ 90 then 3 else if c = 95 then 3 else if 48 ≤ c ∧ c ≤ 57 then 4
  else if memFrom (txt 4) c 0 then 5 else if memFrom (txt 5) c 0 then 6 else if c = 39 then 7 else if c = 37 then 8 else if 128 ≤ c then 9 else 0

theorem cls_all : ∀ n : Nat, n < 256 → cls n = clsR n := by decide +kernel
theorem cls_clsR {c : Int} (h0 : 0 ≤ c) (h1 : c ≤ 255) : cls c = clsR c := by
  have := cls_all c.toNat (by omega)
  rwa [Int.toNat_of_nonneg h0] at this


theorem in4 (c : Int) (w : World) : Calls Tryz.prog 158 #[.int .u8 c, .string { data := #[43, 45, 42, 47, 92, 94, 60, 62, 61, 126, 58, 46, 63, 64, 35, 38, 36, 33] }] w fun e w' => e = .returned (.bool (memFrom (txt 4) c 0)) ∧ w = w' := in_any (txt 4) c w (by decide)
theorem in5 (c : Int) (w : World) : Calls Tryz.prog 158 #[.int .u8 c, .string { data := #[40, 41, 44, 124, 59, 91, 93, 123, 125] }] w fun e w' => e = .returned (.bool (memFrom (txt 5) c 0)) ∧ w = w' := in_any (txt 5) c w (by decide)

set_option maxHeartbeats 8000000 in
theorem rof_any (c : Int) (w : World) (h0 : 0 ≤ c) (h1 : c ≤ 255) :
    Calls Tryz.prog 149 #[.int .u8 c] w fun e w' => e = .returned (.int .i64 (cls c)) ∧ w = w' := by
  have HC := Lib.hid (cls_clsR h0 h1)
  by_cases hc : c = 9 ∨ c = 10 ∨ c = 13 ∨ c = 32 ∨ c = 95
  · clear HC
    rcases hc with rfl | rfl | rfl | rfl | rfl
    all_goals
      go_enter Tryz.func149, Tryz.ntmps149
      go_wp2
      go_ret
      exact ⟨ret_int (by decide +kernel), rfl⟩
  have e1 : (c == 9) = false := by simp; omega
  have e2 : (c == 10) = false := by simp; omega
  have e3 : (c == 13) = false := by simp; omega
  have e4 : (c == 32) = false := by simp; omega
  have e5 : (c == 95) = false := by simp; omega
  by_cases l : 97 ≤ c ∧ c ≤ 122
  · have hT : cls c = 2 := by rw [HC.out]; unfold clsR; rw [if_neg (by omega), if_neg (by omega), if_neg (by omega), if_neg (by omega), if_pos (by omega)]
    have HT := Lib.hid hT
    clear hc hT
    obtain ⟨l1, l2⟩ := l
    go_enter Tryz.func149, Tryz.ntmps149
    go_wp2
    go_ret
    exact ⟨by rw [HT.out]; rfl, rfl⟩
  by_cases lu : 65 ≤ c ∧ c ≤ 90
  · obtain ⟨l1, l2⟩ := lu
    clear l
    have hT : cls c = 3 := by rw [HC.out]; unfold clsR; rw [if_neg (by omega), if_neg (by omega), if_neg (by omega), if_neg (by omega), if_neg (by omega), if_pos (by omega)]
    have HT := Lib.hid hT
    clear hT HC hc
    go_enter Tryz.func149, Tryz.ntmps149
    go_wp2
    go_ret
    exact ⟨by rw [HT.out]; rfl, rfl⟩
  by_cases ld : 48 ≤ c ∧ c ≤ 57
  · obtain ⟨l1, l2⟩ := ld
    clear l lu
    have hT : cls c = 4 := by rw [HC.out]; unfold clsR; rw [if_neg (by omega), if_neg (by omega), if_neg (by omega), if_neg (by omega), if_neg (by omega), if_neg (by omega), if_neg (by omega), if_pos (by omega)]
    have HT := Lib.hid hT
    clear hT HC hc
    go_enter Tryz.func149, Tryz.ntmps149
    go_wp2
    go_ret
    exact ⟨by rw [HT.out]; rfl, rfl⟩
  have gap : c < 48 ∨ (57 < c ∧ c < 65) ∨ (90 < c ∧ c < 97) ∨ 122 < c := by omega
  clear l lu ld
  cases m4 : memFrom (txt 4) c 0 with
  | true =>
    rcases gap with g | ⟨g, g'⟩ | ⟨g, g'⟩ | g
    all_goals
      have hT : cls c = 5 := by rw [HC.out]; unfold clsR; rw [if_neg (by omega), if_neg (by omega), if_neg (by omega), if_neg (by omega), if_neg (by omega), if_neg (by omega), if_neg (by omega), if_neg (by omega), if_pos m4]
      have HT := Lib.hid hT
      clear hT HC hc
      go_enter Tryz.func149, Tryz.ntmps149
      go_wp2_with (first | (go_at_call 158; with_reducible first | (refine (in4 _ _).mono ?_; rintro e w' ⟨rfl, rfl⟩; rw [m4]) | (refine (in5 _ _).mono ?_; rintro e w' ⟨rfl, rfl⟩; rw [m5])))
      go_ret
      exact ⟨by rw [HT.out]; rfl, rfl⟩
  | false =>
    cases m5 : memFrom (txt 5) c 0 with
    | true =>
      rcases gap with g | ⟨g, g'⟩ | ⟨g, g'⟩ | g
      all_goals
        have hT : cls c = 6 := by rw [HC.out]; unfold clsR; rw [if_neg (by omega), if_neg (by omega), if_neg (by omega), if_neg (by omega), if_neg (by omega), if_neg (by omega), if_neg (by omega), if_neg (by omega), if_neg (by rw [m4]; decide), if_pos m5]
        have HT := Lib.hid hT
        clear hT HC hc
        go_enter Tryz.func149, Tryz.ntmps149
        go_wp2_with (first | (go_at_call 158; with_reducible first | (refine (in4 _ _).mono ?_; rintro e w' ⟨rfl, rfl⟩; rw [m4]) | (refine (in5 _ _).mono ?_; rintro e w' ⟨rfl, rfl⟩; rw [m5])))
        go_ret
        exact ⟨by rw [HT.out]; rfl, rfl⟩
    | false =>
      rcases gap with g | ⟨g, g'⟩ | ⟨g, g'⟩ | g
      · by_cases q : c = 39
        · have q' : (c == 39) = true := by simpa using q
          have hT : cls c = 7 := by rw [HC.out]; unfold clsR; rw [if_neg (by omega), if_neg (by omega), if_neg (by omega), if_neg (by omega), if_neg (by omega), if_neg (by omega), if_neg (by omega), if_neg (by omega), if_neg (by rw [m4]; decide), if_neg (by rw [m5]; decide), if_pos (by omega)]
          have HT := Lib.hid hT
          clear hT HC hc q
          go_enter Tryz.func149, Tryz.ntmps149
          go_wp2_with (first | (go_at_call 158; with_reducible first | (refine (in4 _ _).mono ?_; rintro e w' ⟨rfl, rfl⟩; rw [m4]) | (refine (in5 _ _).mono ?_; rintro e w' ⟨rfl, rfl⟩; rw [m5])))
          go_ret
          exact ⟨by rw [HT.out]; rfl, rfl⟩
        · have q' : (c == 39) = false := by simpa using q
          by_cases r : c = 37
          · have r' : (c == 37) = true := by simpa using r
            have hT : cls c = 8 := by rw [HC.out]; unfold clsR; rw [if_neg (by omega), if_neg (by omega), if_neg (by omega), if_neg (by omega), if_neg (by omega), if_neg (by omega), if_neg (by omega), if_neg (by omega), if_neg (by rw [m4]; decide), if_neg (by rw [m5]; decide), if_neg (by omega), if_pos (by omega)]
            have HT := Lib.hid hT
            clear hT HC hc q r
            go_enter Tryz.func149, Tryz.ntmps149
            go_wp2_with (first | (go_at_call 158; with_reducible first | (refine (in4 _ _).mono ?_; rintro e w' ⟨rfl, rfl⟩; rw [m4]) | (refine (in5 _ _).mono ?_; rintro e w' ⟨rfl, rfl⟩; rw [m5])))
            go_ret
            exact ⟨by rw [HT.out]; rfl, rfl⟩
          · have r' : (c == 37) = false := by simpa using r
            have hT : cls c = 0 := by rw [HC.out]; unfold clsR; rw [if_neg (by omega), if_neg (by omega), if_neg (by omega), if_neg (by omega), if_neg (by omega), if_neg (by omega), if_neg (by omega), if_neg (by omega), if_neg (by rw [m4]; decide), if_neg (by rw [m5]; decide), if_neg (by omega), if_neg (by omega), if_neg (by omega)]
            have HT := Lib.hid hT
            clear hT HC hc q r
            go_enter Tryz.func149, Tryz.ntmps149
            go_wp2_with (first | (go_at_call 158; with_reducible first | (refine (in4 _ _).mono ?_; rintro e w' ⟨rfl, rfl⟩; rw [m4]) | (refine (in5 _ _).mono ?_; rintro e w' ⟨rfl, rfl⟩; rw [m5])))
            go_ret
            exact ⟨by rw [HT.out]; rfl, rfl⟩
      · have q' : (c == 39) = false := by simp; omega
        have r' : (c == 37) = false := by simp; omega
        have hT : cls c = 0 := by rw [HC.out]; unfold clsR; rw [if_neg (by omega), if_neg (by omega), if_neg (by omega), if_neg (by omega), if_neg (by omega), if_neg (by omega), if_neg (by omega), if_neg (by omega), if_neg (by rw [m4]; decide), if_neg (by rw [m5]; decide), if_neg (by omega), if_neg (by omega), if_neg (by omega)]
        have HT := Lib.hid hT
        clear hT HC hc
        go_enter Tryz.func149, Tryz.ntmps149
        go_wp2_with (first | (go_at_call 158; with_reducible first | (refine (in4 _ _).mono ?_; rintro e w' ⟨rfl, rfl⟩; rw [m4]) | (refine (in5 _ _).mono ?_; rintro e w' ⟨rfl, rfl⟩; rw [m5])))
        go_ret
        exact ⟨by rw [HT.out]; rfl, rfl⟩
      · have q' : (c == 39) = false := by simp; omega
        have r' : (c == 37) = false := by simp; omega
        have hT : cls c = 0 := by rw [HC.out]; unfold clsR; rw [if_neg (by omega), if_neg (by omega), if_neg (by omega), if_neg (by omega), if_neg (by omega), if_neg (by omega), if_neg (by omega), if_neg (by omega), if_neg (by rw [m4]; decide), if_neg (by rw [m5]; decide), if_neg (by omega), if_neg (by omega), if_neg (by omega)]
        have HT := Lib.hid hT
        clear hT HC hc
        go_enter Tryz.func149, Tryz.ntmps149
        go_wp2_with (first | (go_at_call 158; with_reducible first | (refine (in4 _ _).mono ?_; rintro e w' ⟨rfl, rfl⟩; rw [m4]) | (refine (in5 _ _).mono ?_; rintro e w' ⟨rfl, rfl⟩; rw [m5])))
        go_ret
        exact ⟨by rw [HT.out]; rfl, rfl⟩
      · have q' : (c == 39) = false := by simp; omega
        have r' : (c == 37) = false := by simp; omega
        by_cases t : 128 ≤ c
        · have hT : cls c = 9 := by rw [HC.out]; unfold clsR; rw [if_neg (by omega), if_neg (by omega), if_neg (by omega), if_neg (by omega), if_neg (by omega), if_neg (by omega), if_neg (by omega), if_neg (by omega), if_neg (by rw [m4]; decide), if_neg (by rw [m5]; decide), if_neg (by omega), if_neg (by omega), if_pos (by omega)]
          have HT := Lib.hid hT
          clear hT HC hc
          go_enter Tryz.func149, Tryz.ntmps149
          go_wp2_with (first | (go_at_call 158; with_reducible first | (refine (in4 _ _).mono ?_; rintro e w' ⟨rfl, rfl⟩; rw [m4]) | (refine (in5 _ _).mono ?_; rintro e w' ⟨rfl, rfl⟩; rw [m5])))
          go_ret
          exact ⟨by rw [HT.out]; rfl, rfl⟩
        · have hT : cls c = 0 := by rw [HC.out]; unfold clsR; rw [if_neg (by omega), if_neg (by omega), if_neg (by omega), if_neg (by omega), if_neg (by omega), if_neg (by omega), if_neg (by omega), if_neg (by omega), if_neg (by rw [m4]; decide), if_neg (by rw [m5]; decide), if_neg (by omega), if_neg (by omega), if_neg (by omega)]
          have HT := Lib.hid hT
          clear hT HC hc
          go_enter Tryz.func149, Tryz.ntmps149
          go_wp2_with (first | (go_at_call 158; with_reducible first | (refine (in4 _ _).mono ?_; rintro e w' ⟨rfl, rfl⟩; rw [m4]) | (refine (in5 _ _).mono ?_; rintro e w' ⟨rfl, rfl⟩; rw [m5])))
          go_ret
          exact ⟨by rw [HT.out]; rfl, rfl⟩

end Go.Proofs.YtkaeanaeklilfaaGreatDoor

/- Contract: the document's own runs. -/
namespace Go.Proofs.YtkaeanaeklilfaaGreatDoor
open Go.RowKit

theorem rrun_any (a : Option Addr) (len cap : Nat) (l : List Int) (n : Int) (w : World) (h : Bs w a len cap l) :
    Calls Tryz.prog 154 #[.slice a len cap, .int .i64 n] w fun e w' => e = .returned (.int .i64 (runL n l)) ∧ w = w' := by
  have hm := h.lt
  unfold maxLen at hm
  have H := Lib.hid h
  clear h
  go_enter Tryz.func154, Tryz.ntmps154
  go_wp2
  go_loop [5] (fun i => ∃ k : Nat, i = .int .i64 k ∧ k ≤ len ∧ Hid (k + runL n (l.drop k) = runL n l)) (fun i => len - (intOf i).toNat)
  case atStart => exact ⟨0, rfl, by omega, Lib.hid (by simp)⟩
  case round =>
    obtain ⟨k, rfl, hk, HM⟩ := hrel
    by_cases hlt : k < len
    · have hll := H.out.hl
      have HS := Lib.hid (runL_drop n l k (by omega))
      have h0 := (bt_rng H.out.rng k).1
      have h1 := (bt_rng H.out.rng k).2
      obtain ⟨b, off, rfl, _, hc⟩ := H.out.at_ (by omega)
      have hck := hc k hlt
      clear hll hc
      go_wp2_with (first | (go_at_call 149; refine (rof_any _ _ h0 h1).mono ?_; rintro e w' ⟨rfl, rfl⟩))
      · rename_i hq
        go_round
        case rel => exact ⟨k + 1, by go_num, by omega, Lib.hid (by rw [← HM.out, HS.out, if_pos (by simpa using hq)]; omega)⟩
        case measure => simp [intOf]; omega
      · rename_i hq
        have HF : Hid (runL n l = k) := Lib.hid (by rw [← HM.out, HS.out, if_neg (by simpa using hq)]; rfl)
        go_ret
        exact ⟨by rw [HF.out]; rfl, rfl⟩
    · have HF : Hid (runL n l = len) := Lib.hid (by rw [← HM.out, List.drop_eq_nil_iff.2 (by have := H.out.hl; omega)]; simp [runL]; omega)
      have hkl : k = len := by omega
      subst hkl
      go_wp2
      go_ret
      exact ⟨by rw [HF.out]; rfl, rfl⟩

end Go.Proofs.YtkaeanaeklilfaaGreatDoor

/- Contract: the document's own names. -/
namespace Go.Proofs.YtkaeanaeklilfaaGreatDoor
open Go.RowKit

theorem rname_any (c : Int) (w : World) (h0 : 0 ≤ c) (h1 : c ≤ 255) :
    Calls Tryz.prog 161 #[.int .u8 c] w fun e w' => e = .returned (.bool (nameB c)) ∧ w = w' := by
  by_cases e2 : cls c = 2
  · have HN : Hid (nameB c = true) := Lib.hid (by simp [nameB, e2])
    go_enter Tryz.func161, Tryz.ntmps161
    go_wp2_with (first | (go_at_call 149; refine (rof_any c _ h0 h1).mono ?_; rintro e w' ⟨rfl, rfl⟩))
    go_ret
    exact ⟨by rw [HN.out]; rfl, rfl⟩
  have f2 : (cls c == 2) = false := by simpa using e2
  by_cases e3 : cls c = 3
  · have HN : Hid (nameB c = true) := Lib.hid (by simp [nameB, e3])
    clear e2
    go_enter Tryz.func161, Tryz.ntmps161
    go_wp2_with (first | (go_at_call 149; refine (rof_any c _ h0 h1).mono ?_; rintro e w' ⟨rfl, rfl⟩))
    go_ret
    exact ⟨by rw [HN.out]; rfl, rfl⟩
  have f3 : (cls c == 3) = false := by simpa using e3
  have HN : Hid (nameB c = (cls c == 4)) := Lib.hid (by simp [nameB, f2, f3])
  clear e2 e3
  go_enter Tryz.func161, Tryz.ntmps161
  go_wp2_with (first | (go_at_call 149; refine (rof_any c _ h0 h1).mono ?_; rintro e w' ⟨rfl, rfl⟩))
  go_ret
  exact ⟨by rw [HN.out]; rfl, rfl⟩

end Go.Proofs.YtkaeanaeklilfaaGreatDoor
