import Derived.Lib.Hide
import Derived.Test.YtcjbhdgjcpnklaaGreatDoorV22
import Derived.Test.YtcjbhdgjcpnklaaGreatDoorV01
import Derived.Test.YtcjbhdgjcpnklaaGreatDoorV02
namespace Go.Proofs.YtcjbhdgjcpnklaaGreatDoor
section
open Go.RowKit
set_option maxHeartbeats 400000 in
theorem zNC (s : ByteArray) (c : Int) (w : World) (hm : s.size ≤ 1000) :
  Calls Tryz.prog 210 #[.int .u8 c, .string s] w fun e w' => e = .returned (.bool (memFrom s c 0)) ∧ w = w' := by
 go_enter Tryz.func210, Tryz.ntmps210
 go_wp2
 go_loop [5] (fun i => ∃ k : Nat, i = .int .i64 k ∧ k ≤ s.size ∧ Hid (memFrom s c k = memFrom s c 0)) (fun i => s.size - (intOf i).toNat)
 case atStart => exact ⟨0, rfl, by omega, hid rfl⟩
 case round =>
  obtain ⟨k, rfl, hk, HM⟩ := hrel
  by_cases hp : k < s.size
  ·have hst := zDL (c := c) hp
   have HS := hid hst
   clear hst
   go_wp2
   ·rename_i hq _
    have HT : Hid (memFrom s c 0 = true) := hid (by rw [← HM.out, HS.out, hq]; rfl)
    go_ret
    exact ⟨by rw [HT.out]; rfl, rfl⟩
   ·rename_i hq
    go_round
    case rel => exact ⟨k + 1, by go_num, by omega, hid (by rw [← HM.out, HS.out, hq]; rfl)⟩
    case measure => simp [intOf]; omega
  ·have HT : Hid (memFrom s c 0 = false) := hid (by rw [← HM.out]; exact zDm hp)
   go_wp2
   go_ret
   exact ⟨by rw [HT.out]; rfl, rfl⟩
def clsR (c : Int) : Int :=
 if c = 9 then 1 else if c = 10 then 1 else if c = 13 then 1 else if c = 32 then 1
 else if 97 ≤ c ∧ c ≤ 122 then 2 else if 65 ≤ c ∧ c ≤ 90 then 3 else if c = 95 then 3 else if 48 ≤ c ∧ c ≤ 57 then 4
 else if memFrom (txt 4) c 0 then 5 else if memFrom (txt 5) c 0 then 6 else if c = 39 then 7 else if c = 37 then 8 else if 128 ≤ c then 9 else 0
theorem zN4 : ∀ n : Nat, n < 256 → cls n = clsR n := by decide +kernel
theorem zLr {c : Int} (h0 : 0 ≤ c) (h1 : c ≤ 255) : cls c = clsR c := by
 have := zN4 c.toNat (by omega)
 rwa [Int.toNat_of_nonneg h0] at this
theorem in4 (c : Int) (w : World) : Calls Tryz.prog 210 #[.int .u8 c, .string { data := #[43, 45, 42, 47, 92, 94, 60, 62, 61, 126, 58, 46, 63, 64, 35, 38, 36, 33] }] w fun e w' => e = .returned (.bool (memFrom (txt 4) c 0)) ∧ w = w' := zNC (txt 4) c w (by decide)
theorem in5 (c : Int) (w : World) : Calls Tryz.prog 210 #[.int .u8 c, .string { data := #[40, 41, 44, 124, 59, 91, 93, 123, 125] }] w fun e w' => e = .returned (.bool (memFrom (txt 5) c 0)) ∧ w = w' := zNC (txt 5) c w (by decide)
set_option maxHeartbeats 8000000 in
theorem zAQ (c : Int) (w : World) (h0 : 0 ≤ c) (h1 : c ≤ 255) :
  Calls Tryz.prog 201 #[.int .u8 c] w fun e w' => e = .returned (.int .i64 (cls c)) ∧ w = w' := by
 have HC := hid (zLr h0 h1)
 by_cases hc : c = 9 ∨ c = 10 ∨ c = 13 ∨ c = 32 ∨ c = 95
 ·clear HC
  rcases hc with rfl | rfl | rfl | rfl | rfl
  all_goals
   go_enter Tryz.func201, Tryz.ntmps201
   go_wp2
   go_ret
   exact ⟨zE9 (by decide +kernel), rfl⟩
 have e1 : (c == 9) = false := by simp; omega
 have e2 : (c == 10) = false := by simp; omega
 have e3 : (c == 13) = false := by simp; omega
 have e4 : (c == 32) = false := by simp; omega
 have e5 : (c == 95) = false := by simp; omega
 by_cases l : 97 ≤ c ∧ c ≤ 122
 ·have hT : cls c = 2 := by rw [HC.out]; unfold clsR; rw [if_neg (by omega), if_neg (by omega), if_neg (by omega), if_neg (by omega), if_pos (by omega)]
  have HT := hid hT
  clear hc hT
  obtain ⟨l1, l2⟩ := l
  go_enter Tryz.func201, Tryz.ntmps201
  go_wp2
  go_ret
  exact ⟨by rw [HT.out]; rfl, rfl⟩
 by_cases lu : 65 ≤ c ∧ c ≤ 90
 ·obtain ⟨l1, l2⟩ := lu
  clear l
  have hT : cls c = 3 := by rw [HC.out]; unfold clsR; rw [if_neg (by omega), if_neg (by omega), if_neg (by omega), if_neg (by omega), if_neg (by omega), if_pos (by omega)]
  have HT := hid hT
  clear hT HC hc
  go_enter Tryz.func201, Tryz.ntmps201
  go_wp2
  go_ret
  exact ⟨by rw [HT.out]; rfl, rfl⟩
 by_cases ld : 48 ≤ c ∧ c ≤ 57
 ·obtain ⟨l1, l2⟩ := ld
  clear l lu
  have hT : cls c = 4 := by rw [HC.out]; unfold clsR; rw [if_neg (by omega), if_neg (by omega), if_neg (by omega), if_neg (by omega), if_neg (by omega), if_neg (by omega), if_neg (by omega), if_pos (by omega)]
  have HT := hid hT
  clear hT HC hc
  go_enter Tryz.func201, Tryz.ntmps201
  go_wp2
  go_ret
  exact ⟨by rw [HT.out]; rfl, rfl⟩
 have gap : c < 48 ∨ (57 < c ∧ c < 65) ∨ (90 < c ∧ c < 97) ∨ 122 < c := by omega
 clear l lu ld
 cases m4 : memFrom (txt 4) c 0 with
 | true =>
  rcases gap with g | ⟨g, g'⟩ | ⟨g, g'⟩ | g
  all_goals
   have hT : cls c = 5 := by rw [HC.out]; unfold clsR; rw [if_neg (by omega), if_neg (by omega), if_neg (by omega), if_neg (by omega), if_neg (by omega), if_neg (by omega), if_neg (by omega), if_neg (by omega), if_pos m4]
   have HT := hid hT
   clear hT HC hc
   go_enter Tryz.func201, Tryz.ntmps201
   go_wp2_with (first | (go_at_call 210; with_reducible first | (refine (in4 _ _).mono ?_; rintro e w' ⟨rfl, rfl⟩; rw [m4]) | (refine (in5 _ _).mono ?_; rintro e w' ⟨rfl, rfl⟩; rw [m5])))
   go_ret
   exact ⟨by rw [HT.out]; rfl, rfl⟩
 | false =>
  cases m5 : memFrom (txt 5) c 0 with
  | true =>
   rcases gap with g | ⟨g, g'⟩ | ⟨g, g'⟩ | g
   all_goals
    have hT : cls c = 6 := by rw [HC.out]; unfold clsR; rw [if_neg (by omega), if_neg (by omega), if_neg (by omega), if_neg (by omega), if_neg (by omega), if_neg (by omega), if_neg (by omega), if_neg (by omega), if_neg (by rw [m4]; decide), if_pos m5]
    have HT := hid hT
    clear hT HC hc
    go_enter Tryz.func201, Tryz.ntmps201
    go_wp2_with (first | (go_at_call 210; with_reducible first | (refine (in4 _ _).mono ?_; rintro e w' ⟨rfl, rfl⟩; rw [m4]) | (refine (in5 _ _).mono ?_; rintro e w' ⟨rfl, rfl⟩; rw [m5])))
    go_ret
    exact ⟨by rw [HT.out]; rfl, rfl⟩
  | false =>
   rcases gap with g | ⟨g, g'⟩ | ⟨g, g'⟩ | g
   ·by_cases q : c = 39
    ·have q' : (c == 39) = true := by simpa using q
     have hT : cls c = 7 := by rw [HC.out]; unfold clsR; rw [if_neg (by omega), if_neg (by omega), if_neg (by omega), if_neg (by omega), if_neg (by omega), if_neg (by omega), if_neg (by omega), if_neg (by omega), if_neg (by rw [m4]; decide), if_neg (by rw [m5]; decide), if_pos (by omega)]
     have HT := hid hT
     clear hT HC hc q
     go_enter Tryz.func201, Tryz.ntmps201
     go_wp2_with (first | (go_at_call 210; with_reducible first | (refine (in4 _ _).mono ?_; rintro e w' ⟨rfl, rfl⟩; rw [m4]) | (refine (in5 _ _).mono ?_; rintro e w' ⟨rfl, rfl⟩; rw [m5])))
     go_ret
     exact ⟨by rw [HT.out]; rfl, rfl⟩
    ·have q' : (c == 39) = false := by simpa using q
     by_cases r : c = 37
     ·have r' : (c == 37) = true := by simpa using r
      have hT : cls c = 8 := by rw [HC.out]; unfold clsR; rw [if_neg (by omega), if_neg (by omega), if_neg (by omega), if_neg (by omega), if_neg (by omega), if_neg (by omega), if_neg (by omega), if_neg (by omega), if_neg (by rw [m4]; decide), if_neg (by rw [m5]; decide), if_neg (by omega), if_pos (by omega)]
      have HT := hid hT
      clear hT HC hc q r
      go_enter Tryz.func201, Tryz.ntmps201
      go_wp2_with (first | (go_at_call 210; with_reducible first | (refine (in4 _ _).mono ?_; rintro e w' ⟨rfl, rfl⟩; rw [m4]) | (refine (in5 _ _).mono ?_; rintro e w' ⟨rfl, rfl⟩; rw [m5])))
      go_ret
      exact ⟨by rw [HT.out]; rfl, rfl⟩
     ·have r' : (c == 37) = false := by simpa using r
      have hT : cls c = 0 := by rw [HC.out]; unfold clsR; rw [if_neg (by omega), if_neg (by omega), if_neg (by omega), if_neg (by omega), if_neg (by omega), if_neg (by omega), if_neg (by omega), if_neg (by omega), if_neg (by rw [m4]; decide), if_neg (by rw [m5]; decide), if_neg (by omega), if_neg (by omega), if_neg (by omega)]
      have HT := hid hT
      clear hT HC hc q r
      go_enter Tryz.func201, Tryz.ntmps201
      go_wp2_with (first | (go_at_call 210; with_reducible first | (refine (in4 _ _).mono ?_; rintro e w' ⟨rfl, rfl⟩; rw [m4]) | (refine (in5 _ _).mono ?_; rintro e w' ⟨rfl, rfl⟩; rw [m5])))
      go_ret
      exact ⟨by rw [HT.out]; rfl, rfl⟩
   ·have q' : (c == 39) = false := by simp; omega
    have r' : (c == 37) = false := by simp; omega
    have hT : cls c = 0 := by rw [HC.out]; unfold clsR; rw [if_neg (by omega), if_neg (by omega), if_neg (by omega), if_neg (by omega), if_neg (by omega), if_neg (by omega), if_neg (by omega), if_neg (by omega), if_neg (by rw [m4]; decide), if_neg (by rw [m5]; decide), if_neg (by omega), if_neg (by omega), if_neg (by omega)]
    have HT := hid hT
    clear hT HC hc
    go_enter Tryz.func201, Tryz.ntmps201
    go_wp2_with (first | (go_at_call 210; with_reducible first | (refine (in4 _ _).mono ?_; rintro e w' ⟨rfl, rfl⟩; rw [m4]) | (refine (in5 _ _).mono ?_; rintro e w' ⟨rfl, rfl⟩; rw [m5])))
    go_ret
    exact ⟨by rw [HT.out]; rfl, rfl⟩
   ·have q' : (c == 39) = false := by simp; omega
    have r' : (c == 37) = false := by simp; omega
    have hT : cls c = 0 := by rw [HC.out]; unfold clsR; rw [if_neg (by omega), if_neg (by omega), if_neg (by omega), if_neg (by omega), if_neg (by omega), if_neg (by omega), if_neg (by omega), if_neg (by omega), if_neg (by rw [m4]; decide), if_neg (by rw [m5]; decide), if_neg (by omega), if_neg (by omega), if_neg (by omega)]
    have HT := hid hT
    clear hT HC hc
    go_enter Tryz.func201, Tryz.ntmps201
    go_wp2_with (first | (go_at_call 210; with_reducible first | (refine (in4 _ _).mono ?_; rintro e w' ⟨rfl, rfl⟩; rw [m4]) | (refine (in5 _ _).mono ?_; rintro e w' ⟨rfl, rfl⟩; rw [m5])))
    go_ret
    exact ⟨by rw [HT.out]; rfl, rfl⟩
   ·have q' : (c == 39) = false := by simp; omega
    have r' : (c == 37) = false := by simp; omega
    by_cases t : 128 ≤ c
    ·have hT : cls c = 9 := by rw [HC.out]; unfold clsR; rw [if_neg (by omega), if_neg (by omega), if_neg (by omega), if_neg (by omega), if_neg (by omega), if_neg (by omega), if_neg (by omega), if_neg (by omega), if_neg (by rw [m4]; decide), if_neg (by rw [m5]; decide), if_neg (by omega), if_neg (by omega), if_pos (by omega)]
     have HT := hid hT
     clear hT HC hc
     go_enter Tryz.func201, Tryz.ntmps201
     go_wp2_with (first | (go_at_call 210; with_reducible first | (refine (in4 _ _).mono ?_; rintro e w' ⟨rfl, rfl⟩; rw [m4]) | (refine (in5 _ _).mono ?_; rintro e w' ⟨rfl, rfl⟩; rw [m5])))
     go_ret
     exact ⟨by rw [HT.out]; rfl, rfl⟩
    ·have hT : cls c = 0 := by rw [HC.out]; unfold clsR; rw [if_neg (by omega), if_neg (by omega), if_neg (by omega), if_neg (by omega), if_neg (by omega), if_neg (by omega), if_neg (by omega), if_neg (by omega), if_neg (by rw [m4]; decide), if_neg (by rw [m5]; decide), if_neg (by omega), if_neg (by omega), if_neg (by omega)]
     have HT := hid hT
     clear hT HC hc
     go_enter Tryz.func201, Tryz.ntmps201
     go_wp2_with (first | (go_at_call 210; with_reducible first | (refine (in4 _ _).mono ?_; rintro e w' ⟨rfl, rfl⟩; rw [m4]) | (refine (in5 _ _).mono ?_; rintro e w' ⟨rfl, rfl⟩; rw [m5])))
     go_ret
     exact ⟨by rw [HT.out]; rfl, rfl⟩
end
section
open Go.RowKit
theorem zCN (a : Option Addr) (len cap : Nat) (l : List Int) (n : Int) (w : World) (h : Bs w a len cap l) :
  Calls Tryz.prog 206 #[.slice a len cap, .int .i64 n] w fun e w' => e = .returned (.int .i64 (runL n l)) ∧ w = w' := by
 have hm := h.lt
 unfold maxLen at hm
 have H := hid h
 clear h
 go_enter Tryz.func206, Tryz.ntmps206
 go_wp2
 go_loop [5] (fun i => ∃ k : Nat, i = .int .i64 k ∧ k ≤ len ∧ Hid (k + runL n (l.drop k) = runL n l)) (fun i => len - (intOf i).toNat)
 case atStart => exact ⟨0, rfl, by omega, hid (by simp)⟩
 case round =>
  obtain ⟨k, rfl, hk, HM⟩ := hrel
  by_cases hlt : k < len
  ·have hll := H.out.hl
   have HS := hid (zFx n l k (by omega))
   have h0 := (zAI H.out.rng k).1
   have h1 := (zAI H.out.rng k).2
   obtain ⟨b, off, rfl, _, hc⟩ := H.out.at_ (by omega)
   have hck := hc k hlt
   clear hll hc
   go_wp2_with (first | (go_at_call 201; refine (zAQ _ _ h0 h1).mono ?_; rintro e w' ⟨rfl, rfl⟩))
   ·rename_i hq
    go_round
    case rel => exact ⟨k + 1, by go_num, by omega, hid (by rw [← HM.out, HS.out, if_pos (by simpa using hq)]; omega)⟩
    case measure => simp [intOf]; omega
   ·rename_i hq
    have HF : Hid (runL n l = k) := hid (by rw [← HM.out, HS.out, if_neg (by simpa using hq)]; rfl)
    go_ret
    exact ⟨by rw [HF.out]; rfl, rfl⟩
  ·have HF : Hid (runL n l = len) := hid (by rw [← HM.out, List.drop_eq_nil_iff.2 (by have := H.out.hl; omega)]; simp [runL]; omega)
   have hkl : k = len := by omega
   subst hkl
   go_wp2
   go_ret
   exact ⟨by rw [HF.out]; rfl, rfl⟩
end
section
open Go.RowKit
theorem zCe (c : Int) (w : World) (h0 : 0 ≤ c) (h1 : c ≤ 255) :
  Calls Tryz.prog 213 #[.int .u8 c] w fun e w' => e = .returned (.bool (nameB c)) ∧ w = w' := by
 by_cases e2 : cls c = 2
 ·have HN : Hid (nameB c = true) := hid (by simp [nameB, e2])
  go_enter Tryz.func213, Tryz.ntmps213
  go_wp2_with (first | (go_at_call 201; refine (zAQ c _ h0 h1).mono ?_; rintro e w' ⟨rfl, rfl⟩))
  go_ret
  exact ⟨by rw [HN.out]; rfl, rfl⟩
 have f2 : (cls c == 2) = false := by simpa using e2
 by_cases e3 : cls c = 3
 ·have HN : Hid (nameB c = true) := hid (by simp [nameB, e3])
  clear e2
  go_enter Tryz.func213, Tryz.ntmps213
  go_wp2_with (first | (go_at_call 201; refine (zAQ c _ h0 h1).mono ?_; rintro e w' ⟨rfl, rfl⟩))
  go_ret
  exact ⟨by rw [HN.out]; rfl, rfl⟩
 have f3 : (cls c == 3) = false := by simpa using e3
 have HN : Hid (nameB c = (cls c == 4)) := hid (by simp [nameB, f2, f3])
 clear e2 e3
 go_enter Tryz.func213, Tryz.ntmps213
 go_wp2_with (first | (go_at_call 201; refine (zAQ c _ h0 h1).mono ?_; rintro e w' ⟨rfl, rfl⟩))
 go_ret
 exact ⟨by rw [HN.out]; rfl, rfl⟩
end
section
open Go.RowKit
theorem zFB (n : Int) : ∀ (l : List Int) (j : Nat), j < runL n l → cls (bt l j) = n
 | [], j, h => by simp [runL] at h
 | c :: r, j, h => by
  by_cases hc : cls c = n
  ·cases j with
   | zero => simpa [bt] using hc
   | succ j =>
    have := zFB n r j (by simp only [runL, if_pos hc] at h; omega)
    simpa [bt] using this
  ·simp only [runL, if_neg hc] at h; omega
theorem zGu : ∀ n : Nat, n < 256 → (cls n = 4 ↔ (48 ≤ n ∧ n ≤ 57)) := by decide +kernel
theorem zJZ {c : Int} (h0 : 0 ≤ c) (h1 : c ≤ 255) : cls c = 4 ↔ (48 ≤ c ∧ c ≤ 57) := by
 have := zGu c.toNat (by omega)
 rw [Int.toNat_of_nonneg h0] at this
 rw [this]; omega
def numL : List Int → Int := List.foldl (fun n c => n * 10 + (c - 48)) 0
theorem zHY : numL [] = 0 := rfl
theorem zJa (l : List Int) (c : Int) : numL (l ++ [c]) = numL l * 10 + (c - 48) := by unfold numL; rw [List.foldl_append]; rfl
theorem zJb {l : List Int} {k : Nat} (h : k < l.length) : l.take (k + 1) = l.take k ++ [bt l k] := by
 rw [List.take_succ_eq_append_getElem h]; simp [bt, List.getD, h]
def digs (l : List Int) : Prop := ∀ x ∈ l, 48 ≤ x ∧ x ≤ 57
theorem zDn (l : List Int) (h : digs l) : 0 ≤ numL l := by
 suffices ∀ (l : List Int) (a : Int), 0 ≤ a → digs l → 0 ≤ l.foldl (fun n c => n * 10 + (c - 48)) a from this l 0 (Int.le_refl _) h
 intro l
 induction l with
 | nil => intro a ha _; exact ha
 | cons c r ih =>
  intro a ha h
  have := h c (by simp)
  exact ih (a * 10 + (c - 48)) (by omega) fun x hx => h x (by simp [hx])
theorem zGv (l k : List Int) (hk : digs k) (hl : 0 ≤ numL l) : numL l ≤ numL (l ++ k) := by
 suffices ∀ (k : List Int) (a : Int), 0 ≤ a → digs k → a ≤ k.foldl (fun n c => n * 10 + (c - 48)) a by
  unfold numL; rw [List.foldl_append]; exact this k _ hl hk
 intro k
 induction k with
 | nil => intro a _ _; exact Int.le_refl _
 | cons c r ih =>
  intro a ha h
  have h1 := h c (by simp)
  have := ih (a * 10 + (c - 48)) (by omega) fun x hx => h x (by simp [hx])
  show a ≤ r.foldl _ (a * 10 + (c - 48))
  omega
theorem zFy {l : List Int} (h : digs l) (k : Nat) : digs (l.take k) := fun x hx => h x (List.take_subset _ _ hx)
theorem zEe {l : List Int} (h : digs l) {j k : Nat} (hjk : j ≤ k) : numL (l.take j) ≤ numL (l.take k) := by
 have e : l.take k = l.take j ++ (l.drop j).take (k - j) := by
  rw [← List.take_add, Nat.add_sub_cancel' hjk]
 rw [e]
 exact zGv _ _ (fun x hx => h x (List.drop_subset _ _ (List.take_subset _ _ hx))) (zDn _ (zFy h _))
theorem zHZ {l : List Int} (hr : ∀ x ∈ l, 0 ≤ x ∧ x ≤ 255) : digs (l.take (runL 4 l)) := by
 intro x hx
 obtain ⟨j, hj, rfl⟩ := List.getElem_of_mem hx
 have hl := zAz 4 l
 have hj' : j < runL 4 l := by rw [List.length_take] at hj; omega
 have hjl : j < l.length := by omega
 have := zFB 4 l j hj'
 have e : bt l j = l[j] := by simp [bt, List.getD, hjl]
 rw [e] at this
 rw [List.getElem_take]
 have hm := hr l[j] (List.getElem_mem hjl)
 exact (zJZ hm.1 hm.2).1 this
def dkK (l : List Int) : Nat := runL 4 l
def dkBig (l : List Int) : Bool := decide (2147483647 < numL (l.take (runL 4 l)))
def dkN (l : List Int) : Int := if dkBig l then 0 else numL (l.take (runL 4 l))
def dkE (l : List Int) : Int := if runL 4 l = 0 then 2 else if dkBig l then 4 else 0
theorem zHa {l : List Int} (h : runL 4 l = 0) : dkN l = 0 := by unfold dkN dkBig; rw [h]; rfl
theorem zHb {l : List Int} (hr : ∀ x ∈ l, 0 ≤ x ∧ x ≤ 255) {j : Nat} (h : j < runL 4 l) : 48 ≤ bt l j ∧ bt l j ≤ 57 :=
 (zJZ (zAI hr j).1 (zAI hr j).2).1 (zFB 4 l j h)
theorem zND {l : List Int} (hr : ∀ x ∈ l, 0 ≤ x ∧ x ≤ 255) {j : Nat} (hj : j ≤ runL 4 l) (h : 2147483647 < numL (l.take j)) : dkBig l = true := by
 unfold dkBig
 have := zEe (zHZ hr) hj
 rw [List.take_take, Nat.min_eq_left hj, List.take_take, Nat.min_self] at this
 simp only [decide_eq_true_eq]; omega
theorem zHc {l : List Int} (_hr : ∀ x ∈ l, 0 ≤ x ∧ x ≤ 255) {j : Nat} (h : j < runL 4 l) : numL (l.take (j + 1)) = numL (l.take j) * 10 + (bt l j - 48) := by
 have := zAz 4 l
 rw [zJb (by omega), zJa]
theorem zEi {l : List Int} (hr : ∀ x ∈ l, 0 ≤ x ∧ x ≤ 255) {j : Nat} (h : j ≤ runL 4 l) : 0 ≤ numL (l.take j) := by
 have := zDn _ (zFy (zHZ hr) j)
 rwa [List.take_take, Nat.min_eq_left h] at this
end
section
open Go.RowKit
def dkV (l : List Int) : Value := .tuple #[.int .i64 (dkN l), .int .i64 (dkK l), .int .i64 (dkE l)]
set_option maxHeartbeats 400000 in
theorem zFz (a : Option Addr) (len cap : Nat) (l : List Int) (w : World) (h : Bs w a len cap l) (ht : Tab w) :
  Calls Tryz.prog 181 #[.slice a len cap] w fun e w' => e = .returned (dkV l) ∧ Below w.heap.size w w' := by
 have hm := h.lt
 have hlc := h.lc
 have hcm := h.cm
 unfold maxLen at hm hcm
 have hrl : runL 4 l ≤ len := by rw [← h.hl]; exact zAz 4 l
 have HR := hid h.rng
 have H := hid h
 have HT := hid ht
 clear h ht
 by_cases h0 : runL 4 l = 0
 ·have HV : Hid (dkV l = .tuple #[.int .i64 0, .int .i64 0, .int .i64 2]) := hid (by unfold dkV dkK dkE; rw [zHa h0, h0]; rfl)
  have H0 := hid h0
  clear h0
  go_enter Tryz.func181, Tryz.ntmps181
  go_wp2_with fail
  refine (zAa _ _ _ _ _ _ H.out HT.out).mono ?_
  rintro e w1 ⟨rfl, hb1⟩
  have HB1 := hid hb1
  clear hb1
  rw [H0.out]
  go_wp2
  exact bodyPost_ret (v := .tuple #[.int .i64 0, .int .i64 0, .int .i64 2]) (by simp [results, Tryz.results181, go_sem]) rfl ⟨by rw [HV.out], HB1.out⟩
 ·have hpos : 0 < runL 4 l := by omega
  clear h0
  go_enter Tryz.func181, Tryz.ntmps181
  go_wp2_with fail
  refine (zAa _ _ _ _ _ _ H.out HT.out).mono ?_
  rintro e w1 ⟨rfl, hb1⟩
  have HB1 := hid hb1
  clear hb1
  go_wp2
  go_loop [2, 3, 15] (fun n z i => ∃ k : Nat, i = .int .i64 k ∧ z = .int .i64 (runL 4 l) ∧ k ≤ runL 4 l ∧ numL (l.take k) ≤ 2147483647 ∧ n = .int .i64 (numL (l.take k))) (fun _ _ i => runL 4 l - (intOf i).toNat)
  case atStart => exact ⟨0, rfl, rfl, by omega, by simp [zHY], rfl⟩
  case round =>
   obtain ⟨k, rfl, rfl, hk, hn, rfl⟩ := hrel
   have hnn := zEi HR.out hk
   by_cases hlt : k < runL 4 l
   ·have hs := hid (zHc HR.out hlt)
    have hd0 := (zHb HR.out hlt).1
    have hd1 := (zHb HR.out hlt).2
    have hb := H.out.below HB1.out
    obtain ⟨b, off, rfl, _, hc⟩ := hb.at_ (by omega)
    have hck := hc k (by omega)
    clear hb hc
    by_cases hbig : 2147483647 < numL (l.take k) * 10 + (bt l k - 48)
    ·have HV : Hid (dkV l = .tuple #[.int .i64 0, .int .i64 (runL 4 l), .int .i64 4]) := hid (by
      have hb := zND HR.out (j := k + 1) (by omega) (by rw [hs.out]; exact hbig)
      have hne : runL 4 l ≠ 0 := by omega
      simp [dkV, dkN, dkK, dkE, hb, hne])
     go_wp2
     exact bodyPost_ret (v := .tuple #[.int .i64 0, .int .i64 (runL 4 l), .int .i64 4]) (by simp [results, Tryz.results181, go_sem]) rfl ⟨by rw [HV.out], HB1.out⟩
    ·go_wp2
     go_round
     case rel => exact ⟨k + 1, by go_num, rfl, by omega, by rw [hs.out]; omega, by rw [hs.out]⟩
     case measure => simp [intOf]; omega
   ·have hkk : k = runL 4 l := by omega
    have HV : Hid (dkV l = .tuple #[.int .i64 (numL (l.take k)), .int .i64 (runL 4 l), .int .i64 0]) := hid (by
     have hb : dkBig l = false := by unfold dkBig; rw [← hkk]; simpa using hn
     have hne : runL 4 l ≠ 0 := by omega
     rw [hkk]; simp [dkV, dkN, dkK, dkE, hb, hne])
    clear hkk
    go_wp2
    exact bodyPost_ret (v := .tuple #[.int .i64 (numL (l.take k)), .int .i64 (runL 4 l), .int .i64 0]) (by simp [results, Tryz.results181, go_sem]) rfl ⟨by rw [HV.out], HB1.out⟩
end
section
open Go.RowKit
set_option maxHeartbeats 400000 in
theorem zEj (a : Option Addr) (len cap : Nat) (l : List Int) (w : World) (h : Bs w a len cap l) :
  Calls Tryz.prog 208 #[.slice a len cap] w fun e w' => e = .returned (dkV l) ∧ w = w' := by
 have hm := h.lt
 have hlc := h.lc
 have hcm := h.cm
 unfold maxLen at hm hcm
 have hrl : runL 4 l ≤ len := by rw [← h.hl]; exact zAz 4 l
 have HR := hid h.rng
 have H := hid h
 clear h
 by_cases h0 : runL 4 l = 0
 ·have HV : Hid (dkV l = .tuple #[.int .i64 0, .int .i64 0, .int .i64 2]) := hid (by unfold dkV dkK dkE; rw [zHa h0, h0]; rfl)
  have H0 := hid h0
  clear h0
  go_enter Tryz.func208, Tryz.ntmps208
  go_wp2_with fail
  refine (zCN _ _ _ _ _ _ H.out).mono ?_
  rintro e w1 ⟨rfl, rfl⟩
  rw [H0.out]
  go_wp2
  exact bodyPost_ret (v := .tuple #[.int .i64 0, .int .i64 0, .int .i64 2]) (by simp [results, Tryz.results208, go_sem]) rfl ⟨by rw [HV.out], rfl⟩
 ·have hpos : 0 < runL 4 l := by omega
  clear h0
  go_enter Tryz.func208, Tryz.ntmps208
  go_wp2_with fail
  refine (zCN _ _ _ _ _ _ H.out).mono ?_
  rintro e w1 ⟨rfl, rfl⟩
  go_wp2
  go_loop [6, 7] (fun n i => ∃ k : Nat, i = .int .i64 k ∧ k ≤ runL 4 l ∧ numL (l.take k) ≤ 2147483647 ∧ n = .int .i64 (numL (l.take k))) (fun _ i => runL 4 l - (intOf i).toNat)
  case atStart => exact ⟨0, rfl, by omega, by simp [zHY], rfl⟩
  case round =>
   obtain ⟨k, rfl, hk, hn, rfl⟩ := hrel
   have hnn := zEi HR.out hk
   by_cases hlt : k < runL 4 l
   ·have hs := hid (zHc HR.out hlt)
    have hd0 := (zHb HR.out hlt).1
    have hd1 := (zHb HR.out hlt).2
    have hkl : k < len := by omega
    obtain ⟨b, off, rfl, _, hc⟩ := H.out.at_ (by omega)
    have hck := hc k (by omega)
    clear hc
    by_cases hbig : 2147483647 < numL (l.take k) * 10 + (bt l k - 48)
    ·have HV : Hid (dkV l = .tuple #[.int .i64 0, .int .i64 (runL 4 l), .int .i64 4]) := hid (by
      have hb := zND HR.out (j := k + 1) (by omega) (by rw [hs.out]; exact hbig)
      have hne : runL 4 l ≠ 0 := by omega
      simp [dkV, dkN, dkK, dkE, hb, hne])
     go_wp2
     exact bodyPost_ret (v := .tuple #[.int .i64 0, .int .i64 (runL 4 l), .int .i64 4]) (by simp [results, Tryz.results208, go_sem]) rfl ⟨by rw [HV.out], rfl⟩
    ·go_wp2
     go_round
     case rel => exact ⟨k + 1, by go_num, by omega, by rw [hs.out]; omega, by rw [hs.out]⟩
     case measure => simp [intOf]; omega
   ·have hkk : k = runL 4 l := by omega
    have HV : Hid (dkV l = .tuple #[.int .i64 (numL (l.take k)), .int .i64 (runL 4 l), .int .i64 0]) := hid (by
     have hb : dkBig l = false := by unfold dkBig; rw [← hkk]; simpa using hn
     have hne : runL 4 l ≠ 0 := by omega
     rw [hkk]; simp [dkV, dkN, dkK, dkE, hb, hne])
    clear hkk
    go_wp2
    exact bodyPost_ret (v := .tuple #[.int .i64 (numL (l.take k)), .int .i64 (runL 4 l), .int .i64 0]) (by simp [results, Tryz.results208, go_sem]) rfl ⟨by rw [HV.out], rfl⟩
end
end Go.Proofs.YtcjbhdgjcpnklaaGreatDoor
