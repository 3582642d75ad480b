/- Contract of package layout's Skip at any slice; layer 5's statements' own 'few', and the document's examples at the head. -/
import Derived.Test.YtcblggfohjkmhaaDoorLd
import Derived.Test.YtcblggfohjkmhaaDoorLc
import Derived.Test.YtcblggfohjkmhaaDoorBy
import Derived.Lib.SmallJoins
namespace Go.Proofs.YtcblggfohjkmhaaDoor
open Go.RowKit

set_option maxRecDepth 100000 in
theorem lskip_nil (a : Option Addr) (cap : Nat) (w : World) (hc : cap ≤ maxLen) (ht : Tab w) :
    Calls Tryd.prog 8 #[.slice a 0 cap] w fun e w' => e = .returned (.tuple #[.int .i64 (sk []).1, .int .i64 (sk []).2]) ∧ Below w.heap.size w w' := by
  have HC := Lib.hid hc
  unfold maxLen at hc
  have HT := Lib.hid ht
  clear ht
  go_enter Tryd.func8, Tryd.ntmps8
  go_wp2
  go_step3
  go_wp2
  go_step3
  go_wp2_with fail
  refine (run_any _ _ _ [] 1 _ (Bs.nil _ _ _ HC.out) HT.out).mono ?_
  rintro e w1 ⟨rfl, hb1⟩
  have HB1 := Lib.hid hb1
  clear hb1
  rw [show runL 1 [] = 0 from rfl]
  go_wp2_with fail
  refine (run_any _ _ _ [] 8 _ (Bs.nil _ _ _ HC.out) (HT.out.keep HB1.out)).mono ?_
  rintro e w2 ⟨rfl, hb2⟩
  have HB2 := Lib.hid (HB1.out.trans (hb2.mono HB1.out.size))
  clear hb2
  rw [show runL 8 [] = 0 from rfl]
  go_wp2_with fail
  refine (begins47_any _ _ _ [] _ (Bs.nil _ _ _ HC.out)).mono ?_
  rintro e w3 ⟨rfl, rfl⟩
  rw [show pre2 47 42 [] = false from rfl]
  go_wp2
  rw [Exit.noGoto_ret]
  exact bodyPost_ret (v := .tuple #[.int .i64 0, .int .i64 0]) (by simp [results, Tryd.results8, go_sem]) rfl ⟨rfl, HB2.out⟩

theorem lskip_any (a : Option Addr) (len cap : Nat) (l : List Int) (w : World) (h : Bs w a len cap l) (ht : Tab w) (hsz : len ≤ 1000000) :
    Calls Tryd.prog 8 #[.slice a len cap] w fun e w' => e = .returned (.tuple #[.int .i64 (sk l).1, .int .i64 (sk l).2]) ∧ Below w.heap.size w w' := by
  by_cases h0 : 0 < len
  · obtain ⟨b, off, rfl, _, _⟩ := h.at_ h0
    exact lskip_some b off len cap l w h ht hsz
  · have : len = 0 := by omega
    subst this
    have hl : l = [] := List.eq_nil_of_length_eq_zero h.hl
    subst hl
    exact lskip_nil a cap w h.cm ht

theorem few_any (a : Option Addr) (len cap : Nat) (l : List Int) (w : World) (h : Bs w a len cap l) :
    Calls Tryd.prog 9 #[.slice a len cap] w fun e w' => e = .returned (.slice a (min len 150) cap) ∧ w = w' := by
  have hm := h.lt
  have hlc := h.lc
  have hcm := h.cm
  unfold maxLen at hm hcm
  clear h
  go_enter Tryd.func9, Tryd.ntmps9
  go_wp2
  all_goals
    go_ret
    exact ⟨ret_slice (by omega) rfl, rfl⟩

theorem few_bs {w : World} {a : Option Addr} {len cap : Nat} {l : List Int} (h : Bs w a len cap l) : Bs w a (min len 150) cap (l.take 150) := by
  have h1 := h.lc
  have h2 := h.cm
  have h3 := h.take (k := min len 150) (c' := cap) (Nat.min_le_left _ _) (by omega) h2
  rwa [show l.take (min len 150) = l.take 150 from by
    rw [← h.hl, Nat.min_comm, ← List.take_take, List.take_length]] at h3

def ex1 : List Int := [32, 47, 42, 47, 42, 42, 47, 42, 47, 32, 120]
def ex2 : List Int := [32, 47, 42, 32, 47, 42, 32, 42, 47]
theorem sk_ex1 : sk ex1 = (10, 0) := by decide +kernel
theorem sk_ex2 : sk ex2 = (1, 14) := by decide +kernel

set_option maxRecDepth 20000 in
set_option maxHeartbeats 400000 in
theorem shown_any (w : World) (ht : Tab w) :
    Calls Tryd.prog 7 #[] w fun e w' => e = .returned (.bool true) ∧ Below w.heap.size w w' := by
  have kc := Joins.run_convert_bytes_const_at (P := Tryd.prog) w 22 5 #[.int .u8 32, .int .u8 47, .int .u8 42, .int .u8 47, .int .u8 42, .int .u8 42, .int .u8 47, .int .u8 42, .int .u8 47, .int .u8 32, .int .u8 120] 11 11 w.heap.size rfl Tryd.underlying22 Tryd.underlying5
  have HL1 : Hid (Bs (w.alloc (.cells #[.int .u8 32, .int .u8 47, .int .u8 42, .int .u8 47, .int .u8 42, .int .u8 42, .int .u8 47, .int .u8 42, .int .u8 47, .int .u8 32, .int .u8 120] 5 (11, 12))) (some ⟨w.heap.size, 0, none⟩) 11 11 ex1) := Lib.hid (Bs.lit w 5 (by simp [ex1]) (by simp [ex1]) rfl rfl (by decide))
  have hb0 : Below w.heap.size w (w.alloc (.cells #[.int .u8 32, .int .u8 47, .int .u8 42, .int .u8 47, .int .u8 42, .int .u8 42, .int .u8 47, .int .u8 42, .int .u8 47, .int .u8 32, .int .u8 120] 5 (11, 12))) := (Below.refl _ _).alloc (Nat.le_refl _) _
  have HT := Lib.hid ht
  have HB0 := Lib.hid hb0
  clear ht hb0
  go_enter Tryd.func7, Tryd.ntmps7
  go_wp2_with fail
  refine (lskip_any _ _ _ _ _ HL1.out (HT.out.keep HB0.out) (by decide)).mono ?_
  rintro e w1 ⟨rfl, hb1⟩
  have HW1 : Hid (Below w.heap.size w w1) := Lib.hid (HB0.out.trans (hb1.mono HB0.out.size))
  rw [sk_ex1]
  clear hb1 kc HL1 HB0
  have kc := Joins.run_convert_bytes_const_at (P := Tryd.prog) w1 22 5 #[.int .u8 32, .int .u8 47, .int .u8 42, .int .u8 32, .int .u8 47, .int .u8 42, .int .u8 32, .int .u8 42, .int .u8 47] 9 9 w1.heap.size rfl Tryd.underlying22 Tryd.underlying5
  have HL2 : Hid (Bs (w1.alloc (.cells #[.int .u8 32, .int .u8 47, .int .u8 42, .int .u8 32, .int .u8 47, .int .u8 42, .int .u8 32, .int .u8 42, .int .u8 47] 5 (9, 10))) (some ⟨w1.heap.size, 0, none⟩) 9 9 ex2) := Lib.hid (Bs.lit w1 5 (by simp [ex2]) (by simp [ex2]) rfl rfl (by decide))
  have HB0 : Hid (Below w.heap.size w (w1.alloc (.cells #[.int .u8 32, .int .u8 47, .int .u8 42, .int .u8 32, .int .u8 47, .int .u8 42, .int .u8 32, .int .u8 42, .int .u8 47] 5 (9, 10)))) := Lib.hid (HW1.out.alloc HW1.out.size _)
  go_wp2_with fail
  refine (lskip_any _ _ _ _ _ HL2.out (HT.out.keep HB0.out) (by decide)).mono ?_
  rintro e w2 ⟨rfl, hb2⟩
  have HW2 : Hid (Below w.heap.size w w2) := Lib.hid (HB0.out.trans (hb2.mono HB0.out.size))
  rw [sk_ex2]
  clear hb2 kc HL2 HB0
  go_wp2
  go_ret
  exact ⟨rfl, HW2.out⟩

end Go.Proofs.YtcblggfohjkmhaaDoor
