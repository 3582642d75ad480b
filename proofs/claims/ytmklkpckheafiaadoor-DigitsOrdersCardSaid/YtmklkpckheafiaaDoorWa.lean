/- Layer 3's statements' own 'few', the document's examples at the head; DigitsAll's walk. -/
import Derived.Test.YtmklkpckheafiaaDoorDr
import Derived.Test.YtmklkpckheafiaaDoorPa
import Derived.Test.YtmklkpckheafiaaDoorPr
import Derived.Test.YtmklkpckheafiaaDoorBc
import Derived.Lib.SmallJoins
namespace Go.Proofs.YtmklkpckheafiaaDoor
open Go.RowKit

theorem few_any (a : Option Addr) (len cap : Nat) (l : List Int) (w : World) (h : Bs w a len cap l) :
    Calls Tryd.prog 9 #[.slice a len cap] w fun e w' => e = .returned (.slice a (min len 40) cap) ∧ w = w' := by
  have hm := h.lt
  have hlc := h.lc
  have hcm := h.cm
  unfold maxLen at hm hcm
  clear h
  go_enter Tryd.func9, Tryd.ntmps9
  go_wp2
  go_ret
  exact ⟨ret_slice (by omega) rfl, rfl⟩

theorem few_bs {w : World} {a : Option Addr} {len cap : Nat} {l : List Int} (h : Bs w a len cap l) : Bs w a (min len 40) cap (l.take 40) := by
  have h1 := h.lc
  have h2 := h.cm
  have h3 := h.take (k := min len 40) (c' := cap) (Nat.min_le_left _ _) (by omega) h2
  rwa [show l.take (min len 40) = l.take 40 from by
    rw [← h.hl, Nat.min_comm, ← List.take_take, List.take_length]] at h3

theorem dkV_of {l : List Int} {n e : Int} {k : Nat} (h1 : dkN l = n) (h2 : dkK l = k) (h3 : dkE l = e) : dkV l = .tuple #[.int .i64 n, .int .i64 k, .int .i64 e] := by unfold dkV; rw [h1, h2, h3]
theorem lit1 : dkV [48, 48, 55, 120] = .tuple #[.int .i64 7, .int .i64 3, .int .i64 0] := dkV_of (by decide +kernel) (k := 3) (by decide +kernel) (by decide +kernel)
theorem lit2 : dkV [50, 49, 52, 55, 52, 56, 51, 54, 52, 56] = .tuple #[.int .i64 0, .int .i64 10, .int .i64 4] := dkV_of (by decide +kernel) (k := 10) (by decide +kernel) (by decide +kernel)

set_option maxHeartbeats 400000 in
theorem shown_any (w : World) (ht : Tab w) :
    Calls Tryd.prog 7 #[] w fun e w' => e = .returned (.bool true) ∧ Below w.heap.size w w' := by
  have kc := Joins.run_convert_bytes_const_at (P := Tryd.prog) w 22 5 #[.int .u8 48, .int .u8 48, .int .u8 55, .int .u8 120] 4 4 w.heap.size rfl Tryd.underlying22 Tryd.underlying5
  have HB1 : Hid (Bs (w.alloc (.cells #[.int .u8 48, .int .u8 48, .int .u8 55, .int .u8 120] 5 (4, 5))) (some ⟨w.heap.size, 0, none⟩) 4 4 [48, 48, 55, 120]) := Lib.hid (Bs.lit w 5 (by simp) (by simp) rfl rfl (by decide))
  have hb0 : Below w.heap.size w (w.alloc (.cells #[.int .u8 48, .int .u8 48, .int .u8 55, .int .u8 120] 5 (4, 5))) := (Below.refl _ _).alloc (Nat.le_refl _) _
  have HT := Lib.hid ht
  have HB0 := Lib.hid hb0
  clear ht hb0
  go_enter Tryd.func7, Tryd.ntmps7
  go_wp2_with fail
  refine (dtake_any _ _ _ _ _ HB1.out (HT.out.keep HB0.out)).mono ?_
  rintro e w1 ⟨rfl, hb1⟩
  rw [lit1]
  have HW1 : Hid (Below w.heap.size w w1) := Lib.hid (HB0.out.trans (hb1.mono HB0.out.size))
  clear hb1 kc HB1 HB0
  have kc := Joins.run_convert_bytes_const_at (P := Tryd.prog) w1 22 5 #[.int .u8 50, .int .u8 49, .int .u8 52, .int .u8 55, .int .u8 52, .int .u8 56, .int .u8 51, .int .u8 54, .int .u8 52, .int .u8 56] 10 10 w1.heap.size rfl Tryd.underlying22 Tryd.underlying5
  have HB1 : Hid (Bs (w1.alloc (.cells #[.int .u8 50, .int .u8 49, .int .u8 52, .int .u8 55, .int .u8 52, .int .u8 56, .int .u8 51, .int .u8 54, .int .u8 52, .int .u8 56] 5 (10, 11))) (some ⟨w1.heap.size, 0, none⟩) 10 10 [50, 49, 52, 55, 52, 56, 51, 54, 52, 56]) := Lib.hid (Bs.lit w1 5 (by simp) (by simp) rfl rfl (by decide))
  have HB0 : Hid (Below w.heap.size w (w1.alloc (.cells #[.int .u8 50, .int .u8 49, .int .u8 52, .int .u8 55, .int .u8 52, .int .u8 56, .int .u8 51, .int .u8 54, .int .u8 52, .int .u8 56] 5 (10, 11)))) := Lib.hid (HW1.out.alloc HW1.out.size _)
  go_wp2_with fail
  refine (dtake_any _ _ _ _ _ HB1.out (HT.out.keep HB0.out)).mono ?_
  rintro e w2 ⟨rfl, hb2⟩
  rw [lit2]
  have HW2 : Hid (Below w.heap.size w w2) := Lib.hid (HB0.out.trans (hb2.mono HB0.out.size))
  clear hb2 kc HB1 HB0
  go_wp2
  go_ret
  exact ⟨rfl, HW2.out⟩


theorem rput_bad (n : Int) (w : World) (h : n < 0 ∨ 2147483647 < n) :
    Calls Tryd.prog 12 #[.int .i64 n] w fun e w' => e = .returned (.tuple #[.slice none 0 0, .int .i64 1]) ∧ w = w' := by
  rcases h with h | h
  · go_enter Tryd.func12, Tryd.ntmps12
    go_wp2
    exact bodyPost_ret (v := .tuple #[.slice none 0 0, .int .i64 1]) (by simp [results, Tryd.results12, go_sem]) rfl ⟨rfl, rfl⟩
  · have h' : ¬ n < 0 := by omega
    go_enter Tryd.func12, Tryd.ntmps12
    go_wp2
    exact bodyPost_ret (v := .tuple #[.slice none 0 0, .int .i64 1]) (by simp [results, Tryd.results12, go_sem]) rfl ⟨rfl, rfl⟩

set_option maxHeartbeats 400000 in
theorem digitsAll_any (a : Option Addr) (len cap : Nat) (l : List Int) (n : Int) (w : World) (h : Bs w a len cap l) (ht : Tab w) (hp : Pow w) :
    Calls Tryd.prog 3 #[.slice a len cap, .int .i64 n] w fun e w' => e = .returned (.bool true) ∧ Below w.heap.size w w' := by
  have HT := Lib.hid ht
  have HP := Lib.hid hp
  have H := Lib.hid h
  clear ht hp h
  go_enter Tryd.func3, Tryd.ntmps3
  go_wp2_with fail
  refine (shown_any _ HT.out).mono ?_
  rintro e w1 ⟨rfl, hb1⟩
  have HW1 := Lib.hid hb1
  clear hb1
  go_wp2_with fail
  refine (few_any _ _ _ _ _ (H.out.below HW1.out)).mono ?_
  rintro e w' ⟨rfl, rfl⟩
  go_wp2_with fail
  refine (dtake_any _ _ _ _ _ (few_bs (H.out.below HW1.out)) (HT.out.keep HW1.out)).mono ?_
  rintro e w2 ⟨rfl, hb2⟩
  unfold dkV
  have HW2 : Hid (Below w.heap.size w w2) := Lib.hid (HW1.out.trans (hb2.mono HW1.out.size))
  clear hb2
  go_wp2_with fail
  refine (few_any _ _ _ _ _ (H.out.below HW2.out)).mono ?_
  rintro e w' ⟨rfl, rfl⟩
  go_wp2_with fail
  refine (rdtake_any _ _ _ _ _ (few_bs (H.out.below HW2.out))).mono ?_
  rintro e w' ⟨rfl, rfl⟩
  unfold dkV
  by_cases hn : 0 ≤ n ∧ n ≤ 2147483647
  · obtain ⟨n, rfl⟩ := Int.eq_ofNat_of_zero_le hn.1
    have hn' : n ≤ 2147483647 := by omega
    clear hn
    go_wp2_with fail
    refine (put_any n _ hn' (HP.out.keep HW2.out)).mono ?_
    rintro e w3 ⟨a1, c1, rfl, ho1, hb3⟩
    have HO1 := Lib.hid ho1
    have HW3 : Hid (Below w.heap.size w w3) := Lib.hid (HW2.out.trans (hb3.mono HW2.out.size))
    clear ho1 hb3
    go_wp2_with fail
    refine (rput_any n _ hn').mono ?_
    rintro e w4 ⟨a2, c2, rfl, ho2, hb4⟩
    have k1 := (HO1.out.bs.below hb4).str (P := Tryd.prog) 22 9 5 Tryd.underlying22 Tryd.underlying5 Tryd.underlying9
    have k2 := ho2.bs.str (P := Tryd.prog) 22 9 5 Tryd.underlying22 Tryd.underlying5 Tryd.underlying9
    have HW4 : Hid (Below w.heap.size w w4) := Lib.hid (HW3.out.trans (hb4.mono HW3.out.size))
    clear ho2 hb4
    go_wp2
    go_ret
    exact ⟨rfl, HW4.out⟩
  · have hb : n < 0 ∨ 2147483647 < n := by omega
    have HB := Lib.hid hb
    clear hn hb
    go_wp2_with fail
    refine (put_bad n _ HB.out).mono ?_
    rintro e w' ⟨rfl, rfl⟩
    go_wp2_with fail
    refine (rput_bad n _ HB.out).mono ?_
    rintro e w' ⟨rfl, rfl⟩
    have k1 := (Bs.nil w2 none 0 (Nat.zero_le _)).str (P := Tryd.prog) 22 9 5 Tryd.underlying22 Tryd.underlying5 Tryd.underlying9
    go_wp2
    go_ret
    exact ⟨rfl, HW2.out⟩

end Go.Proofs.YtmklkpckheafiaaDoor
