/- The law OperFirst. -/
import Derived.Test.YtcadeannnjpaeaaDoorFh
namespace Go.Proofs.YtcadeannnjpaeaaDoor
open Go.RowKit

theorem bit_rng : ∀ n : Nat, n < 256 → bits .and .u8 ((n : Int) / 8) 1 = 0 ∨ bits .and .u8 ((n : Int) / 8) 1 = 1 := by decide +kernel

set_option maxRecDepth 20000 in
set_option maxHeartbeats 8000000 in
theorem operFirst_any (p : Nm) (g a b : Int) (w : World) (ht : Tab w) (hk : TabK w) (hsz : p.length ≤ 140737488355328) (hb : 0 ≤ b ∧ b ≤ 255) :
    Calls Tryd.prog 5 #[.agg #[.string (mk p), .int .i64 g, .int .i64 a], .int .u8 b] w fun e w' => e = .returned (.bool true) ∧ Below w.heap.size w w' := by
  have HT := Lib.hid ht
  have HK := Lib.hid hk
  have HFI : Hid (∀ w, Calls Tryd.prog 14 #[.agg #[.string (mk p), .int .i64 g, .int .i64 a]] w fun e w' => ∃ (q : Nat) (g' a' : Int), e = .returned (.agg #[.string (mk (pat q)), .int .i64 g', .int .i64 a']) ∧ q < 16 ∧ 1 ≤ g' ∧ g' ≤ 9 ∧ 0 ≤ a' ∧ a' ≤ 2 ∧ mayV (pat q) g' a' = 0 ∧ Below w.heap.size w w') := Lib.hid fun w => fit_any p g a w hsz
  obtain ⟨B, hB⟩ : ∃ B, B = w.heap.size := ⟨_, rfl⟩
  obtain ⟨wA, hwA⟩ : ∃ wA, wA = w.alloc (.cells #[.string (mk p), .int .i64 g, .int .i64 a] 23) := ⟨_, rfl⟩
  have HA : Hid (Below w.heap.size w wA) := Lib.hid (by rw [hwA]; exact (Below.refl _ _).alloc (Nat.le_refl _) _)
  have HXA : Hid (wA.heap[B]? = some (.cells #[.string (mk p), .int .i64 g, .int .i64 a] 23 (0, 0))) := Lib.hid (by rw [hwA, hB]; exact heap_alloc_new w _)
  clear ht hk hsz
  go_enter Tryd.func5, Tryd.ntmps5
  go_wp2_with fail
  rw [← hwA, ← hB]
  clear hwA hB
  refine (shown_any wA (HT.out.keep HA.out) (HK.out.keep HA.out)).mono ?_
  rintro e w1 ⟨rfl, hb1⟩
  have HW1 : Hid (Below w.heap.size w w1) := Lib.hid (HA.out.trans (hb1.mono HA.out.size))
  have HX1 := Lib.hid (cells3 HXA.out hb1)
  obtain ⟨⟨x0, x1, x2⟩, _⟩ := three HX1.out
  clear hb1
  go_wp2_with fail
  refine (HFI.out w1).mono ?_
  rintro e w2 ⟨q, g', a', rfl, hq, hg1, hg9, ha0, ha2, hm, hb2⟩
  clear x0 x1 x2
  have HQ := Lib.hid hq
  have HM := Lib.hid hm
  have HG := Lib.hid (And.intro hg1 hg9)
  have HW2 : Hid (Below w.heap.size w w2) := Lib.hid (HW1.out.trans (hb2.mono HW1.out.size))
  clear hb2 hm
  have hl20 : (mk (pat q)).size ≤ 20 := by rw [mk_size]; exact pat_len q hq
  have HL : Hid ((pat q).length ≤ 20) := Lib.hid (pat_len q hq)
  have hS : mk (pat q) ++ ⟨#[95, 95]⟩ = mk (pat q ++ [95, 95]) := mk_app _ [95, 95]
  obtain ⟨s, hs⟩ := pat_is hq
  have HSH := Lib.hid hs
  have HNO := Lib.hid (pat_no hq)
  clear hs
  obtain ⟨G, hG⟩ : ∃ G, wrap64 (10 * wrap64 (bits .and .u8 (b / 8) 1)) = G := ⟨_, rfl⟩
  have hGr : G = 0 ∨ G = 10 := by
    have h := bit_rng b.toNat (by omega)
    rw [Int.toNat_of_nonneg hb.1] at h
    rcases h with h | h <;> rw [h] at hG
    · exact .inl (hG.symm.trans (by decide +kernel))
    · exact .inr (hG.symm.trans (by decide +kernel))
  have HGR : Hid (G < 1 ∨ 9 < G) := Lib.hid (by omega)
  clear hGr
  cases h4 : (bits .and .u8 b 4 != 0) with
  | true =>
    cases h2 : (bits .and .u8 b 2 != 0) with
    | true =>
      cases h1 : (bits .and .u8 b 1 != 0) with
      | true =>
        have HE : Hid (mayV (pat q ++ [95, 95]) G 3 = 23) := Lib.hid (mayV_none HNO.out G 3)
        have HZ : Hid (Below w.heap.size w (w2.alloc (.cells #[.string (mk (pat q ++ [95, 95])), .int .i64 G, .int .i64 3] 23))) := Lib.hid (HW2.out.alloc HW2.out.size _)
        go_wp2_with fail
        rw [hG]
        refine (omay_any (pat q ++ [95, 95]) G 3 _ (HT.out.keep HZ.out) (by rw [List.length_append]; have := HL.out; simp; omega)).mono ?_
        rw [HE.out]
        rintro e w4 ⟨rfl, hb4⟩
        go_wp2
        go_ret
        exact ⟨rfl, HZ.out.trans (hb4.mono HZ.out.size)⟩
      | false =>
        have HE : Hid (mayV (pat q) G 3 = 21) := Lib.hid (mayV_grp HSH.out HGR.out 3)
        have HZ : Hid (Below w.heap.size w (w2.alloc (.cells #[.string (mk (pat q)), .int .i64 G, .int .i64 3] 23))) := Lib.hid (HW2.out.alloc HW2.out.size _)
        go_wp2_with fail
        rw [hG]
        refine (omay_any (pat q) G 3 _ (HT.out.keep HZ.out) (by have := HL.out; omega)).mono ?_
        rw [HE.out]
        rintro e w4 ⟨rfl, hb4⟩
        go_wp2
        go_ret
        exact ⟨rfl, HZ.out.trans (hb4.mono HZ.out.size)⟩
    | false =>
      cases h1 : (bits .and .u8 b 1 != 0) with
      | true =>
        have HE : Hid (mayV (pat q ++ [95, 95]) g' 3 = 23) := Lib.hid (mayV_none HNO.out g' 3)
        have HZ : Hid (Below w.heap.size w (w2.alloc (.cells #[.string (mk (pat q ++ [95, 95])), .int .i64 g', .int .i64 3] 23))) := Lib.hid (HW2.out.alloc HW2.out.size _)
        go_wp2_with fail
        refine (omay_any (pat q ++ [95, 95]) g' 3 _ (HT.out.keep HZ.out) (by rw [List.length_append]; have := HL.out; simp; omega)).mono ?_
        rw [HE.out]
        rintro e w4 ⟨rfl, hb4⟩
        go_wp2
        go_ret
        exact ⟨rfl, HZ.out.trans (hb4.mono HZ.out.size)⟩
      | false =>
        have HE : Hid (mayV (pat q) g' 3 = 24) := Lib.hid ((mayV_some HSH.out HG.out 3).trans (by rw [sdB_no _ (.inr (by decide))]; rfl))
        have HZ : Hid (Below w.heap.size w (w2.alloc (.cells #[.string (mk (pat q)), .int .i64 g', .int .i64 3] 23))) := Lib.hid (HW2.out.alloc HW2.out.size _)
        go_wp2_with fail
        refine (omay_any (pat q) g' 3 _ (HT.out.keep HZ.out) (by have := HL.out; omega)).mono ?_
        rw [HE.out]
        rintro e w4 ⟨rfl, hb4⟩
        go_wp2
        go_ret
        exact ⟨rfl, HZ.out.trans (hb4.mono HZ.out.size)⟩
  | false =>
    cases h2 : (bits .and .u8 b 2 != 0) with
    | true =>
      cases h1 : (bits .and .u8 b 1 != 0) with
      | true =>
        have HE : Hid (mayV (pat q ++ [95, 95]) G a' = 23) := Lib.hid (mayV_none HNO.out G a')
        have HZ : Hid (Below w.heap.size w (w2.alloc (.cells #[.string (mk (pat q ++ [95, 95])), .int .i64 G, .int .i64 a'] 23))) := Lib.hid (HW2.out.alloc HW2.out.size _)
        go_wp2_with fail
        rw [hG]
        refine (omay_any (pat q ++ [95, 95]) G a' _ (HT.out.keep HZ.out) (by rw [List.length_append]; have := HL.out; simp; omega)).mono ?_
        rw [HE.out]
        rintro e w4 ⟨rfl, hb4⟩
        go_wp2
        go_ret
        exact ⟨rfl, HZ.out.trans (hb4.mono HZ.out.size)⟩
      | false =>
        have HE : Hid (mayV (pat q) G a' = 21) := Lib.hid (mayV_grp HSH.out HGR.out a')
        have HZ : Hid (Below w.heap.size w (w2.alloc (.cells #[.string (mk (pat q)), .int .i64 G, .int .i64 a'] 23))) := Lib.hid (HW2.out.alloc HW2.out.size _)
        go_wp2_with fail
        rw [hG]
        refine (omay_any (pat q) G a' _ (HT.out.keep HZ.out) (by have := HL.out; omega)).mono ?_
        rw [HE.out]
        rintro e w4 ⟨rfl, hb4⟩
        go_wp2
        go_ret
        exact ⟨rfl, HZ.out.trans (hb4.mono HZ.out.size)⟩
    | false =>
      cases h1 : (bits .and .u8 b 1 != 0) with
      | true =>
        have HE : Hid (mayV (pat q ++ [95, 95]) g' a' = 23) := Lib.hid (mayV_none HNO.out g' a')
        have HZ : Hid (Below w.heap.size w (w2.alloc (.cells #[.string (mk (pat q ++ [95, 95])), .int .i64 g', .int .i64 a'] 23))) := Lib.hid (HW2.out.alloc HW2.out.size _)
        go_wp2_with fail
        refine (omay_any (pat q ++ [95, 95]) g' a' _ (HT.out.keep HZ.out) (by rw [List.length_append]; have := HL.out; simp; omega)).mono ?_
        rw [HE.out]
        rintro e w4 ⟨rfl, hb4⟩
        go_wp2
        go_ret
        exact ⟨rfl, HZ.out.trans (hb4.mono HZ.out.size)⟩
      | false =>
        have HE : Hid (mayV (pat q) g' a' = 0) := Lib.hid (HM.out)
        have HZ : Hid (Below w.heap.size w (w2.alloc (.cells #[.string (mk (pat q)), .int .i64 g', .int .i64 a'] 23))) := Lib.hid (HW2.out.alloc HW2.out.size _)
        go_wp2_with fail
        refine (omay_any (pat q) g' a' _ (HT.out.keep HZ.out) (by have := HL.out; omega)).mono ?_
        rw [HE.out]
        rintro e w4 ⟨rfl, hb4⟩
        go_wp2
        go_ret
        exact ⟨rfl, HZ.out.trans (hb4.mono HZ.out.size)⟩

end Go.Proofs.YtcadeannnjpaeaaDoor
