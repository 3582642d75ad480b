/- The law ShapeEnds. -/
import Derived.Test.YtenaadfmlpmffaaDoorMC
import Derived.Test.YtenaadfmlpmffaaDoorHx
namespace Go.Proofs.YtenaadfmlpmffaaDoor
open Go.RowKit

set_option maxRecDepth 100000 in
set_option maxHeartbeats 16000000 in
theorem shapeEnds_any (p : Nm) (right : Bool) (w : World) (ht : Tab w) :
    Calls Tryd.prog 6 #[.string (mk p), .bool right] w fun e w' => e = .returned (.bool true) ∧ Below w.heap.size w w' := by
  have HT := Lib.hid ht
  obtain ⟨F, hF⟩ : ∃ F, F = p.take 60 := ⟨_, rfl⟩
  have hF60 : F.length ≤ 60 := by rw [hF, List.length_take]; omega
  have HFE : Hid (∀ w, Calls Tryd.prog 9 #[.string (mk p)] w fun e w' => e = .returned (.string (mk F)) ∧ w = w') := Lib.hid fun w => by rw [hF]; exact few_any p w
  have hms := mk_size F
  obtain ⟨m, hm⟩ : ∃ m, m = F.length := ⟨_, rfl⟩
  rw [← hm] at hms hF60
  have HM := Lib.hid hm
  clear hF ht hm
  cases ho : ofS F with
  | none =>
    have HX := Lib.hid (ofR_none ho)
    clear ho
    go_enter Tryd.func6, Tryd.ntmps6
    go_wp2_with fail
    refine (shown_any w HT.out).mono ?_
    rintro e w1 ⟨rfl, hb1⟩
    have HW1 := Lib.hid hb1
    clear hb1
    go_wp2_with fail
    refine (HFE.out _).mono ?_
    rintro e w' ⟨rfl, rfl⟩
    go_wp2_with fail
    refine (sof_any F _ (HT.out.keep HW1.out) (by have := HM.out; omega)).mono ?_
    rw [HX.out]
    simp only [shV]
    rintro e w2 ⟨a2, n2, c2, rfl, _, hb2⟩
    have HW2 : Hid (Below w.heap.size w (w2.alloc (.cells #[.slice a2 n2 c2, .bool false, .bool false] 24))) := Lib.hid ((HW1.out.trans (hb2.mono HW1.out.size)).alloc (Nat.le_trans HW1.out.size hb2.size) _)
    clear hb2
    go_wp2
    go_ret
    exact ⟨rfl, HW2.out⟩
  | some s =>
    have HX := Lib.hid (ofR_some ho)
    have HO := Lib.hid ho
    clear ho
    obtain ⟨PP, l2, r2⟩ := s
    have hz1 : (⟨#[95]⟩ : ByteArray).size + (mk F).size ≤ 300 := by rw [mk_mark, mk_size, mk_size]; simp; have := HM.out; omega
    have hz2 : (mk F).size + (⟨#[95]⟩ : ByteArray).size ≤ 300 := by omega
    have HE1 : Hid ((⟨#[95]⟩ : ByteArray) ++ mk F = mk (95 :: F)) := Lib.hid (by rw [mk_mark, mk_app]; rfl)
    have HE2 : Hid (mk F ++ (⟨#[95]⟩ : ByteArray) = mk (F ++ [95])) := Lib.hid (by rw [mk_mark, mk_app])
    by_cases h40 : m < 40
    · have h40' : ¬ (40 : Int) ≤ (m : Int) := by omega
      have hend := ends_has HO.out
      have hnew := ends_new HO.out (by have := HM.out; omega)
      have HEND := Lib.hid (And.intro hend hnew)
      clear hend hnew
      cases right with
      | false =>
        cases l2 with
        | true =>
          go_enter Tryd.func6, Tryd.ntmps6
          go_wp2_with fail
          refine (shown_any w HT.out).mono ?_
          rintro e w1 ⟨rfl, hb1⟩
          have HW1 := Lib.hid hb1
          clear hb1
          go_wp2_with fail
          refine (HFE.out _).mono ?_
          rintro e w' ⟨rfl, rfl⟩
          go_wp2_with fail
          refine (sof_any F _ (HT.out.keep HW1.out) (by have := HM.out; omega)).mono ?_
          rw [HX.out]
          simp only [shV]
          rintro e w2 ⟨a2, n2, c2, rfl, hs2, hb2⟩
          have HN2 := Lib.hid (Ss.len hs2)
          have hlc2 := hs2.lc
          obtain ⟨w2', hw2⟩ : ∃ w2', w2' = w2.alloc (.cells #[.slice a2 n2 c2, .bool true, .bool r2] 24) := ⟨_, rfl⟩
          obtain ⟨q1, hq1⟩ : ∃ q1, q1 = w2.heap.size := ⟨_, rfl⟩
          have HQ2 : Hid (w2'.heap[q1]? = some (.cells #[.slice a2 n2 c2, .bool true, .bool r2] 24 (0, 0)) ∧ q1 < w2'.heap.size) := Lib.hid ⟨by rw [hw2, hq1]; exact heap_alloc_new w2 _, by rw [hw2, hq1]; simp⟩
          have HW2 : Hid (Below w.heap.size w w2') := Lib.hid (by rw [hw2]; exact (HW1.out.trans (hb2.mono HW1.out.size)).alloc (Nat.le_trans HW1.out.size hb2.size) _)
          clear hs2 hb2
          go_wp2_with fail
          rw [← hw2, ← hq1]
          rw [HE1.out]
          clear hw2 hq1
          refine (sof_any (95 :: F) _ (HT.out.keep HW2.out) (by simp; have := HM.out; omega)).mono ?_
          rw [ofR_none (HEND.out.1.1 (by trivial))]
          simp only [shV]
          rintro e w3 ⟨a3, n3, c3, rfl, _, hb3⟩
          have HW3 : Hid (Below w.heap.size w (w3.alloc (.cells #[.slice a3 n3 c3, .bool false, .bool false] 24))) := Lib.hid ((HW2.out.trans (hb3.mono HW2.out.size)).alloc (Nat.le_trans HW2.out.size hb3.size) _)
          clear hb3
          go_wp2
          go_ret
          exact ⟨rfl, HW3.out⟩
        | false =>
          cases r2 with
          | true =>
            go_enter Tryd.func6, Tryd.ntmps6
            go_wp2_with fail
            refine (shown_any w HT.out).mono ?_
            rintro e w1 ⟨rfl, hb1⟩
            have HW1 := Lib.hid hb1
            clear hb1
            go_wp2_with fail
            refine (HFE.out _).mono ?_
            rintro e w' ⟨rfl, rfl⟩
            go_wp2_with fail
            refine (sof_any F _ (HT.out.keep HW1.out) (by have := HM.out; omega)).mono ?_
            rw [HX.out]
            simp only [shV]
            rintro e w2 ⟨a2, n2, c2, rfl, hs2, hb2⟩
            have HN2 := Lib.hid (Ss.len hs2)
            have hlc2 := hs2.lc
            obtain ⟨w2', hw2⟩ : ∃ w2', w2' = w2.alloc (.cells #[.slice a2 n2 c2, .bool false, .bool true] 24) := ⟨_, rfl⟩
            obtain ⟨q1, hq1⟩ : ∃ q1, q1 = w2.heap.size := ⟨_, rfl⟩
            have HQ2 : Hid (w2'.heap[q1]? = some (.cells #[.slice a2 n2 c2, .bool false, .bool true] 24 (0, 0)) ∧ q1 < w2'.heap.size) := Lib.hid ⟨by rw [hw2, hq1]; exact heap_alloc_new w2 _, by rw [hw2, hq1]; simp⟩
            have HW2 : Hid (Below w.heap.size w w2') := Lib.hid (by rw [hw2]; exact (HW1.out.trans (hb2.mono HW1.out.size)).alloc (Nat.le_trans HW1.out.size hb2.size) _)
            clear hs2 hb2
            go_wp2_with fail
            rw [← hw2, ← hq1]
            rw [HE1.out]
            clear hw2 hq1
            refine (sof_any (95 :: F) _ (HT.out.keep HW2.out) (by simp; have := HM.out; omega)).mono ?_
            rw [ofR_some (HEND.out.2.1 (by trivial))]
            simp only [shV]
            rintro e w3 ⟨a3, n3, c3, rfl, hs3, hb3⟩
            have hn3 := Ss.len hs3
            obtain rfl : n3 = n2 := hn3.symm.trans HN2.out
            have HW3 : Hid (Below w.heap.size w (w3.alloc (.cells #[.slice a3 n3 c3, .bool true, .bool true] 24))) := Lib.hid ((HW2.out.trans (hb3.mono HW2.out.size)).alloc (Nat.le_trans HW2.out.size hb3.size) _)
            have hb3' := hb3.alloc hb3.size (.cells #[.slice a3 n3 c3, .bool true, .bool true] 24)
            obtain ⟨⟨y0, y1, y2⟩, _⟩ := three ((hb3'.block q1 HQ2.out.2).trans HQ2.out.1)
            clear hb3 hb3' hs3 hn3
            go_wp2
            go_ret
            exact ⟨rfl, HW3.out⟩
          | false =>
            go_enter Tryd.func6, Tryd.ntmps6
            go_wp2_with fail
            refine (shown_any w HT.out).mono ?_
            rintro e w1 ⟨rfl, hb1⟩
            have HW1 := Lib.hid hb1
            clear hb1
            go_wp2_with fail
            refine (HFE.out _).mono ?_
            rintro e w' ⟨rfl, rfl⟩
            go_wp2_with fail
            refine (sof_any F _ (HT.out.keep HW1.out) (by have := HM.out; omega)).mono ?_
            rw [HX.out]
            simp only [shV]
            rintro e w2 ⟨a2, n2, c2, rfl, hs2, hb2⟩
            have HN2 := Lib.hid (Ss.len hs2)
            have hlc2 := hs2.lc
            obtain ⟨w2', hw2⟩ : ∃ w2', w2' = w2.alloc (.cells #[.slice a2 n2 c2, .bool false, .bool false] 24) := ⟨_, rfl⟩
            obtain ⟨q1, hq1⟩ : ∃ q1, q1 = w2.heap.size := ⟨_, rfl⟩
            have HQ2 : Hid (w2'.heap[q1]? = some (.cells #[.slice a2 n2 c2, .bool false, .bool false] 24 (0, 0)) ∧ q1 < w2'.heap.size) := Lib.hid ⟨by rw [hw2, hq1]; exact heap_alloc_new w2 _, by rw [hw2, hq1]; simp⟩
            have HW2 : Hid (Below w.heap.size w w2') := Lib.hid (by rw [hw2]; exact (HW1.out.trans (hb2.mono HW1.out.size)).alloc (Nat.le_trans HW1.out.size hb2.size) _)
            clear hs2 hb2
            go_wp2_with fail
            rw [← hw2, ← hq1]
            rw [HE1.out]
            clear hw2 hq1
            refine (sof_any (95 :: F) _ (HT.out.keep HW2.out) (by simp; have := HM.out; omega)).mono ?_
            rw [ofR_some (HEND.out.2.1 (by trivial))]
            simp only [shV]
            rintro e w3 ⟨a3, n3, c3, rfl, hs3, hb3⟩
            have hn3 := Ss.len hs3
            obtain rfl : n3 = n2 := hn3.symm.trans HN2.out
            have HW3 : Hid (Below w.heap.size w (w3.alloc (.cells #[.slice a3 n3 c3, .bool true, .bool false] 24))) := Lib.hid ((HW2.out.trans (hb3.mono HW2.out.size)).alloc (Nat.le_trans HW2.out.size hb3.size) _)
            have hb3' := hb3.alloc hb3.size (.cells #[.slice a3 n3 c3, .bool true, .bool false] 24)
            obtain ⟨⟨y0, y1, y2⟩, _⟩ := three ((hb3'.block q1 HQ2.out.2).trans HQ2.out.1)
            clear hb3 hb3' hs3 hn3
            go_wp2
            go_ret
            exact ⟨rfl, HW3.out⟩
      | true =>
        cases r2 with
        | true =>
          go_enter Tryd.func6, Tryd.ntmps6
          go_wp2_with fail
          refine (shown_any w HT.out).mono ?_
          rintro e w1 ⟨rfl, hb1⟩
          have HW1 := Lib.hid hb1
          clear hb1
          go_wp2_with fail
          refine (HFE.out _).mono ?_
          rintro e w' ⟨rfl, rfl⟩
          go_wp2_with fail
          refine (sof_any F _ (HT.out.keep HW1.out) (by have := HM.out; omega)).mono ?_
          rw [HX.out]
          simp only [shV]
          rintro e w2 ⟨a2, n2, c2, rfl, hs2, hb2⟩
          have HN2 := Lib.hid (Ss.len hs2)
          have hlc2 := hs2.lc
          obtain ⟨w2', hw2⟩ : ∃ w2', w2' = w2.alloc (.cells #[.slice a2 n2 c2, .bool l2, .bool true] 24) := ⟨_, rfl⟩
          obtain ⟨q1, hq1⟩ : ∃ q1, q1 = w2.heap.size := ⟨_, rfl⟩
          have HQ2 : Hid (w2'.heap[q1]? = some (.cells #[.slice a2 n2 c2, .bool l2, .bool true] 24 (0, 0)) ∧ q1 < w2'.heap.size) := Lib.hid ⟨by rw [hw2, hq1]; exact heap_alloc_new w2 _, by rw [hw2, hq1]; simp⟩
          have HW2 : Hid (Below w.heap.size w w2') := Lib.hid (by rw [hw2]; exact (HW1.out.trans (hb2.mono HW1.out.size)).alloc (Nat.le_trans HW1.out.size hb2.size) _)
          clear hs2 hb2
          go_wp2_with fail
          rw [← hw2, ← hq1]
          rw [HE2.out]
          clear hw2 hq1
          refine (sof_any (F ++ [95]) _ (HT.out.keep HW2.out) (by simp; have := HM.out; omega)).mono ?_
          rw [ofR_none (HEND.out.1.2 (by trivial))]
          simp only [shV]
          rintro e w3 ⟨a3, n3, c3, rfl, _, hb3⟩
          have HW3 : Hid (Below w.heap.size w (w3.alloc (.cells #[.slice a3 n3 c3, .bool false, .bool false] 24))) := Lib.hid ((HW2.out.trans (hb3.mono HW2.out.size)).alloc (Nat.le_trans HW2.out.size hb3.size) _)
          clear hb3
          go_wp2
          go_ret
          exact ⟨rfl, HW3.out⟩
        | false =>
          cases l2 with
          | true =>
            go_enter Tryd.func6, Tryd.ntmps6
            go_wp2_with fail
            refine (shown_any w HT.out).mono ?_
            rintro e w1 ⟨rfl, hb1⟩
            have HW1 := Lib.hid hb1
            clear hb1
            go_wp2_with fail
            refine (HFE.out _).mono ?_
            rintro e w' ⟨rfl, rfl⟩
            go_wp2_with fail
            refine (sof_any F _ (HT.out.keep HW1.out) (by have := HM.out; omega)).mono ?_
            rw [HX.out]
            simp only [shV]
            rintro e w2 ⟨a2, n2, c2, rfl, hs2, hb2⟩
            have HN2 := Lib.hid (Ss.len hs2)
            have hlc2 := hs2.lc
            obtain ⟨w2', hw2⟩ : ∃ w2', w2' = w2.alloc (.cells #[.slice a2 n2 c2, .bool true, .bool false] 24) := ⟨_, rfl⟩
            obtain ⟨q1, hq1⟩ : ∃ q1, q1 = w2.heap.size := ⟨_, rfl⟩
            have HQ2 : Hid (w2'.heap[q1]? = some (.cells #[.slice a2 n2 c2, .bool true, .bool false] 24 (0, 0)) ∧ q1 < w2'.heap.size) := Lib.hid ⟨by rw [hw2, hq1]; exact heap_alloc_new w2 _, by rw [hw2, hq1]; simp⟩
            have HW2 : Hid (Below w.heap.size w w2') := Lib.hid (by rw [hw2]; exact (HW1.out.trans (hb2.mono HW1.out.size)).alloc (Nat.le_trans HW1.out.size hb2.size) _)
            clear hs2 hb2
            go_wp2_with fail
            rw [← hw2, ← hq1]
            rw [HE2.out]
            clear hw2 hq1
            refine (sof_any (F ++ [95]) _ (HT.out.keep HW2.out) (by simp; have := HM.out; omega)).mono ?_
            rw [ofR_some (HEND.out.2.2 (by trivial))]
            simp only [shV]
            rintro e w3 ⟨a3, n3, c3, rfl, hs3, hb3⟩
            have hn3 := Ss.len hs3
            obtain rfl : n3 = n2 := hn3.symm.trans HN2.out
            have HW3 : Hid (Below w.heap.size w (w3.alloc (.cells #[.slice a3 n3 c3, .bool true, .bool true] 24))) := Lib.hid ((HW2.out.trans (hb3.mono HW2.out.size)).alloc (Nat.le_trans HW2.out.size hb3.size) _)
            have hb3' := hb3.alloc hb3.size (.cells #[.slice a3 n3 c3, .bool true, .bool true] 24)
            obtain ⟨⟨y0, y1, y2⟩, _⟩ := three ((hb3'.block q1 HQ2.out.2).trans HQ2.out.1)
            clear hb3 hb3' hs3 hn3
            go_wp2
            go_ret
            exact ⟨rfl, HW3.out⟩
          | false =>
            go_enter Tryd.func6, Tryd.ntmps6
            go_wp2_with fail
            refine (shown_any w HT.out).mono ?_
            rintro e w1 ⟨rfl, hb1⟩
            have HW1 := Lib.hid hb1
            clear hb1
            go_wp2_with fail
            refine (HFE.out _).mono ?_
            rintro e w' ⟨rfl, rfl⟩
            go_wp2_with fail
            refine (sof_any F _ (HT.out.keep HW1.out) (by have := HM.out; omega)).mono ?_
            rw [HX.out]
            simp only [shV]
            rintro e w2 ⟨a2, n2, c2, rfl, hs2, hb2⟩
            have HN2 := Lib.hid (Ss.len hs2)
            have hlc2 := hs2.lc
            obtain ⟨w2', hw2⟩ : ∃ w2', w2' = w2.alloc (.cells #[.slice a2 n2 c2, .bool false, .bool false] 24) := ⟨_, rfl⟩
            obtain ⟨q1, hq1⟩ : ∃ q1, q1 = w2.heap.size := ⟨_, rfl⟩
            have HQ2 : Hid (w2'.heap[q1]? = some (.cells #[.slice a2 n2 c2, .bool false, .bool false] 24 (0, 0)) ∧ q1 < w2'.heap.size) := Lib.hid ⟨by rw [hw2, hq1]; exact heap_alloc_new w2 _, by rw [hw2, hq1]; simp⟩
            have HW2 : Hid (Below w.heap.size w w2') := Lib.hid (by rw [hw2]; exact (HW1.out.trans (hb2.mono HW1.out.size)).alloc (Nat.le_trans HW1.out.size hb2.size) _)
            clear hs2 hb2
            go_wp2_with fail
            rw [← hw2, ← hq1]
            rw [HE2.out]
            clear hw2 hq1
            refine (sof_any (F ++ [95]) _ (HT.out.keep HW2.out) (by simp; have := HM.out; omega)).mono ?_
            rw [ofR_some (HEND.out.2.2 (by trivial))]
            simp only [shV]
            rintro e w3 ⟨a3, n3, c3, rfl, hs3, hb3⟩
            have hn3 := Ss.len hs3
            obtain rfl : n3 = n2 := hn3.symm.trans HN2.out
            have HW3 : Hid (Below w.heap.size w (w3.alloc (.cells #[.slice a3 n3 c3, .bool false, .bool true] 24))) := Lib.hid ((HW2.out.trans (hb3.mono HW2.out.size)).alloc (Nat.le_trans HW2.out.size hb3.size) _)
            have hb3' := hb3.alloc hb3.size (.cells #[.slice a3 n3 c3, .bool false, .bool true] 24)
            obtain ⟨⟨y0, y1, y2⟩, _⟩ := three ((hb3'.block q1 HQ2.out.2).trans HQ2.out.1)
            clear hb3 hb3' hs3 hn3
            go_wp2
            go_ret
            exact ⟨rfl, HW3.out⟩
    · have h40' : (40 : Int) ≤ (m : Int) := by omega
      go_enter Tryd.func6, Tryd.ntmps6
      go_wp2_with fail
      refine (shown_any w HT.out).mono ?_
      rintro e w1 ⟨rfl, hb1⟩
      have HW1 := Lib.hid hb1
      clear hb1
      go_wp2_with fail
      refine (HFE.out _).mono ?_
      rintro e w' ⟨rfl, rfl⟩
      go_wp2_with fail
      refine (sof_any F _ (HT.out.keep HW1.out) (by have := HM.out; omega)).mono ?_
      rw [HX.out]
      simp only [shV]
      rintro e w2 ⟨a2, n2, c2, rfl, _, hb2⟩
      have HW2 : Hid (Below w.heap.size w (w2.alloc (.cells #[.slice a2 n2 c2, .bool l2, .bool r2] 24))) := Lib.hid ((HW1.out.trans (hb2.mono HW1.out.size)).alloc (Nat.le_trans HW1.out.size hb2.size) _)
      clear hb2
      go_wp2
      go_ret
      exact ⟨rfl, HW2.out⟩

end Go.Proofs.YtenaadfmlpmffaaDoor
