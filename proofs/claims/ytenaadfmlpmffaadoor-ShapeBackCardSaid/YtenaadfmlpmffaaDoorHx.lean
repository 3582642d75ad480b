/- Contract of the laws' own shown. -/
import Derived.Test.YtenaadfmlpmffaaDoorHv
namespace Go.Proofs.YtenaadfmlpmffaaDoor
open Go.RowKit

theorem ex_if : ofR [105, 102, 95, 116, 104, 101, 110, 95] = (⟨[[105, 102], [116, 104, 101, 110]], false, true⟩, 0) := by
  refine ofR_some ?_
  rw [show ([105, 102, 95, 116, 104, 101, 110, 95] : Nm) = stx ⟨[[105, 102], [116, 104, 101, 110]], false, true⟩ by decide +kernel]
  refine ofS_stx ⟨by simp, ?_⟩ (by decide +kernel) (by decide +kernel)
  intro p hp
  simp only [List.mem_cons, List.not_mem_nil, or_false] at hp
  rcases hp with rfl | rfl <;> exact ⟨by simp, by decide⟩
theorem ex_bang : ofR [95, 33] = (⟨[[33]], true, false⟩, 0) := by
  refine ofR_some ?_
  rw [show ([95, 33] : Nm) = stx ⟨[[33]], true, false⟩ by decide +kernel]
  refine ofS_stx ⟨by simp, ?_⟩ (by decide +kernel) (by decide +kernel)
  intro p hp
  simp only [List.mem_cons, List.not_mem_nil, or_false] at hp
  rcases hp with rfl
  exact ⟨by simp, by decide⟩
theorem ex_two : ofR [97, 95, 95, 98] = (⟨[], false, false⟩, 23) := ofR_none (ofS_mayn (by decide +kernel))
theorem ex_one : ofR [97] = (⟨[], false, false⟩, 23) := ofR_none (ofS_mayn (by decide +kernel))

set_option maxRecDepth 100000 in
set_option maxHeartbeats 4000000 in
theorem shown_any (w : World) (ht : Tab w) : Calls Tryd.prog 7 #[] w fun e w' => e = .returned (.bool true) ∧ Below w.heap.size w w' := by
  have HT := Lib.hid ht
  clear ht
  go_enter Tryd.func7, Tryd.ntmps7
  go_wp2_with fail
  refine (sof_any [105, 102, 95, 116, 104, 101, 110, 95] _ HT.out (by simp)).mono ?_
  rw [ex_if]
  simp only [shV]
  rintro e w1 ⟨a1, n1, c1, rfl, hs1, hb1⟩
  have hn1 := Ss.len hs1
  simp only [List.length_cons, List.length_nil, Nat.zero_add, Nat.reduceAdd] at hn1
  subst hn1
  obtain ⟨g, o, rfl, hgl, hx⟩ := hs1.at_ (by decide)
  clear hx
  have hc1 := Ss.str hs1 (k := 1) (by decide)
  rw [show pt [[105, 102], [116, 104, 101, 110]] 1 = [116, 104, 101, 110] from rfl] at hc1
  have hlc1 := hs1.lc
  obtain ⟨w1', hw1⟩ : ∃ w1', w1' = w1.alloc (.cells #[.slice (some ⟨g, o, none⟩) 2 c1, .bool false, .bool true] 24) := ⟨_, rfl⟩
  have HQ1 : Hid (w1'.heap[w1.heap.size]? = some (.cells #[.slice (some ⟨g, o, none⟩) 2 c1, .bool false, .bool true] 24 (0, 0))) := Lib.hid (by rw [hw1]; exact heap_alloc_new w1 _)
  have HB1 : Hid (Below w1.heap.size w1 w1') := Lib.hid (by rw [hw1]; exact (Below.refl _ _).alloc (Nat.le_refl _) _)
  have HW1 : Hid (Below w.heap.size w w1') := Lib.hid (hb1.trans (HB1.out.mono hb1.size))
  have HC1 : Hid (w1'.cell? ⟨g, o + 1, none⟩ = some (.string (mk [116, 104, 101, 110])) ∧ g < w1.heap.size) := Lib.hid ⟨(HB1.out.cell hgl).trans hc1, hgl⟩
  have HS1 : Hid (w1'.heap.size = w1.heap.size + 1) := Lib.hid (by rw [hw1]; simp)
  clear hs1 hb1 hgl hc1
  go_wp2_with fail
  rw [← hw1]
  clear hw1
  refine (sof_any [95, 33] _ (HT.out.keep HW1.out) (by simp)).mono ?_
  rw [ex_bang]
  simp only [shV]
  rintro e w2 ⟨a2, n2, c2, rfl, hs2, hb2⟩
  have hn2 := Ss.len hs2
  simp only [List.length_cons, List.length_nil, Nat.zero_add] at hn2
  subst hn2
  have hlc2 := hs2.lc
  obtain ⟨w2', hw2⟩ : ∃ w2', w2' = w2.alloc (.cells #[.slice a2 1 c2, .bool true, .bool false] 24) := ⟨_, rfl⟩
  have HQ2 : Hid (w2'.heap[w2.heap.size]? = some (.cells #[.slice a2 1 c2, .bool true, .bool false] 24 (0, 0))) := Lib.hid (by rw [hw2]; exact heap_alloc_new w2 _)
  have HB2 : Hid (Below w1'.heap.size w1' w2') := Lib.hid (by rw [hw2]; exact hb2.alloc hb2.size _)
  have HW2 : Hid (Below w.heap.size w w2') := Lib.hid (HW1.out.trans (HB2.out.mono HW1.out.size))
  have HS2 : Hid (w2'.heap.size = w2.heap.size + 1 ∧ w1'.heap.size ≤ w2.heap.size) := Lib.hid ⟨by rw [hw2]; simp, hb2.size⟩
  clear hs2 hb2
  go_wp2_with fail
  rw [← hw2]
  clear hw2
  refine (sof_any [97, 95, 95, 98] _ (HT.out.keep HW2.out) (by simp)).mono ?_
  rw [ex_two]
  simp only [shV]
  rintro e w3 ⟨a3, n3, c3, rfl, _, hb3⟩
  have HW3 : Hid (Below w.heap.size w (w3.alloc (.cells #[.slice a3 n3 c3, .bool false, .bool false] 24))) := Lib.hid ((HW2.out.trans (hb3.mono HW2.out.size)).alloc (Nat.le_trans HW2.out.size hb3.size) _)
  have HB3 : Hid (Below w2'.heap.size w2' (w3.alloc (.cells #[.slice a3 n3 c3, .bool false, .bool false] 24))) := Lib.hid (hb3.alloc hb3.size _)
  clear hb3
  go_wp2_with fail
  refine (sof_any [97] _ (HT.out.keep HW3.out) (by simp)).mono ?_
  rw [ex_one]
  simp only [shV]
  rintro e w4 ⟨a4, n4, c4, rfl, _, hb4⟩
  have HW4 : Hid (Below w.heap.size w (w4.alloc (.cells #[.slice a4 n4 c4, .bool false, .bool false] 24))) := Lib.hid ((HW3.out.trans (hb4.mono HW3.out.size)).alloc (Nat.le_trans HW3.out.size hb4.size) _)
  have HB4 : Hid (Below w2'.heap.size w2' (w4.alloc (.cells #[.slice a4 n4 c4, .bool false, .bool false] 24))) := Lib.hid ((HB3.out.trans (hb4.mono HB3.out.size)).alloc (Nat.le_trans HB3.out.size hb4.size) _)
  obtain ⟨⟨y0, y1, y2⟩, _⟩ := three ((HB4.out.block w2.heap.size (by have := HS2.out; omega)).trans HQ2.out)
  have hB14 : Below w1'.heap.size w1' (w4.alloc (.cells #[.slice a4 n4 c4, .bool false, .bool false] 24)) := HB2.out.trans (HB4.out.mono HB2.out.size)
  obtain ⟨⟨x0, x1, x2⟩, _⟩ := three ((hB14.block w1.heap.size (by have := HS1.out; omega)).trans HQ1.out)
  have hc1 := (hB14.cell (by show g < w1'.heap.size; have := HS1.out; have := HC1.out.2; omega)).trans HC1.out.1
  have hth : ((mk [116, 104, 101, 110]).toList == [116, 104, 101, 110]) = true := by rw [mk_toList]; decide
  have hth2 : (mk [116, 104, 101, 110]).toList = [116, 104, 101, 110] := mk_toList _
  clear hb4 hB14
  go_wp2
  go_ret
  exact ⟨rfl, HW4.out⟩

end Go.Proofs.YtenaadfmlpmffaaDoor
