/- The law OperSides. -/
import Derived.Test.YtcadeannnjpaeaaDoorFe
namespace Go.Proofs.YtcadeannnjpaeaaDoor
open Go.RowKit

set_option maxRecDepth 20000 in
set_option maxHeartbeats 16000000 in
theorem operSides_any (p : Nm) (g : Int) (w : World) (ht : Tab w) (hk : TabK w) (hg : 0 ≤ g ∧ g ≤ 255) :
    Calls Tryd.prog 6 #[.string (mk p), .int .u8 g] w fun e w' => e = .returned (.bool true) ∧ Below w.heap.size w w' := by
  have HT := Lib.hid ht
  have HK := Lib.hid hk
  obtain ⟨F, hF⟩ : ∃ F, F = p.take 60 := ⟨_, rfl⟩
  have hF60 : F.length ≤ 60 := by rw [hF, List.length_take]; omega
  have HFE : Hid (∀ w, Calls Tryd.prog 8 #[.string (mk p)] w fun e w' => e = .returned (.string (mk F)) ∧ w = w') := Lib.hid fun w => by rw [hF]; exact few_any p w
  have HOF : Hid (∀ w, Tab w → Calls Tryd.prog 13 #[.string (mk F)] w fun e w' => ∃ a n c, e = .returned (shV a n c (ofR F)) ∧ Ss w' a n c (ofR F).1.P ∧ Below w.heap.size w w') := Lib.hid fun w h => sof_any F w h (by omega)
  have HMY : Hid (∀ (w : World) (g a : Int), Tab w → Calls Tryd.prog 11 #[.agg #[.string (mk F), .int .i64 g, .int .i64 a]] w fun e w' => e = .returned (.int .i64 (mayV F g a)) ∧ Below w.heap.size w w') := Lib.hid fun w g a h => omay_any F g a w h (by omega)
  clear ht hk hF hF60
  obtain ⟨r9, hr9⟩ : ∃ r, r = Int.tmod g 9 := ⟨_, rfl⟩
  have h9 : 0 ≤ r9 ∧ r9 ≤ 8 := by
    rw [hr9, Int.tmod_eq_emod_of_nonneg hg.1]
    omega
  have hw9 : Int.tmod g 9 = r9 := hr9.symm
  clear hr9
  cases hO : ofS F with
  | none =>
    have HM0 := Lib.hid (mayV_none hO (1 + r9) 0)
    have HM1 := Lib.hid (mayV_none hO (1 + r9) 1)
    have HM2 := Lib.hid (mayV_none hO (1 + r9) 2)
    have HR := ofR_none hO
    rw [HR] at HOF
    simp only [shV] at HOF
    clear hO HR
    go_enter Tryd.func6, Tryd.ntmps6
    go_wp2_with fail
    refine (shown_any w HT.out HK.out).mono ?_
    rintro e w1 ⟨rfl, hb1⟩
    have HB1 := Lib.hid hb1
    clear hb1
    go_wp2_with fail
    refine (HFE.out w1).mono ?_
    rintro e w' ⟨rfl, rfl⟩
    go_wp2_with fail
    refine (HOF.out w1 (HT.out.keep HB1.out)).mono ?_
    rintro e w2 ⟨sa, sn, sc, rfl, _, hb2⟩
    obtain ⟨q, hq⟩ : ∃ q, q = w2.heap.size := ⟨_, rfl⟩
    obtain ⟨w3, hw3⟩ : ∃ w3, w3 = w2.alloc (.cells #[.slice sa sn sc, .bool false, .bool false] 35) := ⟨_, rfl⟩
    have hb3 : Below w1.heap.size w1 w3 := by rw [hw3]; exact hb2.alloc hb2.size _
    have HB3 : Hid (Below w.heap.size w w3) := Lib.hid (HB1.out.trans (hb3.mono HB1.out.size))
    have HQ3 : Hid (w3.heap[q]? = some (.cells #[.slice sa sn sc, .bool false, .bool false] 35 (0, 0))) := Lib.hid (by rw [hw3, hq]; exact heap_alloc_new w2 _)
    have HW3 := Lib.hid (And.intro hq hw3)
    clear hb2 hb3 hq hw3
    go_wp2_with fail
    rw [← HW3.out.1, ← HW3.out.2]
    refine (HMY.out w3 (1 + r9) 0 (HT.out.keep HB3.out)).mono ?_
    rw [HM0.out]
    rintro e w4 ⟨rfl, hb4⟩
    have HQ4 := Lib.hid (cells3 HQ3.out hb4)
    have HB4 : Hid (Below w.heap.size w w4) := Lib.hid (HB3.out.trans (hb4.mono HB3.out.size))
    clear hb4
    go_wp2_with fail
    refine (HMY.out w4 (1 + r9) 1 (HT.out.keep HB4.out)).mono ?_
    rw [HM1.out]
    rintro e w5 ⟨rfl, hb5⟩
    have HQ5 := Lib.hid (cells3 HQ4.out hb5)
    have HB5 : Hid (Below w.heap.size w w5) := Lib.hid (HB4.out.trans (hb5.mono HB4.out.size))
    clear hb5
    go_wp2_with fail
    refine (HMY.out w5 (1 + r9) 2 (HT.out.keep HB5.out)).mono ?_
    rw [HM2.out]
    rintro e w6 ⟨rfl, hb6⟩
    have HQ6 := Lib.hid (cells3 HQ5.out hb6)
    have HB6 : Hid (Below w.heap.size w w6) := Lib.hid (HB5.out.trans (hb6.mono HB5.out.size))
    obtain ⟨⟨z0, z1, z2⟩, _⟩ := three HQ6.out
    clear hb6
    go_wp2
    go_ret
    exact ⟨rfl, HB6.out⟩
  | some s =>
    have HM0 := Lib.hid (mayV_some hO (g := 1 + r9) (by omega) 0)
    have HM1 := Lib.hid (mayV_some hO (g := 1 + r9) (by omega) 1)
    have HM2 := Lib.hid (mayV_some hO (g := 1 + r9) (by omega) 2)
    have HR := ofR_some hO
    rw [HR] at HOF
    simp only [shV] at HOF
    clear hO HR
    obtain ⟨P, l, r⟩ := s
    rw [sdB_zero] at HM0
    rw [sdB_one] at HM1
    rw [sdB_two] at HM2
    cases l with
    | true =>
      cases r with
      | true =>
        replace HM0 : Hid (mayV F (1 + r9) 0 = 0) := HM0
        replace HM1 : Hid (mayV F (1 + r9) 1 = 0) := HM1
        replace HM2 : Hid (mayV F (1 + r9) 2 = 0) := HM2
        go_enter Tryd.func6, Tryd.ntmps6
        go_wp2_with fail
        refine (shown_any w HT.out HK.out).mono ?_
        rintro e w1 ⟨rfl, hb1⟩
        have HB1 := Lib.hid hb1
        clear hb1
        go_wp2_with fail
        refine (HFE.out w1).mono ?_
        rintro e w' ⟨rfl, rfl⟩
        go_wp2_with fail
        refine (HOF.out w1 (HT.out.keep HB1.out)).mono ?_
        rintro e w2 ⟨sa, sn, sc, rfl, _, hb2⟩
        obtain ⟨q, hq⟩ : ∃ q, q = w2.heap.size := ⟨_, rfl⟩
        obtain ⟨w3, hw3⟩ : ∃ w3, w3 = w2.alloc (.cells #[.slice sa sn sc, .bool true, .bool true] 35) := ⟨_, rfl⟩
        have hb3 : Below w1.heap.size w1 w3 := by rw [hw3]; exact hb2.alloc hb2.size _
        have HB3 : Hid (Below w.heap.size w w3) := Lib.hid (HB1.out.trans (hb3.mono HB1.out.size))
        have HQ3 : Hid (w3.heap[q]? = some (.cells #[.slice sa sn sc, .bool true, .bool true] 35 (0, 0))) := Lib.hid (by rw [hw3, hq]; exact heap_alloc_new w2 _)
        have HW3 := Lib.hid (And.intro hq hw3)
        clear hb2 hb3 hq hw3
        go_wp2_with fail
        rw [← HW3.out.1, ← HW3.out.2]
        refine (HMY.out w3 (1 + r9) 0 (HT.out.keep HB3.out)).mono ?_
        rw [HM0.out]
        rintro e w4 ⟨rfl, hb4⟩
        have HQ4 := Lib.hid (cells3 HQ3.out hb4)
        have HB4 : Hid (Below w.heap.size w w4) := Lib.hid (HB3.out.trans (hb4.mono HB3.out.size))
        clear hb4
        go_wp2_with fail
        refine (HMY.out w4 (1 + r9) 1 (HT.out.keep HB4.out)).mono ?_
        rw [HM1.out]
        rintro e w5 ⟨rfl, hb5⟩
        have HQ5 := Lib.hid (cells3 HQ4.out hb5)
        have HB5 : Hid (Below w.heap.size w w5) := Lib.hid (HB4.out.trans (hb5.mono HB4.out.size))
        clear hb5
        go_wp2_with fail
        refine (HMY.out w5 (1 + r9) 2 (HT.out.keep HB5.out)).mono ?_
        rw [HM2.out]
        rintro e w6 ⟨rfl, hb6⟩
        have HQ6 := Lib.hid (cells3 HQ5.out hb6)
        have HB6 : Hid (Below w.heap.size w w6) := Lib.hid (HB5.out.trans (hb6.mono HB5.out.size))
        obtain ⟨⟨z0, z1, z2⟩, _⟩ := three HQ6.out
        clear hb6
        go_wp2
        go_ret
        exact ⟨rfl, HB6.out⟩
      | false =>
        replace HM0 : Hid (mayV F (1 + r9) 0 = 0) := HM0
        replace HM1 : Hid (mayV F (1 + r9) 1 = 0) := HM1
        replace HM2 : Hid (mayV F (1 + r9) 2 = 24) := HM2
        go_enter Tryd.func6, Tryd.ntmps6
        go_wp2_with fail
        refine (shown_any w HT.out HK.out).mono ?_
        rintro e w1 ⟨rfl, hb1⟩
        have HB1 := Lib.hid hb1
        clear hb1
        go_wp2_with fail
        refine (HFE.out w1).mono ?_
        rintro e w' ⟨rfl, rfl⟩
        go_wp2_with fail
        refine (HOF.out w1 (HT.out.keep HB1.out)).mono ?_
        rintro e w2 ⟨sa, sn, sc, rfl, _, hb2⟩
        obtain ⟨q, hq⟩ : ∃ q, q = w2.heap.size := ⟨_, rfl⟩
        obtain ⟨w3, hw3⟩ : ∃ w3, w3 = w2.alloc (.cells #[.slice sa sn sc, .bool true, .bool false] 35) := ⟨_, rfl⟩
        have hb3 : Below w1.heap.size w1 w3 := by rw [hw3]; exact hb2.alloc hb2.size _
        have HB3 : Hid (Below w.heap.size w w3) := Lib.hid (HB1.out.trans (hb3.mono HB1.out.size))
        have HQ3 : Hid (w3.heap[q]? = some (.cells #[.slice sa sn sc, .bool true, .bool false] 35 (0, 0))) := Lib.hid (by rw [hw3, hq]; exact heap_alloc_new w2 _)
        have HW3 := Lib.hid (And.intro hq hw3)
        clear hb2 hb3 hq hw3
        go_wp2_with fail
        rw [← HW3.out.1, ← HW3.out.2]
        refine (HMY.out w3 (1 + r9) 0 (HT.out.keep HB3.out)).mono ?_
        rw [HM0.out]
        rintro e w4 ⟨rfl, hb4⟩
        have HQ4 := Lib.hid (cells3 HQ3.out hb4)
        have HB4 : Hid (Below w.heap.size w w4) := Lib.hid (HB3.out.trans (hb4.mono HB3.out.size))
        clear hb4
        go_wp2_with fail
        refine (HMY.out w4 (1 + r9) 1 (HT.out.keep HB4.out)).mono ?_
        rw [HM1.out]
        rintro e w5 ⟨rfl, hb5⟩
        have HQ5 := Lib.hid (cells3 HQ4.out hb5)
        have HB5 : Hid (Below w.heap.size w w5) := Lib.hid (HB4.out.trans (hb5.mono HB4.out.size))
        clear hb5
        go_wp2_with fail
        refine (HMY.out w5 (1 + r9) 2 (HT.out.keep HB5.out)).mono ?_
        rw [HM2.out]
        rintro e w6 ⟨rfl, hb6⟩
        have HQ6 := Lib.hid (cells3 HQ5.out hb6)
        have HB6 : Hid (Below w.heap.size w w6) := Lib.hid (HB5.out.trans (hb6.mono HB5.out.size))
        obtain ⟨⟨z0, z1, z2⟩, _⟩ := three HQ6.out
        clear hb6
        go_wp2
        go_ret
        exact ⟨rfl, HB6.out⟩
    | false =>
      cases r with
      | true =>
        replace HM0 : Hid (mayV F (1 + r9) 0 = 0) := HM0
        replace HM1 : Hid (mayV F (1 + r9) 1 = 24) := HM1
        replace HM2 : Hid (mayV F (1 + r9) 2 = 0) := HM2
        go_enter Tryd.func6, Tryd.ntmps6
        go_wp2_with fail
        refine (shown_any w HT.out HK.out).mono ?_
        rintro e w1 ⟨rfl, hb1⟩
        have HB1 := Lib.hid hb1
        clear hb1
        go_wp2_with fail
        refine (HFE.out w1).mono ?_
        rintro e w' ⟨rfl, rfl⟩
        go_wp2_with fail
        refine (HOF.out w1 (HT.out.keep HB1.out)).mono ?_
        rintro e w2 ⟨sa, sn, sc, rfl, _, hb2⟩
        obtain ⟨q, hq⟩ : ∃ q, q = w2.heap.size := ⟨_, rfl⟩
        obtain ⟨w3, hw3⟩ : ∃ w3, w3 = w2.alloc (.cells #[.slice sa sn sc, .bool false, .bool true] 35) := ⟨_, rfl⟩
        have hb3 : Below w1.heap.size w1 w3 := by rw [hw3]; exact hb2.alloc hb2.size _
        have HB3 : Hid (Below w.heap.size w w3) := Lib.hid (HB1.out.trans (hb3.mono HB1.out.size))
        have HQ3 : Hid (w3.heap[q]? = some (.cells #[.slice sa sn sc, .bool false, .bool true] 35 (0, 0))) := Lib.hid (by rw [hw3, hq]; exact heap_alloc_new w2 _)
        have HW3 := Lib.hid (And.intro hq hw3)
        clear hb2 hb3 hq hw3
        go_wp2_with fail
        rw [← HW3.out.1, ← HW3.out.2]
        refine (HMY.out w3 (1 + r9) 0 (HT.out.keep HB3.out)).mono ?_
        rw [HM0.out]
        rintro e w4 ⟨rfl, hb4⟩
        have HQ4 := Lib.hid (cells3 HQ3.out hb4)
        have HB4 : Hid (Below w.heap.size w w4) := Lib.hid (HB3.out.trans (hb4.mono HB3.out.size))
        clear hb4
        go_wp2_with fail
        refine (HMY.out w4 (1 + r9) 1 (HT.out.keep HB4.out)).mono ?_
        rw [HM1.out]
        rintro e w5 ⟨rfl, hb5⟩
        have HQ5 := Lib.hid (cells3 HQ4.out hb5)
        have HB5 : Hid (Below w.heap.size w w5) := Lib.hid (HB4.out.trans (hb5.mono HB4.out.size))
        clear hb5
        go_wp2_with fail
        refine (HMY.out w5 (1 + r9) 2 (HT.out.keep HB5.out)).mono ?_
        rw [HM2.out]
        rintro e w6 ⟨rfl, hb6⟩
        have HQ6 := Lib.hid (cells3 HQ5.out hb6)
        have HB6 : Hid (Below w.heap.size w w6) := Lib.hid (HB5.out.trans (hb6.mono HB5.out.size))
        obtain ⟨⟨z0, z1, z2⟩, _⟩ := three HQ6.out
        clear hb6
        go_wp2
        go_ret
        exact ⟨rfl, HB6.out⟩
      | false =>
        replace HM0 : Hid (mayV F (1 + r9) 0 = 0) := HM0
        replace HM1 : Hid (mayV F (1 + r9) 1 = 24) := HM1
        replace HM2 : Hid (mayV F (1 + r9) 2 = 24) := HM2
        go_enter Tryd.func6, Tryd.ntmps6
        go_wp2_with fail
        refine (shown_any w HT.out HK.out).mono ?_
        rintro e w1 ⟨rfl, hb1⟩
        have HB1 := Lib.hid hb1
        clear hb1
        go_wp2_with fail
        refine (HFE.out w1).mono ?_
        rintro e w' ⟨rfl, rfl⟩
        go_wp2_with fail
        refine (HOF.out w1 (HT.out.keep HB1.out)).mono ?_
        rintro e w2 ⟨sa, sn, sc, rfl, _, hb2⟩
        obtain ⟨q, hq⟩ : ∃ q, q = w2.heap.size := ⟨_, rfl⟩
        obtain ⟨w3, hw3⟩ : ∃ w3, w3 = w2.alloc (.cells #[.slice sa sn sc, .bool false, .bool false] 35) := ⟨_, rfl⟩
        have hb3 : Below w1.heap.size w1 w3 := by rw [hw3]; exact hb2.alloc hb2.size _
        have HB3 : Hid (Below w.heap.size w w3) := Lib.hid (HB1.out.trans (hb3.mono HB1.out.size))
        have HQ3 : Hid (w3.heap[q]? = some (.cells #[.slice sa sn sc, .bool false, .bool false] 35 (0, 0))) := Lib.hid (by rw [hw3, hq]; exact heap_alloc_new w2 _)
        have HW3 := Lib.hid (And.intro hq hw3)
        clear hb2 hb3 hq hw3
        go_wp2_with fail
        rw [← HW3.out.1, ← HW3.out.2]
        refine (HMY.out w3 (1 + r9) 0 (HT.out.keep HB3.out)).mono ?_
        rw [HM0.out]
        rintro e w4 ⟨rfl, hb4⟩
        have HQ4 := Lib.hid (cells3 HQ3.out hb4)
        have HB4 : Hid (Below w.heap.size w w4) := Lib.hid (HB3.out.trans (hb4.mono HB3.out.size))
        clear hb4
        go_wp2_with fail
        refine (HMY.out w4 (1 + r9) 1 (HT.out.keep HB4.out)).mono ?_
        rw [HM1.out]
        rintro e w5 ⟨rfl, hb5⟩
        have HQ5 := Lib.hid (cells3 HQ4.out hb5)
        have HB5 : Hid (Below w.heap.size w w5) := Lib.hid (HB4.out.trans (hb5.mono HB4.out.size))
        clear hb5
        go_wp2_with fail
        refine (HMY.out w5 (1 + r9) 2 (HT.out.keep HB5.out)).mono ?_
        rw [HM2.out]
        rintro e w6 ⟨rfl, hb6⟩
        have HQ6 := Lib.hid (cells3 HQ5.out hb6)
        have HB6 : Hid (Below w.heap.size w w6) := Lib.hid (HB5.out.trans (hb6.mono HB5.out.size))
        obtain ⟨⟨z0, z1, z2⟩, _⟩ := three HQ6.out
        clear hb6
        go_wp2
        go_ret
        exact ⟨rfl, HB6.out⟩

end Go.Proofs.YtcadeannnjpaeaaDoor
