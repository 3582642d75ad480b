/- The law OperAll. -/
import Derived.Test.YtcadeannnjpaeaaDoorFd
import Derived.Test.YtcadeannnjpaeaaDoorFe
import Derived.Deep.RegionHeld3
namespace Go.Proofs.YtcadeannnjpaeaaDoor
open Go.RowKit

set_option maxRecDepth 20000 in
set_option maxHeartbeats 16000000 in
theorem operAll_any (p : Nm) (g a : Int) (k n : Nm) (w : World) (ht : Tab w) (hk : TabK w) :
    Calls Tryd.prog 3 #[.agg #[.string (mk p), .int .i64 g, .int .i64 a], .string (mk k), .string (mk n)] w fun e w' => e = .returned (.bool true) ∧ Below w.heap.size w w' := by
  have HT := Lib.hid ht
  have HK := Lib.hid hk
  obtain ⟨F, hF⟩ : ∃ F, F = p.take 60 := ⟨_, rfl⟩
  obtain ⟨K, hK⟩ : ∃ K, K = k.take 60 := ⟨_, rfl⟩
  obtain ⟨N, hN⟩ : ∃ N, N = n.take 60 := ⟨_, rfl⟩
  have hF60 : F.length ≤ 60 := by rw [hF, List.length_take]; omega
  have hN60 : N.length ≤ 60 := by rw [hN, List.length_take]; omega
  have HFP : Hid (∀ w, Calls Tryd.prog 8 #[.string (mk p)] w fun e w' => e = .returned (.string (mk F)) ∧ w = w') := Lib.hid fun w => by rw [hF]; exact few_any p w
  have HFK : Hid (∀ w, Calls Tryd.prog 8 #[.string (mk k)] w fun e w' => e = .returned (.string (mk K)) ∧ w = w') := Lib.hid fun w => by rw [hK]; exact few_any k w
  have HFN : Hid (∀ w, Calls Tryd.prog 8 #[.string (mk n)] w fun e w' => e = .returned (.string (mk N)) ∧ w = w') := Lib.hid fun w => by rw [hN]; exact few_any n w
  obtain ⟨M, hM⟩ : ∃ M, M = mayV F g a := ⟨_, rfl⟩
  have HMY : Hid (∀ w : World, Tab w → Calls Tryd.prog 11 #[.agg #[.string (mk F), .int .i64 g, .int .i64 a]] w fun e w' => e = .returned (.int .i64 M) ∧ Below w.heap.size w w') := Lib.hid fun w h => by rw [hM]; exact omay_any F g a w h (by omega)
  have HRM : Hid (∀ w : World, Calls Tryd.prog 12 #[.agg #[.string (mk F), .int .i64 g, .int .i64 a]] w fun e w' => e = .returned (.int .i64 M) ∧ Below w.heap.size w w') := Lib.hid fun w => by rw [hM]; exact romay_any F g a w (by omega)
  obtain ⟨V, hV⟩ : ∃ V, V = simV K N := ⟨_, rfl⟩
  have HSI : Hid (∀ w : World, TabK w → Calls Tryd.prog 9 #[.string (mk K), .string (mk N)] w fun e w' => e = .returned (simT V) ∧ Below w.heap.size w w') := Lib.hid fun w h => by rw [hV]; exact simple_any K N w h (by omega)
  have HRS : Hid (∀ w : World, Calls Tryd.prog 10 #[.string (mk K), .string (mk N)] w fun e w' => e = .returned (simT V) ∧ w = w') := Lib.hid fun w => by rw [hV]; exact rsimple_any K N w (by omega)
  clear ht hk hF hF60 hK hN hN60 hM hV
  obtain ⟨vp, va, ve⟩ := V
  simp only [simT] at HSI HRS
  obtain ⟨B, hB⟩ : ∃ B, B = w.heap.size := ⟨_, rfl⟩
  obtain ⟨wA, hwA⟩ : ∃ wA, wA = w.alloc (.cells #[.string (mk p), .int .i64 g, .int .i64 a] 23) := ⟨_, rfl⟩
  have HA : Hid (Below w.heap.size w wA) := Lib.hid (by rw [hwA]; exact (Below.refl _ _).alloc (Nat.le_refl _) _)
  have HXA : Hid (wA.heap[B]? = some (.cells #[.string (mk p), .int .i64 g, .int .i64 a] 23 (0, 0))) := Lib.hid (by rw [hwA, hB]; exact heap_alloc_new w _)
  have HBE := Lib.hid hB
  go_enter Tryd.func3, Tryd.ntmps3
  go_wp2_with fail
  rw [← hwA, ← hB]
  clear hwA hB
  refine (shown_any wA (HT.out.keep HA.out) (HK.out.keep HA.out)).mono ?_
  rintro e w1 ⟨rfl, hb1⟩
  have HW1 : Hid (Below w.heap.size w w1) := Lib.hid (HA.out.trans (hb1.mono HA.out.size))
  have HX1 := Lib.hid (cells3 HXA.out hb1)
  obtain ⟨⟨x0, x1, x2⟩, f0, _, _⟩ := three HX1.out
  clear hb1
  go_wp2_with fail
  refine (HFP.out w1).mono ?_
  rintro e w' ⟨rfl, rfl⟩
  clear x0 x1 x2
  obtain ⟨w2, hw2⟩ : ∃ w2, w2 = w1.setCell ⟨B, 0, none⟩ (.string (mk F)) := ⟨_, rfl⟩
  have HX2 : Hid (w2.heap[B]? = some (.cells #[.string (mk F), .int .i64 g, .int .i64 a] 23 (0, 0))) := Lib.hid (by rw [hw2, blk_set _ HX1.out]; rfl)
  have HW2 : Hid (Below w.heap.size w w2) := Lib.hid (HW1.out.trans (by rw [hw2]; exact gb_to (gb_set w1 B 0 _) (by rw [HBE.out]; exact Nat.le_refl _) HW1.out.size))
  have x0 : w1.cell? ⟨B, 0, none⟩ = some (.string (mk p)) := (three HX1.out).1.1
  go_wp2_with fail
  rw [← hw2]
  clear hw2
  clear x0 f0
  refine (HFK.out w2).mono ?_
  rintro e w' ⟨rfl, rfl⟩
  go_wp2_with fail
  refine (HFN.out w2).mono ?_
  rintro e w' ⟨rfl, rfl⟩
  go_wp2_with fail
  refine (HSI.out w2 (HK.out.keep HW2.out)).mono ?_
  rintro e w3 ⟨rfl, hb3⟩
  have HW3 : Hid (Below w.heap.size w w3) := Lib.hid (HW2.out.trans (hb3.mono HW2.out.size))
  have HX3 := Lib.hid (cells3 HX2.out hb3)
  clear hb3
  go_wp2_with fail
  refine (HFK.out w3).mono ?_
  rintro e w' ⟨rfl, rfl⟩
  go_wp2_with fail
  refine (HFN.out w3).mono ?_
  rintro e w' ⟨rfl, rfl⟩
  go_wp2_with fail
  refine (HRS.out w3).mono ?_
  rintro e w' ⟨rfl, rfl⟩
  have HKC : Hid (∀ w', Below w3.heap.size w3 w' → w'.cell? ⟨B, 0, none⟩ = some (.string (mk F)) ∧ w'.cell? ⟨B, 1, none⟩ = some (.int .i64 g) ∧ w'.cell? ⟨B, 2, none⟩ = some (.int .i64 a)) := Lib.hid fun w' h => (three (cells3 HX3.out h)).1
  obtain ⟨y0, y1, y2⟩ := HKC.out w3 (Below.refl _ _)
  go_wp2_with fail
  go_region_held3 (fun w' => w'.cell? ⟨B, 0, none⟩ = some (.string (mk F)) ∧ w'.cell? ⟨B, 1, none⟩ = some (.int .i64 g) ∧ w'.cell? ⟨B, 2, none⟩ = some (.int .i64 a))
    (first
      | exact HKC.out _ (Below.refl _ _).drew
      | exact HKC.out _ HB5.out
      | exact HKC.out _ HB4.out)
    (first
      | (go_at_call 11; (refine (HMY.out _ (HT.out.keep HW3.out.drew)).mono ?_); (rintro e w4 ⟨rfl, hb4⟩); (have HB4 : Hid (Below w3.heap.size w3 w4) := Lib.hid ((Below.refl _ _).drew.trans hb4)); clear hb4)
      | (go_at_call 12; (refine (HRM.out _).mono ?_); (rintro e w5 ⟨rfl, hb5⟩); (have HB5 : Hid (Below w3.heap.size w3 w5) := Lib.hid (HB4.out.trans (hb5.mono HB4.out.size))); clear hb5))
  all_goals
    go_wp2
    go_ret
    exact ⟨ret_bool (by simp), HW3.out.trans (HB5.out.mono HW3.out.size)⟩

end Go.Proofs.YtcadeannnjpaeaaDoor
