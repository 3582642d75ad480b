/- Contracts of the law's few and shown, and of the document's May. -/
import Derived.Test.YtcadeannnjpaeaaDoorFa
import Derived.Test.YtcadeannnjpaeaaDoorFc
namespace Go.Proofs.YtcadeannnjpaeaaDoor
open Go.RowKit

theorem few_any (p : Nm) (w : World) : Calls Tryd.prog 8 #[.string (mk p)] w fun e w' => e = .returned (.string (mk (p.take 60))) ∧ w = w' := by
  have hms := mk_size p
  obtain ⟨m, hm⟩ : ∃ m, m = p.length := ⟨_, rfl⟩
  rw [← hm] at hms
  by_cases h : m ≤ 60
  · have hs : (Instr.slice 9 (.string (mk p)) none (some (.int .i64 m)) none).run Tryd.prog w = .ok (.string (mk (p.take 60))) w := by
      rw [run_hi w p m (by omega), List.take_of_length_le (by omega), List.take_of_length_le (by omega)]
    have hmin : min (m : Int) 60 = (m : Int) := by omega
    clear hm
    go_enter Tryd.func8, Tryd.ntmps8
    go_wp2
    go_ret
    exact ⟨rfl, rfl⟩
  · have hs : (Instr.slice 9 (.string (mk p)) none (some (.int .i64 60)) none).run Tryd.prog w = .ok (.string (mk (p.take 60))) w := run_hi w p 60 (by omega)
    have hmin : min (m : Int) 60 = 60 := by omega
    clear hm
    go_enter Tryd.func8, Tryd.ntmps8
    go_wp2
    go_ret
    exact ⟨rfl, rfl⟩

set_option maxRecDepth 20000 in
set_option maxHeartbeats 4000000 in
theorem romay_any (p : Nm) (g a : Int) (w : World) (hsz : p.length ≤ 200) :
    Calls Tryd.prog 12 #[.agg #[.string (mk p), .int .i64 g, .int .i64 a]] w fun e w' => e = .returned (.int .i64 (mayV p g a)) ∧ Below w.heap.size w w' := by
  obtain ⟨B, hB⟩ : ∃ B, B = w.heap.size := ⟨_, rfl⟩
  obtain ⟨w1, hw1⟩ : ∃ w1, w1 = w.alloc (.cells #[.string (mk p), .int .i64 g, .int .i64 a] 23) := ⟨_, rfl⟩
  have HX1 : Hid (w1.heap[B]? = some (.cells #[.string (mk p), .int .i64 g, .int .i64 a] 23 (0, 0))) := Lib.hid (by rw [hw1, hB]; exact heap_alloc_new w _)
  have HB1 : Hid (Below w.heap.size w w1) := Lib.hid (by rw [hw1]; exact (Below.refl _ _).alloc (Nat.le_refl _) _)
  have HOF : Hid (∀ w, Calls Tryd.prog 17 #[.string (mk p)] w fun e w' => ∃ a n c, e = .returned (shV a n c (ofR p)) ∧ Ss w' a n c (ofR p).1.P ∧ Below w.heap.size w w') := Lib.hid fun w => srof_any p w hsz
  have hcell := three HX1.out
  obtain ⟨⟨x0, x1, x2⟩, _⟩ := hcell
  cases hO : ofS p with
  | none =>
    have HE := Lib.hid (mayV_none hO g a)
    have HR := Lib.hid (ofR_none hO)
    rw [HR.out] at HOF
    simp only [shV] at HOF
    clear hO
    go_enter Tryd.func12, Tryd.ntmps12
    go_wp2_with fail
    rw [← hw1, ← hB]
    clear hw1 hB
    refine (HOF.out w1).mono ?_
    rintro e w2 ⟨sa, sn, sc, rfl, _, hb2⟩
    have HB2 : Hid (Below w.heap.size w (w2.alloc (.cells #[.slice sa sn sc, .bool false, .bool false] 35))) := Lib.hid ((HB1.out.trans (hb2.mono HB1.out.size)).alloc (by have := HB1.out.size; have := hb2.size; omega) _)
    go_wp2
    go_ret
    exact ⟨by rw [HE.out]; rfl, HB2.out⟩
  | some s =>
    have HR := Lib.hid (ofR_some hO)
    rw [HR.out] at HOF
    simp only [shV] at HOF
    have HS := Lib.hid hO
    clear hO
    obtain ⟨P, l, r⟩ := s
    go_enter Tryd.func12, Tryd.ntmps12
    go_wp2_with fail
    rw [← hw1, ← hB]
    clear hw1 hB
    refine (HOF.out w1).mono ?_
    rintro e w2 ⟨sa, sn, sc, rfl, _, hb2⟩
    obtain ⟨q, hq⟩ : ∃ q, q = w2.heap.size := ⟨_, rfl⟩
    obtain ⟨w3, hw3⟩ : ∃ w3, w3 = w2.alloc (.cells #[.slice sa sn sc, .bool l, .bool r] 35) := ⟨_, rfl⟩
    have hb3 : Below w1.heap.size w1 w3 := by rw [hw3]; exact hb2.alloc hb2.size _
    have HB3 : Hid (Below w.heap.size w w3) := Lib.hid (HB1.out.trans (hb3.mono HB1.out.size))
    have HX3 := Lib.hid (cells3 HX1.out hb3)
    have HQ3 : Hid (w3.heap[q]? = some (.cells #[.slice sa sn sc, .bool l, .bool r] 35 (0, 0))) := Lib.hid (by rw [hw3, hq]; exact heap_alloc_new w2 _)
    obtain ⟨⟨y0, y1, y2⟩, _⟩ := three HX3.out
    obtain ⟨⟨z0, z1, z2⟩, _⟩ := three HQ3.out
    rw [hw3] at y0 y1 y2 z0 z1 z2
    rw [hq] at z0 z1 z2
    clear hb2 hb3 x0 x1 x2
    have HW3 := Lib.hid (And.intro hq hw3)
    clear hq hw3
    by_cases hg1 : g < 1
    · have HE := Lib.hid (mayV_grp HS.out (.inl hg1) a)
      go_wp2
      go_ret
      exact ⟨by rw [HE.out]; rfl, by rw [← HW3.out.2]; exact HB3.out⟩
    by_cases hg2 : 9 < g
    · have HE := Lib.hid (mayV_grp HS.out (.inr hg2) a)
      go_wp2
      go_ret
      exact ⟨by rw [HE.out]; rfl, by rw [← HW3.out.2]; exact HB3.out⟩
    by_cases ha0 : a < 0
    · have HE : Hid (mayV p g a = 24) := Lib.hid (by rw [mayV_some HS.out (g := g) (by omega) a, sdB_no _ (.inl ha0)]; rfl)
      go_wp2
      go_ret
      exact ⟨by rw [HE.out]; rfl, by rw [← HW3.out.2]; exact HB3.out⟩
    by_cases ha2 : 2 < a
    · have HE : Hid (mayV p g a = 24) := Lib.hid (by rw [mayV_some HS.out (g := g) (by omega) a, sdB_no _ (.inr ha2)]; rfl)
      go_wp2
      go_ret
      exact ⟨by rw [HE.out]; rfl, by rw [← HW3.out.2]; exact HB3.out⟩
    have HM := Lib.hid (mayV_some HS.out (g := g) (by omega) a)
    obtain rfl | rfl | rfl : a = 0 ∨ a = 1 ∨ a = 2 := by omega
    · have HE : Hid (mayV p g 0 = 0) := Lib.hid (by rw [HM.out, sdB_zero]; rfl)
      go_wp2
      go_ret
      exact ⟨by rw [HE.out]; rfl, by rw [← HW3.out.2]; exact HB3.out⟩
    · cases l with
      | true =>
        have HE : Hid (mayV p g 1 = 0) := Lib.hid (by rw [HM.out, sdB_one]; rfl)
        go_wp2
        go_ret
        exact ⟨by rw [HE.out]; rfl, by rw [← HW3.out.2]; exact HB3.out⟩
      | false =>
        have HE : Hid (mayV p g 1 = 24) := Lib.hid (by rw [HM.out, sdB_one]; rfl)
        go_wp2
        go_ret
        exact ⟨by rw [HE.out]; rfl, by rw [← HW3.out.2]; exact HB3.out⟩
    · cases r with
      | true =>
        have HE : Hid (mayV p g 2 = 0) := Lib.hid (by rw [HM.out, sdB_two]; rfl)
        go_wp2
        go_ret
        exact ⟨by rw [HE.out]; rfl, by rw [← HW3.out.2]; exact HB3.out⟩
      | false =>
        have HE : Hid (mayV p g 2 = 24) := Lib.hid (by rw [HM.out, sdB_two]; rfl)
        go_wp2
        go_ret
        exact ⟨by rw [HE.out]; rfl, by rw [← HW3.out.2]; exact HB3.out⟩

theorem shown_sim : simV [121, 102, 120] [43] = ([95, 43, 95], 1, 0) := by decide +kernel

set_option maxRecDepth 20000 in
set_option maxHeartbeats 4000000 in
theorem shown_any (w : World) (ht : Tab w) (hk : TabK w) :
    Calls Tryd.prog 7 #[] w fun e w' => e = .returned (.bool true) ∧ Below w.heap.size w w' := by
  have HT := Lib.hid ht
  have HK := Lib.hid hk
  clear ht hk
  have hl : (mk [95, 43, 95]).toList = [95, 43, 95] := mk_toList _
  go_enter Tryd.func7, Tryd.ntmps7
  go_wp2_with fail
  refine (simple_any [121, 102, 120] [43] w HK.out (by decide)).mono ?_
  rw [shown_sim]
  simp only [simT]
  rintro e w1 ⟨rfl, hb1⟩
  go_wp2_with fail
  refine (omay_any [95, 43, 95] 3 1 w1 (HT.out.keep hb1) (by decide)).mono ?_
  rw [shown_may]
  rintro e w2 ⟨rfl, hb2⟩
  go_wp2
  go_ret
  exact ⟨rfl, hb1.trans (hb2.mono hb1.size)⟩

end Go.Proofs.YtcadeannnjpaeaaDoor
