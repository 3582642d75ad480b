/- The contract of fits.Fits. -/
import Derived.Test.YtcegbmhnbmfnnaaGreatDoorYa
namespace Go.Proofs.YtcegbmhnbmfnnaaGreatDoor
open Go.RowKit

/-- shape.Of, where its answer is told by letters. -/
theorem of_lit {p : Nm} {P : List Nm} {l r : Bool} {e : Int} (hV : ofR p = (⟨P, l, r⟩, e)) (hp : p.length ≤ 1000000) (w : World) (ht : Tab w) :
    Calls Tryz.prog 17 #[.string (mk p)] w fun e' w' => ∃ a n c, e' = .returned (.tuple #[.agg #[.slice a n c, .bool l, .bool r], .int .i64 e]) ∧ Below w.heap.size w w' := by
  refine (sof_any p w ht hp).mono ?_
  rw [hV]
  rintro e' w' ⟨a, n, c, rfl, _, hb⟩
  exact ⟨a, n, c, rfl, hb⟩
theorem D3.alloc {w : World} {D : Nat} {o : OP} (h : D3 w D o) (x : Obj) : D3 (w.alloc x) D o := h.below (below_alloc w x)
theorem fitsB_val {z : List Int} {p : Nm} {g s : Int} {q : Nm} {h t : Int} {right : Bool} {P Q : List Nm} {l r l' r' : Bool} (ho : ofS p = some ⟨P, l, r⟩) (hk : ofS q = some ⟨Q, l', r'⟩) :
    fitsB z (p, g, s) (q, h, t) right = ((if right then r else l) && ((!l' && !r') || (tgt z g h || (g == h && leanB (sideV right) [(p, g, s), (q, h, t)])))) := by
  rw [fitsB_some ho hk]
  simp only [leanB, List.all_cons, List.all_nil, Bool.and_true]
  rfl

set_option maxRecDepth 100000 in
set_option maxHeartbeats 16000000 in
theorem fits_any (z : List Int) (hz : z.length = 10) (hr : ∀ i, i < 10 → I64 (bt z i)) (p : Nm) (g s : Int) (q : Nm) (h t : Int) (right : Bool) (w : World) (ht : Tab w) (hp : p.length ≤ 1000000) (hq : q.length ≤ 1000000) :
    Calls Tryz.prog 8 #[.agg (rv z), .agg #[.string (mk p), .int .i64 g, .int .i64 s], .agg #[.string (mk q), .int .i64 h, .int .i64 t], .bool right] w fun e w' => e = .returned (.bool (fitsB z (p, g, s) (q, h, t) right)) ∧ Below w.heap.size w w' := by
  obtain ⟨B, hB⟩ : ∃ B, B = w.heap.size := ⟨_, rfl⟩
  obtain ⟨wA, hwA⟩ : ∃ wA, wA = w.alloc (.cells (rv z) 24) := ⟨_, rfl⟩
  obtain ⟨wB, hwB⟩ : ∃ wB, wB = wA.alloc (.cells #[.string (mk p), .int .i64 g, .int .i64 s] 28) := ⟨_, rfl⟩
  obtain ⟨wC, hwC⟩ : ∃ wC, wC = wB.alloc (.cells #[.string (mk q), .int .i64 h, .int .i64 t] 28) := ⟨_, rfl⟩
  have sA : wA.heap.size = B + 1 := by rw [hwA, hB]; simp
  have sB : wB.heap.size = B + 1 + 1 := by rw [hwB]; simp [sA]
  have sC : wC.heap.size = B + 1 + 1 + 1 := by rw [hwC]; simp [sB]
  have HRC : Hid (RB wC B z) := Lib.hid (by rw [hwC, hwB, hwA, hB]; exact ((RB.new w z).alloc _).alloc _)
  have HOC : Hid (D3 wC (B + 1) (p, g, s)) := Lib.hid (by rw [hwC, hwB, ← sA]; exact (D3.new wA (p, g, s)).alloc _)
  have HKC : Hid (D3 wC (B + 1 + 1) (q, h, t)) := Lib.hid (by rw [hwC, ← sB]; exact D3.new wB (q, h, t))
  have HBC : Hid (Below B w wC) := Lib.hid (by rw [hwC, hwB, hwA, hB]; exact ((below_alloc w _).alloc (by simp) _).alloc (by simp; omega) _)
  have HTC : Hid (Tab wC) := Lib.hid (ht.keep (hB ▸ HBC.out))
  have HSC := Lib.hid sC
  have HBB := Lib.hid hB
  obtain ⟨T, hT⟩ : ∃ T, T = tgt z g h := ⟨_, rfl⟩
  have KT : Hid (∀ w' : World, Calls Tryz.prog 21 #[.agg (rv z), .int .i64 g, .int .i64 h] w' fun e w'' => e = .returned (.bool T) ∧ Below w'.heap.size w' w'') := Lib.hid fun w' => by rw [hT]; exact tighter_any z hz hr g h w'
  obtain ⟨sv, hsv⟩ : ∃ x, x = sideV right := ⟨_, rfl⟩
  have KS : Hid (∀ w' : World, Calls Tryz.prog 20 #[.bool right] w' fun e w'' => e = .returned (.int .i64 sv) ∧ w' = w'') := Lib.hid fun w' => by rw [hsv]; exact side_any right w'
  obtain ⟨b, hb⟩ : ∃ x, x = leanB sv [(p, g, s), (q, h, t)] := ⟨_, rfl⟩
  have KL : Hid (∀ (X : Nat) (w' : World), OpS w' (some ⟨X, 0, none⟩) 2 2 [(p, g, s), (q, h, t)] → Calls Tryz.prog 19 #[.int .i64 sv, .slice (some ⟨X, 0, none⟩) 2 2] w' fun e w'' => e = .returned (.bool b) ∧ Below w'.heap.size w' w'') := Lib.hid fun X w' hh => by rw [hb]; exact lean_any sv _ 2 2 _ w' hh (by decide)
  have HZ := Lib.hid hz
  have x0 := HOC.out.cells.1
  dsimp only at x0
  have HFV0 : Hid (∀ (P Q : List Nm) (l r l' r' : Bool), ofS p = some ⟨P, l, r⟩ → ofS q = some ⟨Q, l', r'⟩ → fitsB z (p, g, s) (q, h, t) right = ((if right then r else l) && ((!l' && !r') || (T || (g == h && b))))) := Lib.hid fun P Q l r l' r' h1 h2 => by
    rw [fitsB_val h1 h2, hT, hb, hsv]
  obtain ⟨V, hV⟩ : ∃ V, V = fitsB z (p, g, s) (q, h, t) right := ⟨_, rfl⟩
  rw [← hV] at HFV0 ⊢
  have HV1 : Hid (ofS p = none → V = false) := Lib.hid fun h0 => by rw [hV]; exact fitsB_no1 _ _ h0
  have HV2 : Hid (ofS q = none → V = false) := Lib.hid fun h0 => by rw [hV]; exact fitsB_no2 _ _ h0
  have HP := Lib.hid hp
  have HQ := Lib.hid hq
  clear ht hz hr hT hsv hb hV hp hq
  -- what the two patterns are
  obtain ⟨P, l, r, ep, hOp, hp0, hp1⟩ : ∃ P l r ep, ofR p = (⟨P, l, r⟩, ep) ∧ (ep = 0 → ofS p = some ⟨P, l, r⟩) ∧ (ep ≠ 0 → ofS p = none) := by
    cases hO : ofS p with
    | none => exact ⟨_, _, _, _, ofR_none hO, (fun h => by cases h), fun _ => rfl⟩
    | some u => exact ⟨u.P, u.l, u.r, 0, ofR_some hO, fun _ => rfl, fun h => absurd rfl h⟩
  obtain ⟨Q, l', r', eq, hOq, hq0, hq1⟩ : ∃ Q l' r' eq, ofR q = (⟨Q, l', r'⟩, eq) ∧ (eq = 0 → ofS q = some ⟨Q, l', r'⟩) ∧ (eq ≠ 0 → ofS q = none) := by
    cases hO : ofS q with
    | none => exact ⟨_, _, _, _, ofR_none hO, (fun h => by cases h), fun _ => rfl⟩
    | some u => exact ⟨u.P, u.l, u.r, 0, ofR_some hO, fun _ => rfl, fun h => absurd rfl h⟩
  have HOF1 : Hid (∀ w', Tab w' → Calls Tryz.prog 17 #[.string (mk p)] w' fun e' w'' => ∃ a n c, e' = .returned (.tuple #[.agg #[.slice a n c, .bool l, .bool r], .int .i64 ep]) ∧ Below w'.heap.size w' w'') := Lib.hid fun w' hh => of_lit hOp HP.out w' hh
  have HOF2 : Hid (∀ w', Tab w' → Calls Tryz.prog 17 #[.string (mk q)] w' fun e' w'' => ∃ a n c, e' = .returned (.tuple #[.agg #[.slice a n c, .bool l', .bool r'], .int .i64 eq]) ∧ Below w'.heap.size w' w'') := Lib.hid fun w' hh => of_lit hOq HQ.out w' hh
  have HFV := Lib.hid fun h1 h2 => HFV0.out P Q l r l' r' (hp0 h1) (hq0 h2)
  have HV1' : Hid (ep ≠ 0 → V = false) := Lib.hid fun h1 => HV1.out (hp1 h1)
  have HV2' : Hid (eq ≠ 0 → V = false) := Lib.hid fun h1 => HV2.out (hq1 h1)
  obtain ⟨Ev, hEv⟩ : ∃ x, x = (if right then r else l) := ⟨_, rfl⟩
  have KH : Hid (∀ a n c w', Calls Tryz.prog 18 #[.agg #[.slice a n c, .bool l, .bool r], .bool right] w' fun e w'' => e = .returned (.bool Ev) ∧ Below w'.heap.size w' w'') := Lib.hid fun a n c w' => by rw [hEv]; exact holed_any a n c l r right w'
  rw [← hEv] at HFV
  clear hOp hp0 hp1 hOq hq0 hq1 HFV0 HV1 HV2 HP HQ hEv
  go_enter Tryz.func8, Tryz.ntmps8
  go_upto_region 1 with fail
  rw [← hwA, ← hwB, ← hwC]
  try rw [sA]
  try rw [sB]
  try rw [← hB]
  clear hwA hwB hwC sA sB sC hB
  go_wp2_with fail
  refine (HOF1.out wC HTC.out).mono ?_
  rintro e w1 ⟨a1, n1, c1, rfl, hb1⟩
  obtain ⟨q1, hq1⟩ : ∃ q1, q1 = w1.heap.size := ⟨_, rfl⟩
  obtain ⟨w2, hw2⟩ : ∃ w2, w2 = w1.alloc (.cells #[.slice a1 n1 c1, .bool l, .bool r] 49) := ⟨_, rfl⟩
  have hbc2 : Below wC.heap.size wC w2 := by rw [hw2]; exact hb1.alloc hb1.size _
  have HBC2 := Lib.hid hbc2
  have HS2 : Hid (w2.heap[q1]? = some (.cells #[.slice a1 n1 c1, .bool l, .bool r] 49 (0, 0))) := Lib.hid (by rw [hw2, hq1]; exact heap_alloc_new w1 _)
  have HK2 : Hid (D3 w2 (B + 1 + 1) (q, h, t)) := Lib.hid (HKC.out.below hbc2)
  have x1 := HK2.out.cells.1
  dsimp only at x1
  rw [hw2] at x1
  have HW2 := Lib.hid (And.intro hq1 hw2)
  clear x0 hb1 hbc2 hq1 hw2
  go_wp2_with fail
  rw [← HW2.out.2, ← HW2.out.1]
  clear x1 HW2
  refine (HOF2.out w2 (HTC.out.keep HBC2.out)).mono ?_
  rintro e w3 ⟨a2, n2, c2, rfl, hb3⟩
  obtain ⟨q2, hq2⟩ : ∃ q2, q2 = w3.heap.size := ⟨_, rfl⟩
  obtain ⟨w4, hw4⟩ : ∃ w4, w4 = w3.alloc (.cells #[.slice a2 n2 c2, .bool l', .bool r'] 49) := ⟨_, rfl⟩
  have hb24 : Below w2.heap.size w2 w4 := by rw [hw4]; exact hb3.alloc hb3.size _
  have HB4 : Hid (Below wC.heap.size wC w4) := Lib.hid (HBC2.out.trans (hb24.mono HBC2.out.size))
  have HS4 := Lib.hid (cells3 HS2.out hb24)
  have HQ4 : Hid (w4.heap[q2]? = some (.cells #[.slice a2 n2 c2, .bool l', .bool r'] 49 (0, 0))) := Lib.hid (by rw [hw4, hq2]; exact heap_alloc_new w3 _)
  have HW4 := Lib.hid (And.intro hq2 hw4)
  have HB4' : Hid (Below B w w4) := Lib.hid (HBC.out.trans (HB4.out.mono (by have := HSC.out; omega)))
  clear hb3 hb24 hq2 hw4
  obtain ⟨⟨y0, y1, y2⟩, _⟩ := three HS4.out
  rw [HW4.out.2] at y0 y1 y2
  by_cases h1 : ep = 0
  · subst h1
    by_cases h2 : eq = 0
    · subst h2
      have HFV1 := Lib.hid (HFV.out rfl rfl)
      go_wp2_with fail
      rw [← HW4.out.2, ← HW4.out.1]
      clear y0 y1 y2 HW4
      refine (KH.out a1 n1 c1 w4).mono ?_
      rintro e w5 ⟨rfl, hb5⟩
      have HB5 : Hid (Below wC.heap.size wC w5) := Lib.hid (HB4.out.trans (hb5.mono HB4.out.size))
      have HB5' : Hid (Below B w w5) := Lib.hid (HBC.out.trans (HB5.out.mono (by have := HSC.out; omega)))
      have HQ5 := Lib.hid (cells3 HQ4.out hb5)
      have HR5 : Hid (RB w5 B z) := Lib.hid (HRC.out.keep HB5.out (by have := HSC.out; omega))
      have HO5 : Hid (D3 w5 (B + 1) (p, g, s)) := Lib.hid (HOC.out.below HB5.out)
      have HK5 : Hid (D3 w5 (B + 1 + 1) (q, h, t)) := Lib.hid (HKC.out.below HB5.out)
      clear hb5
      cases Ev with
      | false =>
        go_wp2
        go_ret
        exact ⟨by rw [HFV1.out]; rfl, by rw [← HBB.out]; exact HB5'.out⟩
      | true =>
        obtain ⟨⟨u0, u1, u2⟩, _⟩ := three HQ5.out
        obtain ⟨o0, o1, o2⟩ := HO5.out.cells
        obtain ⟨k0, k1, k2⟩ := HK5.out.cells
        dsimp only at o0 o1 o2 k0 k1 k2
        by_cases hgh : g = h
        · subst hgh
          have HKS : Hid (∀ w', Below w5.heap.size w5 w' → (w'.cell? ⟨B + 1, 0, none⟩ = some (.string (mk p)) ∧ w'.cell? ⟨B + 1, 1, none⟩ = some (.int .i64 g) ∧ w'.cell? ⟨B + 1, 2, none⟩ = some (.int .i64 s)) ∧ w'.cell? ⟨B + 1 + 1, 0, none⟩ = some (.string (mk q)) ∧ w'.cell? ⟨B + 1 + 1, 1, none⟩ = some (.int .i64 g) ∧ w'.cell? ⟨B + 1 + 1, 2, none⟩ = some (.int .i64 t)) := Lib.hid fun w' hh => ⟨(HO5.out.below hh).cells, (HK5.out.below hh).cells⟩
          obtain ⟨rfl, rfl⟩ | ⟨rfl, rfl⟩ | ⟨rfl, rfl, rfl⟩ | ⟨rfl, rfl, rfl⟩ | ⟨rfl, rfl⟩ : (l' = true ∧ b = true) ∨ (l' = true ∧ b = false) ∨ (l' = false ∧ r' = true ∧ b = true) ∨ (l' = false ∧ r' = true ∧ b = false) ∨ (l' = false ∧ r' = false) := by cases l' <;> cases r' <;> cases b <;> simp
          all_goals
            go_wp2_with fail
            go_region_held3 (fun w' => (w'.cell? ⟨B + 1, 0, none⟩ = some (.string (mk p)) ∧ w'.cell? ⟨B + 1, 1, none⟩ = some (.int .i64 g) ∧ w'.cell? ⟨B + 1, 2, none⟩ = some (.int .i64 s)) ∧ w'.cell? ⟨B + 1 + 1, 0, none⟩ = some (.string (mk q)) ∧ w'.cell? ⟨B + 1 + 1, 1, none⟩ = some (.int .i64 g) ∧ w'.cell? ⟨B + 1 + 1, 2, none⟩ = some (.int .i64 t))
              (first
                | exact HKS.out _ HB6.out
                | exact HKS.out _ (below_alloc w5 _).drew
                | exact HKS.out _ ((Below.refl _ _).drew.alloc (Nat.le_refl _) _)
                | exact HKS.out _ (Below.refl _ _).drew)
              (first
                | (go_at_call 20; (refine (KS.out _).mono ?_); (rintro e w' ⟨rfl, rfl⟩))
                | (go_at_call 19; (with_reducible refine (KL.out _ _ ?_).mono ?_); (first | exact (ops_two w5 (p, g, s) (q, g, t) rfl).drew | exact ops_two w5.drew (p, g, s) (q, g, t) rfl); (rintro e w6 ⟨rfl, hb6⟩); (have HB6 : Hid (Below w5.heap.size w5 w6) := Lib.hid (Below.trans (by first | exact (below_alloc w5 _).drew | exact (Below.refl _ _).drew.alloc (Nat.le_refl _) _) (hb6.mono (by simp)))); clear hb6))
          all_goals
            obtain ⟨o0, o1, o2⟩ := (HO5.out.below HB6.out).cells
            obtain ⟨k0, k1, k2⟩ := (HK5.out.below HB6.out).cells
            have HR6 := Lib.hid (HR5.out.keep HB6.out HR5.out.lt)
            dsimp only at o0 o1 o2 k0 k1 k2
            go_wp2_with (first
              | (refine load_rows rfl (.tmp 4) rfl B rfl z HZ.out HR6.out ?_)
              | (go_at_call 21; refine (KT.out _).mono ?_; rintro e w7 ⟨rfl, hb7⟩; have HB6 := Lib.hid (HB6.out.trans (hb7.mono HB6.out.size)); clear hb7))
            go_ret
            exact ⟨ret_bool (by rw [HFV1.out]; simp), by rw [← HBB.out]; exact HB5'.out.trans (HB6.out.mono (by have := HBB.out; have := HB5'.out.size; omega))⟩
        · have hgb : (g == h) = false := by simpa using hgh
          obtain rfl | ⟨rfl, rfl⟩ | ⟨rfl, rfl⟩ : l' = true ∨ (l' = false ∧ r' = true) ∨ (l' = false ∧ r' = false) := by cases l' <;> cases r' <;> simp
          all_goals
            go_wp2_with fail
            go_region
            go_wp2_with (first
              | (refine load_rows rfl (.tmp 4) rfl B rfl z HZ.out HR5.out ?_)
              | (go_at_call 21; refine (KT.out _).mono ?_; rintro e w7 ⟨rfl, hb7⟩; have HB6 := Lib.hid ((Below.refl w5.heap.size w5).drew.trans (hb7.mono (by simp))); clear hb7))
            go_ret
            exact ⟨ret_bool (by rw [HFV1.out]; simp [hgh]), by rw [← HBB.out]; first | exact HB5'.out.drew | exact HB5'.out.trans (HB6.out.mono (by have := HBB.out; have := HB5'.out.size; omega))⟩
    · have HVE := Lib.hid (HV2'.out h2)
      go_wp2
      go_ret
      exact ⟨by rw [HVE.out]; rfl, by rw [← HBB.out, ← HW4.out.2]; exact HB4'.out⟩
  · have HVE := Lib.hid (HV1'.out h1)
    go_wp2
    go_ret
    exact ⟨by rw [HVE.out]; rfl, by rw [← HBB.out, ← HW4.out.2]; exact HB4'.out⟩

end Go.Proofs.YtcegbmhnbmfnnaaGreatDoor
