/- Contracts of the document's Fits, Part, Leaf (laid by genYj.py). -/
import Derived.Test.YtcegbmhnbmfnnaaGreatDoorYc
import Derived.Test.YtcegbmhnbmfnnaaGreatDoorYi
namespace Go.Proofs.YtcegbmhnbmfnnaaGreatDoor
open Go.RowKit

/-- The document's Of, where its answer is told by letters. -/
theorem rof_lit {p : Nm} {P : List Nm} {l r : Bool} {e : Int} (hV : ofR p = (⟨P, l, r⟩, e)) (hp : p.length ≤ 200) (w : World) :
    Calls Tryz.prog 22 #[.string (mk p)] w fun e' w' => ∃ a n c, e' = .returned (.tuple #[.agg #[.slice a n c, .bool l, .bool r], .int .i64 e]) ∧ Below w.heap.size w w' := by
  refine (srof_any p w hp).mono ?_
  rw [hV]
  rintro e' w' ⟨a, n, c, rfl, _, hb⟩
  exact ⟨a, n, c, rfl, hb⟩

set_option maxRecDepth 100000 in
set_option maxHeartbeats 16000000 in
theorem rfits_any (z : List Int) (hz : z.length = 10) (p : Nm) (g s : Int) (q : Nm) (h t : Int) (right : Bool) (w : World) (hp : p.length ≤ 200) (hq : q.length ≤ 200) :
    Calls Tryz.prog 9 #[.agg (rv z), .agg #[.string (mk p), .int .i64 g, .int .i64 s], .agg #[.string (mk q), .int .i64 h, .int .i64 t], .bool right] w fun e w' => e = .returned (.bool (fitsB z (p, g, s) (q, h, t) right)) ∧ Below w.heap.size w w' := by
  obtain ⟨B, hB⟩ : ∃ B, B = w.heap.size := ⟨_, rfl⟩
  obtain ⟨wA, hwA⟩ : ∃ wA, wA = w.alloc (.cells (rv z) 24) := ⟨_, rfl⟩
  obtain ⟨wB, hwB⟩ : ∃ wB, wB = wA.alloc (.cells #[.string (mk p), .int .i64 g, .int .i64 s] 28) := ⟨_, rfl⟩
  obtain ⟨wC, hwC⟩ : ∃ wC, wC = wB.alloc (.cells #[.string (mk q), .int .i64 h, .int .i64 t] 28) := ⟨_, rfl⟩
  have sA : wA.heap.size = B + 1 := by rw [hwA, hB]; simp
  have sB : wB.heap.size = B + 1 + 1 := by rw [hwB]; simp [sA]
  have sC : wC.heap.size = B + 1 + 1 + 1 := by rw [hwC]; simp [sB]
  have HRC : Hid (RB wC B z) := Lib.hid (by rw [hwC, hwB, hwA, hB]; exact ((RB.new w z).alloc _).alloc _)
  have HOC : Hid (D3 wC (B + 1) (p, g, s)) := Lib.hid (by rw [hwC, hwB, ← sA]; exact (D3.new wA (p, g, s)).alloc _)
  have HKC : Hid (D3 wC (B + 1 + 1) (q, h, t)) := Lib.hid (by rw [hwC, ← sB]; exact D3.new wB (q, h, t))
  have HBC : Hid (Below B w wC) := Lib.hid (by rw [hwC, hwB, hwA, hB]; exact ((below_alloc w _).alloc (by simp) _).alloc (by simp; omega) _)
  have HSC := Lib.hid sC
  have HBB := Lib.hid hB
  obtain ⟨T, hT⟩ : ∃ T, T = tgt z g h := ⟨_, rfl⟩
  have KT : Hid (∀ w' : World, Calls Tryz.prog 23 #[.agg (rv z), .int .i64 g, .int .i64 h] w' fun e w'' => e = .returned (.bool T) ∧ Below w'.heap.size w' w'') := Lib.hid fun w' => by rw [hT]; exact rtighter_any z hz g h w'
  obtain ⟨sv, hsv⟩ : ∃ x, x = sideV right := ⟨_, rfl⟩
  obtain ⟨b1, hb1⟩ : ∃ x, (g == h) = x := ⟨_, rfl⟩
  obtain ⟨b2, hb2⟩ : ∃ x, (s == sv) = x := ⟨_, rfl⟩
  obtain ⟨b3, hb3⟩ : ∃ x, (t == sv) = x := ⟨_, rfl⟩
  have HZ := Lib.hid hz
  have x0 := HOC.out.cells.1
  dsimp only at x0
  have HFV0 : Hid (∀ (P Q : List Nm) (l r l' r' : Bool), ofS p = some ⟨P, l, r⟩ → ofS q = some ⟨Q, l', r'⟩ → fitsB z (p, g, s) (q, h, t) right = ((if right then r else l) && ((!l' && !r') || (T || (b1 && (b2 && b3)))))) := Lib.hid fun P Q l r l' r' h1 h2 => by
    rw [fitsB_val h1 h2, hT, ← hb1, ← hb2, ← hb3, hsv]
    simp only [leanB, List.all_cons, List.all_nil, Bool.and_true]
  obtain ⟨V, hV⟩ : ∃ V, V = fitsB z (p, g, s) (q, h, t) right := ⟨_, rfl⟩
  rw [← hV] at HFV0 ⊢
  have HV1 : Hid (ofS p = none → V = false) := Lib.hid fun h0 => by rw [hV]; exact fitsB_no1 _ _ h0
  have HV2 : Hid (ofS q = none → V = false) := Lib.hid fun h0 => by rw [hV]; exact fitsB_no2 _ _ h0
  have HP := Lib.hid hp
  have HQ := Lib.hid hq
  clear hz hT hV hp hq
  -- what the two patterns are
  obtain ⟨P, l, r, ep, hOp, hp0, hp1⟩ : ∃ P l r ep, ofR p = (⟨P, l, r⟩, ep) ∧ (ep = 0 → ofS p = some ⟨P, l, r⟩) ∧ (ep ≠ 0 → ofS p = none) := by
    cases hO : ofS p with
    | none => exact ⟨_, _, _, _, ofR_none hO, (fun h => by cases h), fun _ => rfl⟩
    | some u => exact ⟨u.P, u.l, u.r, 0, ofR_some hO, fun _ => rfl, fun h => absurd rfl h⟩
  obtain ⟨Q, l', r', eq, hOq, hq0, hq1⟩ : ∃ Q l' r' eq, ofR q = (⟨Q, l', r'⟩, eq) ∧ (eq = 0 → ofS q = some ⟨Q, l', r'⟩) ∧ (eq ≠ 0 → ofS q = none) := by
    cases hO : ofS q with
    | none => exact ⟨_, _, _, _, ofR_none hO, (fun h => by cases h), fun _ => rfl⟩
    | some u => exact ⟨u.P, u.l, u.r, 0, ofR_some hO, fun _ => rfl, fun h => absurd rfl h⟩
  have HOF1 : Hid (∀ w', Calls Tryz.prog 22 #[.string (mk p)] w' fun e' w'' => ∃ a n c, e' = .returned (.tuple #[.agg #[.slice a n c, .bool l, .bool r], .int .i64 ep]) ∧ Below w'.heap.size w' w'') := Lib.hid fun w' => rof_lit hOp HP.out w'
  have HOF2 : Hid (∀ w', Calls Tryz.prog 22 #[.string (mk q)] w' fun e' w'' => ∃ a n c, e' = .returned (.tuple #[.agg #[.slice a n c, .bool l', .bool r'], .int .i64 eq]) ∧ Below w'.heap.size w' w'') := Lib.hid fun w' => rof_lit hOq HQ.out w'
  have HFV := Lib.hid fun h1 h2 => HFV0.out P Q l r l' r' (hp0 h1) (hq0 h2)
  have HV1' : Hid (ep ≠ 0 → V = false) := Lib.hid fun h1 => HV1.out (hp1 h1)
  have HV2' : Hid (eq ≠ 0 → V = false) := Lib.hid fun h1 => HV2.out (hq1 h1)
  clear hOp hp0 hp1 hOq hq0 hq1 HFV0 HV1 HV2 HP HQ
  go_enter Tryz.func9, Tryz.ntmps9
  go_upto_region 1 with fail
  rw [← hwA, ← hwB, ← hwC]
  try rw [sA]
  try rw [sB]
  try rw [← hB]
  clear hwA hwB hwC sA sB sC hB
  go_wp2_with fail
  refine (HOF1.out wC).mono ?_
  rintro e w1 ⟨a1, n1, c1, rfl, hb1⟩
  obtain ⟨q1, hq1⟩ : ∃ q1, q1 = w1.heap.size := ⟨_, rfl⟩
  obtain ⟨w2, hw2⟩ : ∃ w2, w2 = w1.alloc (.cells #[.slice a1 n1 c1, .bool l, .bool r] 49) := ⟨_, rfl⟩
  have hbc2 : Below wC.heap.size wC w2 := by rw [hw2]; exact hb1.alloc hb1.size _
  have HBC2 := Lib.hid hbc2
  have HS2 : Hid (w2.heap[q1]? = some (.cells #[.slice a1 n1 c1, .bool l, .bool r] 49 (0, 0))) := Lib.hid (by rw [hw2, hq1]; exact heap_alloc_new w1 _)
  have HK2 : Hid (D3 w2 (B + 1 + 1) (q, h, t)) := Lib.hid (HKC.out.below hbc2)
  have x1 := HK2.out.cells.1
  dsimp only at x1
  rw [hw2] at x1
  have HW2 := Lib.hid (And.intro hq1 hw2)
  clear x0 hb1 hbc2 hq1 hw2
  go_wp2_with fail
  rw [← HW2.out.2, ← HW2.out.1]
  clear x1 HW2
  refine (HOF2.out w2).mono ?_
  rintro e w3 ⟨a2, n2, c2, rfl, hb3⟩
  obtain ⟨q2, hq2⟩ : ∃ q2, q2 = w3.heap.size := ⟨_, rfl⟩
  obtain ⟨w4, hw4⟩ : ∃ w4, w4 = w3.alloc (.cells #[.slice a2 n2 c2, .bool l', .bool r'] 49) := ⟨_, rfl⟩
  have hb24 : Below w2.heap.size w2 w4 := by rw [hw4]; exact hb3.alloc hb3.size _
  have HB4 : Hid (Below wC.heap.size wC w4) := Lib.hid (HBC2.out.trans (hb24.mono HBC2.out.size))
  have HS4 := Lib.hid (cells3 HS2.out hb24)
  have HQ4 : Hid (w4.heap[q2]? = some (.cells #[.slice a2 n2 c2, .bool l', .bool r'] 49 (0, 0))) := Lib.hid (by rw [hw4, hq2]; exact heap_alloc_new w3 _)
  have HW4 := Lib.hid (And.intro hq2 hw4)
  have HB4' : Hid (Below B w w4) := Lib.hid (HBC.out.trans (HB4.out.mono (by have := HSC.out; omega)))
  clear hb3 hb24 hq2 hw4
  obtain ⟨⟨y0, y1, y2⟩, _⟩ := three HS4.out
  rw [HW4.out.2] at y0 y1 y2
  have hR := HRC.out.keep HB4.out (show B < wC.heap.size by have := HSC.out; omega)
  have HR4 := Lib.hid hR
  have HO4 : Hid (D3 w4 (B + 1) (p, g, s)) := Lib.hid (HOC.out.below HB4.out)
  have HK4 : Hid (D3 w4 (B + 1 + 1) (q, h, t)) := Lib.hid (HKC.out.below HB4.out)
  clear hR
  by_cases h1 : ep = 0
  · subst h1
    by_cases h2 : eq = 0
    · subst h2
      have HFV1 := Lib.hid (HFV.out rfl rfl)
      obtain ⟨⟨u0, u1, u2⟩, _⟩ := three HQ4.out
      obtain ⟨o0, o1, o2⟩ := HO4.out.cells
      obtain ⟨k0, k1, k2⟩ := HK4.out.cells
      dsimp only at o0 o1 o2 k0 k1 k2
      rw [HW4.out.2] at u0 u1 u2 o0 o1 o2 k0 k1 k2
      rw [HW4.out.1] at u0 u1 u2
      cases right
      · -- at the left end
        obtain rfl : sv = 1 := hsv
        cases l with
        | false =>
          go_wp2
          go_ret
          exact ⟨ret_bool (by rw [HFV1.out]; simp), by rw [← HBB.out, ← HW4.out.2]; exact HB4'.out⟩
        | true =>
          go_upto_region 5 with fail
          rw [← HW4.out.2, ← HW4.out.1]
          rw [← HW4.out.2] at u0 u1 u2 o0 o1 o2 k0 k1 k2
          rw [← HW4.out.1] at u0 u1 u2
          clear y0 y1 y2 HW4
          have KC : Hid (∀ w', Below w4.heap.size w4 w' → D3 w' (B + 1) (p, g, s) ∧ D3 w' (B + 1 + 1) (q, h, t)) := Lib.hid fun w' hh => ⟨HO4.out.below hh, HK4.out.below hh⟩
          obtain ⟨rfl, rfl⟩ | ⟨rfl | ⟨rfl, rfl⟩, rfl | ⟨rfl, rfl | ⟨rfl, rfl⟩ | ⟨rfl, rfl⟩⟩⟩ : (l' = false ∧ r' = false) ∨ ((l' = true ∨ (l' = false ∧ r' = true)) ∧ (T = true ∨ T = false ∧ (b1 = false ∨ b1 = true ∧ b2 = false ∨ b1 = true ∧ b2 = true))) := by cases l' <;> cases r' <;> cases T <;> cases b1 <;> cases b2 <;> simp
          · go_wp2
            go_ret
            exact ⟨ret_bool (by rw [HFV1.out]; simp), by rw [← HBB.out]; exact HB4'.out⟩
          all_goals
            go_wp2_with (first
              | (refine load_rows rfl (.tmp 4) rfl B rfl z HZ.out HR4.out ?_)
              | (go_at_call 23; refine (KT.out _).mono ?_; rintro e w7 ⟨rfl, hb7⟩; have HB7 := Lib.hid hb7; have HKC7 := Lib.hid (KC.out _ hb7); clear hb7; clear o0 o1 o2 k0 k1 k2; obtain ⟨⟨o0, o1, o2⟩, k0, k1, k2⟩ := (show _ ∧ _ from ⟨HKC7.out.1.cells, HKC7.out.2.cells⟩); dsimp only at o0 o1 o2 k0 k1 k2))
            go_ret
            exact ⟨ret_bool (by rw [HFV1.out]; simp), by rw [← HBB.out]; exact HB4'.out.trans (HB7.out.mono (by have := HBB.out; have := HB4'.out.size; omega))⟩
      · -- at the right end
        obtain rfl : sv = 2 := hsv
        cases r with
        | false =>
          go_wp2
          go_ret
          exact ⟨ret_bool (by rw [HFV1.out]; simp), by rw [← HBB.out, ← HW4.out.2]; exact HB4'.out⟩
        | true =>
          go_upto_region 5 with fail
          rw [← HW4.out.2, ← HW4.out.1]
          rw [← HW4.out.2] at u0 u1 u2 o0 o1 o2 k0 k1 k2
          rw [← HW4.out.1] at u0 u1 u2
          clear y0 y1 y2 HW4
          have KC : Hid (∀ w', Below w4.heap.size w4 w' → D3 w' (B + 1) (p, g, s) ∧ D3 w' (B + 1 + 1) (q, h, t)) := Lib.hid fun w' hh => ⟨HO4.out.below hh, HK4.out.below hh⟩
          obtain ⟨rfl, rfl⟩ | ⟨rfl | ⟨rfl, rfl⟩, rfl | ⟨rfl, rfl | ⟨rfl, rfl⟩ | ⟨rfl, rfl⟩⟩⟩ : (l' = false ∧ r' = false) ∨ ((l' = true ∨ (l' = false ∧ r' = true)) ∧ (T = true ∨ T = false ∧ (b1 = false ∨ b1 = true ∧ b2 = false ∨ b1 = true ∧ b2 = true))) := by cases l' <;> cases r' <;> cases T <;> cases b1 <;> cases b2 <;> simp
          · go_wp2
            go_ret
            exact ⟨ret_bool (by rw [HFV1.out]; simp), by rw [← HBB.out]; exact HB4'.out⟩
          all_goals
            go_wp2_with (first
              | (refine load_rows rfl (.tmp 4) rfl B rfl z HZ.out HR4.out ?_)
              | (go_at_call 23; refine (KT.out _).mono ?_; rintro e w7 ⟨rfl, hb7⟩; have HB7 := Lib.hid hb7; have HKC7 := Lib.hid (KC.out _ hb7); clear hb7; clear o0 o1 o2 k0 k1 k2; obtain ⟨⟨o0, o1, o2⟩, k0, k1, k2⟩ := (show _ ∧ _ from ⟨HKC7.out.1.cells, HKC7.out.2.cells⟩); dsimp only at o0 o1 o2 k0 k1 k2))
            go_ret
            exact ⟨ret_bool (by rw [HFV1.out]; simp), by rw [← HBB.out]; exact HB4'.out.trans (HB7.out.mono (by have := HBB.out; have := HB4'.out.size; omega))⟩
    · have HVE := Lib.hid (HV2'.out h2)
      go_wp2
      go_ret
      exact ⟨by rw [HVE.out]; rfl, by rw [← HBB.out, ← HW4.out.2]; exact HB4'.out⟩
  · have HVE := Lib.hid (HV1'.out h1)
    go_wp2
    go_ret
    exact ⟨by rw [HVE.out]; rfl, by rw [← HBB.out, ← HW4.out.2]; exact HB4'.out⟩

set_option maxRecDepth 20000 in
set_option maxHeartbeats 4000000 in
theorem frpart_any (k f t : Int) (x : Nm) (e : Int) (y : Nm) (w : World) :
    Calls Tryz.prog 11 #[.agg #[.int .i64 k, .int .i64 f, .int .i64 t, .string (mk x), .int .i64 e], .string (mk y)] w fun e' w' => e' = .returned (.bool (partB k x y)) ∧ Below w.heap.size w w' := by
  have HB := Lib.hid (below_alloc w (.cells #[.int .i64 k, .int .i64 f, .int .i64 t, .string (mk x), .int .i64 e] 33))
  obtain ⟨c0, c1, c2, c3, c4⟩ := (T5.new w k f t x e).cells
  have hx := mk_toList x
  have hy := mk_toList y
  have hk : ((k == 1) = false ∧ (k == 2) = false ∧ (k == 6) = false) ∨ (k = 1 ∨ k = 2 ∨ k = 6) := by
    simp only [beq_eq_false_iff_ne]
    omega
  rcases hk with ⟨b1, b2, b6⟩ | (rfl | rfl | rfl)
  · have HP : Hid (partB k x y = false) := Lib.hid (by unfold partB; rw [b1, b2, b6]; rfl)
    go_enter Tryz.func11, Tryz.ntmps11
    go_wp2
    go_ret
    exact ⟨by rw [HP.out]; rfl, HB.out⟩
  all_goals
    cases he : (x == y) with
    | true =>
      go_enter Tryz.func11, Tryz.ntmps11
      go_wp2
      go_ret
      exact ⟨ret_bool (by simp [partB, he]), HB.out⟩
    | false =>
      go_enter Tryz.func11, Tryz.ntmps11
      go_wp2
      go_ret
      exact ⟨ret_bool (by simp [partB, he]), HB.out⟩

set_option maxRecDepth 100000 in
set_option maxHeartbeats 8000000 in
theorem frleaf_any (a : Option Addr) (n c : Nat) (L : List OP) (z : List Int) (k f t : Int) (x : Nm) (e : Int) (w : World) (h : OpS w a n c L) (hz : z.length = 10) (hn : n ≤ 1000000) (hp : ∀ o ∈ L, o.1.length ≤ 200) :
    Calls Tryz.prog 13 #[.agg (ev a n c z), .agg #[.int .i64 k, .int .i64 f, .int .i64 t, .string (mk x), .int .i64 e]] w fun e' w' => e' = .returned (.bool (leafB k (freeB L z x))) ∧ Below w.heap.size w w' := by
  obtain ⟨B, hB⟩ : ∃ B, B = w.heap.size := ⟨_, rfl⟩
  obtain ⟨w0, hw0⟩ : ∃ w0, w0 = w.alloc (.cells (ev a n c z) 26) := ⟨_, rfl⟩
  obtain ⟨w1, hw1⟩ : ∃ w1, w1 = w0.alloc (.cells #[.int .i64 k, .int .i64 f, .int .i64 t, .string (mk x), .int .i64 e] 33) := ⟨_, rfl⟩
  have s0 : w0.heap.size = B + 1 := by rw [hw0, hB]; simp
  have HE1 : Hid (EB w1 B a n c z) := Lib.hid (by rw [hw1, hw0, hB]; exact (EB.new w a n c z).alloc _)
  have HT1 : Hid (T5 w1 (B + 1) k f t x e) := Lib.hid (by rw [hw1, ← s0]; exact T5.new w0 k f t x e)
  have hb1 : Below w.heap.size w w1 := by rw [hw1, hw0]; exact (below_alloc w _).alloc (by simp) _
  have HB1 := Lib.hid hb1
  obtain ⟨m, hm⟩ : ∃ m, m = (entL L z x).length := ⟨_, rfl⟩
  have hfr : freeB L z x = (m == 0) := by rw [hm]; rfl
  have KE : Hid (∀ w' : World, Below w1.heap.size w1 w' → Calls Tryz.prog 25 #[.agg (ev a n c z), .string (mk x)] w' fun e' w'' => ∃ a' c', e' = .returned (.slice a' m c') ∧ Below w'.heap.size w' w'') := Lib.hid fun w' hh => by
    rw [hm]
    refine (rentry_any a n c L z x w' ((h.below hb1).below hh) hz hn hp).mono ?_
    rintro e' w'' ⟨a', c', rfl, _, hb⟩
    exact ⟨a', c', rfl, hb⟩
  have HZ := Lib.hid hz
  have HM : Hid (m ≤ 4611686018427387904) := Lib.hid (by
    rw [hm]
    have h1 : (entL L z x).length ≤ L.length := entL_len ..
    have := OpS.len h
    omega)
  rw [hfr]
  clear hm h hz hn hp hb1 hfr
  obtain ⟨c0, c1, c2, c3, c4⟩ := HT1.out.cells
  have hk : ((k == 1) = false ∧ (k == 2) = false ∧ (k == 3) = false ∧ (k == 4) = false ∧ (k == 5) = false) ∨ ((k = 1 ∨ k = 2) ∨ (k = 3 ∨ k = 4 ∨ k = 5)) := by
    simp only [beq_eq_false_iff_ne]
    omega
  rcases hk with ⟨b1, b2, b3, b4, b5⟩ | ((rfl | rfl) | (rfl | rfl | rfl))
  · have HP : Hid (leafB k (m == 0) = false) := Lib.hid (by unfold leafB; rw [b1, b2, b3, b4, b5]; rfl)
    rw [hw1, hw0] at c0 c1 c2 c3 c4
    rw [hB] at c0 c1 c2 c3 c4
    go_enter Tryz.func13, Tryz.ntmps13
    go_wp2
    go_ret
    exact ⟨by rw [HP.out]; rfl, by rw [← hw0, ← hw1]; exact HB1.out⟩
  iterate 2
    · have hm0 := HM.out
      go_enter Tryz.func13, Tryz.ntmps13
      go_upto_region 1 with fail
      rw [← hw0, ← hw1]
      try rw [s0]
      try rw [← hB]
      clear hw0 hw1 s0 hB
      go_wp2_with (first
        | (refine load_env rfl (.tmp 2) rfl B rfl a n c z HZ.out HE1.out ?_)
        | (go_at_call 25; refine (KE.out w1 (Below.refl _ _)).mono ?_; rintro e' w3 ⟨a', c', rfl, hb3⟩; have HB3 := Lib.hid hb3; clear hb3))
      go_ret
      exact ⟨ret_bool (by rw [Bool.eq_iff_iff]; simp [leafB]), HB1.out.trans (HB3.out.mono HB1.out.size)⟩
  all_goals
    go_enter Tryz.func13, Tryz.ntmps13
    go_upto_region 1 with fail
    rw [← hw0, ← hw1]
    try rw [s0]
    try rw [← hB]
    clear hw0 hw1 s0 hB
    go_wp2
    go_ret
    exact ⟨ret_bool (by simp [leafB]), HB1.out⟩

end Go.Proofs.YtcegbmhnbmfnnaaGreatDoor
