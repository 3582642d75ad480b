/- The law ShapeBack. -/
import Derived.Test.YtenaadfmlpmffaaDoorHx
import Derived.Test.YtenaadfmlpmffaaDoorMC
namespace Go.Proofs.YtenaadfmlpmffaaDoor
open Go.RowKit

theorem kd_ways {k : Int} (h : kdB k = true) : k = 1 ∨ k = 2 ∨ k = 6 := by
  unfold kdB at h
  simp only [Bool.or_eq_true, beq_iff_eq] at h
  exact h
/-- Of a shape that may be: how many parts, and what each is. -/
theorem shM_parts {s : SH} (h : shM s = true) : s.P.length ≤ 4 ∧ (s.P.length ≠ 1 ∨ s.l = true ∨ s.r = true) ∧ ∀ p ∈ s.P, oneB p = true := by
  unfold shM hlB at h
  simp only [Bool.and_eq_true, decide_eq_true_eq, Bool.or_eq_true, bne_iff_ne, List.all_eq_true] at h
  exact ⟨h.1, by rcases h.2.1 with h1 | h1 | h1; exact .inl h1; exact .inr (.inl h1); exact .inr (.inr h1), fun p hp => by
    have := h.2.2 p hp
    unfold stB at this
    simp only [Bool.and_eq_true] at this
    exact this.2⟩
theorem ub_no {p : Nm} (h : (95 : UInt8) ∉ p) {j : Nat} (hj : j < p.length) : (ub p j == 95) = false := by
  cases hc : ub p j == 95 with
  | false => rfl
  | true =>
    have hu := eq_of_beq hc
    exfalso
    apply h
    unfold ub at hu
    rw [show p.getD j 0 = p[j] by simp [List.getD, hj]] at hu
    have : p[j] = 95 := by
      apply UInt8.toNat_inj.1
      have : ((95 : UInt8).toNat : Int) = 95 := rfl
      omega
    rw [← this]
    exact List.getElem_mem hj

set_option maxRecDepth 100000 in
set_option maxHeartbeats 40000000 in
theorem shapeBack_any (p : Nm) (w : World) (ht : Tab w) :
    Calls Tryd.prog 4 #[.string (mk p)] w fun e w' => e = .returned (.bool true) ∧ Below w.heap.size w w' := by
  have HT := Lib.hid ht
  obtain ⟨F, hF⟩ : ∃ F, F = p.take 60 := ⟨_, rfl⟩
  have hF60 : F.length ≤ 60 := by rw [hF, List.length_take]; omega
  have HFE : Hid (∀ w, Calls Tryd.prog 9 #[.string (mk p)] w fun e w' => e = .returned (.string (mk F)) ∧ w = w') := Lib.hid fun w => by rw [hF]; exact few_any p w
  have hms := mk_size F
  obtain ⟨m, hm⟩ : ∃ m, m = F.length := ⟨_, rfl⟩
  rw [← hm] at hms hF60
  have HM := Lib.hid hm
  clear hF ht hm
  cases ho : ofS F with
  | none =>
    have HX := Lib.hid (ofR_none ho)
    clear ho
    go_enter Tryd.func4, Tryd.ntmps4
    go_wp2_with fail
    refine (shown_any w HT.out).mono ?_
    rintro e w1 ⟨rfl, hb1⟩
    have HW1 := Lib.hid hb1
    clear hb1
    go_wp2_with fail
    refine (HFE.out _).mono ?_
    rintro e w' ⟨rfl, rfl⟩
    go_wp2_with fail
    refine (sof_any F _ (HT.out.keep HW1.out) (by have := HM.out; omega)).mono ?_
    rw [HX.out]
    simp only [shV]
    rintro e w2 ⟨a2, n2, c2, rfl, hs2, hb2⟩
    have hn2 := Ss.len hs2
    simp only [List.length_nil] at hn2
    subst hn2
    have HW2 : Hid (Below w.heap.size w (w2.alloc (.cells #[.slice a2 0 c2, .bool false, .bool false] 24))) := Lib.hid ((HW1.out.trans (hb2.mono HW1.out.size)).alloc (Nat.le_trans HW1.out.size hb2.size) _)
    have HS2 : Hid (Ss (w2.alloc (.cells #[.slice a2 0 c2, .bool false, .bool false] 24)) a2 0 c2 []) := Lib.hid (Vs.below hs2 ((Below.refl _ _).alloc (Nat.le_refl _) _))
    clear hb2 hs2
    go_wp2_with fail
    refine (rsame_any a2 none 0 c2 0 [] false false _ HS2.out (Vs.nil _ _ _ _ (Nat.zero_le _))).mono ?_
    rintro e w3 ⟨rfl, hb3⟩
    go_wp2
    go_ret
    exact ⟨rfl, HW2.out.trans (hb3.mono HW2.out.size)⟩
  | some s =>
    have HX := Lib.hid (ofR_some ho)
    obtain ⟨_, hf40, hmay, hwel, hstx⟩ := ofS_some ho
    have hpts := shM_parts hmay
    obtain ⟨PP, l2, r2⟩ := s
    simp only at hpts
    have HPT : Hid (∀ q ∈ PP, oneB q = true ∧ (95 : UInt8) ∉ q ∧ q.length ≤ 100) := Lib.hid fun q hq => ⟨hpts.2.2 q hq, (hwel.2 q hq).2, by
      have := stx_mem ⟨PP, l2, r2⟩ q hq
      rw [hstx] at this
      omega⟩
    have HSTX := Lib.hid hstx
    have hm40 : ¬ (40 : Int) < (m : Int) := by have := HM.out; omega
    obtain ⟨n, hn⟩ : ∃ n, n = PP.length := ⟨_, rfl⟩
    have hn4 : n ≤ 4 := by rw [hn]; exact hpts.1
    have hn1 : 1 ≤ n := by
      rw [hn]
      have := hwel.1
      cases PP with
      | nil => exact absurd rfl this
      | cons q Q => simp
    have hng : ¬ (4 : Int) < (n : Int) := by omega
    have hnl : ¬ (n : Int) < 1 := by omega
    have hwy : n ≠ 1 ∨ l2 = true ∨ r2 = true := by rw [hn]; exact hpts.2.1
    have HN := Lib.hid hn
    clear ho hf40 hmay hwel hstx hpts hn
    by_cases h1 : n = 1
    · subst h1
      cases l2 with
      | true =>
        go_enter Tryd.func4, Tryd.ntmps4
        go_wp2_with fail
        refine (shown_any w HT.out).mono ?_
        rintro e w1 ⟨rfl, hb1⟩
        have HW1 := Lib.hid hb1
        clear hb1
        go_wp2_with fail
        refine (HFE.out _).mono ?_
        rintro e w' ⟨rfl, rfl⟩
        go_wp2_with fail
        refine (sof_any F _ (HT.out.keep HW1.out) (by have := HM.out; omega)).mono ?_
        rw [HX.out]
        simp only [shV]
        rintro e w2 ⟨a2, n2, c2, rfl, hs2, hb2⟩
        have hn2 := Ss.len hs2
        obtain rfl : 1 = n2 := HN.out.trans hn2
        have hlc2 := hs2.lc
        have hcm2 := hs2.cm
        unfold maxLen at hcm2
        obtain ⟨w2', hw2⟩ : ∃ w2', w2' = w2.alloc (.cells #[.slice a2 1 c2, .bool true, .bool r2] 24) := ⟨_, rfl⟩
        obtain ⟨q1, hq1⟩ : ∃ q1, q1 = w2.heap.size := ⟨_, rfl⟩
        have HQ2 : Hid (w2'.heap[q1]? = some (.cells #[.slice a2 1 c2, .bool true, .bool r2] 24 (0, 0)) ∧ q1 < w2'.heap.size) := Lib.hid ⟨by rw [hw2, hq1]; exact heap_alloc_new w2 _, by rw [hw2, hq1]; simp⟩
        have HW2 : Hid (Below w.heap.size w w2') := Lib.hid (by rw [hw2]; exact (HW1.out.trans (hb2.mono HW1.out.size)).alloc (Nat.le_trans HW1.out.size hb2.size) _)
        have HS2 : Hid (Ss w2' a2 1 c2 PP) := Lib.hid (Vs.below hs2 (by rw [hw2]; exact (Below.refl _ _).alloc (Nat.le_refl _) _))
        have HC : Hid (∀ w', Below w2'.heap.size w2' w' → w'.cell? ⟨q1, 0, none⟩ = some (.slice a2 1 c2) ∧ w'.cell? ⟨q1, 1, none⟩ = some (.bool true) ∧ w'.cell? ⟨q1, 2, none⟩ = some (.bool r2)) := Lib.hid fun w' hk => (three ((hk.block q1 HQ2.out.2).trans HQ2.out.1)).1
        clear hs2 hb2 hn2
        go_wp2_with fail
        rw [← hw2, ← hq1]
        clear hw2 hq1
        refine (text_any a2 1 c2 PP true r2 _ HS2.out (by rw [HSTX.out]; have := HM.out; omega)).mono ?_
        rw [HSTX.out]
        rintro e w3 ⟨rfl, hb3⟩
        have HB3 := Lib.hid hb3
        clear hb3
        obtain ⟨y0, y1, y2⟩ := HC.out w3 HB3.out
        go_wp2
        go_loopw [2, 7, 8, 9] (fun v2 v7 v8 v9 wr => ∃ i : Nat, v7 = .int .i64 i ∧ i ≤ 1 ∧ Hid (Below w2'.heap.size w2' wr)) (fun _ v7 _ _ _ => 1 - (intOf v7).toNat)
        case atStart => exact ⟨0, rfl, by omega, HB3⟩
        case round =>
          obtain ⟨i, rfl, hi, HB⟩ := hrel
          rename World => wr
          clear y0 y1 y2
          obtain ⟨y0, y1, y2⟩ := HC.out wr HB.out
          have hi0 : (0 : Int) ≤ (i : Int) := Int.natCast_nonneg _
          by_cases hlt : i < 1
          · have hi1 : (i : Int) < 1 := by omega
            have hS := Vs.below HS2.out HB.out
            obtain ⟨g, o, rfl, hgl, hx⟩ := hS.at_ (by omega)
            clear hx
            have hs := Ss.str hS hlt
            have hpm := HPT.out (pt PP i) (pt_mem (by rw [← HN.out]; exact hlt))
            obtain ⟨x, hx⟩ : ∃ x, x = pt PP i := ⟨_, rfl⟩
            rw [← hx] at hs hpm
            obtain ⟨t, ht1, ht2, ht3⟩ := oneB_one hpm.1
            have HNO := Lib.hid hpm.2.1
            obtain ⟨u, hu⟩ : ∃ u, u = x.length := ⟨_, rfl⟩
            have hu100 : u ≤ 100 := by rw [hu]; exact hpm.2.2
            have hxs : (mk x).size = u := by rw [mk_size, hu]
            obtain ⟨b, hb⟩ : ∃ b, b = sb (mk x) := ⟨_, rfl⟩
            have hbl : b.length = u := by rw [hb, hu, sb, mk_toList, List.length_map]
            have hbr : ∀ z ∈ b, 0 ≤ z ∧ z ≤ 255 := by rw [hb]; exact sb_rng _
            obtain ⟨g4, C4, w4, hrun, hbs, hb4⟩ := conv_str wr (mk x) b (by rw [hb, bstr_sb]) hbr (by omega)
            rw [hbl] at hrun hbs
            have HTK : Hid (toks b = [t]) := Lib.hid (by rw [hb, sb_nb, mk_toList]; exact ht1)
            have HBS := Lib.hid hbs
            have HB4 : Hid (Below w2'.heap.size w2' w4) := Lib.hid (HB.out.trans (hb4.mono HB.out.size))
            have HSG := Lib.hid (And.intro hs (And.intro hgl (And.intro HB.out.size hb4)))
            have HU := Lib.hid hu
            clear hS hx hpm ht1 hu hb hbl hbr hbs hb4
            go_wp2_with fail
            refine (all_any _ u C4 b _ HBS.out (HT.out.keep (HW2.out.trans (HB4.out.mono HW2.out.size))) (by omega)).mono ?_
            rw [HTK.out]
            rintro e w5 ⟨a5, rfl, hr5, hb5⟩
            have HB5 : Hid (Below w2'.heap.size w2' w5) := Lib.hid (HB4.out.trans (hb5.mono HB4.out.size))
            have hs5 : w5.cell? ⟨g, o + i, none⟩ = some (.string (mk x)) := (hb5.cell (by show g < w4.heap.size; have := HSG.out.2.2.2.size; have := HSG.out.2.1; omega)).trans ((HSG.out.2.2.2.cell HSG.out.2.1).trans HSG.out.1)
            have hts := hr5.ts
            obtain ⟨d, od, rfl, _, hx⟩ := hts.at_ (by simp)
            clear hx
            obtain ⟨e0, e1, e2, e3, e4⟩ := hts.at5 (k := 0) (by simp)
            simp only [tat, List.getD_cons_zero, Nat.zero_mul, Nat.add_zero] at e0 e1 e2 e3 e4
            obtain ⟨tk, tf, tt, ts, te⟩ := t
            simp only at e0 e1 e2 e3 e4 ht2 ht3
            have hcmp : (ts.toList == (mk x).toList) = true := by rw [mk_toList, ht2]; simp
            have hcmp2 : (ts.toList != (mk x).toList) = false := by rw [mk_toList, ht2]; simp
            have hcmp3 : ts.toList = (mk x).toList := by rw [mk_toList, ht2]
            have HSX : Hid (∀ w', Below w5.heap.size w5 w' → w'.cell? ⟨g, o + i, none⟩ = some (.string (mk x))) := Lib.hid fun w' hk => (hk.cell (by show g < w5.heap.size; have h1 := hb5.size; have h2 := HSG.out.2.2.2.size; have h3 := HSG.out.2.1; omega)).trans hs5
            clear hts hr5 hb5 hrun hs
            clear y0 y1 y2
            obtain ⟨y0, y1, y2⟩ := HC.out w5 HB5.out
            rcases kd_ways ht3 with rfl | rfl | rfl
            all_goals
              clear ht2 ht3
              go_wp2
              go_quiet (fail)
              go_wp2
              go_loopw [2, 9] (fun v2 v9 wr => ∃ j : Nat, v9 = .int .i64 j ∧ j ≤ u ∧ Hid (Below w5.heap.size w5 wr)) (fun _ v9 _ => u - (intOf v9).toNat)
              case atStart => exact ⟨0, rfl, by omega, Lib.hid (below_drewN (Below.refl _ _) _)⟩
              case round =>
                obtain ⟨j, rfl, hj, HBj⟩ := hrel
                rename World => wi
                have HBI : Hid (Below w2'.heap.size w2' wi) := Lib.hid (HB5.out.trans (HBj.out.mono HB5.out.size))
                clear y0 y1 y2 hs5 e0 e1 e2 e3 e4
                obtain ⟨y0, y1, y2⟩ := HC.out wi HBI.out
                have hs6 := HSX.out wi HBj.out
                have hj0 : (0 : Int) ≤ (j : Int) := Int.natCast_nonneg _
                by_cases hju : j < u
                · have hj1 : (j : Int) < (u : Int) := by omega
                  have hix := run_ix wi x j (by have := HU.out; omega)
                  have hno := ub_no HNO.out (j := j) (by have := HU.out; omega)
                  obtain ⟨v, hv⟩ : ∃ v, v = ub x j := ⟨_, rfl⟩
                  rw [← hv] at hix hno
                  clear hv
                  go_wp2
                  go_roundw
                  case rel => exact ⟨j + 1, by go_num, by omega, HBj⟩
                  case measure => simp [intOf]; omega
                · have hj1 : ¬ (j : Int) < (u : Int) := by omega
                  go_wp2
                  go_roundw
                  case rel => exact ⟨i + 1, by go_num, by omega, HBI⟩
                  case measure => simp [intOf]; omega
          · go_wp2
            go_ret
            exact ⟨rfl, HW2.out.trans (HB.out.mono HW2.out.size)⟩
      | false =>
        obtain rfl : r2 = true := by simpa using hwy
        go_enter Tryd.func4, Tryd.ntmps4
        go_wp2_with fail
        refine (shown_any w HT.out).mono ?_
        rintro e w1 ⟨rfl, hb1⟩
        have HW1 := Lib.hid hb1
        clear hb1
        go_wp2_with fail
        refine (HFE.out _).mono ?_
        rintro e w' ⟨rfl, rfl⟩
        go_wp2_with fail
        refine (sof_any F _ (HT.out.keep HW1.out) (by have := HM.out; omega)).mono ?_
        rw [HX.out]
        simp only [shV]
        rintro e w2 ⟨a2, n2, c2, rfl, hs2, hb2⟩
        have hn2 := Ss.len hs2
        obtain rfl : 1 = n2 := HN.out.trans hn2
        have hlc2 := hs2.lc
        have hcm2 := hs2.cm
        unfold maxLen at hcm2
        obtain ⟨w2', hw2⟩ : ∃ w2', w2' = w2.alloc (.cells #[.slice a2 1 c2, .bool false, .bool true] 24) := ⟨_, rfl⟩
        obtain ⟨q1, hq1⟩ : ∃ q1, q1 = w2.heap.size := ⟨_, rfl⟩
        have HQ2 : Hid (w2'.heap[q1]? = some (.cells #[.slice a2 1 c2, .bool false, .bool true] 24 (0, 0)) ∧ q1 < w2'.heap.size) := Lib.hid ⟨by rw [hw2, hq1]; exact heap_alloc_new w2 _, by rw [hw2, hq1]; simp⟩
        have HW2 : Hid (Below w.heap.size w w2') := Lib.hid (by rw [hw2]; exact (HW1.out.trans (hb2.mono HW1.out.size)).alloc (Nat.le_trans HW1.out.size hb2.size) _)
        have HS2 : Hid (Ss w2' a2 1 c2 PP) := Lib.hid (Vs.below hs2 (by rw [hw2]; exact (Below.refl _ _).alloc (Nat.le_refl _) _))
        have HC : Hid (∀ w', Below w2'.heap.size w2' w' → w'.cell? ⟨q1, 0, none⟩ = some (.slice a2 1 c2) ∧ w'.cell? ⟨q1, 1, none⟩ = some (.bool false) ∧ w'.cell? ⟨q1, 2, none⟩ = some (.bool true)) := Lib.hid fun w' hk => (three ((hk.block q1 HQ2.out.2).trans HQ2.out.1)).1
        clear hs2 hb2 hn2
        go_wp2_with fail
        rw [← hw2, ← hq1]
        clear hw2 hq1
        refine (text_any a2 1 c2 PP false true _ HS2.out (by rw [HSTX.out]; have := HM.out; omega)).mono ?_
        rw [HSTX.out]
        rintro e w3 ⟨rfl, hb3⟩
        have HB3 := Lib.hid hb3
        clear hb3
        obtain ⟨y0, y1, y2⟩ := HC.out w3 HB3.out
        go_wp2
        go_loopw [2, 7, 8, 9] (fun v2 v7 v8 v9 wr => ∃ i : Nat, v7 = .int .i64 i ∧ i ≤ 1 ∧ Hid (Below w2'.heap.size w2' wr)) (fun _ v7 _ _ _ => 1 - (intOf v7).toNat)
        case atStart => exact ⟨0, rfl, by omega, HB3⟩
        case round =>
          obtain ⟨i, rfl, hi, HB⟩ := hrel
          rename World => wr
          clear y0 y1 y2
          obtain ⟨y0, y1, y2⟩ := HC.out wr HB.out
          have hi0 : (0 : Int) ≤ (i : Int) := Int.natCast_nonneg _
          by_cases hlt : i < 1
          · have hi1 : (i : Int) < 1 := by omega
            have hS := Vs.below HS2.out HB.out
            obtain ⟨g, o, rfl, hgl, hx⟩ := hS.at_ (by omega)
            clear hx
            have hs := Ss.str hS hlt
            have hpm := HPT.out (pt PP i) (pt_mem (by rw [← HN.out]; exact hlt))
            obtain ⟨x, hx⟩ : ∃ x, x = pt PP i := ⟨_, rfl⟩
            rw [← hx] at hs hpm
            obtain ⟨t, ht1, ht2, ht3⟩ := oneB_one hpm.1
            have HNO := Lib.hid hpm.2.1
            obtain ⟨u, hu⟩ : ∃ u, u = x.length := ⟨_, rfl⟩
            have hu100 : u ≤ 100 := by rw [hu]; exact hpm.2.2
            have hxs : (mk x).size = u := by rw [mk_size, hu]
            obtain ⟨b, hb⟩ : ∃ b, b = sb (mk x) := ⟨_, rfl⟩
            have hbl : b.length = u := by rw [hb, hu, sb, mk_toList, List.length_map]
            have hbr : ∀ z ∈ b, 0 ≤ z ∧ z ≤ 255 := by rw [hb]; exact sb_rng _
            obtain ⟨g4, C4, w4, hrun, hbs, hb4⟩ := conv_str wr (mk x) b (by rw [hb, bstr_sb]) hbr (by omega)
            rw [hbl] at hrun hbs
            have HTK : Hid (toks b = [t]) := Lib.hid (by rw [hb, sb_nb, mk_toList]; exact ht1)
            have HBS := Lib.hid hbs
            have HB4 : Hid (Below w2'.heap.size w2' w4) := Lib.hid (HB.out.trans (hb4.mono HB.out.size))
            have HSG := Lib.hid (And.intro hs (And.intro hgl (And.intro HB.out.size hb4)))
            have HU := Lib.hid hu
            clear hS hx hpm ht1 hu hb hbl hbr hbs hb4
            go_wp2_with fail
            refine (all_any _ u C4 b _ HBS.out (HT.out.keep (HW2.out.trans (HB4.out.mono HW2.out.size))) (by omega)).mono ?_
            rw [HTK.out]
            rintro e w5 ⟨a5, rfl, hr5, hb5⟩
            have HB5 : Hid (Below w2'.heap.size w2' w5) := Lib.hid (HB4.out.trans (hb5.mono HB4.out.size))
            have hs5 : w5.cell? ⟨g, o + i, none⟩ = some (.string (mk x)) := (hb5.cell (by show g < w4.heap.size; have := HSG.out.2.2.2.size; have := HSG.out.2.1; omega)).trans ((HSG.out.2.2.2.cell HSG.out.2.1).trans HSG.out.1)
            have hts := hr5.ts
            obtain ⟨d, od, rfl, _, hx⟩ := hts.at_ (by simp)
            clear hx
            obtain ⟨e0, e1, e2, e3, e4⟩ := hts.at5 (k := 0) (by simp)
            simp only [tat, List.getD_cons_zero, Nat.zero_mul, Nat.add_zero] at e0 e1 e2 e3 e4
            obtain ⟨tk, tf, tt, ts, te⟩ := t
            simp only at e0 e1 e2 e3 e4 ht2 ht3
            have hcmp : (ts.toList == (mk x).toList) = true := by rw [mk_toList, ht2]; simp
            have hcmp2 : (ts.toList != (mk x).toList) = false := by rw [mk_toList, ht2]; simp
            have hcmp3 : ts.toList = (mk x).toList := by rw [mk_toList, ht2]
            have HSX : Hid (∀ w', Below w5.heap.size w5 w' → w'.cell? ⟨g, o + i, none⟩ = some (.string (mk x))) := Lib.hid fun w' hk => (hk.cell (by show g < w5.heap.size; have h1 := hb5.size; have h2 := HSG.out.2.2.2.size; have h3 := HSG.out.2.1; omega)).trans hs5
            clear hts hr5 hb5 hrun hs
            clear y0 y1 y2
            obtain ⟨y0, y1, y2⟩ := HC.out w5 HB5.out
            rcases kd_ways ht3 with rfl | rfl | rfl
            all_goals
              clear ht2 ht3
              go_wp2
              go_quiet (fail)
              go_wp2
              go_loopw [2, 9] (fun v2 v9 wr => ∃ j : Nat, v9 = .int .i64 j ∧ j ≤ u ∧ Hid (Below w5.heap.size w5 wr)) (fun _ v9 _ => u - (intOf v9).toNat)
              case atStart => exact ⟨0, rfl, by omega, Lib.hid (below_drewN (Below.refl _ _) _)⟩
              case round =>
                obtain ⟨j, rfl, hj, HBj⟩ := hrel
                rename World => wi
                have HBI : Hid (Below w2'.heap.size w2' wi) := Lib.hid (HB5.out.trans (HBj.out.mono HB5.out.size))
                clear y0 y1 y2 hs5 e0 e1 e2 e3 e4
                obtain ⟨y0, y1, y2⟩ := HC.out wi HBI.out
                have hs6 := HSX.out wi HBj.out
                have hj0 : (0 : Int) ≤ (j : Int) := Int.natCast_nonneg _
                by_cases hju : j < u
                · have hj1 : (j : Int) < (u : Int) := by omega
                  have hix := run_ix wi x j (by have := HU.out; omega)
                  have hno := ub_no HNO.out (j := j) (by have := HU.out; omega)
                  obtain ⟨v, hv⟩ : ∃ v, v = ub x j := ⟨_, rfl⟩
                  rw [← hv] at hix hno
                  clear hv
                  go_wp2
                  go_roundw
                  case rel => exact ⟨j + 1, by go_num, by omega, HBj⟩
                  case measure => simp [intOf]; omega
                · have hj1 : ¬ (j : Int) < (u : Int) := by omega
                  go_wp2
                  go_roundw
                  case rel => exact ⟨i + 1, by go_num, by omega, HBI⟩
                  case measure => simp [intOf]; omega
          · go_wp2
            go_ret
            exact ⟨rfl, HW2.out.trans (HB.out.mono HW2.out.size)⟩
    · have h1' : ((n : Int) == 1) = false := by simp; omega
      clear hwy
      go_enter Tryd.func4, Tryd.ntmps4
      go_wp2_with fail
      refine (shown_any w HT.out).mono ?_
      rintro e w1 ⟨rfl, hb1⟩
      have HW1 := Lib.hid hb1
      clear hb1
      go_wp2_with fail
      refine (HFE.out _).mono ?_
      rintro e w' ⟨rfl, rfl⟩
      go_wp2_with fail
      refine (sof_any F _ (HT.out.keep HW1.out) (by have := HM.out; omega)).mono ?_
      rw [HX.out]
      simp only [shV]
      rintro e w2 ⟨a2, n2, c2, rfl, hs2, hb2⟩
      have hn2 := Ss.len hs2
      obtain rfl : n = n2 := HN.out.trans hn2
      have hlc2 := hs2.lc
      have hcm2 := hs2.cm
      unfold maxLen at hcm2
      obtain ⟨w2', hw2⟩ : ∃ w2', w2' = w2.alloc (.cells #[.slice a2 n c2, .bool l2, .bool r2] 24) := ⟨_, rfl⟩
      obtain ⟨q1, hq1⟩ : ∃ q1, q1 = w2.heap.size := ⟨_, rfl⟩
      have HQ2 : Hid (w2'.heap[q1]? = some (.cells #[.slice a2 n c2, .bool l2, .bool r2] 24 (0, 0)) ∧ q1 < w2'.heap.size) := Lib.hid ⟨by rw [hw2, hq1]; exact heap_alloc_new w2 _, by rw [hw2, hq1]; simp⟩
      have HW2 : Hid (Below w.heap.size w w2') := Lib.hid (by rw [hw2]; exact (HW1.out.trans (hb2.mono HW1.out.size)).alloc (Nat.le_trans HW1.out.size hb2.size) _)
      have HS2 : Hid (Ss w2' a2 n c2 PP) := Lib.hid (Vs.below hs2 (by rw [hw2]; exact (Below.refl _ _).alloc (Nat.le_refl _) _))
      have HC : Hid (∀ w', Below w2'.heap.size w2' w' → w'.cell? ⟨q1, 0, none⟩ = some (.slice a2 n c2) ∧ w'.cell? ⟨q1, 1, none⟩ = some (.bool l2) ∧ w'.cell? ⟨q1, 2, none⟩ = some (.bool r2)) := Lib.hid fun w' hk => (three ((hk.block q1 HQ2.out.2).trans HQ2.out.1)).1
      clear hs2 hb2 hn2
      go_wp2_with fail
      rw [← hw2, ← hq1]
      clear hw2 hq1
      refine (text_any a2 n c2 PP l2 r2 _ HS2.out (by rw [HSTX.out]; have := HM.out; omega)).mono ?_
      rw [HSTX.out]
      rintro e w3 ⟨rfl, hb3⟩
      have HB3 := Lib.hid hb3
      clear hb3
      obtain ⟨y0, y1, y2⟩ := HC.out w3 HB3.out
      go_wp2
      go_loopw [2, 7, 8, 9] (fun v2 v7 v8 v9 wr => ∃ i : Nat, v7 = .int .i64 i ∧ i ≤ n ∧ Hid (Below w2'.heap.size w2' wr)) (fun _ v7 _ _ _ => n - (intOf v7).toNat)
      case atStart => exact ⟨0, rfl, by omega, HB3⟩
      case round =>
        obtain ⟨i, rfl, hi, HB⟩ := hrel
        rename World => wr
        clear y0 y1 y2
        obtain ⟨y0, y1, y2⟩ := HC.out wr HB.out
        have hi0 : (0 : Int) ≤ (i : Int) := Int.natCast_nonneg _
        by_cases hlt : i < n
        · have hi1 : (i : Int) < (n : Int) := by omega
          have hS := Vs.below HS2.out HB.out
          obtain ⟨g, o, rfl, hgl, hx⟩ := hS.at_ (by omega)
          clear hx
          have hs := Ss.str hS hlt
          have hpm := HPT.out (pt PP i) (pt_mem (by rw [← HN.out]; exact hlt))
          obtain ⟨x, hx⟩ : ∃ x, x = pt PP i := ⟨_, rfl⟩
          rw [← hx] at hs hpm
          obtain ⟨t, ht1, ht2, ht3⟩ := oneB_one hpm.1
          have HNO := Lib.hid hpm.2.1
          obtain ⟨u, hu⟩ : ∃ u, u = x.length := ⟨_, rfl⟩
          have hu100 : u ≤ 100 := by rw [hu]; exact hpm.2.2
          have hxs : (mk x).size = u := by rw [mk_size, hu]
          obtain ⟨b, hb⟩ : ∃ b, b = sb (mk x) := ⟨_, rfl⟩
          have hbl : b.length = u := by rw [hb, hu, sb, mk_toList, List.length_map]
          have hbr : ∀ z ∈ b, 0 ≤ z ∧ z ≤ 255 := by rw [hb]; exact sb_rng _
          obtain ⟨g4, C4, w4, hrun, hbs, hb4⟩ := conv_str wr (mk x) b (by rw [hb, bstr_sb]) hbr (by omega)
          rw [hbl] at hrun hbs
          have HTK : Hid (toks b = [t]) := Lib.hid (by rw [hb, sb_nb, mk_toList]; exact ht1)
          have HBS := Lib.hid hbs
          have HB4 : Hid (Below w2'.heap.size w2' w4) := Lib.hid (HB.out.trans (hb4.mono HB.out.size))
          have HSG := Lib.hid (And.intro hs (And.intro hgl (And.intro HB.out.size hb4)))
          have HU := Lib.hid hu
          clear hS hx hpm ht1 hu hb hbl hbr hbs hb4
          go_wp2_with fail
          refine (all_any _ u C4 b _ HBS.out (HT.out.keep (HW2.out.trans (HB4.out.mono HW2.out.size))) (by omega)).mono ?_
          rw [HTK.out]
          rintro e w5 ⟨a5, rfl, hr5, hb5⟩
          have HB5 : Hid (Below w2'.heap.size w2' w5) := Lib.hid (HB4.out.trans (hb5.mono HB4.out.size))
          have hs5 : w5.cell? ⟨g, o + i, none⟩ = some (.string (mk x)) := (hb5.cell (by show g < w4.heap.size; have := HSG.out.2.2.2.size; have := HSG.out.2.1; omega)).trans ((HSG.out.2.2.2.cell HSG.out.2.1).trans HSG.out.1)
          have hts := hr5.ts
          obtain ⟨d, od, rfl, _, hx⟩ := hts.at_ (by simp)
          clear hx
          obtain ⟨e0, e1, e2, e3, e4⟩ := hts.at5 (k := 0) (by simp)
          simp only [tat, List.getD_cons_zero, Nat.zero_mul, Nat.add_zero] at e0 e1 e2 e3 e4
          obtain ⟨tk, tf, tt, ts, te⟩ := t
          simp only at e0 e1 e2 e3 e4 ht2 ht3
          have hcmp : (ts.toList == (mk x).toList) = true := by rw [mk_toList, ht2]; simp
          have hcmp2 : (ts.toList != (mk x).toList) = false := by rw [mk_toList, ht2]; simp
          have hcmp3 : ts.toList = (mk x).toList := by rw [mk_toList, ht2]
          have HSX : Hid (∀ w', Below w5.heap.size w5 w' → w'.cell? ⟨g, o + i, none⟩ = some (.string (mk x))) := Lib.hid fun w' hk => (hk.cell (by show g < w5.heap.size; have h1 := hb5.size; have h2 := HSG.out.2.2.2.size; have h3 := HSG.out.2.1; omega)).trans hs5
          clear hts hr5 hb5 hrun hs
          clear y0 y1 y2
          obtain ⟨y0, y1, y2⟩ := HC.out w5 HB5.out
          rcases kd_ways ht3 with rfl | rfl | rfl
          all_goals
            clear ht2 ht3
            go_wp2
            go_quiet (fail)
            go_wp2
            go_loopw [2, 9] (fun v2 v9 wr => ∃ j : Nat, v9 = .int .i64 j ∧ j ≤ u ∧ Hid (Below w5.heap.size w5 wr)) (fun _ v9 _ => u - (intOf v9).toNat)
            case atStart => exact ⟨0, rfl, by omega, Lib.hid (below_drewN (Below.refl _ _) _)⟩
            case round =>
              obtain ⟨j, rfl, hj, HBj⟩ := hrel
              rename World => wi
              have HBI : Hid (Below w2'.heap.size w2' wi) := Lib.hid (HB5.out.trans (HBj.out.mono HB5.out.size))
              clear y0 y1 y2 hs5 e0 e1 e2 e3 e4
              obtain ⟨y0, y1, y2⟩ := HC.out wi HBI.out
              have hs6 := HSX.out wi HBj.out
              have hj0 : (0 : Int) ≤ (j : Int) := Int.natCast_nonneg _
              by_cases hju : j < u
              · have hj1 : (j : Int) < (u : Int) := by omega
                have hix := run_ix wi x j (by have := HU.out; omega)
                have hno := ub_no HNO.out (j := j) (by have := HU.out; omega)
                obtain ⟨v, hv⟩ : ∃ v, v = ub x j := ⟨_, rfl⟩
                rw [← hv] at hix hno
                clear hv
                go_wp2
                go_roundw
                case rel => exact ⟨j + 1, by go_num, by omega, HBj⟩
                case measure => simp [intOf]; omega
              · have hj1 : ¬ (j : Int) < (u : Int) := by omega
                go_wp2
                go_roundw
                case rel => exact ⟨i + 1, by go_num, by omega, HBI⟩
                case measure => simp [intOf]; omega
        · go_wp2
          go_ret
          exact ⟨rfl, HW2.out.trans (HB.out.mono HW2.out.size)⟩

end Go.Proofs.YtenaadfmlpmffaaDoor
