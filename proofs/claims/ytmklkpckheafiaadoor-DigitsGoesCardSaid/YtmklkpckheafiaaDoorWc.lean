/- DigitsGoes' walk. -/
import Derived.Test.YtmklkpckheafiaaDoorWa
import Derived.Test.YtmklkpckheafiaaDoorBy
namespace Go.Proofs.YtmklkpckheafiaaDoor
open Go.RowKit

theorem run_all : ∀ l : List Int, digs l → runL 4 l = l.length
  | [], _ => rfl
  | c :: r, h => by
    have hc := h c (by simp)
    have h4 : cls c = 4 := (dig_cls (by omega) (by omega)).2 hc
    have := run_all r fun x hx => h x (by simp [hx])
    simp [runL, h4, this]; omega

theorem dk_all {l : List Int} (h : digs l) : dkK l = l.length ∧ dkBig l = decide (2147483647 < numL l) ∧ dkN l = (if dkBig l then 0 else numL l) ∧ dkE l = (if l.length = 0 then 2 else if dkBig l then 4 else 0) := by
  have hr := run_all l h
  refine ⟨hr, ?_, ?_, ?_⟩
  · unfold dkBig; rw [hr, List.take_length]
  · unfold dkN; rw [hr, List.take_length]
  · unfold dkE; rw [hr]

theorem dkV_nil : dkV [] = .tuple #[.int .i64 0, .int .i64 0, .int .i64 2] := dkV_of (by decide +kernel) (k := 0) (by decide +kernel) (by decide +kernel)
theorem dkV_big {l : List Int} (h : digs l) (h0 : l ≠ []) (hb : 2147483647 < numL l) : dkV l = .tuple #[.int .i64 0, .int .i64 l.length, .int .i64 4] := by
  obtain ⟨h1, h2, h3, h4⟩ := dk_all h
  have hl : l.length ≠ 0 := by cases l with | nil => contradiction | cons => simp
  have hbt : dkBig l = true := by rw [h2]; simpa using hb
  refine dkV_of ?_ h1 ?_
  · rw [h3, hbt]; rfl
  · rw [h4, hbt, if_neg hl]; rfl
theorem dkV_ok {l : List Int} (h : digs l) (h0 : l ≠ []) (hb : numL l ≤ 2147483647) : dkV l = .tuple #[.int .i64 (numL l), .int .i64 l.length, .int .i64 0] := by
  obtain ⟨h1, h2, h3, h4⟩ := dk_all h
  have hl : l.length ≠ 0 := by cases l with | nil => contradiction | cons => simp
  have hbt : dkBig l = false := by rw [h2]; simpa using hb
  refine dkV_of ?_ h1 ?_
  · rw [h3, hbt]; rfl
  · rw [h4, hbt, if_neg hl]; rfl

set_option maxHeartbeats 1000000 in
theorem digitsGoes_any (a : Option Addr) (len cap : Nat) (l0 : List Int) (d : Int) (w : World) (h0 : Bs w a len cap l0) (ht : Tab w) (hd0 : 0 ≤ d) (hd1 : d ≤ 255) :
    Calls Tryd.prog 5 #[.slice a len cap, .int .u8 d] w fun e w' => e = .returned (.bool true) ∧ Below w.heap.size w w' := by
  obtain ⟨M, hM, hM30⟩ : ∃ M : Nat, (min (len : Int) 30).toNat = M ∧ M ≤ 30 := ⟨_, rfl, by omega⟩
  have hm := h0.lt
  have hlc := h0.lc
  have hcm := h0.cm
  have H : Hid (Bs w a M cap (l0.take M)) := Lib.hid (h0.take (by omega) (by omega) hcm)
  unfold maxLen at hm hcm
  have HM := Lib.hid hM
  have HT := Lib.hid ht
  have hlM : (l0.take M).length = M := by rw [List.length_take, h0.hl]; omega
  have HLM := Lib.hid hlM
  clear h0 ht hM hlM
  generalize l0.take M = l at *
  go_enter Tryd.func5, Tryd.ntmps5
  go_wp2_with fail
  refine (shown_any _ HT.out).mono ?_
  rintro e w1 ⟨rfl, hb1⟩
  have HB1 := Lib.hid hb1
  clear hb1
  go_wp2_with (at_builtin; refine Hid.out ?_)
  refine Lib.hid ?_
  rw [HM.out]
  refine wpList_appx rfl (.tmp 16) (.tmp 21) 22 rfl 5 w.heap.size Tryd.underlying22 info5 _ _ _ [] rfl (OwnB.made HB1.out.size) (by simp) _ _ _ l rfl ((H.out.below HB1.out).alloc _) (by omega) (by have := HB1.out.size; simp; omega) ?_
  intro g1 c1 w2 ho1 hg1 hb1
  simp only [Nat.zero_add, List.nil_append] at ho1 ⊢
  have HO1 := Lib.hid ho1
  have HB2 := Lib.hid ((HB1.out.alloc HB1.out.size _).trans hb1)
  clear ho1 hb1 hg1
  go_wp2
  go_loopw [7] (fun i wr => ∃ k : Nat, ∃ l' : List Int, k ≤ M ∧ i = .int .i64 k ∧ Hid (OwnB w.heap.size 5 wr (some ⟨g1, 0, none⟩) M c1 l') ∧ Hid (Below w.heap.size w wr) ∧ Hid (∀ j, j < k → 48 ≤ bt l' j ∧ bt l' j ≤ 57)) (fun i _ => M - (intOf i).toNat)
  case atStart => exact ⟨0, l, by omega, rfl, HO1, HB2, Lib.hid (fun j hj => by omega)⟩
  case round =>
    obtain ⟨k, l', hk, rfl, HO, HB, HL⟩ := hrel
    clear HO1 HB2 HB1 H
    by_cases hlt : k < M
    · have hbs := HO.out.bs
      have hrng := bt_rng hbs.rng k
      have hr0 := hrng.1
      have hr1 := hrng.2
      obtain ⟨g, hg, hbg, _⟩ := HO.out.form (by simp)
      obtain rfl : g1 = g := by simpa using hg
      have hck : wr.cell? ⟨g1, k, none⟩ = some (.int .u8 (bt l' k)) := by
        obtain ⟨b, off, hab, _, hc⟩ := hbs.at_ (by omega)
        simp only [Option.some.injEq, Addr.mk.injEq] at hab
        obtain ⟨rfl, rfl, _⟩ := hab
        simpa using hc k hlt
      have hfz : wr.frozen? ⟨g1, k, none⟩ = false := HO.out.frozen k
      have HLL := Lib.hid hbs.hl
      clear hbs hg hrng
      go_wp2
      go_roundw
      case rel => exact ⟨k + 1, l'.set k (48 + bt l' k % 10), by omega, by go_num, Lib.hid (HO.out.set k _ (by omega)), Lib.hid (HB.out.setCell hbg _), Lib.hid (fun j hj => by
        rw [bt_set _ _ _ _ (by rw [HLL.out]; omega)]
        split
        · omega
        · exact HL.out j (by omega))⟩
      case measure => simp [intOf]; omega
    · have hkn : k = M := by omega
      subst hkn
      have HLL := Lib.hid HO.out.bs.hl
      have HP : Hid (digs l') := Lib.hid (fun x hx => by
        obtain ⟨j, hj, rfl⟩ := List.getElem_of_mem hx
        have := HL.out j (by rw [← HLL.out]; exact hj)
        simpa [bt, List.getD, hj] using this)
      have HP2 : Hid (digs (l' ++ [48 + d % 10])) := Lib.hid (fun x hx => by
        rcases List.mem_append.1 hx with hx | hx
        · exact HP.out x hx
        · simp at hx; omega)
      have HN2 : Hid (numL (l' ++ [48 + d % 10]) = numL l' * 10 + d % 10) := Lib.hid (by rw [numL_snoc]; omega)
      have HLL2 : Hid ((l' ++ [48 + d % 10]).length = k + 1) := Lib.hid (by rw [List.length_append, HLL.out]; rfl)
      have hn0 := numL_nonneg l' HP.out
      clear HL hlt
      have HBS := Lib.hid HO.out.bs
      by_cases hk0 : k = 0
      · have hl0 : l' = [] := List.eq_nil_of_length_eq_zero (by rw [HLL.out, hk0])
        subst hl0
        subst hk0
        have HV1 := Lib.hid dkV_nil
        have HV2 : Hid (dkV ([] ++ [48 + d % 10]) = .tuple #[.int .i64 (d % 10), .int .i64 1, .int .i64 0]) := Lib.hid (by
          rw [dkV_ok HP2.out (by simp) (by rw [HN2.out, numL_nil]; omega), HN2.out, numL_nil]; simp)
        go_wp2_with fail
        refine (dtake_any _ _ _ _ _ HBS.out (HT.out.keep HB.out)).mono ?_
        rintro e w3 ⟨rfl, hb3⟩
        rw [HV1.out]
        have HB3 : Hid (Below w.heap.size w w3) := Lib.hid (HB.out.trans (hb3.mono HB.out.size))
        have HBS3 := Lib.hid (HBS.out.below (hb3.mono (Nat.le_refl _)))
        clear hb3
        go_wp2_with (at_builtin; refine Hid.out ?_)
        refine Lib.hid ?_
        refine wpList_appx rfl (.tmp 45) (.tmp 46) 22 rfl 5 w.heap.size Tryd.underlying22 info5 _ _ _ [] rfl (OwnB.made HB3.out.size) (by simp) _ _ _ [] rfl (HBS3.out.alloc _) (by omega) (by have := HB3.out.size; simp; omega) ?_
        intro g2 c2 w4 ho4 hg4 hb4
        simp only [Nat.zero_add, List.nil_append] at ho4 ⊢
        have HO4 := Lib.hid ho4
        have HB4 := Lib.hid ((HB3.out.alloc HB3.out.size _).trans hb4)
        clear ho4 hb4 hg4
        go_wp2_with (at_builtin; refine Hid.out ?_)
        refine Lib.hid ?_
        refine wpList_appx rfl (.tmp 47) (.tmp 51) 22 rfl 5 w.heap.size Tryd.underlying22 info5 _ _ _ [] rfl (HO4.out.alloc _) (by simp) _ _ _ [48 + d % 10] rfl (Bs.lit _ 5 (by simp) (by simp; omega) rfl rfl (by simp [maxLen])) (by omega) (by have := HB4.out.size; simp; omega) ?_
        intro g3 c3 w5 ho5 hg5 hb5
        have HO5 := Lib.hid ho5
        have HB5 := Lib.hid ((HB4.out.alloc HB4.out.size _).trans hb5)
        clear ho5 hb5 hg5
        go_wp2_with fail
        refine (dtake_any _ _ _ _ _ HO5.out.bs (HT.out.keep HB5.out)).mono ?_
        rintro e w6 ⟨rfl, hb6⟩
        rw [HV2.out]
        have HB6 : Hid (Below w.heap.size w w6) := Lib.hid (HB5.out.trans (hb6.mono HB5.out.size))
        clear hb6
        go_wp2
        go_ret
        exact ⟨rfl, HB6.out⟩
      · have hne : l' ≠ [] := fun h => hk0 (by rw [← HLL.out, h]; rfl)
        have HNE := Lib.hid hne
        have hk1 : 0 < k := by omega
        clear hne hk0
        by_cases hb1 : 2147483647 < numL l'
        · have HV1 : Hid (dkV l' = .tuple #[.int .i64 0, .int .i64 k, .int .i64 4]) := Lib.hid (by rw [dkV_big HP.out HNE.out hb1, HLL.out])
          have HV2 : Hid (dkV (l' ++ [48 + d % 10]) = .tuple #[.int .i64 0, .int .i64 ((k : Int) + 1), .int .i64 4]) := Lib.hid (by
            rw [dkV_big HP2.out (by simp) (by rw [HN2.out]; omega), HLL2.out]; rfl)
          go_wp2_with fail
          refine (dtake_any _ _ _ _ _ HBS.out (HT.out.keep HB.out)).mono ?_
          rintro e w3 ⟨rfl, hb3⟩
          rw [HV1.out]
          have HB3 : Hid (Below w.heap.size w w3) := Lib.hid (HB.out.trans (hb3.mono HB.out.size))
          have HBS3 := Lib.hid (HBS.out.below (hb3.mono (Nat.le_refl _)))
          clear hb3
          go_wp2_with (at_builtin; refine Hid.out ?_)
          refine Lib.hid ?_
          refine wpList_appx rfl (.tmp 45) (.tmp 46) 22 rfl 5 w.heap.size Tryd.underlying22 info5 _ _ _ [] rfl (OwnB.made HB3.out.size) (by simp) _ _ _ l' rfl (HBS3.out.alloc _) (by omega) (by have := HB3.out.size; simp; omega) ?_
          intro g2 c2 w4 ho4 hg4 hb4
          simp only [Nat.zero_add, List.nil_append] at ho4 ⊢
          have HO4 := Lib.hid ho4
          have HB4 := Lib.hid ((HB3.out.alloc HB3.out.size _).trans hb4)
          clear ho4 hb4 hg4
          go_wp2_with (at_builtin; refine Hid.out ?_)
          refine Lib.hid ?_
          refine wpList_appx rfl (.tmp 47) (.tmp 51) 22 rfl 5 w.heap.size Tryd.underlying22 info5 _ _ _ l' rfl (HO4.out.alloc _) (by simp) _ _ _ [48 + d % 10] rfl (Bs.lit _ 5 (by simp) (by simp; omega) rfl rfl (by simp [maxLen])) (by omega) (by have := HB4.out.size; simp; omega) ?_
          intro g3 c3 w5 ho5 hg5 hb5
          have HO5 := Lib.hid ho5
          have HB5 := Lib.hid ((HB4.out.alloc HB4.out.size _).trans hb5)
          clear ho5 hb5 hg5
          go_wp2_with fail
          refine (dtake_any _ _ _ _ _ HO5.out.bs (HT.out.keep HB5.out)).mono ?_
          rintro e w6 ⟨rfl, hb6⟩
          rw [HV2.out]
          have HB6 : Hid (Below w.heap.size w w6) := Lib.hid (HB5.out.trans (hb6.mono HB5.out.size))
          clear hb6
          go_wp2
          go_ret
          exact ⟨rfl, HB6.out⟩
        · have HV1 : Hid (dkV l' = .tuple #[.int .i64 (numL l'), .int .i64 k, .int .i64 0]) := Lib.hid (by rw [dkV_ok HP.out HNE.out (by omega), HLL.out])
          by_cases hb2 : 2147483647 < 10 * numL l' + d % 10
          · have HV2 : Hid (dkV (l' ++ [48 + d % 10]) = .tuple #[.int .i64 0, .int .i64 ((k : Int) + 1), .int .i64 4]) := Lib.hid (by
              rw [dkV_big HP2.out (by simp) (by rw [HN2.out]; omega), HLL2.out]; rfl)
            go_wp2_with fail
            refine (dtake_any _ _ _ _ _ HBS.out (HT.out.keep HB.out)).mono ?_
            rintro e w3 ⟨rfl, hb3⟩
            rw [HV1.out]
            have HB3 : Hid (Below w.heap.size w w3) := Lib.hid (HB.out.trans (hb3.mono HB.out.size))
            have HBS3 := Lib.hid (HBS.out.below (hb3.mono (Nat.le_refl _)))
            clear hb3
            go_wp2_with (at_builtin; refine Hid.out ?_)
            refine Lib.hid ?_
            refine wpList_appx rfl (.tmp 45) (.tmp 46) 22 rfl 5 w.heap.size Tryd.underlying22 info5 _ _ _ [] rfl (OwnB.made HB3.out.size) (by simp) _ _ _ l' rfl (HBS3.out.alloc _) (by omega) (by have := HB3.out.size; simp; omega) ?_
            intro g2 c2 w4 ho4 hg4 hb4
            simp only [Nat.zero_add, List.nil_append] at ho4 ⊢
            have HO4 := Lib.hid ho4
            have HB4 := Lib.hid ((HB3.out.alloc HB3.out.size _).trans hb4)
            clear ho4 hb4 hg4
            go_wp2_with (at_builtin; refine Hid.out ?_)
            refine Lib.hid ?_
            refine wpList_appx rfl (.tmp 47) (.tmp 51) 22 rfl 5 w.heap.size Tryd.underlying22 info5 _ _ _ l' rfl (HO4.out.alloc _) (by simp) _ _ _ [48 + d % 10] rfl (Bs.lit _ 5 (by simp) (by simp; omega) rfl rfl (by simp [maxLen])) (by omega) (by have := HB4.out.size; simp; omega) ?_
            intro g3 c3 w5 ho5 hg5 hb5
            have HO5 := Lib.hid ho5
            have HB5 := Lib.hid ((HB4.out.alloc HB4.out.size _).trans hb5)
            clear ho5 hb5 hg5
            go_wp2_with fail
            refine (dtake_any _ _ _ _ _ HO5.out.bs (HT.out.keep HB5.out)).mono ?_
            rintro e w6 ⟨rfl, hb6⟩
            rw [HV2.out]
            have HB6 : Hid (Below w.heap.size w w6) := Lib.hid (HB5.out.trans (hb6.mono HB5.out.size))
            clear hb6
            go_wp2
            go_ret
            exact ⟨rfl, HB6.out⟩
          · have HV2 : Hid (dkV (l' ++ [48 + d % 10]) = .tuple #[.int .i64 (10 * numL l' + d % 10), .int .i64 ((k : Int) + 1), .int .i64 0]) := Lib.hid (by
              rw [dkV_ok HP2.out (by simp) (by rw [HN2.out]; omega), HLL2.out, HN2.out, Int.mul_comm]; rfl)
            go_wp2_with fail
            refine (dtake_any _ _ _ _ _ HBS.out (HT.out.keep HB.out)).mono ?_
            rintro e w3 ⟨rfl, hb3⟩
            rw [HV1.out]
            have HB3 : Hid (Below w.heap.size w w3) := Lib.hid (HB.out.trans (hb3.mono HB.out.size))
            have HBS3 := Lib.hid (HBS.out.below (hb3.mono (Nat.le_refl _)))
            clear hb3
            go_wp2_with (at_builtin; refine Hid.out ?_)
            refine Lib.hid ?_
            refine wpList_appx rfl (.tmp 45) (.tmp 46) 22 rfl 5 w.heap.size Tryd.underlying22 info5 _ _ _ [] rfl (OwnB.made HB3.out.size) (by simp) _ _ _ l' rfl (HBS3.out.alloc _) (by omega) (by have := HB3.out.size; simp; omega) ?_
            intro g2 c2 w4 ho4 hg4 hb4
            simp only [Nat.zero_add, List.nil_append] at ho4 ⊢
            have HO4 := Lib.hid ho4
            have HB4 := Lib.hid ((HB3.out.alloc HB3.out.size _).trans hb4)
            clear ho4 hb4 hg4
            go_wp2_with (at_builtin; refine Hid.out ?_)
            refine Lib.hid ?_
            refine wpList_appx rfl (.tmp 47) (.tmp 51) 22 rfl 5 w.heap.size Tryd.underlying22 info5 _ _ _ l' rfl (HO4.out.alloc _) (by simp) _ _ _ [48 + d % 10] rfl (Bs.lit _ 5 (by simp) (by simp; omega) rfl rfl (by simp [maxLen])) (by omega) (by have := HB4.out.size; simp; omega) ?_
            intro g3 c3 w5 ho5 hg5 hb5
            have HO5 := Lib.hid ho5
            have HB5 := Lib.hid ((HB4.out.alloc HB4.out.size _).trans hb5)
            clear ho5 hb5 hg5
            go_wp2_with fail
            refine (dtake_any _ _ _ _ _ HO5.out.bs (HT.out.keep HB5.out)).mono ?_
            rintro e w6 ⟨rfl, hb6⟩
            rw [HV2.out]
            have HB6 : Hid (Below w.heap.size w w6) := Lib.hid (HB5.out.trans (hb6.mono HB5.out.size))
            clear hb6
            go_wp2
            go_ret
            exact ⟨rfl, HB6.out⟩

end Go.Proofs.YtmklkpckheafiaaDoor
