/- Contract of the document's own Take of layer 4. -/
import Derived.Test.YtecabgmkoknbgaaDoorQb
import Derived.Test.YtecabgmkoknbgaaDoorUt
namespace Go.Proofs.YtecabgmkoknbgaaDoor
open Go.RowKit

set_option maxHeartbeats 400000 in
theorem at_any (a : Option Addr) (len cap : Nat) (l : List Int) (i : Nat) (w : World) (h : Bs w a len cap l) (hi : i ≤ 1000001) :
    Calls Tryd.prog 36 #[.slice a len cap, .int .i64 i] w fun e w' => e = .returned (.int .u8 (bt l i)) ∧ w = w' := by
  have hm := h.lt
  unfold maxLen at hm
  by_cases hlt : i < len
  · obtain ⟨b, off, rfl, _, hc⟩ := h.at_ (by omega)
    have hcs := hc i hlt
    clear h hc
    go_enter Tryd.func36, Tryd.ntmps36
    go_wp2
    go_ret
    exact ⟨rfl, rfl⟩
  · have HV : Hid (bt l i = 0) := Lib.hid (bt_ge (by rw [h.hl]; omega))
    clear h
    go_enter Tryd.func36, Tryd.ntmps36
    go_wp2
    go_ret
    exact ⟨by rw [HV.out]; rfl, rfl⟩

set_option maxRecDepth 20000 in
set_option maxHeartbeats 2000000 in
theorem rqtake_any (a : Option Addr) (len cap : Nat) (l : List Int) (w : World) (h : Bs w a len cap l) (hsz : len ≤ 1000000) :
    Calls Tryd.prog 28 #[.slice a len cap] w fun e w' => ∃ a' c', e = .returned (.tuple #[.slice a' (tk l).t.length c', .int .i64 (tk l).n, .int .i64 (tk l).e]) ∧ OwnB w.heap.size 5 w' a' (tk l).t.length c' (tk l).t ∧ Below w.heap.size w w' := by
  have hlc := h.lc
  have hcm := h.cm
  unfold maxLen at hcm
  have H := Lib.hid h
  have H0 := Lib.hid (at_any a len cap l 0 w h (by omega))
  by_cases h39 : bt l 0 = 39
  · obtain ⟨b, off, rfl, hbl, hc⟩ := h.at_ (by have := bt_ne (l := l) (j := 0) (by omega); have := h.hl; omega)
    have hl1 : 1 ≤ len := by have := bt_ne (l := l) (j := 0) (by omega); have := h.hl; omega
    have HR := Lib.hid h.rng
    have HL := Lib.hid h.hl
    have HA := Lib.hid (At.start h39)
    have HO0 : Hid (OwnB w.heap.size 5 (w.alloc (.cells #[] 5)) (some ⟨w.heap.size, 0, none⟩) 0 0 []) := Lib.hid (OwnB.made (Nat.le_refl _))
    have HB0 : Hid (Below w.heap.size w (w.alloc (.cells #[] 5))) := Lib.hid ((Below.refl _ _).alloc (Nat.le_refl _) _)
    clear h hc hbl
    go_enter Tryd.func28, Tryd.ntmps28
    go_wp2_with fail
    refine H0.out.mono ?_
    rintro e w' ⟨rfl, rfl⟩
    go_wp2
    clear h39 H0
    go_loopw [5, 6] (fun v n wr => ∃ a1 c1, ∃ s k : Nat, ∃ t : List Int, v = .slice a1 k c1 ∧ n = .int .i64 s ∧ 1 ≤ s ∧ s ≤ len ∧ k ≤ s ∧ Hid (OwnB w.heap.size 5 wr a1 k c1 t) ∧ Hid (Below w.heap.size w wr) ∧ Hid (At l s t)) (fun _ n _ => len - (intOf n).toNat)
    case atStart => exact ⟨some ⟨w.heap.size, 0, none⟩, 0, 1, 0, [], rfl, rfl, by omega, by omega, by simp, HO0, HB0, HA⟩
    case round =>
      obtain ⟨a1, c1, s, k, t, rfl, rfl, hs1, hsl, hts, HO, HB, HS⟩ := hrel
      clear HB0 HA HO0
      rename World => wa
      by_cases hlt : s < len
      · have hwa := H.out.below HB.out
        have hcs := hwa.cell hlt
        have HWA := Lib.hid hwa
        have HRS := Lib.hid (hwa.drop (k := s) (by omega))
        have hrng := bt_rng HR.out s
        have hr0 := hrng.1
        have hr1 := hrng.2
        have HAT : Hid (Calls Tryd.prog 36 #[.slice (some ⟨b, off, none⟩) len cap, .int .i64 ((s : Int) + 1)] wa fun e w' => e = .returned (.int .u8 (bt l (s + 1))) ∧ wa = w') := Lib.hid (at_any (some ⟨b, off, none⟩) len cap l (s + 1) wa hwa (by omega))
        clear hwa hrng
        by_cases hq10 : bt l s = 10
        · have HV : Hid (tk l = ⟨12, s, []⟩) := Lib.hid (HS.out.err (qE_line (r := l.drop s) (by rw [bt_drop]; exact hq10)) (by decide) (by decide))
          go_wp2
          exact bodyPost_ret (v := .tuple #[.slice none 0 0, .int .i64 s, .int .i64 12]) (by simp [results, Tryd.results28, go_sem]) rfl ⟨none, 0, by rw [HV.out]; rfl, by rw [HV.out]; exact OwnB.none0, HB.out⟩
        · have heq10 : (bt l s == 10) = false := by simpa using hq10
          by_cases hq : bt l s = 39
          · by_cases hq2 : bt l (s + 1) = 39
            · have hQ := qE_two (r := l.drop s) (by rw [bt_drop]; exact hq) (by rw [bt_drop]; exact hq2)
              have h2 : s + 2 ≤ len := by have := bt_ne (l := l) (j := s + 1) (by omega); have := HL.out; omega
              have HG : Hid (At l (s + 2) (t ++ [39])) := Lib.hid (by have := HS.out.go hQ.1; rwa [hQ.2.1, hQ.2.2] at this)
              clear hQ
              go_wp2_with fail
              refine HAT.out.mono ?_
              rintro e w' ⟨rfl, rfl⟩
              go_wp2_with (at_builtin; refine Hid.out ?_)
              refine Lib.hid ?_
              refine wpList_app rfl (.tmp 41) (.tmp 42) 22 rfl 5 w.heap.size Tryd.underlying22 info5 _ _ _ t rfl (HO.out.alloc _) _ _ _ [39] rfl (Bs.lit _ 5 (by simp) (by simp) rfl rfl (by decide)) (by omega) (by have := HB.out.size; simp; omega) ?_
              intro a2 c2 w4 ho4 hb4
              have HO4 := Lib.hid ho4
              have HB4 := Lib.hid ((HB.out.alloc HB.out.size _).trans hb4)
              clear ho4 hb4
              go_wp2
              go_roundw
              case rel => exact ⟨_, _, s + 2, k + 1, _, rfl, by go_num, by omega, by omega, by omega, HO4, HB4, HG⟩
              case measure => simp [intOf]; omega
            · have hQ := qE_end (r := l.drop s) (by rw [bt_drop]; exact hq) (by rw [bt_drop]; exact hq2)
              have heq2 : (bt l (s + 1) == 39) = false := by simpa using hq2
              have HV : Hid (tk l = ⟨0, s + 1, t⟩) := Lib.hid (HS.out.ok hQ)
              have HK := Lib.hid HO.out.bs.hl
              clear hQ
              go_wp2_with fail
              refine HAT.out.mono ?_
              rintro e w' ⟨rfl, rfl⟩
              go_wp2
              exact bodyPost_ret (v := .tuple #[.slice a1 k c1, .int .i64 (s + 1), .int .i64 0]) (by simp [results, Tryd.results28, go_sem]) rfl ⟨a1, c1, by rw [HV.out, HK.out]; rfl, by rw [HV.out, HK.out]; exact HO.out, HB.out⟩
          · have heq : (bt l s == 39) = false := by simpa using hq
            by_cases hq9 : bt l s = 92
            · by_cases hq2 : bt l (s + 1) = 110 ∨ bt l (s + 1) = 92 ∨ bt l (s + 1) = 39
              · have hQ := qE_esc (r := l.drop s) (by rw [bt_drop]; exact hq9) (by rw [bt_drop]; exact hq2)
                have h2 : s + 2 ≤ len := by have := bt_ne (l := l) (j := s + 1) (by omega); have := HL.out; omega
                have hG := HS.out.go hQ.1
                rw [hQ.2.1, hQ.2.2, bt_drop] at hG
                by_cases hq3 : bt l (s + 1) = 110
                · have HG : Hid (At l (s + 2) (t ++ [10])) := Lib.hid (by rw [if_pos hq3] at hG; exact hG)
                  clear hQ hG hq2
                  go_wp2_with fail
                  refine HAT.out.mono ?_
                  rintro e w' ⟨rfl, rfl⟩
                  go_wp2_with (at_builtin; refine Hid.out ?_)
                  refine Lib.hid ?_
                  refine wpList_app rfl (.tmp 61) (.tmp 63) 22 rfl 5 w.heap.size Tryd.underlying22 info5 _ _ _ t rfl (HO.out.alloc _) _ _ _ [10] rfl (Bs.lit _ 5 (by simp) (by simp) rfl rfl (by decide)) (by omega) (by have := HB.out.size; simp; omega) ?_
                  intro a2 c2 w4 ho4 hb4
                  have HO4 := Lib.hid ho4
                  have HB4 := Lib.hid ((HB.out.alloc HB.out.size _).trans hb4)
                  clear ho4 hb4
                  go_wp2
                  go_roundw
                  case rel => exact ⟨_, _, s + 2, k + 1, _, rfl, by go_num, by omega, by omega, by omega, HO4, HB4, HG⟩
                  case measure => simp [intOf]; omega
                · rw [if_neg hq3] at hG
                  have hq4 : bt l (s + 1) = 92 ∨ bt l (s + 1) = 39 := by omega
                  clear hQ hq2 hq3
                  rcases hq4 with hq4 | hq4
                  · have HG : Hid (At l (s + 2) (t ++ [92])) := Lib.hid (by rw [hq4] at hG; exact hG)
                    clear hG
                    go_wp2_with fail
                    refine HAT.out.mono ?_
                    rintro e w' ⟨rfl, rfl⟩
                    go_wp2_with (at_builtin; refine Hid.out ?_)
                    refine Lib.hid ?_
                    refine wpList_app rfl (.tmp 61) (.tmp 63) 22 rfl 5 w.heap.size Tryd.underlying22 info5 _ _ _ t rfl (HO.out.alloc _) _ _ _ [92] rfl (Bs.lit _ 5 (by simp) (by simp) rfl rfl (by decide)) (by omega) (by have := HB.out.size; simp; omega) ?_
                    intro a2 c2 w4 ho4 hb4
                    have HO4 := Lib.hid ho4
                    have HB4 := Lib.hid ((HB.out.alloc HB.out.size _).trans hb4)
                    clear ho4 hb4
                    go_wp2
                    go_roundw
                    case rel => exact ⟨_, _, s + 2, k + 1, _, rfl, by go_num, by omega, by omega, by omega, HO4, HB4, HG⟩
                    case measure => simp [intOf]; omega
                  · have HG : Hid (At l (s + 2) (t ++ [39])) := Lib.hid (by rw [hq4] at hG; exact hG)
                    clear hG
                    go_wp2_with fail
                    refine HAT.out.mono ?_
                    rintro e w' ⟨rfl, rfl⟩
                    go_wp2_with (at_builtin; refine Hid.out ?_)
                    refine Lib.hid ?_
                    refine wpList_app rfl (.tmp 61) (.tmp 63) 22 rfl 5 w.heap.size Tryd.underlying22 info5 _ _ _ t rfl (HO.out.alloc _) _ _ _ [39] rfl (Bs.lit _ 5 (by simp) (by simp) rfl rfl (by decide)) (by omega) (by have := HB.out.size; simp; omega) ?_
                    intro a2 c2 w4 ho4 hb4
                    have HO4 := Lib.hid ho4
                    have HB4 := Lib.hid ((HB.out.alloc HB.out.size _).trans hb4)
                    clear ho4 hb4
                    go_wp2
                    go_roundw
                    case rel => exact ⟨_, _, s + 2, k + 1, _, rfl, by go_num, by omega, by omega, by omega, HO4, HB4, HG⟩
                    case measure => simp [intOf]; omega
              · have HV : Hid (tk l = ⟨13, s, []⟩) := Lib.hid (HS.out.err (qE_noesc (r := l.drop s) (by rw [bt_drop]; exact hq9) (by rw [bt_drop]; exact hq2)) (by decide) (by decide))
                have e1 : (bt l (s + 1) != 110) = true := by simp; omega
                have e2 : (bt l (s + 1) != 92) = true := by simp; omega
                have e3 : (bt l (s + 1) != 39) = true := by simp; omega
                clear hq2
                go_wp2_with fail
                refine HAT.out.mono ?_
                rintro e w' ⟨rfl, rfl⟩
                go_wp2
                exact bodyPost_ret (v := .tuple #[.slice none 0 0, .int .i64 s, .int .i64 13]) (by simp [results, Tryd.results28, go_sem]) rfl ⟨none, 0, by rw [HV.out]; rfl, by rw [HV.out]; exact OwnB.none0, HB.out⟩
            · have heq9 : (bt l s == 92) = false := by simpa using hq9
              have hnil : l.drop s ≠ [] := by intro hh; have := HL.out; rw [List.drop_eq_nil_iff] at hh; omega
              have hctl : bt l s < 32 ∨ (32 ≤ bt l s ∧ bt l s = 127) ∨ (32 ≤ bt l s ∧ bt l s ≠ 127) := by omega
              rcases hctl with hc | ⟨hc, hc'⟩ | ⟨hc, hc'⟩
              · have HV : Hid (tk l = ⟨11, s, []⟩) := Lib.hid (HS.out.err (qE_byte hnil (by rw [bt_drop]; exact hq10) (by rw [bt_drop]; exact Or.inl hc)) (by decide) (by decide))
                clear hnil hq hq9 hq10
                go_wp2_with fail
                refine HAT.out.mono ?_
                rintro e w' ⟨rfl, rfl⟩
                go_wp2
                exact bodyPost_ret (v := .tuple #[.slice none 0 0, .int .i64 s, .int .i64 11]) (by simp [results, Tryd.results28, go_sem]) rfl ⟨none, 0, by rw [HV.out]; rfl, by rw [HV.out]; exact OwnB.none0, HB.out⟩
              · have HV : Hid (tk l = ⟨11, s, []⟩) := Lib.hid (HS.out.err (qE_byte hnil (by rw [bt_drop]; exact hq10) (by rw [bt_drop]; exact Or.inr hc')) (by decide) (by decide))
                clear hnil hq hq9 hq10
                go_wp2_with fail
                refine HAT.out.mono ?_
                rintro e w' ⟨rfl, rfl⟩
                go_wp2
                exact bodyPost_ret (v := .tuple #[.slice none 0 0, .int .i64 s, .int .i64 11]) (by simp [results, Tryd.results28, go_sem]) rfl ⟨none, 0, by rw [HV.out]; rfl, by rw [HV.out]; exact OwnB.none0, HB.out⟩
              · have heq7 : (bt l s == 127) = false := by simpa using hc'
                have hge : ¬ bt l s < 32 := by omega
                cases hok : okSeq (l.drop s) with
                | false =>
                  have HV : Hid (tk l = ⟨10, s, []⟩) := Lib.hid (HS.out.err (qE_bad (r := l.drop s) (by rw [bt_drop]; exact hc) (by rw [bt_drop]; exact hq) (by rw [bt_drop]; exact hq9) (by rw [bt_drop]; exact hc') hok) (by decide) (by decide))
                  clear hnil hq hq9 hq10 hc'
                  go_wp2_with fail
                  refine HAT.out.mono ?_
                  rintro e w' ⟨rfl, rfl⟩
                  go_wp2_with fail
                  refine (rtake_any _ _ _ _ _ HRS.out).mono ?_
                  rintro e w2 ⟨rfl, hdr⟩
                  have HB2 : Hid (Below w.heap.size w w2) := Lib.hid (hdr.below HB.out)
                  clear hdr
                  rw [hok]
                  go_wp2
                  exact bodyPost_ret (v := .tuple #[.slice none 0 0, .int .i64 s, .int .i64 10]) (by simp [results, Tryd.results28, go_sem]) rfl ⟨none, 0, by rw [HV.out]; rfl, by rw [HV.out]; exact OwnB.none0, HB2.out⟩
                | true =>
                  have hQ := qE_seq (r := l.drop s) (by rw [bt_drop]; exact hc) (by rw [bt_drop]; exact hq) (by rw [bt_drop]; exact hq9) (by rw [bt_drop]; exact hc') hok
                  have HG : Hid (At l (s + takeN (l.drop s)) (t ++ (l.drop s).take (takeN (l.drop s)))) := Lib.hid (by have := HS.out.go hQ.1; rw [hQ.2.1, hQ.2.2] at this; exact this)
                  have hn1 := takeN_pos hnil
                  have hn2 : takeN (l.drop s) ≤ len - s := by have h1 := takeN_le (l.drop s); rw [List.length_drop, HL.out] at h1; exact h1
                  have HRT := Lib.hid (HRS.out.take (k := takeN (l.drop s)) (c' := cap - s) hn2 (by omega) (by have := HRS.out.cm; exact this))
                  clear hnil hq hq9 hq10 hc' hQ
                  go_wp2_with fail
                  refine HAT.out.mono ?_
                  rintro e w' ⟨rfl, rfl⟩
                  go_wp2_with fail
                  refine (rtake_any _ _ _ _ _ HRS.out).mono ?_
                  rintro e w2 ⟨rfl, hdr⟩
                  have HB2 : Hid (Below w.heap.size w w2) := Lib.hid (hdr.below HB.out)
                  have HO2 := Lib.hid (HO.out.keep (Dr.below (Below.refl _ _) hdr) (Nat.le_refl _))
                  have HT3 : Hid (Bs w2 (some ⟨b, off + s, none⟩) (s + takeN (l.drop s) - s) (cap - s) ((l.drop s).take (takeN (l.drop s)))) := Lib.hid (by rw [Nat.add_sub_cancel_left]; exact HRT.out.dr hdr)
                  have HN3 : Hid (k + (s + takeN (l.drop s) - s) = k + takeN (l.drop s)) := Lib.hid (by omega)
                  clear hdr
                  rw [hok]
                  go_wp2_with (at_builtin; refine Hid.out ?_)
                  refine Lib.hid ?_
                  refine wpList_app rfl (.tmp 84) (.tmp 90) 22 rfl 5 w.heap.size Tryd.underlying22 info5 _ _ _ t rfl HO2.out _ _ _ _ rfl HT3.out (by omega) HB2.out.size ?_
                  intro a2 c2 w4 ho4 hb4
                  rw [HN3.out] at ho4 ⊢
                  have HO4 := Lib.hid ho4
                  have HB4 := Lib.hid (HB2.out.trans hb4)
                  clear ho4 hb4
                  go_wp2
                  go_roundw
                  case rel => exact ⟨_, _, s + takeN (l.drop s), k + takeN (l.drop s), _, rfl, by go_num, by omega, by omega, by omega, HO4, HB4, HG⟩
                  case measure => simp [intOf]; omega
      · have hsl' : s = len := by omega
        subst hsl'
        have HV : Hid (tk l = ⟨12, s, []⟩) := Lib.hid (HS.out.err (e := 12) (by rw [List.drop_eq_nil_of_le (by rw [HL.out]; omega)]; rfl) (by decide) (by decide))
        go_wp2
        exact bodyPost_ret (v := .tuple #[.slice none 0 0, .int .i64 s, .int .i64 12]) (by simp [results, Tryd.results28, go_sem]) rfl ⟨none, 0, by rw [HV.out]; rfl, by rw [HV.out]; exact OwnB.none0, HB.out⟩
  · have heq : (bt l 0 == 39) = false := by simpa using h39
    have HV := Lib.hid (tk_none h39)
    clear h h39
    go_enter Tryd.func28, Tryd.ntmps28
    go_wp2_with fail
    refine H0.out.mono ?_
    rintro e w' ⟨rfl, rfl⟩
    go_wp2
    exact bodyPost_ret (v := .tuple #[.slice none 0 0, .int .i64 0, .int .i64 2]) (by simp [results, Tryd.results28, go_sem]) rfl ⟨none, 0, by rw [HV.out]; rfl, by rw [HV.out]; exact OwnB.none0, Below.refl _ _⟩

end Go.Proofs.YtecabgmkoknbgaaDoor
