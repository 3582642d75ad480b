/- Contract of package quote's Take. -/
import Derived.Test.YtecabgmkoknbgaaDoorQa
import Derived.Test.YtecabgmkoknbgaaDoorUa
import Derived.WalkMore
namespace Go.Proofs.YtecabgmkoknbgaaDoor
open Go.RowKit

theorem Bs.cell {w : World} {b off len cap : Nat} {l : List Int} (h : Bs w (some ⟨b, off, none⟩) len cap l) {s : Nat} (hs : s < len) : w.cell? ⟨b, off + s, none⟩ = some (.int .u8 (bt l s)) := by
  obtain ⟨b', off', hab, _, hc⟩ := h.at_ (by omega)
  simp only [Option.some.injEq, Addr.mk.injEq] at hab
  obtain ⟨rfl, rfl, _⟩ := hab
  exact hc s hs

set_option maxRecDepth 20000 in
set_option maxHeartbeats 2000000 in
theorem qtake_any (a : Option Addr) (len cap : Nat) (l : List Int) (w : World) (h : Bs w a len cap l) (ht : Tab w) (hsz : len ≤ 1000000) :
    Calls Tryd.prog 35 #[.slice a len cap] w fun e w' => ∃ a' c', e = .returned (.tuple #[.slice a' (tk l).t.length c', .int .i64 (tk l).n, .int .i64 (tk l).e]) ∧ OwnB w.heap.size 5 w' a' (tk l).t.length c' (tk l).t ∧ Below w.heap.size w w' := by
  have hlc := h.lc
  have hcm := h.cm
  unfold maxLen at hcm
  have H := Lib.hid h
  have HT := Lib.hid ht
  by_cases h39 : bt l 0 = 39
  · obtain ⟨b, off, rfl, hbl, hc⟩ := h.at_ (by have := bt_ne (l := l) (j := 0) (by omega); have := h.hl; omega)
    have hl1 : 1 ≤ len := by have := bt_ne (l := l) (j := 0) (by omega); have := h.hl; omega
    have HR := Lib.hid h.rng
    have HL := Lib.hid h.hl
    have HD : Hid (decide (bt l 0 = 39) = true) := Lib.hid (by simp [h39])
    have HA := Lib.hid (At.start h39)
    clear h ht hc h39 hbl
    go_enter Tryd.func35, Tryd.ntmps35
    go_wp2
    go_step3
    go_wp2_with fail
    refine (quoted_any _ _ _ _ _ H.out HT.out).mono ?_
    rintro e w1 ⟨rfl, hb1⟩
    have HB1 := Lib.hid hb1
    clear hb1
    rw [HD.out]
    go_wp2
    go_step3
    go_wp2
    go_loopw [2, 3] (fun v n wr => ∃ a1 c1, ∃ s k : Nat, ∃ t : List Int, v = .slice a1 k c1 ∧ n = .int .i64 s ∧ 1 ≤ s ∧ s ≤ len ∧ k ≤ s ∧ Hid (OwnB w.heap.size 5 wr a1 k c1 t) ∧ Hid (Below w.heap.size w wr) ∧ Hid (At l s t)) (fun _ n _ => len - (intOf n).toNat)
    case atStart => exact ⟨none, 0, 1, 0, [], rfl, rfl, by omega, by omega, by simp, Lib.hid OwnB.none0, HB1, HA⟩
    case round =>
      obtain ⟨a1, c1, s, k, t, rfl, rfl, hs1, hsl, hts, HO, HB, HS⟩ := hrel
      clear HB1 HA
      rename World => wa
      by_cases hlt : s < len
      · have hwa := H.out.below HB.out
        have hcs := hwa.cell hlt
        have HRS := Lib.hid (hwa.drop (k := s) (by omega))
        have hrng := bt_rng HR.out s
        have hr0 := hrng.1
        have hr1 := hrng.2
        clear hwa hrng
        by_cases hq : bt l s = 39
        · have HQ1 : Hid (decide (bt (l.drop s) 0 = 39) = true) := Lib.hid (by rw [bt_drop]; simp [hq])
          by_cases hq2 : bt l (s + 1) = 39
          · have hQ := qE_two (r := l.drop s) (by rw [bt_drop]; exact hq) (by rw [bt_drop]; exact hq2)
            have HQ2 : Hid (decide (bt ((l.drop s).drop 1) 0 = 39) = true) := Lib.hid (by rw [bt_drop, bt_drop]; simp [hq2])
            have h2 : s + 2 ≤ len := by have := bt_ne (l := l) (j := s + 1) (by omega); have := HL.out; omega
            have HG : Hid (At l (s + 2) (t ++ [39])) := Lib.hid (by have := HS.out.go hQ.1; rwa [hQ.2.1, hQ.2.2] at this)
            have HRS1 := Lib.hid (HRS.out.drop (k := 1) (by omega))
            clear hQ
            go_wp2_with fail
            refine (quoted_any _ _ _ _ _ HRS.out (HT.out.keep HB.out)).mono ?_
            rintro e w2 ⟨rfl, hb2⟩
            have HB2 : Hid (Below w.heap.size w w2) := Lib.hid (HB.out.trans (hb2.mono HB.out.size))
            have HO2 := Lib.hid (HO.out.keep hb2 (Nat.le_refl _))
            have HR2 := Lib.hid (HRS1.out.below hb2)
            clear hb2
            rw [HQ1.out]
            go_wp2_with fail
            refine (quoted_any _ _ _ _ _ HR2.out (HT.out.keep HB2.out)).mono ?_
            rintro e w3 ⟨rfl, hb3⟩
            have HB3 : Hid (Below w.heap.size w w3) := Lib.hid (HB2.out.trans (hb3.mono HB2.out.size))
            have HO3 := Lib.hid (HO2.out.keep hb3 (Nat.le_refl _))
            clear hb3
            rw [HQ2.out]
            go_wp2_with (at_builtin; refine Hid.out ?_)
            refine Lib.hid ?_
            refine wpList_app rfl (.tmp 50) (.tmp 51) 22 rfl 5 w.heap.size Tryd.underlying22 info5 _ _ _ t rfl (HO3.out.alloc _) _ _ _ [39] rfl (Bs.lit _ 5 (by simp) (by simp) rfl rfl (by decide)) (by omega) (by have := HB3.out.size; simp; omega) ?_
            intro a2 c2 w4 ho4 hb4
            have HO4 := Lib.hid ho4
            have HB4 := Lib.hid ((HB3.out.alloc HB3.out.size _).trans hb4)
            clear ho4 hb4
            go_wp2
            go_roundw
            case rel => exact ⟨_, _, s + 2, k + 1, _, rfl, by go_num, by omega, by omega, by omega, HO4, HB4, HG⟩
            case measure => simp [intOf]; omega
          · have hQ := qE_end (r := l.drop s) (by rw [bt_drop]; exact hq) (by rw [bt_drop]; exact hq2)
            have HQ2 : Hid (decide (bt ((l.drop s).drop 1) 0 = 39) = false) := Lib.hid (by rw [bt_drop, bt_drop]; simp [hq2])
            have HV : Hid (tk l = ⟨0, s + 1, t⟩) := Lib.hid (HS.out.ok hQ)
            have HRS1 := Lib.hid (HRS.out.drop (k := 1) (by omega))
            have HK := Lib.hid HO.out.bs.hl
            clear hQ
            have hcap : cap = s + 1 ∨ s + 2 ≤ cap := by omega
            rcases hcap with hcap | hcap
            · have hlen : len = s + 1 := by omega
              have HRSx : Hid (Bs wa (some ⟨b, off + s, none⟩) 1 1 (l.drop s)) := Lib.hid (by have := HRS.out; rwa [show len - s = 1 by omega, show cap - s = 1 by omega] at this)
              go_wp2_with fail
              refine (quoted_any _ _ _ _ _ HRSx.out (HT.out.keep HB.out)).mono ?_
              rintro e w2 ⟨rfl, hb2⟩
              have HB2 : Hid (Below w.heap.size w w2) := Lib.hid (HB.out.trans (hb2.mono HB.out.size))
              have HO2 := Lib.hid (HO.out.keep hb2 (Nat.le_refl _))
              have HQ0 := Lib.hid hb2
              clear hb2
              rw [HQ1.out]
              go_wp2_with fail
              refine (quoted_any _ _ _ ((l.drop s).drop 1) _ ((HRSx.out.none_left _ _ (by decide)).below HQ0.out) (HT.out.keep HB2.out)).mono ?_
              rintro e w3 ⟨rfl, hb3⟩
              have HB3 : Hid (Below w.heap.size w w3) := Lib.hid (HB2.out.trans (hb3.mono HB2.out.size))
              have HO3 := Lib.hid (HO2.out.keep hb3 (Nat.le_refl _))
              clear hb3
              rw [HQ2.out]
              go_wp2
              rw [Exit.noGoto_ret]
              exact bodyPost_ret (v := .tuple #[.slice a1 k c1, .int .i64 (s + 1), .int .i64 0]) (by simp [results, Tryd.results35, go_sem]) rfl ⟨a1, c1, by rw [HV.out, HK.out]; rfl, by rw [HV.out, HK.out]; exact HO3.out, HB3.out⟩
            · go_wp2_with fail
              refine (quoted_any _ _ _ _ _ HRS.out (HT.out.keep HB.out)).mono ?_
              rintro e w2 ⟨rfl, hb2⟩
              have HB2 : Hid (Below w.heap.size w w2) := Lib.hid (HB.out.trans (hb2.mono HB.out.size))
              have HO2 := Lib.hid (HO.out.keep hb2 (Nat.le_refl _))
              have HR2 := Lib.hid (HRS1.out.below hb2)
              clear hb2
              rw [HQ1.out]
              go_wp2_with fail
              refine (quoted_any _ _ _ _ _ HR2.out (HT.out.keep HB2.out)).mono ?_
              rintro e w3 ⟨rfl, hb3⟩
              have HB3 : Hid (Below w.heap.size w w3) := Lib.hid (HB2.out.trans (hb3.mono HB2.out.size))
              have HO3 := Lib.hid (HO2.out.keep hb3 (Nat.le_refl _))
              clear hb3
              rw [HQ2.out]
              go_wp2
              rw [Exit.noGoto_ret]
              exact bodyPost_ret (v := .tuple #[.slice a1 k c1, .int .i64 (s + 1), .int .i64 0]) (by simp [results, Tryd.results35, go_sem]) rfl ⟨a1, c1, by rw [HV.out, HK.out]; rfl, by rw [HV.out, HK.out]; exact HO3.out, HB3.out⟩
        · have HQ1 : Hid (decide (bt (l.drop s) 0 = 39) = false) := Lib.hid (by rw [bt_drop]; simp [hq])
          have heqs : (bt l s == 39) = false := by simpa using hq
          have HRS1 := Lib.hid (HRS.out.drop (k := 1) (by omega))
          by_cases hq9 : bt l s = 92
          · by_cases hq2 : bt l (s + 1) = 110 ∨ bt l (s + 1) = 92 ∨ bt l (s + 1) = 39
            · have hQ := qE_esc (r := l.drop s) (by rw [bt_drop]; exact hq9) (by rw [bt_drop]; exact hq2)
              obtain ⟨m, hm⟩ : ∃ m, m = if bt (l.drop s) 1 = 110 then 10 else bt (l.drop s) 1 := ⟨_, rfl⟩
              have hm0 : 0 ≤ m ∧ m ≤ 255 := by
                rw [hm, bt_drop]
                by_cases h110 : bt l (s + 1) = 110
                · rw [if_pos h110]; omega
                · rw [if_neg h110]; exact bt_rng HR.out _
              have HQ2 : Hid (escV ((l.drop s).drop 1) = .tuple #[.int .u8 m, .bool true]) := Lib.hid (by
                have e : bt ((l.drop s).drop 1) 0 = bt l (s + 1) := by rw [bt_drop, bt_drop]
                unfold escV; rw [e, hm, bt_drop]
                by_cases h110 : bt l (s + 1) = 110
                · rw [if_pos h110, if_pos h110]
                · rw [if_neg h110, if_neg h110, if_pos (by omega)])
              have h2 : s + 2 ≤ len := by have := bt_ne (l := l) (j := s + 1) (by omega); have := HL.out; omega
              have HG : Hid (At l (s + 2) (t ++ [m])) := Lib.hid (by have := HS.out.go hQ.1; rw [hQ.2.1, hQ.2.2, ← hm] at this; exact this)
              clear hQ hm
              go_wp2_with fail
              refine (quoted_any _ _ _ _ _ HRS.out (HT.out.keep HB.out)).mono ?_
              rintro e w2 ⟨rfl, hb2⟩
              have HB2 : Hid (Below w.heap.size w w2) := Lib.hid (HB.out.trans (hb2.mono HB.out.size))
              have HO2 := Lib.hid (HO.out.keep hb2 (Nat.le_refl _))
              have HR2 := Lib.hid (HRS1.out.below hb2)
              clear hb2
              rw [HQ1.out]
              go_wp2_with fail
              refine (escaped_any _ _ _ _ _ HR2.out).mono ?_
              rintro e w' ⟨rfl, rfl⟩
              rw [HQ2.out]
              go_wp2_with (at_builtin; refine Hid.out ?_)
              refine Lib.hid ?_
              refine wpList_app rfl (.tmp 67) (.tmp 69) 22 rfl 5 w.heap.size Tryd.underlying22 info5 _ _ _ t rfl (HO2.out.alloc _) _ _ _ [m] rfl (Bs.lit _ 5 (by simp) (by simpa using hm0) rfl rfl (by decide)) (by omega) (by have := HB2.out.size; simp; omega) ?_
              intro a2 c2 w4 ho4 hb4
              have HO4 := Lib.hid ho4
              have HB4 := Lib.hid ((HB2.out.alloc HB2.out.size _).trans hb4)
              clear ho4 hb4
              go_wp2
              go_roundw
              case rel => exact ⟨_, _, s + 2, k + 1, _, rfl, by go_num, by omega, by omega, by omega, HO4, HB4, HG⟩
              case measure => simp [intOf]; omega
            · have hQ := qE_noesc (r := l.drop s) (by rw [bt_drop]; exact hq9) (by rw [bt_drop]; exact hq2)
              have HQ2 : Hid (escV ((l.drop s).drop 1) = .tuple #[.int .u8 0, .bool false]) := Lib.hid (by
                have e : bt ((l.drop s).drop 1) 0 = bt l (s + 1) := by rw [bt_drop, bt_drop]
                unfold escV; rw [e, if_neg (by omega), if_neg (by omega)])
              have HV : Hid (tk l = ⟨13, s, []⟩) := Lib.hid (HS.out.err hQ (by decide) (by decide))
              clear hQ hq2
              have hcap : cap = s + 1 ∨ s + 2 ≤ cap := by omega
              rcases hcap with hcap | hcap
              · have hlen : len = s + 1 := by omega
                have HRSx : Hid (Bs wa (some ⟨b, off + s, none⟩) 1 1 (l.drop s)) := Lib.hid (by have := HRS.out; rwa [show len - s = 1 by omega, show cap - s = 1 by omega] at this)
                go_wp2_with fail
                refine (quoted_any _ _ _ _ _ HRSx.out (HT.out.keep HB.out)).mono ?_
                rintro e w2 ⟨rfl, hb2⟩
                have HB2 : Hid (Below w.heap.size w w2) := Lib.hid (HB.out.trans (hb2.mono HB.out.size))
                have HQ0 := Lib.hid hb2
                clear hb2
                rw [HQ1.out]
                go_wp2_with fail
                refine (escaped_any _ _ _ ((l.drop s).drop 1) _ ((HRSx.out.none_left _ _ (by decide)).below HQ0.out)).mono ?_
                rintro e w' ⟨rfl, rfl⟩
                rw [HQ2.out]
                go_wp2
                rw [Exit.noGoto_ret]
                exact bodyPost_ret (v := .tuple #[.slice none 0 0, .int .i64 s, .int .i64 13]) (by simp [results, Tryd.results35, go_sem]) rfl ⟨none, 0, by rw [HV.out]; rfl, by rw [HV.out]; exact OwnB.none0, HB2.out⟩
              · go_wp2_with fail
                refine (quoted_any _ _ _ _ _ HRS.out (HT.out.keep HB.out)).mono ?_
                rintro e w2 ⟨rfl, hb2⟩
                have HB2 : Hid (Below w.heap.size w w2) := Lib.hid (HB.out.trans (hb2.mono HB.out.size))
                have HR2 := Lib.hid (HRS1.out.below hb2)
                clear hb2
                rw [HQ1.out]
                go_wp2_with fail
                refine (escaped_any _ _ _ _ _ HR2.out).mono ?_
                rintro e w' ⟨rfl, rfl⟩
                rw [HQ2.out]
                go_wp2
                rw [Exit.noGoto_ret]
                exact bodyPost_ret (v := .tuple #[.slice none 0 0, .int .i64 s, .int .i64 13]) (by simp [results, Tryd.results35, go_sem]) rfl ⟨none, 0, by rw [HV.out]; rfl, by rw [HV.out]; exact OwnB.none0, HB2.out⟩
          · have heq9 : (bt l s == 92) = false := by simpa using hq9
            by_cases hq10 : bt l s = 10
            · have HV : Hid (tk l = ⟨12, s, []⟩) := Lib.hid (HS.out.err (qE_line (r := l.drop s) (by rw [bt_drop]; exact hq10)) (by decide) (by decide))
              go_wp2_with fail
              refine (quoted_any _ _ _ _ _ HRS.out (HT.out.keep HB.out)).mono ?_
              rintro e w2 ⟨rfl, hb2⟩
              have HB2 : Hid (Below w.heap.size w w2) := Lib.hid (HB.out.trans (hb2.mono HB.out.size))
              clear hb2
              rw [HQ1.out]
              go_wp2
              try rw [Exit.noGoto_ret]
              exact bodyPost_ret (v := .tuple #[.slice none 0 0, .int .i64 s, .int .i64 12]) (by simp [results, Tryd.results35, go_sem]) rfl ⟨none, 0, by rw [HV.out]; rfl, by rw [HV.out]; exact OwnB.none0, HB2.out⟩
            · have heq10 : (bt l s == 10) = false := by simpa using hq10
              have hnil : l.drop s ≠ [] := by intro hh; have := HL.out; rw [List.drop_eq_nil_iff] at hh; omega
              have hctl : bt l s < 32 ∨ (32 ≤ bt l s ∧ bt l s = 127) ∨ (32 ≤ bt l s ∧ bt l s ≠ 127) := by omega
              rcases hctl with hc | ⟨hc, hc'⟩ | ⟨hc, hc'⟩
              · have HV : Hid (tk l = ⟨11, s, []⟩) := Lib.hid (HS.out.err (qE_byte hnil (by rw [bt_drop]; exact hq10) (by rw [bt_drop]; exact Or.inl hc)) (by decide) (by decide))
                clear hnil hq hq9 hq10
                go_wp2_with fail
                refine (quoted_any _ _ _ _ _ HRS.out (HT.out.keep HB.out)).mono ?_
                rintro e w2 ⟨rfl, hb2⟩
                have HB2 : Hid (Below w.heap.size w w2) := Lib.hid (HB.out.trans (hb2.mono HB.out.size))
                clear hb2
                rw [HQ1.out]
                go_wp2
                rw [Exit.noGoto_ret]
                exact bodyPost_ret (v := .tuple #[.slice none 0 0, .int .i64 s, .int .i64 11]) (by simp [results, Tryd.results35, go_sem]) rfl ⟨none, 0, by rw [HV.out]; rfl, by rw [HV.out]; exact OwnB.none0, HB2.out⟩
              · have HV : Hid (tk l = ⟨11, s, []⟩) := Lib.hid (HS.out.err (qE_byte hnil (by rw [bt_drop]; exact hq10) (by rw [bt_drop]; exact Or.inr hc')) (by decide) (by decide))
                clear hnil hq hq9 hq10
                go_wp2_with fail
                refine (quoted_any _ _ _ _ _ HRS.out (HT.out.keep HB.out)).mono ?_
                rintro e w2 ⟨rfl, hb2⟩
                have HB2 : Hid (Below w.heap.size w w2) := Lib.hid (HB.out.trans (hb2.mono HB.out.size))
                clear hb2
                rw [HQ1.out]
                go_wp2
                rw [Exit.noGoto_ret]
                exact bodyPost_ret (v := .tuple #[.slice none 0 0, .int .i64 s, .int .i64 11]) (by simp [results, Tryd.results35, go_sem]) rfl ⟨none, 0, by rw [HV.out]; rfl, by rw [HV.out]; exact OwnB.none0, HB2.out⟩
              · have heq7 : (bt l s == 127) = false := by simpa using hc'
                have hge : ¬ bt l s < 32 := by omega
                cases hok : okSeq (l.drop s) with
                | false =>
                  have HV : Hid (tk l = ⟨10, s, []⟩) := Lib.hid (HS.out.err (qE_bad (r := l.drop s) (by rw [bt_drop]; exact hc) (by rw [bt_drop]; exact hq) (by rw [bt_drop]; exact hq9) (by rw [bt_drop]; exact hc') hok) (by decide) (by decide))
                  clear hnil hq hq9 hq10 hc'
                  go_wp2_with fail
                  refine (quoted_any _ _ _ _ _ HRS.out (HT.out.keep HB.out)).mono ?_
                  rintro e w2 ⟨rfl, hb2⟩
                  have HB2 : Hid (Below w.heap.size w w2) := Lib.hid (HB.out.trans (hb2.mono HB.out.size))
                  have HR2 := Lib.hid (HRS.out.below hb2)
                  clear hb2
                  rw [HQ1.out]
                  go_wp2_with fail
                  refine (take_any _ _ _ _ _ HR2.out).mono ?_
                  rintro e w' ⟨rfl, rfl⟩
                  rw [hok]
                  go_wp2
                  rw [Exit.noGoto_ret]
                  exact bodyPost_ret (v := .tuple #[.slice none 0 0, .int .i64 s, .int .i64 10]) (by simp [results, Tryd.results35, go_sem]) rfl ⟨none, 0, by rw [HV.out]; rfl, by rw [HV.out]; exact OwnB.none0, HB2.out⟩
                | true =>
                  have hQ := qE_seq (r := l.drop s) (by rw [bt_drop]; exact hc) (by rw [bt_drop]; exact hq) (by rw [bt_drop]; exact hq9) (by rw [bt_drop]; exact hc') hok
                  have HG : Hid (At l (s + takeN (l.drop s)) (t ++ (l.drop s).take (takeN (l.drop s)))) := Lib.hid (by have := HS.out.go hQ.1; rw [hQ.2.1, hQ.2.2] at this; exact this)
                  have hn1 := takeN_pos hnil
                  have hn2 : takeN (l.drop s) ≤ len - s := by have h1 := takeN_le (l.drop s); rw [List.length_drop, HL.out] at h1; exact h1
                  have HRT := Lib.hid (HRS.out.take (k := takeN (l.drop s)) (c' := cap - s) hn2 (by omega) (by have := HRS.out.cm; exact this))
                  clear hnil hq hq9 hq10 hc' hQ
                  go_wp2_with fail
                  refine (quoted_any _ _ _ _ _ HRS.out (HT.out.keep HB.out)).mono ?_
                  rintro e w2 ⟨rfl, hb2⟩
                  have HB2 : Hid (Below w.heap.size w w2) := Lib.hid (HB.out.trans (hb2.mono HB.out.size))
                  have HO2 := Lib.hid (HO.out.keep hb2 (Nat.le_refl _))
                  have HR2 := Lib.hid (HRS.out.below hb2)
                  have HT2 := Lib.hid (HRT.out.below hb2)
                  clear hb2
                  rw [HQ1.out]
                  go_wp2_with fail
                  refine (take_any _ _ _ _ _ HR2.out).mono ?_
                  rintro e w' ⟨rfl, rfl⟩
                  rw [hok]
                  go_wp2_with (at_builtin; refine Hid.out ?_)
                  refine Lib.hid ?_
                  refine wpList_app rfl (.tmp 32) (.tmp 35) 22 rfl 5 w.heap.size Tryd.underlying22 info5 _ _ _ t rfl HO2.out _ _ _ _ rfl HT2.out (by omega) HB2.out.size ?_
                  intro a2 c2 w4 ho4 hb4
                  have HO4 := Lib.hid ho4
                  have HB4 := Lib.hid (HB2.out.trans hb4)
                  clear ho4 hb4
                  go_wp2
                  go_roundw
                  case rel => exact ⟨_, _, s + takeN (l.drop s), k + takeN (l.drop s), _, rfl, by go_num, by omega, by omega, by omega, HO4, HB4, HG⟩
                  case measure => simp [intOf]; omega
      · have hsl' : s = len := by omega
        subst hsl'
        have HV : Hid (tk l = ⟨12, s, []⟩) := Lib.hid (HS.out.err (e := 12) (by rw [List.drop_eq_nil_of_le (by rw [HL.out]; omega)]; rfl) (by decide) (by decide))
        go_wp2
        rw [Exit.noGoto_ret]
        exact bodyPost_ret (v := .tuple #[.slice none 0 0, .int .i64 s, .int .i64 12]) (by simp [results, Tryd.results35, go_sem]) rfl ⟨none, 0, by rw [HV.out]; rfl, by rw [HV.out]; exact OwnB.none0, HB.out⟩
  · have hl : Hid (decide (bt l 0 = 39) = false) := Lib.hid (by simp [h39])
    have HV := Lib.hid (tk_none h39)
    clear h ht h39
    go_enter Tryd.func35, Tryd.ntmps35
    go_wp2
    go_step3
    go_wp2_with (first | (go_at_call 50; refine (quoted_any _ _ _ _ _ H.out HT.out).mono ?_; rintro e w1 ⟨rfl, hb1⟩; have HB1 := Lib.hid hb1; clear hb1; rw [hl.out]))
    rw [Exit.noGoto_ret]
    exact bodyPost_ret (v := .tuple #[.slice none 0 0, .int .i64 0, .int .i64 2]) (by simp [results, Tryd.results35, go_sem]) rfl ⟨none, 0, by rw [HV.out]; rfl, by rw [HV.out]; exact OwnB.none0, HB1.out⟩

end Go.Proofs.YtecabgmkoknbgaaDoor
