/- The walk of the laws' own laid. -/
import Derived.Test.YtnedappnmkbbpaaMn
namespace Go.Proofs.Ytnedappnmkbbpaa
open Go.RowKit

set_option maxRecDepth 20000 in
set_option maxHeartbeats 4000000 in
theorem laid_any (a : Option Addr) (len cap : Nat) (w : World) (h : Pa w a len cap) :
    Calls Try.prog 15 #[.slice a len cap] w fun e w' => ∃ (z : List Int) (E : List (Nat × Nat)) (a' : Option Addr) (n c : Nat), e = .returned (.tuple #[.agg (rv z), .slice a' n c]) ∧ Inv z E ∧ E.length = n ∧ n ≤ 40 ∧ Vs 2 w' a' n c (eC E) ∧ Below w.heap.size w w' := by
  obtain ⟨w0, hw0⟩ : ∃ w0, w.alloc (.cells #[.int .i64 0, .int .i64 0, .int .i64 0, .int .i64 0, .int .i64 0, .int .i64 0, .int .i64 0, .int .i64 0, .int .i64 0, .int .i64 0] 23) = w0 := ⟨_, rfl⟩
  have HB0 : Hid (Below w.heap.size w w0) := Lib.hid (by rw [← hw0]; exact (Below.refl _ _).alloc (Nat.le_refl _) _)
  have HP : Hid (∀ w', Below w.heap.size w w' → Pa w' a len cap) := Lib.hid fun w' hb => h.below hb
  have hlc := h.lc
  have hcm := h.cm
  unfold maxLen at hcm
  obtain ⟨G, hG⟩ : ∃ G, w.heap.size = G := ⟨_, rfl⟩
  have HR0 : Hid (RB w0 G z0) := Lib.hid (by rw [← hw0, ← hG]; exact RB.new w z0)
  have HG0 : Hid (G ≤ w.heap.size) := Lib.hid (by omega)
  rw [hG] at HB0 HP ⊢
  clear h
  go_enter Try.func15, Try.ntmps15
  go_wp2_with fail
  refine (start_any w0).mono ?_
  rintro e w1 ⟨rfl, hb1⟩
  have HR1 := Lib.hid (RB.keep HR0.out hb1 HR0.out.lt)
  have HB1 := Lib.hid (HB0.out.trans (hb1.mono (Nat.le_trans HG0.out HB0.out.size)))
  clear hb1
  have HG1 := Lib.hid (Nat.le_trans HG0.out HB1.out.size)
  have HL1 := Lib.hid (HR1.out.lt)
  go_wp2_with (refine store_rows rfl (.tmp 4) (.tmp 11) rfl w1.heap.size rfl zS rfl rfl z0 z0_len (heap_alloc_new w1 _) ?_; intro w2 hr2 ho2; have HX2 := Lib.hid hr2; have HR2 := Lib.hid (ho2.rows (Nat.ne_of_lt HL1.out) (HR1.out.alloc _)); have HB2 := Lib.hid ((HB1.out.alloc HG1.out _).trans (ho2.below HG1.out)); have HL2 : Hid (w2.heap.size = w1.heap.size + 1) := Lib.hid (by rw [ho2.size]; simp); clear hr2 ho2)
  obtain ⟨X, hX⟩ : ∃ X, w1.heap.size = X := ⟨_, rfl⟩
  rw [hX] at HX2 HG1 HL1 HL2 ⊢
  obtain ⟨Y, hY⟩ : ∃ Y, w2.heap.size = Y := ⟨_, rfl⟩
  have HO2 : Hid (OwnV Y 38 2 (w2.alloc (.cells #[] 38)) (some ⟨Y, 0, none⟩) 0 0 (eC [])) := Lib.hid (by rw [← hY]; exact OwnV.emptyAt (heap_alloc_new w2 _) (Nat.le_refl _))
  have HX3 := Lib.hid (RB.alloc HX2.out (.cells #[] 38))
  have HR3 := Lib.hid (RB.alloc HR2.out (.cells #[] 38))
  have HG2 := Lib.hid (Nat.le_trans HG0.out HB2.out.size)
  have HB3 := Lib.hid (HB2.out.alloc HG2.out (.cells #[] 38))
  have HYw : Hid (Y ≤ (w2.alloc (.cells #[] 38)).heap.size) := Lib.hid (by simp; omega)
  rw [hY] at HL2 ⊢
  have HXY : Hid (X < Y) := Lib.hid (by have := HL2.out; omega)
  have HGX : Hid (G < X) := Lib.hid HL1.out
  clear hX hY HX2 HR2 HB2
  go_loopw [5, 6, 7, 8, 9, 10] (fun o i _ _ _ _ wr => ∃ (k : Nat) (z : List Int) (E : List (Nat × Nat)) (a' : Option Addr) (n c : Nat), o = .slice a' n c ∧ i = .int .i64 k ∧ k ≤ len ∧ k ≤ 40 ∧ n ≤ k ∧ Hid (Inv z E) ∧ Hid (E.length = n) ∧ Hid (RB wr X z) ∧ Hid (RB wr G z0) ∧ Hid (OwnV Y 38 2 wr a' n c (eC E)) ∧ Hid (Below G w wr) ∧ Hid (Y ≤ wr.heap.size)) (fun _ i _ _ _ _ _ => 40 - (intOf i).toNat)
  case atStart => exact ⟨0, zS, [], some ⟨Y, 0, none⟩, 0, 0, rfl, rfl, by omega, by omega, by omega, Lib.hid inv_start, Lib.hid rfl, HX3, HR3, HO2, HB3, HYw⟩
  case round =>
    obtain ⟨k, z, E, a', n, c, rfl, rfl, hk, hk4, hnk, HI, HE, HX, HR, HO, HB, HY⟩ := hrel
    rename World => wa
    by_cases hlt : k < len
    · by_cases h40 : k < 40
      · obtain ⟨b, off, rfl, hbl, hcells⟩ := (HP.out wa HB.out).at_ (by omega)
        obtain ⟨x, y, hx, hy, cx, cy⟩ := hcells k hlt
        clear hcells
        obtain ⟨gx, hgx, hgx8⟩ := tmod9 x
        obtain ⟨gy, hgy, hgy8⟩ := tmod9 y
        have y0 : IntKind.i64.wrap (x : Int) = x := by rw [IntKind.wrap_i64]; omega
        have y1 : IntKind.i64.wrap (y : Int) = y := by rw [IntKind.wrap_i64]; omega
        obtain ⟨g, hg⟩ : ∃ g, g = gx + 1 := ⟨_, rfl⟩
        obtain ⟨h, hh⟩ : ∃ h, h = gy + 1 := ⟨_, rfl⟩
        have b1 : IntKind.i64.wrap (1 + (gx : Int)) = (g : Int) := by rw [IntKind.wrap_i64]; omega
        have b2 : IntKind.i64.wrap (1 + (gy : Int)) = (h : Int) := by rw [IntKind.wrap_i64]; omega
        have HN : Hid (inG (g, h)) := Lib.hid ⟨by show 1 ≤ g; omega, by show g ≤ 9; omega, by show 1 ≤ h; omega, by show h ≤ 9; omega⟩
        clear hg hh
        have KE := Lib.hid fun w1 => edge_any z HI.out.len HI.out.rng g h w1
        have HGa := Lib.hid (Nat.le_trans HG0.out HB.out.size)
        go_wp2_with (refine load_rows rfl (.tmp 4) rfl X rfl z HI.out.len HX.out ?_)
        refine (KE.out _).mono ?_
        rintro e wb ⟨rfl, hbb⟩
        have HXb := Lib.hid (RB.keep HX.out hbb HX.out.lt)
        have HRb := Lib.hid (RB.keep HR.out hbb HR.out.lt)
        have HOb := Lib.hid (HO.out.keep hbb (Nat.le_refl _))
        have HBb := Lib.hid (HB.out.trans (hbb.mono HGa.out))
        have HYb := Lib.hid (Nat.le_trans HY.out hbb.size)
        clear hbb KE hy y0 y1 hgx hgy
        rcases inv_e HI.out HN.out with ⟨he, hv, _⟩ | ⟨he, hv, hI2, _, _⟩
        · rw [he, hv]
          clear he hv
          go_wp2_with (refine store_rows rfl (.tmp 9) (.tmp 44) rfl wb.heap.size rfl z0 rfl rfl z0 z0_len (heap_alloc_new wb _) ?_; intro wc hrc hoc; have HC := Lib.hid (((Below.refl wb.heap.size wb).alloc (Nat.le_refl _) _).trans (hoc.below (Nat.le_refl _))); clear hrc hoc)
          have HXc := Lib.hid (RB.keep HXb.out HC.out HXb.out.lt)
          have HRc := Lib.hid (RB.keep HRb.out HC.out HRb.out.lt)
          have HOc := Lib.hid (HOb.out.keep HC.out (Nat.le_refl _))
          have HBc := Lib.hid (HBb.out.trans (HC.out.mono (Nat.le_trans HG0.out HBb.out.size)))
          have HYc := Lib.hid (Nat.le_trans HYb.out HC.out.size)
          go_roundw
          case rel => exact ⟨k + 1, z, E, a', n, c, rfl, by go_num, by omega, by omega, by omega, HI, HE, HXc, HRc, HOc, HBc, HYc⟩
          case measure => simp [intOf]; omega
        · rw [he, hv]
          have HI2 := Lib.hid hI2
          clear he hv hI2
          go_wp2_with (first
            | (refine store_rows rfl (.tmp 9) (.tmp 44) rfl wb.heap.size rfl (eR z g h) rfl (eTo_len ..) z0 z0_len (heap_alloc_new wb _) ?_; intro wc hrc hoc; have HSc := Lib.hid hrc; have HC := Lib.hid (((Below.refl wb.heap.size wb).alloc (Nat.le_refl _) _).trans (hoc.below (Nat.le_refl _))); have HXc := Lib.hid (RB.keep HXb.out HC.out HXb.out.lt); clear hrc hoc)
            | (refine load_rows rfl (.tmp 9) rfl wb.heap.size rfl (eR z g h) (eTo_len ..) HSc.out ?_)
            | (refine store_rows rfl (.tmp 4) (.tmp 48) rfl X rfl (eR z g h) rfl (eTo_len ..) z HI.out.len HXc.out ?_; intro wd hrd hod; have HXd := Lib.hid hrd; have HOd1 := Lib.hid hod; clear hrd hod)
            | (at_builtin; refine Hid.out ?_))
          refine Lib.hid ?_
          have HOc := Lib.hid (HOb.out.keep HC.out (Nat.le_refl _))
          have HBc := Lib.hid (HBb.out.trans (HC.out.mono (Nat.le_trans HG0.out HBb.out.size)))
          have HYc := Lib.hid (Nat.le_trans HYb.out HC.out.size)
          have HRd := Lib.hid (HOd1.out.rows (Nat.ne_of_lt HGX.out) (RB.keep HRb.out HC.out HRb.out.lt))
          have HOd := Lib.hid (HOc.out.other HOd1.out.grown (.inr (HOc.out.apart HXY.out)))
          have HBd := Lib.hid (HBc.out.trans (HOd1.out.below (Nat.le_of_lt HGX.out)))
          have HYd : Hid (Y ≤ wd.heap.size) := Lib.hid (by rw [HOd1.out.size]; exact HYc.out)
          have HGY : Hid (G ≤ Y) := Lib.hid (by have := HXY.out; have := HGX.out; omega)
          refine wpList_appv rfl (.tmp 49) (.tmp 53) 31 rfl 38 Y 2 16 _ Try.underlying31 info38 rfl (by omega) _ _ _ (eC E) rfl (HOd.out.alloc _) _ _ _ [.int .i64 g, .int .i64 h] rfl (Vs.lit (k := 2) (xs := [.int .i64 g, .int .i64 h]) _ _ rfl rfl rfl) (by simp; exact ⟨rfl, rfl⟩) (by unfold maxLen; omega) (by omega) (by have := HYd.out; simp; omega) ?_
          intro a2 c2 we hoe _ hbe _
          have HOe : Hid (OwnV Y 38 2 we a2 (n + 1) c2 (eC (E ++ [(g, h)]))) := Lib.hid (by rw [eC_app]; exact hoe)
          have HE2 : Hid ((E ++ [(g, h)]).length = n + 1) := Lib.hid (by rw [List.length_append, HE.out]; rfl)
          have HXe := Lib.hid (RB.keep (RB.alloc HXd.out (.cells #[.int .i64 g, .int .i64 h] 38)) hbe HXY.out)
          have HRe := Lib.hid (RB.keep (RB.alloc HRd.out (.cells #[.int .i64 g, .int .i64 h] 38)) hbe (Nat.lt_trans HGX.out HXY.out))
          have HBe := Lib.hid ((HBd.out.alloc (Nat.le_trans HGY.out HYd.out) (.cells #[.int .i64 g, .int .i64 h] 38)).trans (hbe.mono HGY.out))
          have HYe : Hid (Y ≤ we.heap.size) := Lib.hid (Nat.le_trans (Nat.le_trans HYd.out (by simp)) hbe.size)
          clear hoe hbe
          go_wp2
          go_roundw
          case rel => exact ⟨k + 1, eR z g h, E ++ [(g, h)], a2, n + 1, c2, rfl, by go_num, by omega, by omega, by omega, HI2, HE2, HXe, HRe, HOe, HBe, HYe⟩
          case measure => simp [intOf]; omega
      · have hq : decide ((k : Int) < 40) = false := by simp; omega
        go_wp2_with (first
          | (refine load_rows rfl (.tmp 4) rfl X rfl z HI.out.len HX.out ?_)
          | (refine store_rows rfl (.tmp 2) (.tmp 55) rfl G rfl z rfl HI.out.len z0 z0_len HR.out ?_; intro w3 hr3 ho3; have HR3 := Lib.hid hr3; have HO3 := Lib.hid ho3; clear hr3 ho3))
        have HB3 : Below G w w3 := HB.out.trans (HO3.out.below (Nat.le_refl _))
        have HV3 := (HO.out.other HO3.out.grown (.inr (HO.out.apart (Nat.lt_trans HGX.out HXY.out)))).vs
        exact bodyPost_ret (ret_pair rfl _ _ G _ HI.out.len rfl HR3.out) rfl ⟨z, E, a', n, c, rfl, HI.out, HE.out, by omega, HV3, HB3⟩
    · have hq : decide ((k : Int) < len) = false := by simp; omega
      go_wp2_with (first
        | (refine load_rows rfl (.tmp 4) rfl X rfl z HI.out.len HX.out ?_)
        | (refine store_rows rfl (.tmp 2) (.tmp 55) rfl G rfl z rfl HI.out.len z0 z0_len HR.out ?_; intro w3 hr3 ho3; have HR3 := Lib.hid hr3; have HO3 := Lib.hid ho3; clear hr3 ho3))
      have HB3 : Below G w w3 := HB.out.trans (HO3.out.below (Nat.le_refl _))
      have HV3 := (HO.out.other HO3.out.grown (.inr (HO.out.apart (Nat.lt_trans HGX.out HXY.out)))).vs
      exact bodyPost_ret (ret_pair rfl _ _ G _ HI.out.len rfl HR3.out) rfl ⟨z, E, a', n, c, rfl, HI.out, HE.out, by omega, HV3, HB3⟩

end Go.Proofs.Ytnedappnmkbbpaa
