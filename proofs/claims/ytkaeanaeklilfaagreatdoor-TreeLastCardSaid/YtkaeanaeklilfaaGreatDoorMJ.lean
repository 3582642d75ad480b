/- Texts laid one behind the other. -/
import Derived.Test.YtkaeanaeklilfaaGreatDoorMI
import Derived.Test.YtkaeanaeklilfaaGreatDoorMH

/- graph.Edge. -/
namespace Go.Proofs.YtkaeanaeklilfaaGreatDoor
open Go.RowKit

/-- What Edge answers: the error, the rows. -/
def eE (z : List Int) (g h : Int) : Int := if inB 1 [g, h] = true then (if g = h ∨ T z h.toNat g.toNat = true then 25 else 0) else 21
def eV (z : List Int) (g h : Int) : List Int := if eE z g h = 0 then eR z g.toNat h.toNat else z0

theorem eV_len (z : List Int) (g h : Int) : (eV z g h).length = 10 := by
  unfold eV; split
  · exact eTo_len ..
  · rfl
theorem e_out {z : List Int} {g h : Int} (hi : inB 1 [g, h] = false) : eE z g h = 21 ∧ eV z g h = z0 := by
  have : eE z g h = 21 := by rw [eE, if_neg (by simp [hi])]
  exact ⟨this, by rw [eV, this, if_neg (by decide)]⟩
theorem e_cyc {z : List Int} {g h : Int} (hi : inB 1 [g, h] = true) (hc : g = h ∨ T z h.toNat g.toNat = true) : eE z g h = 25 ∧ eV z g h = z0 := by
  have : eE z g h = 25 := by rw [eE, if_pos hi, if_pos hc]
  exact ⟨this, by rw [eV, this, if_neg (by decide)]⟩
theorem e_ok {z : List Int} {g h : Int} (hi : inB 1 [g, h] = true) (hc : ¬ (g = h ∨ T z h.toNat g.toNat = true)) : eE z g h = 0 ∧ eV z g h = eR z g.toNat h.toNat := by
  have : eE z g h = 0 := by rw [eE, if_pos hi, if_neg hc]
  exact ⟨this, by rw [eV, this, if_pos rfl]⟩
theorem inB_nat {x y : Nat} (hx : x ≤ 9) (hy : y ≤ 9) : inB 0 [(x : Int), (y : Int)] = true := by rw [inB_two]; omega

end Go.Proofs.YtkaeanaeklilfaaGreatDoor

/- The document's Edge. -/
namespace Go.Proofs.YtkaeanaeklilfaaGreatDoor
open Go.RowKit

set_option maxRecDepth 20000 in
theorem redge_any (z : List Int) (hz : z.length = 10) (g h : Int) (w : World) :
    Calls Tryz.prog 74 #[.agg (rv z), .int .i64 g, .int .i64 h] w fun e w' => e = .returned (.tuple #[.agg (rv (eV z g h)), .int .i64 (eE z g h)]) ∧ Below w.heap.size w w' := by
  obtain ⟨w0, hw0⟩ : ∃ w0, (w.alloc (.cells (rv z) 24)).alloc (.cells #[.int .i64 0, .int .i64 0, .int .i64 0, .int .i64 0, .int .i64 0, .int .i64 0, .int .i64 0, .int .i64 0, .int .i64 0, .int .i64 0] 24) = w0 := ⟨_, rfl⟩
  obtain ⟨hb0, hr0, hr1, hs0⟩ := two_rows w z hw0
  obtain ⟨G, hG⟩ : ∃ G, w.heap.size = G := ⟨_, rfl⟩
  rw [hG] at hr0 hr1 hb0 hs0 ⊢
  have HR0 := Lib.hid hr0
  have HR1 := Lib.hid hr1
  have HB0 := Lib.hid hb0
  have HS0 := Lib.hid hs0
  have HZ := Lib.hid hz
  clear hr0 hr1 hb0 hs0 hz
  cases hin : inB 1 [g, h] with
  | false =>
    have HE := Lib.hid (e_out (z := z) hin)
    have hin' : ¬ ((1 ≤ g ∧ g ≤ 9) ∧ 1 ≤ h ∧ h ≤ 9) := fun hh => by rw [(inB_two 1 g h).2 hh] at hin; cases hin
    clear hin
    by_cases a1 : g < 1
    · clear hin'
      go_enter Tryz.func74, Tryz.ntmps74
      go_wp2_with (refine store_rows rfl (.tmp 6) (.tmp 24) rfl (G + 1) rfl z0 rfl rfl z0 z0_len HR1.out ?_; intro w2 hr2 ho2; have HR2 := Lib.hid hr2; have HO2 := Lib.hid ho2; clear hr2 ho2)
      have HB2 : Below G w w2 := HB0.out.trans (HO2.out.below (by omega))
      exact bodyPost_ret (ret_pair rfl _ _ (G + 1) _ rfl rfl HR2.out) rfl ⟨by rw [HE.out.1, HE.out.2]; rfl, HB2⟩
    · by_cases a2 : 9 < g
      · clear hin'
        go_enter Tryz.func74, Tryz.ntmps74
        go_wp2_with (refine store_rows rfl (.tmp 6) (.tmp 24) rfl (G + 1) rfl z0 rfl rfl z0 z0_len HR1.out ?_; intro w2 hr2 ho2; have HR2 := Lib.hid hr2; have HO2 := Lib.hid ho2; clear hr2 ho2)
        have HB2 : Below G w w2 := HB0.out.trans (HO2.out.below (by omega))
        exact bodyPost_ret (ret_pair rfl _ _ (G + 1) _ rfl rfl HR2.out) rfl ⟨by rw [HE.out.1, HE.out.2]; rfl, HB2⟩
      · by_cases b1 : h < 1
        · clear hin'
          go_enter Tryz.func74, Tryz.ntmps74
          go_wp2_with (refine store_rows rfl (.tmp 6) (.tmp 24) rfl (G + 1) rfl z0 rfl rfl z0 z0_len HR1.out ?_; intro w2 hr2 ho2; have HR2 := Lib.hid hr2; have HO2 := Lib.hid ho2; clear hr2 ho2)
          have HB2 : Below G w w2 := HB0.out.trans (HO2.out.below (by omega))
          exact bodyPost_ret (ret_pair rfl _ _ (G + 1) _ rfl rfl HR2.out) rfl ⟨by rw [HE.out.1, HE.out.2]; rfl, HB2⟩
        · have b2 : 9 < h := by omega
          clear hin'
          go_enter Tryz.func74, Tryz.ntmps74
          go_wp2_with (refine store_rows rfl (.tmp 6) (.tmp 24) rfl (G + 1) rfl z0 rfl rfl z0 z0_len HR1.out ?_; intro w2 hr2 ho2; have HR2 := Lib.hid hr2; have HO2 := Lib.hid ho2; clear hr2 ho2)
          have HB2 : Below G w w2 := HB0.out.trans (HO2.out.below (by omega))
          exact bodyPost_ret (ret_pair rfl _ _ (G + 1) _ rfl rfl HR2.out) rfl ⟨by rw [HE.out.1, HE.out.2]; rfl, HB2⟩
  | true =>
    obtain ⟨⟨g1, g2⟩, h1, h2⟩ := (inB_two 1 g h).1 hin
    obtain ⟨x, rfl⟩ := Int.eq_ofNat_of_zero_le (show 0 ≤ g by omega)
    obtain ⟨y, rfl⟩ := Int.eq_ofNat_of_zero_le (show 0 ≤ h by omega)
    have HIN := Lib.hid hin
    have c1 : decide ((x : Int) < 1) = false := by simp; omega
    have c2 : decide ((y : Int) < 1) = false := by simp; omega
    clear hin
    by_cases hxy : x = y
    · subst hxy
      have HE := Lib.hid (e_cyc (z := z) HIN.out (.inl rfl))
      go_enter Tryz.func74, Tryz.ntmps74
      go_wp2_with (refine store_rows rfl (.tmp 6) (.tmp 34) rfl (G + 1) rfl z0 rfl rfl z0 z0_len HR1.out ?_; intro w2 hr2 ho2; have HR2 := Lib.hid hr2; have HO2 := Lib.hid ho2; clear hr2 ho2)
      have HB2 : Below G w w2 := HB0.out.trans (HO2.out.below (by omega))
      exact bodyPost_ret (ret_pair rfl _ _ (G + 1) _ rfl rfl HR2.out) rfl ⟨by rw [HE.out.1, HE.out.2]; rfl, HB2⟩
    · have hne : ((x : Int) == y) = false := by simp; omega
      have KT := Lib.hid fun w1 => rtighter_any z HZ.out y x w1
      have ht : tgt z y x = T z y x := by rw [tgt, inB_nat (by omega) (by omega)]; rfl
      rw [ht] at KT
      have HGw : Hid (G + 2 ≤ w0.heap.size) := Lib.hid (by have := HS0.out; omega)
      cases hT : T z y x with
      | true =>
        have HE := Lib.hid (e_cyc (z := z) HIN.out (.inr hT))
        rw [hT] at KT
        clear hT ht
        go_enter Tryz.func74, Tryz.ntmps74
        go_wp2_with (refine load_rows rfl (.tmp 3) rfl G rfl z HZ.out HR0.out ?_)
        refine (KT.out _).mono ?_
        rintro e w1 ⟨rfl, hb1⟩
        have HO1 := Lib.hid (RB.keep HR1.out hb1 HR1.out.lt)
        have HB1 := Lib.hid (HB0.out.trans (hb1.mono (show G ≤ w0.heap.size by have := HGw.out; omega)))
        clear hb1
        go_wp2_with (refine store_rows rfl (.tmp 6) (.tmp 34) rfl (G + 1) rfl z0 rfl rfl z0 z0_len HO1.out ?_; intro w2 hr2 ho2; have HR2 := Lib.hid hr2; have HO2 := Lib.hid ho2; clear hr2 ho2)
        have HB2 : Below G w w2 := HB1.out.trans (HO2.out.below (by omega))
        exact bodyPost_ret (ret_pair rfl _ _ (G + 1) _ rfl rfl HR2.out) rfl ⟨by rw [HE.out.1, HE.out.2]; rfl, HB2⟩
      | false =>
        have HE := Lib.hid (e_ok (z := z) HIN.out (show ¬ ((x : Int) = y ∨ T z ((y : Int).toNat) ((x : Int).toNat) = true) by
          rintro (h | h)
          · omega
          · rw [Int.toNat_natCast, Int.toNat_natCast, hT] at h; cases h))
        rw [hT] at KT
        have hpw := pow_rng y (by omega)
        have HG0 : Hid (G ≤ w.heap.size) := Lib.hid (by omega)
        have d9 : decide ((y : Int) < 10) = true := by simp; omega
        clear hT ht
        go_enter Tryz.func74, Tryz.ntmps74
        go_wp2_with (refine load_rows rfl (.tmp 3) rfl G rfl z HZ.out HR0.out ?_)
        refine (KT.out _).mono ?_
        rintro e w1 ⟨rfl, hb1⟩
        have HRA := Lib.hid (RB.keep HR0.out hb1 HR0.out.lt)
        have HO1 := Lib.hid (RB.keep HR1.out hb1 HR1.out.lt)
        have HB1 := Lib.hid (HB0.out.trans (hb1.mono (show G ≤ w0.heap.size by have := HGw.out; omega)))
        have HGw1 : Hid (G + 2 ≤ w1.heap.size) := Lib.hid (Nat.le_trans HGw.out hb1.size)
        clear hb1
        go_wp2_with (first
          | (refine load_rows rfl (.tmp 3) rfl G rfl z HZ.out HRA.out ?_)
          | (refine store_rows rfl (.tmp 8) (.tmp 35) rfl w1.heap.size rfl z rfl HZ.out z0 z0_len (heap_alloc_new w1 _) ?_; intro w2 hr2 ho2; have HR2 := Lib.hid hr2; have HO2 := Lib.hid ho2; clear hr2 ho2))
        have HZ2 := Lib.hid (HO2.out.rows (show G ≠ w1.heap.size by have := HGw1.out; omega) (RB.alloc HRA.out _))
        have HT2 := Lib.hid (HO2.out.rows (show G + 1 ≠ w1.heap.size by have := HGw1.out; omega) (RB.alloc HO1.out _))
        have HB2 := Lib.hid ((HB1.out.alloc (show G ≤ w1.heap.size by have := HGw1.out; omega) _).trans (HO2.out.below (show G ≤ w1.heap.size by have := HGw1.out; omega)))
        clear HO2
        go_loopw [9] (fun v wr => ∃ n : Nat, v = .int .i64 n ∧ n ≤ 10 ∧ Hid (RB wr w1.heap.size (eTo z x y n)) ∧ Hid (RB wr G z) ∧ Hid (RB wr (G + 1) z0) ∧ Hid (Below G w wr)) (fun v _ => 10 - (intOf v).toNat)
        case atStart => exact ⟨0, rfl, by omega, Lib.hid (by rw [eTo_zero HZ.out]; exact HR2.out), HZ2, HT2, HB2⟩
        case round =>
          obtain ⟨n, rfl, hn, HRa, HZa, HOa, HBa⟩ := hrel
          rename World => wa
          by_cases hlt : n < 10
          · have hdn : decide ((n : Int) < 10) = true := by simp; omega
            by_cases hnx : n = x
            · have hyes : n = x ∨ T z n x = true := .inl hnx
              have hq : ((n : Int) == x) = true := by simp; omega
              clear hnx
              have hcn := HZa.out.cell HZ.out hlt
              have hcy := HZa.out.cell HZ.out (show y < 10 by omega)
              have hcb := HRa.out.cell (eTo_len ..) hlt
              have hfb := HRa.out.frozen n
              have HRd := Lib.hid (RB.set (RB.drew HRa.out) n (bits .or .i64 (bits .or .i64 (bt z n) (bt z y)) (2 ^ y)))
              rw [eTo_yes' hlt hyes] at HRd
              have HOn := Lib.hid (Only.ofCell wa.drew w1.heap.size n (.int .i64 (bits .or .i64 (bits .or .i64 (bt z n) (bt z y)) (2 ^ y))))
              have HZd := Lib.hid (HOn.out.rows (show G ≠ w1.heap.size by have := HGw1.out; omega) (RB.drew HZa.out))
              have HOd := Lib.hid (HOn.out.rows (show G + 1 ≠ w1.heap.size by have := HGw1.out; omega) (RB.drew HOa.out))
              have HBd := Lib.hid (HBa.out.drew.trans (HOn.out.below (show G ≤ w1.heap.size by have := HGw1.out; omega)))
              clear hyes HOn
              go_wp2_with fail
              go_region
              go_wp2
              go_roundw
              case rel => exact ⟨n + 1, by go_num, by omega, HRd, HZd, HOd, HBd⟩
              case measure => simp [intOf]; omega
            · have hq : ((n : Int) == x) = false := by simp; omega
              have htn : tgt z n x = T z n x := by rw [tgt, inB_nat (by omega) (by omega)]; rfl
              have KN := Lib.hid fun w1 => rtighter_any z HZ.out n x w1
              rw [htn] at KN
              clear htn
              cases hT : T z n x with
              | true =>
                have hyes : n = x ∨ T z n x = true := .inr hT
                rw [hT] at KN
                clear hT hnx
                go_wp2_with (refine load_rows rfl (.tmp 3) rfl G rfl z HZ.out HZa.out ?_)
                refine (KN.out _).mono ?_
                rintro e wb ⟨rfl, hbb⟩
                have HRb := Lib.hid (RB.keep HRa.out hbb HRa.out.lt)
                have HZb := Lib.hid (RB.keep HZa.out hbb HZa.out.lt)
                have HOb := Lib.hid (RB.keep HOa.out hbb HOa.out.lt)
                have HBb := Lib.hid (HBa.out.trans (hbb.mono (Nat.le_trans HG0.out HBa.out.size)))
                clear hbb
                have hcn := HZb.out.cell HZ.out hlt
                have hcy := HZb.out.cell HZ.out (show y < 10 by omega)
                have hcb := HRb.out.cell (eTo_len ..) hlt
                have hfb := HRb.out.frozen n
                have HRd := Lib.hid (RB.set (RB.drew HRb.out) n (bits .or .i64 (bits .or .i64 (bt z n) (bt z y)) (2 ^ y)))
                rw [eTo_yes' hlt hyes] at HRd
                have HOn := Lib.hid (Only.ofCell wb.drew w1.heap.size n (.int .i64 (bits .or .i64 (bits .or .i64 (bt z n) (bt z y)) (2 ^ y))))
                have HZd := Lib.hid (HOn.out.rows (show G ≠ w1.heap.size by have := HGw1.out; omega) (RB.drew HZb.out))
                have HOd := Lib.hid (HOn.out.rows (show G + 1 ≠ w1.heap.size by have := HGw1.out; omega) (RB.drew HOb.out))
                have HBd := Lib.hid (HBb.out.drew.trans (HOn.out.below (show G ≤ w1.heap.size by have := HGw1.out; omega)))
                clear hyes HOn
                go_wp2_with fail
                go_region
                go_wp2
                go_roundw
                case rel => exact ⟨n + 1, by go_num, by omega, HRd, HZd, HOd, HBd⟩
                case measure => simp [intOf]; omega
              | false =>
                have HNO := Lib.hid (eTo_no (z := z) (g := x) (h := y) hlt (by rw [hT]; simpa using hnx))
                rw [hT] at KN
                clear hT hnx
                go_wp2_with (refine load_rows rfl (.tmp 3) rfl G rfl z HZ.out HZa.out ?_)
                refine (KN.out _).mono ?_
                rintro e wb ⟨rfl, hbb⟩
                have HRb := Lib.hid (RB.keep HRa.out hbb HRa.out.lt)
                have HZb := Lib.hid (RB.keep HZa.out hbb HZa.out.lt)
                have HOb := Lib.hid (RB.keep HOa.out hbb HOa.out.lt)
                have HBb := Lib.hid (HBa.out.trans (hbb.mono (Nat.le_trans HG0.out HBa.out.size)))
                clear hbb
                go_wp2
                go_roundw
                case rel => exact ⟨n + 1, by go_num, by omega, by rw [HNO.out]; exact HRb, HZb, HOb, HBb⟩
                case measure => simp [intOf]; omega
          · have HEr : Hid (eTo z x y n = eR z x y) := Lib.hid (by rw [show n = 10 by omega]; rfl)
            rw [HEr.out] at HRa
            go_wp2_with (first
              | (refine load_rows rfl (.tmp 8) rfl w1.heap.size rfl (eR z x y) (eTo_len ..) HRa.out ?_)
              | (refine store_rows rfl (.tmp 6) (.tmp 61) rfl (G + 1) rfl (eR z x y) rfl (eTo_len ..) z0 z0_len HOa.out ?_; intro w3 hr3 ho3; have HR3 := Lib.hid hr3; have HO3 := Lib.hid ho3; clear hr3 ho3))
            have HB3 : Below G w w3 := HBa.out.trans (HO3.out.below (by omega))
            exact bodyPost_ret (ret_pair rfl _ _ (G + 1) _ (eTo_len ..) rfl HR3.out) rfl ⟨by rw [HE.out.1, HE.out.2]; rfl, HB3⟩

end Go.Proofs.YtkaeanaeklilfaaGreatDoor
