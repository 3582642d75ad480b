import Derived.Test.YtcjbhdgjcpnklaaGreatDoorV22
import Derived.Test.YtcjbhdgjcpnklaaGreatDoorV15
import Derived.Test.YtcjbhdgjcpnklaaGreatDoorV16
namespace Go.Proofs.YtcjbhdgjcpnklaaGreatDoor
section
open Go.RowKit
def stZ (g h : Nat) : List Int := (List.range 10).map fun i => if 1 ≤ i ∧ i < g then 2 ^ i - 2 else if i = g then 2 ^ h - 2 else 0
theorem zD6 (g h : Nat) : (stZ g h).length = 10 := by simp [stZ]
theorem zPm : stZ 1 1 = z0 := by decide +kernel
theorem zNe : ∀ g, g < 6 → ∀ h, h < 6 → (1 ≤ g ∧ 1 ≤ h ∧ h < g) → (stZ g h).set g (bits .or .i64 (bt (stZ g h) g) (2 ^ h)) = stZ g (h + 1) := by decide +kernel
theorem zKL : ∀ g, g < 6 → 1 ≤ g → stZ g g = stZ (g + 1) 1 := by decide +kernel
theorem zKM : stZ 6 1 = zS := by decide +kernel
set_option maxRecDepth 20000 in
theorem zKN (w : World) :
  Calls Tryz.prog 49 #[] w fun e w' => e = .returned (.agg (rv zS)) ∧ Below w.heap.size w w' := by
 obtain ⟨w0, hw0⟩ : ∃ w0, (w.alloc (.cells #[.int .i64 0, .int .i64 0, .int .i64 0, .int .i64 0, .int .i64 0, .int .i64 0, .int .i64 0, .int .i64 0, .int .i64 0, .int .i64 0] 32)).alloc (.cells #[.int .i64 0, .int .i64 0, .int .i64 0, .int .i64 0, .int .i64 0, .int .i64 0, .int .i64 0, .int .i64 0, .int .i64 0, .int .i64 0] 32) = w0 := ⟨_, rfl⟩
 obtain ⟨hb0, hr0, hr1, _⟩ := zDa w z0 hw0
 obtain ⟨G, hG⟩ : ∃ G, w.heap.size = G := ⟨_, rfl⟩
 rw [hG] at hr0 hr1 hb0 ⊢
 have HR0 := hid hr0
 have HR1 := hid hr1
 have HB0 := hid hb0
 have HG : Hid (G ≤ w.heap.size) := hid (by omega)
 clear hr0 hr1 hb0
 go_enter Tryz.func49, Tryz.ntmps49
 go_wp2
 go_loopw [2, 3] (fun v _ wr => ∃ g : Nat, v = .int .i64 g ∧ 1 ≤ g ∧ g ≤ 6 ∧ Hid (RB wr (G + 1) (stZ g 1)) ∧ Hid (RB wr G z0) ∧ Hid (Below G w wr)) (fun v _ _ => 6 - (intOf v).toNat)
 case atStart => exact ⟨1, rfl, by omega, by omega, hid (by rw [zPm]; exact HR1.out), HR0, HB0⟩
 case round =>
  obtain ⟨g, rfl, hg1, hg6, HR, HZ, HB⟩ := hrel
  rename World => wa
  by_cases hlt : g ≤ 5
  ·have hd5 : decide ((g : Int) ≤ 5) = true := by simp; omega
   go_wp2
   go_loopw [3] (fun v wr => ∃ h : Nat, v = .int .i64 h ∧ 1 ≤ h ∧ h ≤ g ∧ Hid (RB wr (G + 1) (stZ g h)) ∧ Hid (RB wr G z0) ∧ Hid (Below G w wr)) (fun v _ => 6 - (intOf v).toNat)
   case atStart => exact ⟨1, rfl, by omega, by omega, HR, HZ, HB⟩
   case round =>
    obtain ⟨h, rfl, hh1, hh6, HR, HZ, HB⟩ := hrel
    rename World => wb
    by_cases hlh : h < g
    ·have hpw := zFS h (by omega)
     have HN := hid (zNe g (by omega) h (by omega) ⟨hg1, hh1, hlh⟩)
     go_wp2_with fail
     refine wp_region_noPanic ?_
     refine wp_region_held_drew (S := fun _ => True) (by kernel_rfl) (trivial) (fun hHeld => ?_)
     refine zG 1 rfl ?_
     try simp only [Act.put, aS, aZ, aC]
     refine zG 2 rfl ?_
     try simp only [Act.put, aS, aZ, aC]
     refine zG 3 rfl ?_
     try simp only [Act.put, aS, aZ, aC]
     refine zR [0] ?_
     refine hDo rfl (fun K hK => ?_) ?_
     ·refine zEf rfl (.tmp 1) rfl (G + 1) rfl (stZ g h) (zD6 g h) HR.out ?_
      refine hK.out _ _ (trivial) (fun hHeld => ?_)
      clear hK K
      try simp only [Act.put, aS, aZ, aC]
      refine zR [4] ?_
      refine hDo rfl (fun K hK => ?_) ?_
      ·go_simp
       (go_at_call 89; (with_reducible refine (zH8 (stZ g h) (zD6 g h) g (by omega) _ _).mono ?_); rintro e w1 ⟨rfl, hb⟩)
       have HB1 := hid (HB.out.trans (((Below.refl _ wb).drew).trans (hb.mono (show G ≤ wb.heap.size from Nat.le_trans HG.out HB.out.size))))
       have HR1 := hid (RB.keep (RB.drew HR.out) hb (RB.lt (RB.drew HR.out)))
       have HZ1 := hid (RB.keep (RB.drew HZ.out) hb (RB.lt (RB.drew HZ.out)))
       clear hb
       refine hK.out _ _ (trivial) (fun hHeld => ?_)
       clear hK K
       try simp only [Act.put, aS, aZ, aC]
       refine zR [5] ?_
       refine hDo rfl (fun K hK => ?_) ?_
       ·refine zD5 rfl (.tmp 1) (.tmp 17) rfl (G + 1) rfl _ rfl (by simp [zD6]) (stZ g h) (zD6 g h) HR1.out ?_
        intro w2 hr2 ho2
        rw [HN.out] at hr2
        have HR3 := hid hr2
        have HZ3 := hid (ho2.rows (by omega) HZ1.out)
        have HB3 := hid (HB1.out.trans (ho2.below (show G ≤ G + 1 by omega)))
        clear hr2 ho2
        refine hK.out _ _ (trivial) (fun hHeld => ?_)
        clear hK K
        try simp only [Act.put]
        refine wpAnyH_done (by kernel_rfl) ?_ _
        refine NoPanic.normal ?_
        go_wp2
        go_roundw
        case rel => exact ⟨h + 1, by go_num, by omega, by omega, HR3, HZ3, HB3⟩
        case measure => simp [intOf]; omega
       ·exact AllReadyH.nil
      ·exact AllReadyH.nil
     ·exact AllReadyH.nil
    ·have HE : Hid (stZ g h = stZ (g + 1) 1) := hid (by rw [show h = g by omega]; exact zKL g (by omega) hg1)
     go_wp2
     go_roundw
     case rel => exact ⟨g + 1, by go_num, by omega, by omega, by rw [← HE.out]; exact HR, HZ, HB⟩
     case measure => simp [intOf]; omega
  ·have HE : Hid (stZ g 1 = zS) := hid (by rw [show g = 6 by omega]; exact zKM)
   rw [HE.out] at HR
   go_wp2_with (first
    | (refine zAi rfl (.tmp 1) rfl (G + 1) rfl zS rfl HR.out ?_)
    | (refine zAW rfl (.tmp 0) (.tmp 18) rfl G rfl zS rfl rfl z0 zAF HZ.out ?_; intro w2 hr2 ho2; have HR2 := hid hr2; have HO2 := hid ho2; clear hr2 ho2))
   have HB2 : Below G w w2 := HB.out.trans (HO2.out.below (Nat.le_refl _))
   exact bodyPost_ret (zFR rfl _ _ G _ rfl rfl HR2.out) rfl ⟨rfl, HB2⟩
end
section
open Go.RowKit
set_option maxRecDepth 20000 in
theorem zI9 (w : World) :
  Calls Tryz.prog 54 #[] w fun e w' => e = .returned (.agg (rv zS)) ∧ Below w.heap.size w w' := by
 obtain ⟨w0, hw0⟩ : ∃ w0, (w.alloc (.cells #[.int .i64 0, .int .i64 0, .int .i64 0, .int .i64 0, .int .i64 0, .int .i64 0, .int .i64 0, .int .i64 0, .int .i64 0, .int .i64 0] 32)).alloc (.cells #[.int .i64 0, .int .i64 0, .int .i64 0, .int .i64 0, .int .i64 0, .int .i64 0, .int .i64 0, .int .i64 0, .int .i64 0, .int .i64 0] 32) = w0 := ⟨_, rfl⟩
 obtain ⟨hb0, hr0, hr1, _⟩ := zDa w z0 hw0
 obtain ⟨G, hG⟩ : ∃ G, w.heap.size = G := ⟨_, rfl⟩
 rw [hG] at hr0 hr1 hb0 ⊢
 have HR0 := hid hr0
 have HR1 := hid hr1
 have HB0 := hid hb0
 clear hr0 hr1 hb0
 go_enter Tryz.func54, Tryz.ntmps54
 go_wp2_with (refine zAW rfl (.tmp 1) (.tmp 4) rfl (G + 1) rfl z0 rfl rfl z0 zAF HR1.out ?_; intro w1 hr1 ho1; have HR1 := hid hr1; have HR0 := hid (ho1.rows (by omega) HR0.out); have HB0 := hid (HB0.out.trans (ho1.below (show G ≤ G + 1 by omega))); clear hr1 ho1)
 go_loopw [2, 3] (fun v _ wr => ∃ g : Nat, v = .int .i64 g ∧ 1 ≤ g ∧ g ≤ 6 ∧ Hid (RB wr (G + 1) (stZ g 1)) ∧ Hid (RB wr G z0) ∧ Hid (Below G w wr)) (fun v _ _ => 6 - (intOf v).toNat)
 case atStart => exact ⟨1, rfl, by omega, by omega, hid (by rw [zPm]; exact HR1.out), HR0, HB0⟩
 case round =>
  obtain ⟨g, rfl, hg1, hg6, HR, HZ, HB⟩ := hrel
  rename World => wa
  by_cases hlt : g ≤ 5
  ·have hd5 : decide ((g : Int) ≤ 5) = true := by simp; omega
   go_wp2
   go_loopw [3] (fun v wr => ∃ h : Nat, v = .int .i64 h ∧ 1 ≤ h ∧ h ≤ g ∧ Hid (RB wr (G + 1) (stZ g h)) ∧ Hid (RB wr G z0) ∧ Hid (Below G w wr)) (fun v _ => 6 - (intOf v).toNat)
   case atStart => exact ⟨1, rfl, by omega, by omega, HR, HZ, HB⟩
   case round =>
    obtain ⟨h, rfl, hh1, hh6, HR, HZ, HB⟩ := hrel
    rename World => wb
    by_cases hlh : h < g
    ·have hpw := zFS h (by omega)
     have HN := hid (zNe g (by omega) h (by omega) ⟨hg1, hh1, hlh⟩)
     have hc := HR.out.cell (zD6 g h) (show g < 10 by omega)
     have hf := HR.out.frozen g
     go_wp2_with fail
     go_region
     have HR3 : Hid (RB (wb.drew.setCell ⟨G + 1, g, none⟩ (.int .i64 (bits .or .i64 (bt (stZ g h) g) (2 ^ h)))) (G + 1) (stZ g (h + 1))) := hid (by
      rw [← HN.out]; exact RB.set (RB.drew HR.out) g _)
     have HZ3 := hid ((Only.ofCell wb.drew (G + 1) g (.int .i64 (bits .or .i64 (bt (stZ g h) g) (2 ^ h)))).rows (show G ≠ G + 1 by omega) (RB.drew HZ.out))
     have HB3 := hid (HB.out.drew.setCell (p := ⟨G + 1, g, none⟩) (show G ≤ G + 1 by omega) (.int .i64 (bits .or .i64 (bt (stZ g h) g) (2 ^ h))))
     go_wp2
     go_roundw
     case rel => exact ⟨h + 1, by go_num, by omega, by omega, HR3, HZ3, HB3⟩
     case measure => simp [intOf]; omega
    ·have HE : Hid (stZ g h = stZ (g + 1) 1) := hid (by rw [show h = g by omega]; exact zKL g (by omega) hg1)
     go_wp2
     go_roundw
     case rel => exact ⟨g + 1, by go_num, by omega, by omega, by rw [← HE.out]; exact HR, HZ, HB⟩
     case measure => simp [intOf]; omega
  ·have HE : Hid (stZ g 1 = zS) := hid (by rw [show g = 6 by omega]; exact zKM)
   rw [HE.out] at HR
   go_wp2_with (first
    | (refine zAi rfl (.tmp 1) rfl (G + 1) rfl zS rfl HR.out ?_)
    | (refine zAW rfl (.tmp 0) (.tmp 22) rfl G rfl zS rfl rfl z0 zAF HZ.out ?_; intro w2 hr2 ho2; have HR2 := hid hr2; have HO2 := hid ho2; clear hr2 ho2))
   have HB2 : Below G w w2 := HB.out.trans (HO2.out.below (Nat.le_refl _))
   exact bodyPost_ret (zFR rfl _ _ G _ rfl rfl HR2.out) rfl ⟨rfl, HB2⟩
end
section
open Go.RowKit
def eE (z : List Int) (g h : Int) : Int := if inB 1 [g, h] = true then (if g = h ∨ T z h.toNat g.toNat = true then 25 else 0) else 21
def eV (z : List Int) (g h : Int) : List Int := if eE z g h = 0 then eR z g.toNat h.toNat else z0
theorem zKO (z : List Int) (g h : Int) : (eV z g h).length = 10 := by
 unfold eV; split
 ·exact zA6 ..
 ·rfl
theorem zQN {z : List Int} {g h : Int} (hi : inB 1 [g, h] = false) : eE z g h = 21 ∧ eV z g h = z0 := by
 have : eE z g h = 21 := by rw [eE, if_neg (by simp [hi])]
 exact ⟨this, by rw [eV, this, if_neg (by decide)]⟩
theorem zPn {z : List Int} {g h : Int} (hi : inB 1 [g, h] = true) (hc : g = h ∨ T z h.toNat g.toNat = true) : eE z g h = 25 ∧ eV z g h = z0 := by
 have : eE z g h = 25 := by rw [eE, if_pos hi, if_pos hc]
 exact ⟨this, by rw [eV, this, if_neg (by decide)]⟩
theorem zQa {z : List Int} {g h : Int} (hi : inB 1 [g, h] = true) (hc : ¬ (g = h ∨ T z h.toNat g.toNat = true)) : eE z g h = 0 ∧ eV z g h = eR z g.toNat h.toNat := by
 have : eE z g h = 0 := by rw [eE, if_pos hi, if_neg hc]
 exact ⟨this, by rw [eV, this, if_pos rfl]⟩
theorem zKP {x y : Nat} (hx : x ≤ 9) (hy : y ≤ 9) : inB 0 [(x : Int), (y : Int)] = true := by rw [zBz]; omega
end
section
open Go.RowKit
set_option maxRecDepth 20000 in
theorem zKQ (z : List Int) (hz : z.length = 10) (g h : Int) (w : World) :
  Calls Tryz.prog 56 #[.agg (rv z), .int .i64 g, .int .i64 h] w fun e w' => e = .returned (.tuple #[.agg (rv (eV z g h)), .int .i64 (eE z g h)]) ∧ Below w.heap.size w w' := by
 obtain ⟨w0, hw0⟩ : ∃ w0, (w.alloc (.cells (rv z) 32)).alloc (.cells #[.int .i64 0, .int .i64 0, .int .i64 0, .int .i64 0, .int .i64 0, .int .i64 0, .int .i64 0, .int .i64 0, .int .i64 0, .int .i64 0] 32) = w0 := ⟨_, rfl⟩
 obtain ⟨hb0, hr0, hr1, hs0⟩ := zDa w z hw0
 obtain ⟨G, hG⟩ : ∃ G, w.heap.size = G := ⟨_, rfl⟩
 rw [hG] at hr0 hr1 hb0 hs0 ⊢
 have HR0 := hid hr0
 have HR1 := hid hr1
 have HB0 := hid hb0
 have HS0 := hid hs0
 have HZ := hid hz
 clear hr0 hr1 hb0 hs0 hz
 cases hin : inB 1 [g, h] with
 | false =>
  have HE := hid (zQN (z := z) hin)
  have hin' : ¬ ((1 ≤ g ∧ g ≤ 9) ∧ 1 ≤ h ∧ h ≤ 9) := fun hh => by rw [(zBz 1 g h).2 hh] at hin; cases hin
  clear hin
  by_cases a1 : g < 1
  ·clear hin'
   go_enter Tryz.func56, Tryz.ntmps56
   go_wp2_with (refine zAW rfl (.tmp 6) (.tmp 24) rfl (G + 1) rfl z0 rfl rfl z0 zAF HR1.out ?_; intro w2 hr2 ho2; have HR2 := hid hr2; have HO2 := hid ho2; clear hr2 ho2)
   have HB2 : Below G w w2 := HB0.out.trans (HO2.out.below (by omega))
   exact bodyPost_ret (zBy rfl _ _ (G + 1) _ rfl rfl HR2.out) rfl ⟨by rw [HE.out.1, HE.out.2]; rfl, HB2⟩
  ·by_cases a2 : 9 < g
   ·clear hin'
    go_enter Tryz.func56, Tryz.ntmps56
    go_wp2_with (refine zAW rfl (.tmp 6) (.tmp 24) rfl (G + 1) rfl z0 rfl rfl z0 zAF HR1.out ?_; intro w2 hr2 ho2; have HR2 := hid hr2; have HO2 := hid ho2; clear hr2 ho2)
    have HB2 : Below G w w2 := HB0.out.trans (HO2.out.below (by omega))
    exact bodyPost_ret (zBy rfl _ _ (G + 1) _ rfl rfl HR2.out) rfl ⟨by rw [HE.out.1, HE.out.2]; rfl, HB2⟩
   ·by_cases b1 : h < 1
    ·clear hin'
     go_enter Tryz.func56, Tryz.ntmps56
     go_wp2_with (refine zAW rfl (.tmp 6) (.tmp 24) rfl (G + 1) rfl z0 rfl rfl z0 zAF HR1.out ?_; intro w2 hr2 ho2; have HR2 := hid hr2; have HO2 := hid ho2; clear hr2 ho2)
     have HB2 : Below G w w2 := HB0.out.trans (HO2.out.below (by omega))
     exact bodyPost_ret (zBy rfl _ _ (G + 1) _ rfl rfl HR2.out) rfl ⟨by rw [HE.out.1, HE.out.2]; rfl, HB2⟩
    ·have b2 : 9 < h := by omega
     clear hin'
     go_enter Tryz.func56, Tryz.ntmps56
     go_wp2_with (refine zAW rfl (.tmp 6) (.tmp 24) rfl (G + 1) rfl z0 rfl rfl z0 zAF HR1.out ?_; intro w2 hr2 ho2; have HR2 := hid hr2; have HO2 := hid ho2; clear hr2 ho2)
     have HB2 : Below G w w2 := HB0.out.trans (HO2.out.below (by omega))
     exact bodyPost_ret (zBy rfl _ _ (G + 1) _ rfl rfl HR2.out) rfl ⟨by rw [HE.out.1, HE.out.2]; rfl, HB2⟩
 | true =>
  obtain ⟨⟨g1, g2⟩, h1, h2⟩ := (zBz 1 g h).1 hin
  obtain ⟨x, rfl⟩ := Int.eq_ofNat_of_zero_le (show 0 ≤ g by omega)
  obtain ⟨y, rfl⟩ := Int.eq_ofNat_of_zero_le (show 0 ≤ h by omega)
  have HIN := hid hin
  have c1 : decide ((x : Int) < 1) = false := by simp; omega
  have c2 : decide ((y : Int) < 1) = false := by simp; omega
  clear hin
  by_cases hxy : x = y
  ·subst hxy
   have HE := hid (zPn (z := z) HIN.out (.inl rfl))
   go_enter Tryz.func56, Tryz.ntmps56
   go_wp2_with (refine zAW rfl (.tmp 6) (.tmp 34) rfl (G + 1) rfl z0 rfl rfl z0 zAF HR1.out ?_; intro w2 hr2 ho2; have HR2 := hid hr2; have HO2 := hid ho2; clear hr2 ho2)
   have HB2 : Below G w w2 := HB0.out.trans (HO2.out.below (by omega))
   exact bodyPost_ret (zBy rfl _ _ (G + 1) _ rfl rfl HR2.out) rfl ⟨by rw [HE.out.1, HE.out.2]; rfl, HB2⟩
  ·have hne : ((x : Int) == y) = false := by simp; omega
   have KT := hid fun w1 => zDP z HZ.out y x w1
   have ht : tgt z y x = T z y x := by rw [tgt, zKP (by omega) (by omega)]; rfl
   rw [ht] at KT
   have HGw : Hid (G + 2 ≤ w0.heap.size) := hid (by have := HS0.out; omega)
   cases hT : T z y x with
   | true =>
    have HE := hid (zPn (z := z) HIN.out (.inr hT))
    rw [hT] at KT
    clear hT ht
    go_enter Tryz.func56, Tryz.ntmps56
    go_wp2_with (refine zAi rfl (.tmp 3) rfl G rfl z HZ.out HR0.out ?_)
    refine (KT.out _).mono ?_
    rintro e w1 ⟨rfl, hb1⟩
    have HO1 := hid (RB.keep HR1.out hb1 HR1.out.lt)
    have HB1 := hid (HB0.out.trans (hb1.mono (show G ≤ w0.heap.size by have := HGw.out; omega)))
    clear hb1
    go_wp2_with (refine zAW rfl (.tmp 6) (.tmp 34) rfl (G + 1) rfl z0 rfl rfl z0 zAF HO1.out ?_; intro w2 hr2 ho2; have HR2 := hid hr2; have HO2 := hid ho2; clear hr2 ho2)
    have HB2 : Below G w w2 := HB1.out.trans (HO2.out.below (by omega))
    exact bodyPost_ret (zBy rfl _ _ (G + 1) _ rfl rfl HR2.out) rfl ⟨by rw [HE.out.1, HE.out.2]; rfl, HB2⟩
   | false =>
    have HE := hid (zQa (z := z) HIN.out (show ¬ ((x : Int) = y ∨ T z ((y : Int).toNat) ((x : Int).toNat) = true) by
     rintro (h | h)
     ·omega
     ·rw [Int.toNat_natCast, Int.toNat_natCast, hT] at h; cases h))
    rw [hT] at KT
    have hpw := zFS y (by omega)
    have HG0 : Hid (G ≤ w.heap.size) := hid (by omega)
    have d9 : decide ((y : Int) < 10) = true := by simp; omega
    clear hT ht
    go_enter Tryz.func56, Tryz.ntmps56
    go_wp2_with (refine zAi rfl (.tmp 3) rfl G rfl z HZ.out HR0.out ?_)
    refine (KT.out _).mono ?_
    rintro e w1 ⟨rfl, hb1⟩
    have HRA := hid (RB.keep HR0.out hb1 HR0.out.lt)
    have HO1 := hid (RB.keep HR1.out hb1 HR1.out.lt)
    have HB1 := hid (HB0.out.trans (hb1.mono (show G ≤ w0.heap.size by have := HGw.out; omega)))
    have HGw1 : Hid (G + 2 ≤ w1.heap.size) := hid (Nat.le_trans HGw.out hb1.size)
    clear hb1
    go_wp2_with (first
     | (refine zAi rfl (.tmp 3) rfl G rfl z HZ.out HRA.out ?_)
     | (refine zAW rfl (.tmp 8) (.tmp 35) rfl w1.heap.size rfl z rfl HZ.out z0 zAF (heap_alloc_new w1 _) ?_; intro w2 hr2 ho2; have HR2 := hid hr2; have HO2 := hid ho2; clear hr2 ho2))
    have HZ2 := hid (HO2.out.rows (show G ≠ w1.heap.size by have := HGw1.out; omega) (RB.alloc HRA.out _))
    have HT2 := hid (HO2.out.rows (show G + 1 ≠ w1.heap.size by have := HGw1.out; omega) (RB.alloc HO1.out _))
    have HB2 := hid ((HB1.out.alloc (show G ≤ w1.heap.size by have := HGw1.out; omega) _).trans (HO2.out.below (show G ≤ w1.heap.size by have := HGw1.out; omega)))
    clear HO2
    go_loopw [9] (fun v wr => ∃ n : Nat, v = .int .i64 n ∧ n ≤ 10 ∧ Hid (RB wr w1.heap.size (eTo z x y n)) ∧ Hid (RB wr G z) ∧ Hid (RB wr (G + 1) z0) ∧ Hid (Below G w wr)) (fun v _ => 10 - (intOf v).toNat)
    case atStart => exact ⟨0, rfl, by omega, hid (by rw [zMK HZ.out]; exact HR2.out), HZ2, HT2, HB2⟩
    case round =>
     obtain ⟨n, rfl, hn, HRa, HZa, HOa, HBa⟩ := hrel
     rename World => wa
     by_cases hlt : n < 10
     ·have hdn : decide ((n : Int) < 10) = true := by simp; omega
      by_cases hnx : n = x
      ·have hyes : n = x ∨ T z n x = true := .inl hnx
       have hq : ((n : Int) == x) = true := by simp; omega
       clear hnx
       have hcn := HZa.out.cell HZ.out hlt
       have hcy := HZa.out.cell HZ.out (show y < 10 by omega)
       have hcb := HRa.out.cell (zA6 ..) hlt
       have hfb := HRa.out.frozen n
       have HRd := hid (RB.set (RB.drew HRa.out) n (bits .or .i64 (bits .or .i64 (bt z n) (bt z y)) (2 ^ y)))
       rw [eTo_yes' hlt hyes] at HRd
       have HOn := hid (Only.ofCell wa.drew w1.heap.size n (.int .i64 (bits .or .i64 (bits .or .i64 (bt z n) (bt z y)) (2 ^ y))))
       have HZd := hid (HOn.out.rows (show G ≠ w1.heap.size by have := HGw1.out; omega) (RB.drew HZa.out))
       have HOd := hid (HOn.out.rows (show G + 1 ≠ w1.heap.size by have := HGw1.out; omega) (RB.drew HOa.out))
       have HBd := hid (HBa.out.drew.trans (HOn.out.below (show G ≤ w1.heap.size by have := HGw1.out; omega)))
       clear hyes HOn
       go_wp2_with fail
       go_region
       go_wp2
       go_roundw
       case rel => exact ⟨n + 1, by go_num, by omega, HRd, HZd, HOd, HBd⟩
       case measure => simp [intOf]; omega
      ·have hq : ((n : Int) == x) = false := by simp; omega
       have htn : tgt z n x = T z n x := by rw [tgt, zKP (by omega) (by omega)]; rfl
       have KN := hid fun w1 => zDP z HZ.out n x w1
       rw [htn] at KN
       clear htn
       cases hT : T z n x with
       | true =>
        have hyes : n = x ∨ T z n x = true := .inr hT
        rw [hT] at KN
        clear hT hnx
        go_wp2_with (refine zAi rfl (.tmp 3) rfl G rfl z HZ.out HZa.out ?_)
        refine (KN.out _).mono ?_
        rintro e wb ⟨rfl, hbb⟩
        have HRb := hid (RB.keep HRa.out hbb HRa.out.lt)
        have HZb := hid (RB.keep HZa.out hbb HZa.out.lt)
        have HOb := hid (RB.keep HOa.out hbb HOa.out.lt)
        have HBb := hid (HBa.out.trans (hbb.mono (Nat.le_trans HG0.out HBa.out.size)))
        clear hbb
        have hcn := HZb.out.cell HZ.out hlt
        have hcy := HZb.out.cell HZ.out (show y < 10 by omega)
        have hcb := HRb.out.cell (zA6 ..) hlt
        have hfb := HRb.out.frozen n
        have HRd := hid (RB.set (RB.drew HRb.out) n (bits .or .i64 (bits .or .i64 (bt z n) (bt z y)) (2 ^ y)))
        rw [eTo_yes' hlt hyes] at HRd
        have HOn := hid (Only.ofCell wb.drew w1.heap.size n (.int .i64 (bits .or .i64 (bits .or .i64 (bt z n) (bt z y)) (2 ^ y))))
        have HZd := hid (HOn.out.rows (show G ≠ w1.heap.size by have := HGw1.out; omega) (RB.drew HZb.out))
        have HOd := hid (HOn.out.rows (show G + 1 ≠ w1.heap.size by have := HGw1.out; omega) (RB.drew HOb.out))
        have HBd := hid (HBb.out.drew.trans (HOn.out.below (show G ≤ w1.heap.size by have := HGw1.out; omega)))
        clear hyes HOn
        go_wp2_with fail
        go_region
        go_wp2
        go_roundw
        case rel => exact ⟨n + 1, by go_num, by omega, HRd, HZd, HOd, HBd⟩
        case measure => simp [intOf]; omega
       | false =>
        have HNO := hid (zPl (z := z) (g := x) (h := y) hlt (by rw [hT]; simpa using hnx))
        rw [hT] at KN
        clear hT hnx
        go_wp2_with (refine zAi rfl (.tmp 3) rfl G rfl z HZ.out HZa.out ?_)
        refine (KN.out _).mono ?_
        rintro e wb ⟨rfl, hbb⟩
        have HRb := hid (RB.keep HRa.out hbb HRa.out.lt)
        have HZb := hid (RB.keep HZa.out hbb HZa.out.lt)
        have HOb := hid (RB.keep HOa.out hbb HOa.out.lt)
        have HBb := hid (HBa.out.trans (hbb.mono (Nat.le_trans HG0.out HBa.out.size)))
        clear hbb
        go_wp2
        go_roundw
        case rel => exact ⟨n + 1, by go_num, by omega, by rw [HNO.out]; exact HRb, HZb, HOb, HBb⟩
        case measure => simp [intOf]; omega
     ·have HEr : Hid (eTo z x y n = eR z x y) := hid (by rw [show n = 10 by omega]; rfl)
      rw [HEr.out] at HRa
      go_wp2_with (first
       | (refine zAi rfl (.tmp 8) rfl w1.heap.size rfl (eR z x y) (zA6 ..) HRa.out ?_)
       | (refine zAW rfl (.tmp 6) (.tmp 61) rfl (G + 1) rfl (eR z x y) rfl (zA6 ..) z0 zAF HOa.out ?_; intro w3 hr3 ho3; have HR3 := hid hr3; have HO3 := hid ho3; clear hr3 ho3))
      have HB3 : Below G w w3 := HBa.out.trans (HO3.out.below (by omega))
      exact bodyPost_ret (zBy rfl _ _ (G + 1) _ (zA6 ..) rfl HR3.out) rfl ⟨by rw [HE.out.1, HE.out.2]; rfl, HB3⟩
end
end Go.Proofs.YtcjbhdgjcpnklaaGreatDoor
