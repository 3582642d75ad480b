/- QuoteAll's walk. -/
import Derived.Test.YtfbhokigeneinaaDoorQw
namespace Go.Proofs.YtfbhokigeneinaaDoor
open Go.RowKit

set_option maxRecDepth 20000 in
set_option maxHeartbeats 2000000 in
theorem quoteAll_any (a : Option Addr) (len cap : Nat) (l : List Int) (a' : Option Addr) (len' cap' : Nat) (l' : List Int) (w : World) (h : Bs w a len cap l) (h' : Bs w a' len' cap' l') (ht : Tab w) :
    Calls Tryd.prog 3 #[.slice a len cap, .slice a' len' cap'] w fun e w' => e = .returned (.bool true) ∧ Below w.heap.size w w' := by
  have HT := Lib.hid ht
  have H := Lib.hid h
  have HF := Lib.hid (few_bs h)
  have H' := Lib.hid h'
  have HF' := Lib.hid (few_bs h')
  have hM : min len 100 ≤ 100 := Nat.min_le_right _ _
  have hM' : min len' 100 ≤ 100 := Nat.min_le_right _ _
  clear ht h h'
  go_enter Tryd.func3, Tryd.ntmps3
  go_wp2_with fail
  refine (shown_any _ HT.out).mono ?_
  rintro e w1 ⟨rfl, hb1⟩
  have HW1 := Lib.hid hb1
  clear hb1
  -- Take
  go_wp2_with fail
  refine (few_any _ _ _ _ _ (H.out.below HW1.out)).mono ?_
  rintro e w' ⟨rfl, rfl⟩
  go_wp2_with fail
  refine (qtake_any _ _ _ _ _ (HF.out.below HW1.out) (HT.out.keep HW1.out) (by omega)).mono ?_
  rintro e w2 ⟨a1, c1, rfl, ho1, hb2⟩
  have HW2 : Hid (Below w.heap.size w w2) := Lib.hid (HW1.out.trans (hb2.mono HW1.out.size))
  have HO1 := Lib.hid ho1.bs
  clear hb2 ho1
  go_wp2_with fail
  refine (few_any _ _ _ _ _ (H.out.below HW2.out)).mono ?_
  rintro e w' ⟨rfl, rfl⟩
  go_wp2_with fail
  refine (rqtake_any _ _ _ _ _ (HF.out.below HW2.out) (by omega)).mono ?_
  rintro e w3 ⟨a2, c2, rfl, ho2, hb3⟩
  have HW3 : Hid (Below w.heap.size w w3) := Lib.hid (HW2.out.trans (hb3.mono HW2.out.size))
  have HO1b := Lib.hid (HO1.out.below hb3)
  have HO2 := Lib.hid ho2.bs
  clear hb3 ho2 HO1
  -- behind a quote
  go_wp2_with fail
  refine (few_any _ _ _ _ _ ((H.out.below HW3.out).alloc _)).mono ?_
  rintro e w' ⟨rfl, rfl⟩
  go_wp2_with (at_builtin; refine Hid.out ?_)
  refine Lib.hid ?_
  refine wpList_app rfl (.tmp 38) (.tmp 40) 22 rfl 5 w3.heap.size Tryd.underlying22 info5 _ _ _ [39] rfl (OwnB.lit w3 5 _ (Nat.le_refl _) rfl (by simp) rfl rfl (by decide)) _ _ _ _ rfl ((HF.out.below HW3.out).alloc _) (by omega) (by simp) ?_
  intro a3 c3 w4 ho4 hb4
  have hb4' : Below w3.heap.size w3 w4 := ((Below.refl _ _).alloc (Nat.le_refl _) _).trans hb4
  have HL4 : Hid (Bs w4 a3 (1 + min len 100) c3 (39 :: l.take 100)) := Lib.hid ho4.bs
  have HW4 : Hid (Below w.heap.size w w4) := Lib.hid (HW3.out.trans (hb4'.mono HW3.out.size))
  have HO1c := Lib.hid (HO1b.out.below hb4')
  have HO2c := Lib.hid (HO2.out.below hb4')
  clear ho4 hb4 hb4' HO1b HO2
  go_wp2_with fail
  refine (qtake_any _ _ _ _ _ HL4.out (HT.out.keep HW4.out) (by omega)).mono ?_
  rintro e w5 ⟨a4, c4, rfl, ho5, hb5⟩
  have HW5 : Hid (Below w.heap.size w w5) := Lib.hid (HW4.out.trans (hb5.mono HW4.out.size))
  have HO3 := Lib.hid ho5.bs
  have HL5 := Lib.hid (HL4.out.below hb5)
  have HO1d := Lib.hid (HO1c.out.below hb5)
  have HO2d := Lib.hid (HO2c.out.below hb5)
  clear ho5 hb5 HO1c HO2c HL4
  go_wp2_with fail
  refine (rqtake_any _ _ _ _ _ HL5.out (by omega)).mono ?_
  rintro e w6 ⟨a5, c5, rfl, ho6, hb6⟩
  have HW6 : Hid (Below w.heap.size w w6) := Lib.hid (HW5.out.trans (hb6.mono HW5.out.size))
  have HO4 := Lib.hid ho6.bs
  have HO3b := Lib.hid (HO3.out.below hb6)
  have HO1e := Lib.hid (HO1d.out.below hb6)
  have HO2e := Lib.hid (HO2d.out.below hb6)
  clear ho6 hb6 HO1d HO2d HL5 HO3
  -- Put
  go_wp2_with fail
  refine (few_any _ _ _ _ _ (H'.out.below HW6.out)).mono ?_
  rintro e w' ⟨rfl, rfl⟩
  go_wp2_with fail
  refine (qput_any _ _ _ _ _ (HF'.out.below HW6.out) (HT.out.keep HW6.out) (by omega)).mono ?_
  rintro e w7 ⟨a6, c6, rfl, ho7, hb7⟩
  have HW7 : Hid (Below w.heap.size w w7) := Lib.hid (HW6.out.trans (hb7.mono HW6.out.size))
  have HO5 := Lib.hid ho7.bs
  have HO4b := Lib.hid (HO4.out.below hb7)
  have HO3c := Lib.hid (HO3b.out.below hb7)
  have HO1f := Lib.hid (HO1e.out.below hb7)
  have HO2f := Lib.hid (HO2e.out.below hb7)
  clear ho7 hb7 HO1e HO2e HO3b HO4
  go_wp2_with fail
  refine (few_any _ _ _ _ _ (H'.out.below HW7.out)).mono ?_
  rintro e w' ⟨rfl, rfl⟩
  go_wp2_with fail
  refine (rqput_any _ _ _ _ _ (HF'.out.below HW7.out) (by omega)).mono ?_
  rintro e w8 ⟨a7, c7, rfl, ho8, hb8⟩
  have HW8 : Hid (Below w.heap.size w w8) := Lib.hid (HW7.out.trans (hb8.mono HW7.out.size))
  have k6 := ho8.bs.str (P := Tryd.prog) 22 9 5 Tryd.underlying22 Tryd.underlying5 Tryd.underlying9
  have k5 := (HO5.out.below hb8).str (P := Tryd.prog) 22 9 5 Tryd.underlying22 Tryd.underlying5 Tryd.underlying9
  have k4 := (HO4b.out.below hb8).str (P := Tryd.prog) 22 9 5 Tryd.underlying22 Tryd.underlying5 Tryd.underlying9
  have k3 := (HO3c.out.below hb8).str (P := Tryd.prog) 22 9 5 Tryd.underlying22 Tryd.underlying5 Tryd.underlying9
  have k2 := (HO2f.out.below hb8).str (P := Tryd.prog) 22 9 5 Tryd.underlying22 Tryd.underlying5 Tryd.underlying9
  have k1 := (HO1f.out.below hb8).str (P := Tryd.prog) 22 9 5 Tryd.underlying22 Tryd.underlying5 Tryd.underlying9
  clear ho8 hb8 HO1f HO2f HO3c HO4b HO5
  generalize tk (l.take 100) = q1 at *
  generalize tk (39 :: l.take 100) = q2 at *
  generalize ptT (l'.take 100) = q3 at *
  generalize ptE (l'.take 100) = q4 at *
  go_wp2
  go_ret
  exact ⟨rfl, HW8.out⟩

end Go.Proofs.YtfbhokigeneinaaDoor
