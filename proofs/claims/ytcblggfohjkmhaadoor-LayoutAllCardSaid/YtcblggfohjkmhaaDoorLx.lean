/- LayoutAll's walk. -/
import Derived.Test.YtcblggfohjkmhaaDoorLe
namespace Go.Proofs.YtcblggfohjkmhaaDoor
open Go.RowKit

theorem layoutAll_any (a : Option Addr) (len cap : Nat) (l : List Int) (w : World) (h : Bs w a len cap l) (ht : Tab w) :
    Calls Tryd.prog 3 #[.slice a len cap] w fun e w' => e = .returned (.bool true) ∧ Below w.heap.size w w' := by
  have H := Lib.hid h
  have HF := Lib.hid (few_bs h)
  have HT := Lib.hid ht
  clear h ht
  have h150 : min len 150 ≤ 1000000 := by omega
  go_enter Tryd.func3, Tryd.ntmps3
  go_wp2_with fail
  refine (shown_any _ HT.out).mono ?_
  rintro e w1 ⟨rfl, hb1⟩
  have HW1 := Lib.hid hb1
  clear hb1
  go_wp2_with fail
  refine (few_any _ _ _ _ _ (H.out.below HW1.out)).mono ?_
  rintro e w' ⟨rfl, rfl⟩
  go_wp2_with fail
  refine (lskip_any _ _ _ _ _ (HF.out.below HW1.out) (HT.out.keep HW1.out) h150).mono ?_
  rintro e w2 ⟨rfl, hb2⟩
  have HW2 : Hid (Below w.heap.size w w2) := Lib.hid (HW1.out.trans (hb2.mono HW1.out.size))
  clear hb2
  go_wp2_with fail
  refine (few_any _ _ _ _ _ (H.out.below HW2.out)).mono ?_
  rintro e w' ⟨rfl, rfl⟩
  go_wp2_with fail
  refine (rskip_any _ _ _ _ _ (HF.out.below HW2.out) h150).mono ?_
  rintro e w' ⟨rfl, rfl⟩
  generalize sk (l.take 150) = q1 at *
  go_wp2
  go_ret
  exact ⟨rfl, HW2.out⟩

end Go.Proofs.YtcblggfohjkmhaaDoor
