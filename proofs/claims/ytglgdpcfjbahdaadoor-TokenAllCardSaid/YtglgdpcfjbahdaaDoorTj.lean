/- TokenAll's walk. -/
import Derived.Test.YtglgdpcfjbahdaaDoorTi
import Derived.Test.YtglgdpcfjbahdaaDoorTg
namespace Go.Proofs.YtglgdpcfjbahdaaDoor
open Go.RowKit

set_option maxRecDepth 20000 in
set_option maxHeartbeats 1000000 in
theorem tokenAll_any (a : Option Addr) (len cap : Nat) (l : List Int) (k : Int) (w : World) (h : Bs w a len cap l) (ht : Tab w) :
    Calls Tryd.prog 3 #[.slice a len cap, .int .i64 k] w fun e w' => e = .returned (.bool true) ∧ Below w.heap.size w w' := by
  have H := Lib.hid h
  have HF := Lib.hid (few_bs h)
  have HT := Lib.hid ht
  clear h ht
  have h120 : min len 120 ≤ 120 := by omega
  obtain ⟨q, hq, hq1⟩ := and127 k
  obtain ⟨x, hx⟩ : ∃ x, x = nxI (l.take 120) k := ⟨_, rfl⟩
  obtain ⟨y, hy⟩ : ∃ y, y = nxI (l.take 120) (q : Int) := ⟨_, rfl⟩
  have HX := Lib.hid hx
  have HY := Lib.hid hy
  clear hx hy
  go_enter Tryd.func3, Tryd.ntmps3
  go_wp2_with fail
  refine (shown_any _ HT.out).mono ?_
  rintro e w1 ⟨rfl, hb1⟩
  have HW1 := Lib.hid hb1
  clear hb1
  go_wp2_with fail
  refine (few_any _ _ _ _ _ (H.out.below HW1.out)).mono ?_
  rintro e w' ⟨rfl, rfl⟩
  go_wp2_with fail
  refine (next_int _ _ _ _ k _ (HF.out.below HW1.out) (HT.out.keep HW1.out) (by omega)).mono ?_
  rw [nxV_form, ← HX.out]
  rintro e w2 ⟨rfl, hb2⟩
  have hc2 := hb2
  have HW2 : Hid (Below w.heap.size w w2) := Lib.hid (HW1.out.trans (hc2.mono HW1.out.size))
  clear hb2 hc2
  go_wp2_with fail
  refine (rnext_int _ _ _ _ k _ ((HF.out.below HW2.out).alloc _) (by omega)).mono ?_
  rw [nxV_form, ← HX.out]
  rintro e w3 ⟨rfl, hb3⟩
  have hc3 := past_alloc hb3
  have HW3 : Hid (Below w.heap.size w w3) := Lib.hid (HW2.out.trans (hc3.mono HW2.out.size))
  have HV2_3 : Hid (TV w2.heap.size _ w3) := Lib.hid ((tv_new w2 _ 27).keep hb3)
  clear hb3 hc3
  go_wp2_with fail
  refine (next_int _ _ _ _ (q : Int) _ ((HF.out.below HW3.out).alloc _) (HT.out.keep (HW3.out.alloc HW3.out.size _)) (by omega)).mono ?_
  rw [nxV_form, ← HY.out]
  rintro e w4 ⟨rfl, hb4⟩
  have hc4 := past_alloc hb4
  have HW4 : Hid (Below w.heap.size w w4) := Lib.hid (HW3.out.trans (hc4.mono HW3.out.size))
  have HV3_4 : Hid (TV w3.heap.size _ w4) := Lib.hid ((tv_new w3 _ 27).keep hb4)
  have HV2_4 := Lib.hid (HV2_3.out.keep hc4)
  clear hb4 hc4
  go_wp2_with fail
  refine (rnext_int _ _ _ _ (q : Int) _ ((HF.out.below HW4.out).alloc _) (by omega)).mono ?_
  rw [nxV_form, ← HY.out]
  rintro e w5 ⟨rfl, hb5⟩
  have hc5 := past_alloc hb5
  have HW5 : Hid (Below w.heap.size w w5) := Lib.hid (HW4.out.trans (hc5.mono HW4.out.size))
  have HV4_5 : Hid (TV w4.heap.size _ w5) := Lib.hid ((tv_new w4 _ 27).keep hb5)
  have HV2_5 := Lib.hid (HV2_4.out.keep hc5)
  have HV3_5 := Lib.hid (HV3_4.out.keep hc5)
  clear hb5 hc5
  have q20 := HV2_5.out.c 0
  have q21 := HV2_5.out.c 1
  have q22 := HV2_5.out.c 2
  have q23 := HV2_5.out.c 3
  have q24 := HV2_5.out.c 4
  have hlt2 := HV2_5.out.lt
  have q30 := HV3_5.out.c 0
  have q31 := HV3_5.out.c 1
  have q32 := HV3_5.out.c 2
  have q33 := HV3_5.out.c 3
  have q34 := HV3_5.out.c 4
  have hlt3 := HV3_5.out.lt
  have q40 := HV4_5.out.c 0
  have q41 := HV4_5.out.c 1
  have q42 := HV4_5.out.c 2
  have q43 := HV4_5.out.c 3
  have q44 := HV4_5.out.c 4
  have hlt4 := HV4_5.out.lt
  simp only [List.getElem?_toArray, List.getElem?_cons_zero, List.getElem?_cons_succ] at q20 q21 q22 q23 q24 q30 q31 q32 q33 q34 q40 q41 q42 q43 q44
  have e1 := eq_tok (xk x) (xf x) (xt x) (xe x) (xk x) (xf x) (xt x) (xe x) (bstr (xs x)) (bstr (xs x))
  have e2 := eq_tok (xk y) (xf y) (xt y) (xe y) (xk y) (xf y) (xt y) (xe y) (bstr (xs y)) (bstr (xs y))
  simp only [beq_self_eq_true, Bool.and_self] at e1 e2
  go_wp2
  go_ret
  exact ⟨rfl, HW5.out.alloc HW5.out.size _⟩

end Go.Proofs.YtglgdpcfjbahdaaDoor
