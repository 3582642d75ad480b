/- DigitsOrders' walk. -/
import Derived.Test.YtmklkpckheafiaaDoorWa
import Derived.Laws.BitsAllLaws
import Derived.Test.YtmklkpckheafiaaDoorWm
namespace Go.Proofs.YtmklkpckheafiaaDoor
open Go.RowKit

set_option maxHeartbeats 400000 in
theorem digitsOrders_any (a b : Int) (w : World) (ht : Tab w) (hp : Pow w) (X Y : Nat) (hX : bits .and .i64 a 2147483647 = X) (hY : bits .and .i64 b 2147483647 = Y) (hX' : X ≤ 2147483647) (hY' : Y ≤ 2147483647)
    (a0 : 0 ≤ a) (a1 : a ≤ 4294967295) (b0 : 0 ≤ b) (b1 : b ≤ 4294967295) :
    Calls Tryd.prog 6 #[.int .u32 a, .int .u32 b] w fun e w' => e = .returned (.bool true) ∧ Below w.heap.size w w' := by
  have HT := Lib.hid ht
  have HP := Lib.hid hp
  clear ht hp
  have l1 := digL_le X hX'
  have l2 := digL_le Y hY'
  go_enter Tryd.func6, Tryd.ntmps6
  go_wp2_with fail
  refine (shown_any _ HT.out).mono ?_
  rintro e w1 ⟨rfl, hb1⟩
  have HW1 := Lib.hid hb1
  clear hb1
  go_wp2_with fail
  refine (put_any X _ hX' (HP.out.keep HW1.out)).mono ?_
  rintro e w3 ⟨a1, c1, rfl, ho1, hb3⟩
  have HO1 := Lib.hid ho1
  have HW3 : Hid (Below w.heap.size w w3) := Lib.hid (HW1.out.trans (hb3.mono HW1.out.size))
  clear ho1 hb3
  go_wp2_with fail
  refine (put_any Y _ hY' (HP.out.keep HW3.out)).mono ?_
  rintro e w4 ⟨a2, c2, rfl, ho2, hb4⟩
  have k1 := (HO1.out.bs.below hb4).str (P := Tryd.prog) 22 9 5 Tryd.underlying22 Tryd.underlying5 Tryd.underlying9
  have k2 := ho2.bs.str (P := Tryd.prog) 22 9 5 Tryd.underlying22 Tryd.underlying5 Tryd.underlying9
  have HW4 : Hid (Below w.heap.size w w4) := Lib.hid (HW3.out.trans (hb4.mono HW3.out.size))
  clear ho2 hb4
  by_cases hne : (digL X).length = (digL Y).length
  · rw [hne] at k1
    have o1 := order_eq X Y hne
    have O2 := Lib.hid (order_same X Y)
    go_wp2
    go_ret
    exact ⟨ret_bool (by rw [O2.out]; simp), HW4.out⟩
  · have O1 := Lib.hid (order_ne X Y hne)
    go_wp2
    go_ret
    exact ⟨ret_bool (by rw [O1.out]; simp), HW4.out⟩

end Go.Proofs.YtmklkpckheafiaaDoor
