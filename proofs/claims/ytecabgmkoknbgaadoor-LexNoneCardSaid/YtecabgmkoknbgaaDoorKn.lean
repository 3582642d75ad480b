/- Contract of package class's Name. -/
import Derived.Test.YtecabgmkoknbgaaDoorKb
import Derived.Test.YtecabgmkoknbgaaDoorRt
namespace Go.Proofs.YtecabgmkoknbgaaDoor
open Go.RowKit

def nameB (c : Int) : Bool := cls c == 2 || (cls c == 3 || cls c == 4)
theorem name_any (c : Int) (w : World) (ht : Tab w) (h0 : 0 ≤ c) (h1 : c ≤ 255) :
    Calls Tryd.prog 72 #[.int .u8 c] w fun e w' => e = .returned (.bool (nameB c)) ∧ Below w.heap.size w w' := by
  have HT := Lib.hid ht
  clear ht
  go_enter Tryd.func72, Tryd.ntmps72
  go_wp2_with (first | (go_at_call 42; refine (of_any c _ HT.out h0 h1).mono ?_; rintro e w' ⟨rfl, hb⟩; have HB := Lib.hid hb; clear hb))
  all_goals
    go_ret
    exact ⟨ret_bool (by simp_all [nameB]), HB.out⟩

end Go.Proofs.YtecabgmkoknbgaaDoor
