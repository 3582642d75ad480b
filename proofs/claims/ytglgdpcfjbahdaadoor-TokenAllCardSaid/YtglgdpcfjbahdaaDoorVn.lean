/- Contract: the document's own names. -/
import Derived.Test.YtglgdpcfjbahdaaDoorVc
import Derived.Test.YtglgdpcfjbahdaaDoorKn
namespace Go.Proofs.YtglgdpcfjbahdaaDoor
open Go.RowKit

theorem rname_any (c : Int) (w : World) (h0 : 0 ≤ c) (h1 : c ≤ 255) :
    Calls Tryd.prog 44 #[.int .u8 c] w fun e w' => e = .returned (.bool (nameB c)) ∧ w = w' := by
  by_cases e2 : cls c = 2
  · have HN : Hid (nameB c = true) := Lib.hid (by simp [nameB, e2])
    go_enter Tryd.func44, Tryd.ntmps44
    go_wp2_with (first | (go_at_call 25; refine (rof_any c _ h0 h1).mono ?_; rintro e w' ⟨rfl, rfl⟩))
    go_ret
    exact ⟨by rw [HN.out]; rfl, rfl⟩
  have f2 : (cls c == 2) = false := by simpa using e2
  by_cases e3 : cls c = 3
  · have HN : Hid (nameB c = true) := Lib.hid (by simp [nameB, e3])
    clear e2
    go_enter Tryd.func44, Tryd.ntmps44
    go_wp2_with (first | (go_at_call 25; refine (rof_any c _ h0 h1).mono ?_; rintro e w' ⟨rfl, rfl⟩))
    go_ret
    exact ⟨by rw [HN.out]; rfl, rfl⟩
  have f3 : (cls c == 3) = false := by simpa using e3
  have HN : Hid (nameB c = (cls c == 4)) := Lib.hid (by simp [nameB, f2, f3])
  clear e2 e3
  go_enter Tryd.func44, Tryd.ntmps44
  go_wp2_with (first | (go_at_call 25; refine (rof_any c _ h0 h1).mono ?_; rintro e w' ⟨rfl, rfl⟩))
  go_ret
  exact ⟨by rw [HN.out]; rfl, rfl⟩

end Go.Proofs.YtglgdpcfjbahdaaDoor
