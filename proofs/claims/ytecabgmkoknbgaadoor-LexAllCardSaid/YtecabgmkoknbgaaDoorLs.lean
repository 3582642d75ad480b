/- Contract of package layout's Skip at any slice. -/
import Derived.Test.YtecabgmkoknbgaaDoorLd
import Derived.Test.YtecabgmkoknbgaaDoorLc
import Derived.Test.YtecabgmkoknbgaaDoorM1
import Derived.Lib.SmallJoins
namespace Go.Proofs.YtecabgmkoknbgaaDoor
open Go.RowKit

set_option maxRecDepth 100000 in
theorem lskip_nil (a : Option Addr) (cap : Nat) (w : World) (hc : cap ≤ maxLen) (ht : Tab w) :
    Calls Tryd.prog 29 #[.slice a 0 cap] w fun e w' => e = .returned (.tuple #[.int .i64 (sk []).1, .int .i64 (sk []).2]) ∧ Below w.heap.size w w' := by
  have HC := Lib.hid hc
  unfold maxLen at hc
  have HT := Lib.hid ht
  clear ht
  go_enter Tryd.func29, Tryd.ntmps29
  go_wp2
  go_step3
  go_wp2
  go_step3
  go_wp2_with fail
  refine (run_any _ _ _ [] 1 _ (Bs.nil _ _ _ HC.out) HT.out).mono ?_
  rintro e w1 ⟨rfl, hb1⟩
  have HB1 := Lib.hid hb1
  clear hb1
  rw [show runL 1 [] = 0 from rfl]
  go_wp2_with fail
  refine (run_any _ _ _ [] 8 _ (Bs.nil _ _ _ HC.out) (HT.out.keep HB1.out)).mono ?_
  rintro e w2 ⟨rfl, hb2⟩
  have HB2 := Lib.hid (HB1.out.trans (hb2.mono HB1.out.size))
  clear hb2
  rw [show runL 8 [] = 0 from rfl]
  go_wp2_with fail
  refine (begins47_any _ _ _ [] _ (Bs.nil _ _ _ HC.out)).mono ?_
  rintro e w3 ⟨rfl, rfl⟩
  rw [show pre2 47 42 [] = false from rfl]
  go_wp2
  rw [Exit.noGoto_ret]
  exact bodyPost_ret (v := .tuple #[.int .i64 0, .int .i64 0]) (by simp [results, Tryd.results29, go_sem]) rfl ⟨rfl, HB2.out⟩

theorem lskip_any (a : Option Addr) (len cap : Nat) (l : List Int) (w : World) (h : Bs w a len cap l) (ht : Tab w) (hsz : len ≤ 1000000) :
    Calls Tryd.prog 29 #[.slice a len cap] w fun e w' => e = .returned (.tuple #[.int .i64 (sk l).1, .int .i64 (sk l).2]) ∧ Below w.heap.size w w' := by
  by_cases h0 : 0 < len
  · obtain ⟨b, off, rfl, _, _⟩ := h.at_ h0
    exact lskip_some b off len cap l w h ht hsz
  · have : len = 0 := by omega
    subst this
    have hl : l = [] := List.eq_nil_of_length_eq_zero h.hl
    subst hl
    exact lskip_nil a cap w h.cm ht

end Go.Proofs.YtecabgmkoknbgaaDoor
