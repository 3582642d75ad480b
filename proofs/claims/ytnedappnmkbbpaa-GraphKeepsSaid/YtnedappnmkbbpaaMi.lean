/- The document's example: the laws' own shown. -/
import Derived.Test.YtnedappnmkbbpaaMg
namespace Go.Proofs.Ytnedappnmkbbpaa
open Go.RowKit

def zE : List Int := [0, 0, 2, 6, 14, 30, 0, 14, 0, 0]
theorem zE_e : eE zS 7 3 = 0 := by decide +kernel
theorem zE_v : eV zS 7 3 = zE := by decide +kernel
theorem zE_1 : tgt zE 7 1 = true := by decide +kernel
theorem zE_4 : tgt zE 7 4 = false := by decide +kernel
theorem zE_rng : ∀ i, i < 10 → I64 (bt zE i) := by
  have : ∀ i, i < 10 → -9223372036854775808 ≤ bt zE i ∧ bt zE i ≤ 9223372036854775807 := by decide +kernel
  exact this

set_option maxRecDepth 20000 in
theorem shown_any (w : World) : Calls Try.prog 8 #[] w fun e w' => e = .returned (.bool true) ∧ Below w.heap.size w w' := by
  go_enter Try.func8, Try.ntmps8
  go_wp2_with fail
  refine (start_any w).mono ?_
  rintro e w1 ⟨rfl, hb1⟩
  have HB1 := Lib.hid hb1
  clear hb1
  go_wp2_with fail
  refine (edge_any zS rfl zS_rng 7 3 w1).mono ?_
  rintro e w2 ⟨rfl, hb2⟩
  rw [zE_e, zE_v]
  have HB2 := Lib.hid (HB1.out.trans (hb2.mono HB1.out.size))
  clear hb2
  go_wp2_with (first
    | (refine store_rows rfl (.tmp 1) (.tmp 6) rfl w2.heap.size rfl zE rfl rfl z0 z0_len (heap_alloc_new w2 _) ?_; intro w3 hr3 ho3; have HR3 := Lib.hid hr3; have HB3 := Lib.hid ((HB2.out.alloc HB2.out.size _).trans (ho3.below HB2.out.size)); have hc7 : w3.cell? ⟨w2.heap.size, 7, none⟩ = some (.int .i64 14) := hr3.cell rfl (show 7 < 10 by decide); clear hr3 ho3)
    | (refine load_rows rfl (.tmp 1) rfl w2.heap.size rfl zE rfl HR3.out ?_))
  refine (tighter_any zE rfl zE_rng 7 1 w3).mono ?_
  rw [zE_1]
  rintro e w4 ⟨rfl, hb4⟩
  have HR4 := Lib.hid (RB.keep HR3.out hb4 HR3.out.lt)
  have HB4 := Lib.hid (HB3.out.trans (hb4.mono HB3.out.size))
  clear hb4
  go_wp2_with (refine load_rows rfl (.tmp 1) rfl w2.heap.size rfl zE rfl HR4.out ?_)
  refine (tighter_any zE rfl zE_rng 7 4 w4).mono ?_
  rw [zE_4]
  rintro e w5 ⟨rfl, hb5⟩
  have HB5 := Lib.hid (HB4.out.trans (hb5.mono HB4.out.size))
  clear hb5
  go_wp2
  go_ret
  exact ⟨rfl, HB5.out⟩

end Go.Proofs.Ytnedappnmkbbpaa
