/- Layer 4's statements' own 'few', the document's examples at the head; QuoteAll's walk. -/
import Derived.Test.YtfbhokigeneinaaDoorQs
import Derived.Test.YtfbhokigeneinaaDoorBc
import Derived.Lib.SmallJoins
namespace Go.Proofs.YtfbhokigeneinaaDoor
open Go.RowKit

theorem few_any (a : Option Addr) (len cap : Nat) (l : List Int) (w : World) (h : Bs w a len cap l) :
    Calls Tryd.prog 10 #[.slice a len cap] w fun e w' => e = .returned (.slice a (min len 100) cap) ∧ w = w' := by
  have hm := h.lt
  have hlc := h.lc
  have hcm := h.cm
  unfold maxLen at hm hcm
  clear h
  go_enter Tryd.func10, Tryd.ntmps10
  go_wp2
  all_goals
    go_ret
    exact ⟨ret_slice (by omega) rfl, rfl⟩

theorem few_bs {w : World} {a : Option Addr} {len cap : Nat} {l : List Int} (h : Bs w a len cap l) : Bs w a (min len 100) cap (l.take 100) := by
  have h1 := h.lc
  have h2 := h.cm
  have h3 := h.take (k := min len 100) (c' := cap) (Nat.min_le_left _ _) (by omega) h2
  rwa [show l.take (min len 100) = l.take 100 from by
    rw [← h.hl, Nat.min_comm, ← List.take_take, List.take_length]] at h3

set_option maxRecDepth 20000 in
set_option maxHeartbeats 400000 in
theorem shown_any (w : World) (ht : Tab w) :
    Calls Tryd.prog 8 #[] w fun e w' => e = .returned (.bool true) ∧ Below w.heap.size w w' := by
  have kc := Joins.run_convert_bytes_const_at (P := Tryd.prog) w 22 5 #[.int .u8 39, .int .u8 105, .int .u8 116, .int .u8 39, .int .u8 39, .int .u8 115, .int .u8 39, .int .u8 46] 8 8 w.heap.size rfl Tryd.underlying22 Tryd.underlying5
  have HB1 : Hid (Bs (w.alloc (.cells #[.int .u8 39, .int .u8 105, .int .u8 116, .int .u8 39, .int .u8 39, .int .u8 115, .int .u8 39, .int .u8 46] 5 (8, 9))) (some ⟨w.heap.size, 0, none⟩) 8 8 [39, 105, 116, 39, 39, 115, 39, 46]) := Lib.hid (Bs.lit w 5 (by simp) (by simp) rfl rfl (by decide))
  have hb0 : Below w.heap.size w (w.alloc (.cells #[.int .u8 39, .int .u8 105, .int .u8 116, .int .u8 39, .int .u8 39, .int .u8 115, .int .u8 39, .int .u8 46] 5 (8, 9))) := (Below.refl _ _).alloc (Nat.le_refl _) _
  have HT := Lib.hid ht
  have HB0 := Lib.hid hb0
  clear ht hb0
  go_enter Tryd.func8, Tryd.ntmps8
  go_wp2_with fail
  refine (qtake_any _ _ _ _ _ HB1.out (HT.out.keep HB0.out) (by decide)).mono ?_
  rintro e w1 ⟨a1, c1, rfl, ho1, hb1⟩
  have HW1 : Hid (Below w.heap.size w w1) := Lib.hid (HB0.out.trans (hb1.mono HB0.out.size))
  have k1 := ho1.bs.str (P := Tryd.prog) 22 9 5 Tryd.underlying22 Tryd.underlying5 Tryd.underlying9
  rw [lit1] at k1 ⊢
  have HO1 : Hid (OwnB _ 5 w1 a1 4 c1 [105, 116, 39, 115]) := Lib.hid (by rw [lit1] at ho1; exact ho1)
  clear hb1 kc HB1 HB0 k1 ho1
  have kc := Joins.run_convert_bytes_const_at (P := Tryd.prog) w1 22 5 #[.int .u8 39, .int .u8 97, .int .u8 92, .int .u8 116, .int .u8 39] 5 5 w1.heap.size rfl Tryd.underlying22 Tryd.underlying5
  have HB1 : Hid (Bs (w1.alloc (.cells #[.int .u8 39, .int .u8 97, .int .u8 92, .int .u8 116, .int .u8 39] 5 (5, 6))) (some ⟨w1.heap.size, 0, none⟩) 5 5 [39, 97, 92, 116, 39]) := Lib.hid (Bs.lit w1 5 (by simp) (by simp) rfl rfl (by decide))
  have HB0 : Hid (Below w.heap.size w (w1.alloc (.cells #[.int .u8 39, .int .u8 97, .int .u8 92, .int .u8 116, .int .u8 39] 5 (5, 6)))) := Lib.hid (HW1.out.alloc HW1.out.size _)
  go_wp2_with fail
  refine (qtake_any _ _ _ _ _ HB1.out (HT.out.keep HB0.out) (by decide)).mono ?_
  rintro e w2 ⟨a2, c2, rfl, ho2, hb2⟩
  have HW2 : Hid (Below w.heap.size w w2) := Lib.hid (HB0.out.trans (hb2.mono HB0.out.size))
  have k1 := ((HO1.out.bs.alloc (.cells #[.int .u8 39, .int .u8 97, .int .u8 92, .int .u8 116, .int .u8 39] 5 (5, 6))).below hb2).str (P := Tryd.prog) 22 9 5 Tryd.underlying22 Tryd.underlying5 Tryd.underlying9
  rw [show bstr [105, 116, 39, 115] = ⟨#[105, 116, 39, 115]⟩ from rfl] at k1
  rw [lit2]
  clear hb2 kc HB1 HB0 ho2
  go_wp2
  go_ret
  exact ⟨rfl, HW2.out⟩

end Go.Proofs.YtfbhokigeneinaaDoor
