/- LinesAll's walk. -/
import Derived.Test.YtoapfchdmfmdeaaIe
namespace Go.Proofs.Ytoapfchdmfmdeaa
open Go.RowKit

theorem place_both (a : Option Addr) (m cap : Nat) (L : List Int) (k : Int) (hm : m ≤ 1000000) : ∃ p q r : Int,
    (∀ w, Bs w a m cap L → Calls Try.prog 9 #[.slice a m cap, .int .i64 k] w fun e w' => e = .returned (.tuple #[.int .i64 p, .int .i64 q, .int .i64 r]) ∧ Below w.heap.size w w') ∧
    ∀ w, Bs w a m cap L → Calls Try.prog 10 #[.slice a m cap, .int .i64 k] w fun e w' => e = .returned (.tuple #[.int .i64 p, .int .i64 q, .int .i64 r]) ∧ w = w' := by
  by_cases h : k < 0 ∨ (m : Int) < k
  · exact ⟨0, 0, 3, fun w hb => place_bad a m cap L k w hb h, fun w _ => rplace_bad a m cap k w h⟩
  · obtain ⟨K, rfl⟩ := Int.eq_ofNat_of_zero_le (show 0 ≤ k by omega)
    exact ⟨_, _, _, fun w hb => place_any a m cap L K w hb (by omega) hm, fun w hb => rplace_any a m cap L K w hb (by omega) hm⟩

theorem heapAtNew (w : World) (o : Obj) : (w.alloc o).heap[w.heap.size]? = some o := heap_alloc_new w o

set_option maxRecDepth 100000 in
set_option maxHeartbeats 4000000 in
theorem linesall_any (a0 : Option Addr) (n0 c0 : Nat) (l0 : List Int) (at' x y : Int) (w : World) (hB0 : Bs w a0 n0 c0 l0) :
    Calls Try.prog 3 #[.slice a0 n0 c0, .int .i64 at', .agg #[.int .i64 x, .int .i64 y]] w fun e w' => e = .returned (.bool true) ∧ Below w.heap.size w w' := by
  obtain ⟨w0, hw0⟩ : ∃ w0, w.alloc (.cells #[.int .i64 x, .int .i64 y] 23) = w0 := ⟨_, rfl⟩
  have hb0 : Below w.heap.size w w0 := by rw [← hw0]; exact (Below.refl _ _).alloc (Nat.le_refl _) _
  have hg0 : w0.heap[w.heap.size]? = some (.cells #[.int .i64 x, .int .i64 y] 23 (0, 0)) := by rw [← hw0]; exact heapAtNew w _
  obtain ⟨G, hG⟩ : ∃ G, w.heap.size = G := ⟨_, rfl⟩
  have hlc := hB0.lc
  have hcm := hB0.cm
  obtain ⟨m, hm⟩ : ∃ m, m = min n0 120 := ⟨_, rfl⟩
  have hm1 : m ≤ 120 := by omega
  have HB := Lib.hid ((hB0.below hb0).take (k := m) (c' := c0) (by omega) (by omega) hcm)
  have HF := Lib.hid (fun w => few_any a0 n0 c0 m w hm hlc)
  obtain ⟨L, hL⟩ : ∃ L, l0.take m = L := ⟨_, rfl⟩
  rw [hL] at HB
  obtain ⟨p, q, r, hP, hR⟩ := place_both a0 m c0 L at' (by omega)
  have HP := Lib.hid hP
  have HR := Lib.hid hR
  rw [hG] at hg0
  have HG0 := Lib.hid hg0
  have HW0 := Lib.hid hb0
  have HL0 := Lib.hid (show G < w0.heap.size from (Array.getElem?_eq_some_iff.1 hg0).1)
  clear hB0 hb0 hg0 hlc hcm hm hP hR hL
  go_enter Try.func3, Try.ntmps3
  go_wp2_with fail
  refine (shown_any w0).mono ?_
  rintro e w1 ⟨rfl, hb1⟩
  have HW1 := Lib.hid hb1
  clear hb1
  go_wp2_with fail
  refine (HF.out w1).mono ?_
  rintro e w2 ⟨rfl, rfl⟩
  have HB := Lib.hid (HB.out.below HW1.out)
  go_wp2_with fail
  refine (HP.out _ HB.out).mono ?_
  rintro e w2 ⟨rfl, hb⟩
  have HW2 := Lib.hid (HW1.out.trans (hb.mono HW1.out.size))
  have HB := Lib.hid (HB.out.below hb)
  clear hb
  go_wp2_with fail
  refine (HR.out _ HB.out).mono ?_
  rintro e w3 ⟨rfl, rfl⟩
  have hg3 := (HW2.out.block G HL0.out).trans HG0.out
  have d0 : w2.cell? ⟨G, 0, none⟩ = some (.int .i64 x) := by simp [World.cell?, hg3]
  have d1 : w2.cell? ⟨G, 1, none⟩ = some (.int .i64 y) := by simp [World.cell?, hg3]
  clear hg3
  go_wp2_with fail
  refine (off_any _ _ _ _ x y _ HB.out (by omega)).mono ?_
  rintro e w3 ⟨rfl, hb⟩
  have HW3 := Lib.hid (HW2.out.trans (hb.mono HW2.out.size))
  have HB := Lib.hid (HB.out.below hb)
  clear hb d0 d1
  have hg3 := (HW3.out.block G HL0.out).trans HG0.out
  have d0 : w3.cell? ⟨G, 0, none⟩ = some (.int .i64 x) := by simp [World.cell?, hg3]
  have d1 : w3.cell? ⟨G, 1, none⟩ = some (.int .i64 y) := by simp [World.cell?, hg3]
  clear hg3
  go_wp2_with fail
  refine (roff_any _ _ _ _ x y _ HB.out (by omega)).mono ?_
  rintro e w4 ⟨rfl, rfl⟩
  obtain ⟨V, hV⟩ : ∃ V, V = offV L x y := ⟨_, rfl⟩
  obtain ⟨E, hE⟩ : ∃ E, E = offE L x y := ⟨_, rfl⟩
  rw [← hV, ← hE]
  clear hV hE d0 d1
  go_wp2_with fail
  refine (cnt_any _ _ _ _ _ HB.out (by omega)).mono ?_
  rintro e w4 ⟨rfl, hb⟩
  have HW4 := Lib.hid (HW3.out.trans (hb.mono HW3.out.size))
  have HB := Lib.hid (HB.out.below hb)
  clear hb
  go_wp2_with fail
  refine (rcnt_any _ _ _ _ _ HB.out (by omega)).mono ?_
  rintro e w5 ⟨rfl, rfl⟩
  obtain ⟨C, hC⟩ : ∃ C, C = (ln L m : Int) + 1 := ⟨_, rfl⟩
  rw [← hC]
  clear hC
  go_wp2
  go_ret
  exact ⟨rfl, HW0.out.trans (HW4.out.mono HW0.out.size)⟩

end Go.Proofs.Ytoapfchdmfmdeaa
