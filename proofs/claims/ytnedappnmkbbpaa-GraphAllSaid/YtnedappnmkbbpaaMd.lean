/- The document's Tighter. -/
import Derived.Test.YtnedappnmkbbpaaMc
namespace Go.Proofs.Ytnedappnmkbbpaa
open Go.RowKit

set_option maxRecDepth 20000 in
theorem rtighter_any (z : List Int) (hz : z.length = 10) (g h : Int) (w : World) :
    Calls Try.prog 14 #[.agg (rv z), .int .i64 g, .int .i64 h] w fun e w' => e = .returned (.bool (tgt z g h)) ∧ Below w.heap.size w w' := by
  obtain ⟨w0, hw0⟩ : ∃ w0, w.alloc (.cells (rv z) 23) = w0 := ⟨_, rfl⟩
  have HB0 : Hid (Below w.heap.size w w0) := Lib.hid (by rw [← hw0]; exact (Below.refl _ _).alloc (Nat.le_refl _) _)
  obtain ⟨G, hG⟩ : ∃ G, w.heap.size = G := ⟨_, rfl⟩
  have HR : Hid (RB w0 G z) := Lib.hid (by rw [← hw0, ← hG]; exact RB.new w z)
  rw [hG] at HB0 ⊢
  have HZ := Lib.hid hz
  clear hz
  by_cases hin : inB 0 [g, h] = true
  · obtain ⟨⟨g1, g2⟩, h1, h2⟩ := (inB_two 0 g h).1 hin
    obtain ⟨x, rfl⟩ := Int.eq_ofNat_of_zero_le g1
    obtain ⟨y, rfl⟩ := Int.eq_ofNat_of_zero_le h1
    have HT : Hid (tgt z x y = T z x y) := Lib.hid (by rw [tgt, hin]; rfl)
    clear hin
    have hc := HR.out.cell HZ.out (show x < 10 by omega)
    have HD : Hid ((bits .and .i64 (bt z x / 2 ^ y) 1 == 1) = tgt z x y) := Lib.hid (by
      rw [HT.out, Bool.eq_iff_iff, T, ← shr_bit (bt z x) (h := y) (by omega)]; simp)
    have d1 : decide ((x : Int) < 10) = true := by simp; omega
    have d2 : decide ((y : Int) < 10) = true := by simp; omega
    go_enter Try.func14, Try.ntmps14
    go_wp2
    go_ret
    exact ⟨by rw [← HD.out]; rfl, HB0.out⟩
  · have HN : Hid (tgt z g h = false) := Lib.hid (by rw [tgt, show inB 0 [g, h] = false by simpa using hin]; rfl)
    have hin' : ¬ ((0 ≤ g ∧ g ≤ 9) ∧ 0 ≤ h ∧ h ≤ 9) := fun hh => hin ((inB_two 0 g h).2 hh)
    clear hin
    by_cases a1 : g < 0
    · clear hin'
      go_enter Try.func14, Try.ntmps14
      go_wp2
      go_ret
      exact ⟨by rw [HN.out]; rfl, HB0.out⟩
    · by_cases a2 : 9 < g
      · clear hin'
        go_enter Try.func14, Try.ntmps14
        go_wp2
        go_ret
        exact ⟨by rw [HN.out]; rfl, HB0.out⟩
      · by_cases b1 : h < 0
        · clear hin'
          go_enter Try.func14, Try.ntmps14
          go_wp2
          go_ret
          exact ⟨by rw [HN.out]; rfl, HB0.out⟩
        · have b2 : 9 < h := by omega
          clear hin'
          go_enter Try.func14, Try.ntmps14
          go_wp2
          go_ret
          exact ⟨by rw [HN.out]; rfl, HB0.out⟩

end Go.Proofs.Ytnedappnmkbbpaa
