/- Contracts of package rope's join, ahead, behind. -/
import Derived.Test.YtkpdehbffankkaaNm
import Derived.Deep.RegionHeld3
import Derived.BigQuiet
import Derived.Deep.QuietTactic
namespace Go.Proofs.Ytkpdehbffankkaa
open Go.RowKit

theorem v_addr {w : World} {t : PT} (h : t.ok w) (hn : t.v ≠ .pointer none) : ∃ b, t.v = .pointer (some ⟨b, 0, none⟩) ∧ w.cell? ⟨b, 3, none⟩ = some (.int .i64 t.l.length) := PT.size_cell t h hn

theorem wrap_nat (n : Nat) (h : n ≤ 4611686018427387904) : IntKind.i64.wrap (n : Int) = n := by rw [IntKind.wrap_i64]; omega

theorem join_any (x y : PT) (w : World) (hx : x.ok w) (hy : y.ok w) (hlen : x.l.length + y.l.length ≤ 4000000) :
    Calls Try.prog 27 #[x.v, y.v] w fun e w' => ∃ z : PT, e = .returned z.v ∧ z.ok w' ∧ z.l = x.l ++ y.l ∧ z.d ≤ 1 + max x.d y.d ∧ Below w.heap.size w w' := by
  by_cases hx0 : x.v = .pointer none
  · rw [hx0]
    go_enter Try.func27, Try.ntmps27
    go_wp2
    go_ret
    obtain rfl := PT.v_nil x hx hx0
    exact ⟨y, rfl, hy, by simp [PT.l], by have := y.d_pos; omega, Below.refl _ _⟩
  by_cases hy0 : y.v = .pointer none
  · obtain ⟨b, hb, hc⟩ := v_addr hx hx0
    rw [hy0, hb]
    go_enter Try.func27, Try.ntmps27
    go_wp2
    go_ret
    obtain rfl := PT.v_nil y hy hy0
    exact ⟨x, by rw [hb]; rfl, hx, by simp [PT.l], by have := x.d_pos; omega, Below.refl _ _⟩
  · obtain ⟨b, hb, hc⟩ := v_addr hx hx0
    obtain ⟨b', hb', hc'⟩ := v_addr hy hy0
    rw [hb, hb']
    have hk := wrap_nat (x.l.length + y.l.length) (by omega)
    rw [Int.natCast_add] at hk
    have Z : ∃ z : PT, (Ending.returned (.pointer (some ⟨w.heap.size, 0, none⟩)) = .returned z.v ∧ z.ok (w.alloc (.cells (PT.cellsN x y) 88)).drew ∧ z.l = x.l ++ y.l ∧ z.d ≤ 1 + max x.d y.d ∧ Below w.heap.size w (w.alloc (.cells (PT.cellsN x y) 88)).drew) :=
      ⟨.node w.heap.size x y, rfl, ⟨heapAt1 w _, hx0, PT.ok.below ((Below.refl _ _).alloc (Nat.le_refl _) _).drew x hx, PT.ok.below ((Below.refl _ _).alloc (Nat.le_refl _) _).drew y hy⟩, rfl, Nat.le_refl _, ((Below.refl _ _).alloc (Nat.le_refl _) _).drew⟩
    unfold PT.cellsN at Z
    rw [hb, hb', Int.natCast_add] at Z
    have HZ := Lib.hid Z
    clear Z hx hy hx0 hy0 hb hb' hlen
    generalize hp : x.l.length = p at *
    generalize hq : y.l.length = q at *
    clear hp hq
    go_enter Try.func27, Try.ntmps27
    go_wp2
    go_region
    all_goals go_wp2
    all_goals
      go_ret
      exact HZ.out

end Go.Proofs.Ytkpdehbffankkaa
