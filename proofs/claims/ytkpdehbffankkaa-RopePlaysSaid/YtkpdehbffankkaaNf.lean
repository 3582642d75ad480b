/- Contract of package rope's steps; a rope in memory; Len. -/
import Derived.Test.YtkpdehbffankkaaNb
namespace Go.Proofs.Ytkpdehbffankkaa
open Go.RowKit

set_option maxRecDepth 20000 in
theorem steps_any : ∀ (t : PT) (w : World), t.ok w → t.d ≤ 100 →
    Calls Try.prog 34 #[t.v] w fun e w' => e = .returned (.int .i64 t.d) ∧ Below w.heap.size w w' ∧ w'.heap = w.heap := by
  intro t
  induction t with
  | nil =>
    intro w _ _
    rw [show PT.nil.v = .pointer none from rfl]
    go_enter Try.func34, Try.ntmps34
    go_wp2
    go_ret
    exact ⟨rfl, Below.refl _ _, rfl⟩
  | leaf b l =>
    intro w h _
    obtain ⟨c0, c1, _, _⟩ := PT.leaf_cells h
    rw [show (PT.leaf b l).v = .pointer (some ⟨b, 0, none⟩) from rfl]
    clear h
    go_enter Try.func34, Try.ntmps34
    go_wp2
    go_ret
    exact ⟨rfl, Below.refl _ _, rfl⟩
  | node b x y ihx ihy =>
    intro w h hd
    obtain ⟨c0, c1, c2, _⟩ := PT.node_cells h
    obtain ⟨bx, hbx, cx⟩ := v_addr h.2.2.1 h.2.1
    have hdd : (PT.node b x y).d = 1 + max x.d y.d := rfl
    have hxd : x.d ≤ 99 := by omega
    have hyd : y.d ≤ 99 := by omega
    have IX := Lib.hid (fun w1 (hw : w1.heap = w.heap) => ihx w1 (PT.ok.kt (by intro k c e m h1 _; rw [hw]; exact h1) x h.2.2.1) (by omega))
    have IY := Lib.hid (fun w1 (hw : w1.heap = w.heap) => ihy w1 (PT.ok.kt (by intro k c e m h1 _; rw [hw]; exact h1) y h.2.2.2) (by omega))
    rw [show (PT.node b x y).v = .pointer (some ⟨b, 0, none⟩) from rfl]
    rw [hbx] at c1 IX
    clear h ihx ihy hd
    obtain ⟨p, hp⟩ : ∃ p, x.d = p := ⟨_, rfl⟩
    obtain ⟨q, hq⟩ : ∃ q, y.d = q := ⟨_, rfl⟩
    rw [hp] at IX hxd
    rw [hq] at IY hyd
    rw [hp, hq] at hdd
    have HD := Lib.hid hdd
    clear hp hq hdd
    have m1 : max (p : Int) (q : Int) = ((max p q : Nat) : Int) := by omega
    have m2 : IntKind.i64.wrap (1 + ((max p q : Nat) : Int)) = 1 + ((max p q : Nat) : Int) := by rw [IntKind.wrap_i64]; omega
    have k1 : ∀ {w' : World}, w'.heap = w.heap → w'.cell? ⟨b, 1, none⟩ = some (.pointer (some ⟨bx, 0, none⟩)) ∧ w'.cell? ⟨b, 2, none⟩ = some y.v := fun hw => by
      simp only [World.cell?, hw]; exact ⟨c1, c2⟩
    go_enter Try.func34, Try.ntmps34
    go_wp2_with (first | (go_at_call 36; go_in))
    go_region_held3 (fun w' => w'.cell? ⟨b, 1, none⟩ = some (.pointer (some ⟨bx, 0, none⟩)) ∧ w'.cell? ⟨b, 2, none⟩ = some y.v) (first | go_keep | exact k1 h1 | exact k1 (h2.trans h1)) (first
        | (go_at_call 34; (with_reducible refine (IX.out _ ?_).mono ?_); (rfl); rintro e w1 ⟨rfl, hb1, h1⟩)
        | (go_at_call 34; (with_reducible refine (IY.out _ ?_).mono ?_); (exact h1); rintro e w2 ⟨rfl, hb2, h2⟩))
    have HB : Hid (Below w.heap.size w w2) := by
      have h3 := ((Below.refl w.heap.size w).drew.trans hb1)
      exact Lib.hid (h3.trans (hb2.mono h3.size))
    have HH : Hid (w2.heap = w.heap) := Lib.hid (h2.trans h1)
    clear hb1 hb2 h1 h2
    go_wp2
    go_ret
    exact ⟨by rw [HD.out, Int.natCast_add]; rfl, HB.out, HH.out⟩

end Go.Proofs.Ytkpdehbffankkaa
