/- Contracts of package rope's find and At. -/
import Derived.Test.YtkpdehbffankkaaNg
import Derived.Laws.LoneSync
import Derived.Lib.Builder
namespace Go.Proofs.Ytkpdehbffankkaa
open Go.RowKit

/-- The part u holds the bytes of L from f on. -/
def Part (w : World) (L : List Int) (u : PT) (f : Nat) : Prop := u.ok w ∧ f + u.l.length ≤ L.length ∧ u.l = sub L f (f + u.l.length)

theorem Part.left {w : World} {L : List Int} {b : Nat} {x y : PT} {f : Nat} (h : Part w L (.node b x y) f) : Part w L x f := by
  obtain ⟨h1, h2, h3⟩ := h
  have hl : (PT.node b x y).l = x.l ++ y.l := rfl
  rw [hl, List.length_append] at h2 h3
  refine ⟨h1.2.2.1, by omega, ?_⟩
  have := congrArg (List.take x.l.length) h3
  rw [List.take_left'  rfl] at this
  rw [this]
  unfold sub
  rw [List.drop_take, List.drop_take, List.take_take]
  congr 1
  simp
  omega

theorem Part.right {w : World} {L : List Int} {b : Nat} {x y : PT} {f : Nat} (h : Part w L (.node b x y) f) : Part w L y (f + x.l.length) := by
  obtain ⟨h1, h2, h3⟩ := h
  have hl : (PT.node b x y).l = x.l ++ y.l := rfl
  rw [hl, List.length_append] at h2 h3
  refine ⟨h1.2.2.2, by omega, ?_⟩
  have := congrArg (List.drop x.l.length) h3
  rw [List.drop_left' rfl] at this
  rw [this]
  unfold sub
  rw [List.drop_drop]
  congr 2
  · simp; omega

/-- How high the parts are, read off the world. -/
def dV : Nat → World → Value → Nat
  | n + 1, w, .pointer (some a) =>
    match w.cell? ⟨a.block, 1, none⟩, w.cell? ⟨a.block, 2, none⟩ with
    | some x, some y => 1 + max (dV n w x) (dV n w y)
    | _, _ => 0
  | _, _, _ => 0

def hgt : PT → Nat
  | .nil => 0
  | .leaf _ _ => 1
  | .node _ x y => 1 + max (hgt x) (hgt y)

theorem hgt_le : ∀ (u : PT), hgt u ≤ u.d
  | .nil => by simp [hgt, PT.d]
  | .leaf _ _ => Nat.le_refl _
  | .node _ x y => by
    have := hgt_le x
    have := hgt_le y
    simp only [hgt, PT.d]
    omega

theorem dV_nil (n : Nat) (w : World) : dV n w (.pointer none) = 0 := by cases n <;> rfl

theorem dV_ok {w : World} : ∀ (u : PT) (n : Nat), u.ok w → hgt u ≤ n → dV n w u.v = hgt u
  | .nil, n, _, _ => dV_nil n w
  | .leaf b l, 0, _, h => by simp [hgt] at h
  | .leaf b l, n + 1, h, _ => by
    obtain ⟨_, c1, c2, _⟩ := PT.leaf_cells h
    show dV (n + 1) w (.pointer (some ⟨b, 0, none⟩)) = _
    simp only [dV, c1, c2, dV_nil, hgt]
    rfl
  | .node b x y, 0, _, h => by simp [hgt] at h
  | .node b x y, n + 1, h, hn => by
    obtain ⟨_, c1, c2, _⟩ := PT.node_cells h
    simp only [hgt] at hn
    show dV (n + 1) w (.pointer (some ⟨b, 0, none⟩)) = _
    simp only [dV, c1, c2, hgt]
    rw [dV_ok x n h.2.2.1 (by omega), dV_ok y n h.2.2.2 (by omega)]

set_option maxRecDepth 20000 in
theorem find_any (t : PT) (i : Nat) (w : World) (h : t.ok w) (hi : i < t.l.length) (hl : t.l.length ≤ 4000000) (hd : t.d ≤ 100) :
    Calls Try.prog 30 #[t.v, .int .i64 i] w fun r w' => ∃ f m, f ≤ i ∧ i < f + m ∧ f + m ≤ t.l.length ∧ r = .returned (.pointer (some ⟨w.heap.size, 0, none⟩)) ∧ w' = w.alloc (.cells #[.int .i64 (f : Nat), .string (bstr (sub t.l f (f + m)))] 83) := by
  have HP : Hid (Part w t.l t 0) := Lib.hid ⟨h, by omega, by unfold sub; simp⟩
  obtain ⟨L, hL⟩ : ∃ L, t.l = L := ⟨_, rfl⟩
  rw [hL] at hi hl HP ⊢
  have HL := Lib.hid hL
  clear h hL
  go_enter Try.func30, Try.ntmps30
  go_wp2
  go_loopw [0, 5] (fun v fv wr => ∃ (u : PT) (f : Nat), v = u.v ∧ fv = .int .i64 f ∧ f ≤ i ∧ i < f + u.l.length ∧ Hid (Part w L u f) ∧ u.d ≤ 100 ∧ wr = w) (fun v _ wr => dV 100 wr v)
  case atStart => exact ⟨t, 0, rfl, rfl, by omega, by rw [HL.out]; omega, HP, hd, rfl⟩
  case round =>
    obtain ⟨u, f, rfl, rfl, hfi, hif, HU, hud, rfl⟩ := hrel
    cases u with
    | nil => simp [PT.l] at hif; omega
    | leaf b l =>
      obtain ⟨c0, c1, _, _⟩ := PT.leaf_cells HU.out.1
      have hl2 := HU.out.2.1
      have hl3 := HU.out.2.2
      have hif' : i < f + l.length := hif
      have hl2' : f + l.length ≤ L.length := hl2
      have hl3' : l = sub L f (f + l.length) := hl3
      have HR : Hid (∃ f' m, f' ≤ i ∧ i < f' + m ∧ f' + m ≤ L.length ∧ Ending.returned (.pointer (some ⟨wr.heap.size, 0, none⟩)) = .returned (.pointer (some ⟨wr.heap.size, 0, none⟩)) ∧ wr.alloc (.cells #[.int .i64 (f : Nat), .string (bstr l)] 83) = wr.alloc (.cells #[.int .i64 (f' : Nat), .string (bstr (sub L f' (f' + m)))] 83)) := Lib.hid ⟨f, l.length, hfi, hif', hl2', rfl, by rw [← hl3']⟩
      rw [show (PT.leaf b l).v = .pointer (some ⟨b, 0, none⟩) from rfl]
      clear hif hif' hl2 hl2' hl3 hl3' HU
      go_wp2
      go_ret
      obtain ⟨f', m', g1, g2, g3, _, g5⟩ := HR.out
      exact ⟨f', g1, m', g2, g3, rfl, g5⟩
    | node b x y =>
      obtain ⟨c0, c1, c2, _⟩ := PT.node_cells HU.out.1
      obtain ⟨bx, hbx, cx⟩ := v_addr HU.out.1.2.2.1 HU.out.1.2.1
      have hl : f + (x.l.length + y.l.length) ≤ L.length := by have := HU.out.2.1; rwa [show (PT.node b x y).l = x.l ++ y.l from rfl, List.length_append] at this
      have hif' : i < f + (x.l.length + y.l.length) := by rwa [show (PT.node b x y).l = x.l ++ y.l from rfl, List.length_append] at hif
      have hm : 1 + max x.d y.d ≤ 100 := hud
      have gx := hgt_le x
      have gy := hgt_le y
      have HX : Hid (dV 100 wr (.pointer (some ⟨bx, 0, none⟩)) = hgt x) := Lib.hid (by rw [← hbx]; exact dV_ok x 100 HU.out.1.2.2.1 (by omega))
      have HY : Hid (dV 100 wr y.v = hgt y) := Lib.hid (dV_ok y 100 HU.out.1.2.2.2 (by omega))
      have HN : Hid (dV 100 wr (.pointer (some ⟨b, 0, none⟩)) = 1 + max (hgt x) (hgt y)) := Lib.hid (dV_ok (.node b x y) 100 HU.out.1 (by simp only [hgt]; omega))
      have HBX := Lib.hid hbx
      rw [show (PT.node b x y).v = .pointer (some ⟨b, 0, none⟩) from rfl]
      rw [hbx] at c1
      clear gx gy hbx hif hud
      obtain ⟨p, hp⟩ : ∃ p, x.l.length = p := ⟨_, rfl⟩
      obtain ⟨q, hq⟩ : ∃ q, y.l.length = q := ⟨_, rfl⟩
      rw [hp] at cx
      rw [hp, hq] at hl hif'
      have HP := Lib.hid hp
      have HQ := Lib.hid hq
      clear hp hq
      have w1 : IntKind.i64.wrap ((i : Int) - (f : Int)) = (i : Int) - (f : Int) := by rw [IntKind.wrap_i64]; omega
      by_cases hlt : i - f < p
      · have hd : decide ((i : Int) - (f : Int) < (p : Int)) = true := by simp; omega
        go_wp2
        go_roundw
        case rel => exact ⟨x, f, by rw [HBX.out], rfl, hfi, by rw [HP.out]; omega, Lib.hid (Part.left HU.out), by omega, trivial⟩
        case measure => simp [HX.out, HN.out]; omega
      · have hd : decide ((i : Int) - (f : Int) < (p : Int)) = false := by simp; omega
        have w2 : IntKind.i64.wrap ((f : Int) + (p : Int)) = (f : Int) + (p : Int) := by rw [IntKind.wrap_i64]; omega
        go_wp2
        go_roundw
        case rel => exact ⟨y, f + p, rfl, by go_num, by omega, by rw [HQ.out]; omega, Lib.hid (by rw [← HP.out]; exact Part.right HU.out), by omega, trivial⟩
        case measure => simp [HY.out, HN.out]; omega

end Go.Proofs.Ytkpdehbffankkaa
