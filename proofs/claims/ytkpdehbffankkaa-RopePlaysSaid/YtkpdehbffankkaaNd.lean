/- Contract of package rope's build. -/
import Derived.Test.YtkpdehbffankkaaNb
namespace Go.Proofs.Ytkpdehbffankkaa
open Go.RowKit

theorem build_leaf (a : Option Addr) (n cap : Nat) (l : List Int) (w : World) (h : Bs w a n cap l) (hn : n ≤ 64) :
    Calls Try.prog 22 #[.slice a n cap] w fun e w' => ∃ z : PT, e = .returned z.v ∧ z.ok w' ∧ z.l = l ∧ z.d = 1 ∧ Below w.heap.size w w' := by
  have hl := h.hl
  by_cases h0 : n = 0
  · subst h0
    have hl0 : l = [] := List.eq_nil_of_length_eq_zero hl
    subst hl0
    clear h
    go_enter Try.func22, Try.ntmps22
    go_wp2
    go_ret
    exact ⟨.nil, rfl, trivial, rfl, rfl, Below.refl _ _⟩
  · have k1 := h.str (P := Try.prog) 22 9 5 Try.underlying22 Try.underlying5 Try.underlying9
    have hd0 : ((n : Int) == 0) = false := by simp; omega
    have hd1 : decide ((n : Int) ≤ 64) = true := by simp; omega
    have Z : ∃ z : PT, Ending.returned (.pointer (some ⟨w.heap.size, 0, none⟩)) = .returned z.v ∧ z.ok (w.alloc (.cells (PT.cellsL l) 88)) ∧ z.l = l ∧ z.d = 1 ∧ Below w.heap.size w (w.alloc (.cells (PT.cellsL l) 88)) :=
      ⟨.leaf w.heap.size l, rfl, ⟨heapAt4 w _, h.rng⟩, rfl, rfl, (Below.refl _ _).alloc (Nat.le_refl _) _⟩
    unfold PT.cellsL at Z
    rw [hl] at Z
    have HZ := Lib.hid Z
    clear h Z hn hl
    go_enter Try.func22, Try.ntmps22
    go_wp2
    go_ret
    exact HZ.out

theorem split_len {l x y : List Int} {f n : Nat} (hx : x = l.take f) (hy : y = l.drop f) (hn : l.length = n) (_ : f ≤ n) (hb : n ≤ 4000000) : x.length + y.length ≤ 4000000 := by
  rw [hx, hy, List.length_take, List.length_drop]; omega

set_option maxRecDepth 20000 in
theorem build_any : ∀ (m : Nat) (a : Option Addr) (n cap : Nat) (l : List Int) (w : World), Bs w a n cap l → n ≤ 64 * 2 ^ m → n ≤ 4000000 →
    Calls Try.prog 22 #[.slice a n cap] w fun e w' => ∃ z : PT, e = .returned z.v ∧ z.ok w' ∧ z.l = l ∧ z.d ≤ m + 1 ∧ Below w.heap.size w w' := by
  intro m
  induction m with
  | zero =>
    intro a n cap l w h hn _
    refine (build_leaf a n cap l w h (by omega)).mono ?_
    rintro e w' ⟨z, h1, h2, h3, h4, h5⟩
    exact ⟨z, h1, h2, h3, by omega, h5⟩
  | succ m ih =>
    intro a n cap l w h hn hbig
    by_cases h64 : n ≤ 64
    · refine (build_leaf a n cap l w h h64).mono ?_
      rintro e w' ⟨z, h1, h2, h3, h4, h5⟩
      exact ⟨z, h1, h2, h3, by omega, h5⟩
    · have hlc := h.lc
      have hcm := h.cm
      have hcm' := h.cm
      unfold maxLen at hcm'
      have hl := h.hl
      obtain ⟨b, off, rfl, _, _⟩ := h.at_ (by omega)
      obtain ⟨f, hf⟩ : ∃ f, f = n / 2 := ⟨_, rfl⟩
      have hq : (n : Int) / 2 = (f : Int) := by omega
      have hf1 : f ≤ n := by omega
      have hfm : f ≤ 64 * 2 ^ m := by rw [Nat.pow_succ] at hn; omega
      have hgm : n - f ≤ 64 * 2 ^ m := by rw [Nat.pow_succ] at hn; omega
      have I1 := Lib.hid (fun w1 (hb : Below w.heap.size w w1) => ih (some ⟨b, off, none⟩) f cap (l.take f) w1 ((h.below hb).take hf1 (by omega) hcm) hfm (by omega))
      have I2 := Lib.hid (fun w1 (hb : Below w.heap.size w w1) => ih (some ⟨b, off + f, none⟩) (n - f) (cap - f) (l.drop f) w1 ((h.below hb).drop hf1) hgm (by omega))
      have hd0 : ((n : Int) == 0) = false := by simp; omega
      have hd1 : decide ((n : Int) ≤ 64) = false := by simp; omega
      have HF := Lib.hid hf
      have HM := Lib.hid hfm
      have HG := Lib.hid hgm
      have HN := Lib.hid hn
      have HL := Lib.hid hl
      have hfc : f < cap := by omega
      have i1 : (0 : Int) ≤ (f : Int) := by omega
      have i2 : (f : Int) ≤ (cap : Int) := by omega
      have i3 : (f : Int) ≤ (n : Int) := by omega
      have i4 : (n : Int) ≤ (cap : Int) := by omega
      clear h ih hf hfm hgm hn hl hcm
      go_enter Try.func22, Try.ntmps22
      go_wp2
      go_region_held3 (fun _ => True) (trivial) (first
        | (go_at_call 22; (with_reducible refine (I1.out _ (Below.refl _ _).drew).mono ?_); rintro e w1 ⟨x, rfl, x1, x2, x3, x4⟩)
        | (go_at_call 22; (with_reducible refine (I2.out _ ?_).mono ?_); (exact (Below.refl _ _).drew.trans x4); rintro e w2 ⟨y, rfl, y1, y2, y3, y4⟩)
        | (go_at_call 27; (with_reducible refine (join_any x y _ (PT.ok.below y4 x x1) y1 ?_).mono ?_); (exact split_len x2 y2 HL.out hf1 hbig); rintro e w3 ⟨z, rfl, z1, z2, z3, z4⟩))
      have HB : Hid (Below w.heap.size w w3) := by
        have h1 := ((Below.refl w.heap.size w).drew.trans x4)
        have h2 := h1.trans (y4.mono h1.size)
        exact Lib.hid (h2.trans (z4.mono h2.size))
      clear x4 y4 z4
      go_wp2
      go_ret
      exact ⟨z, rfl, z1, by rw [z2, x2, y2, List.take_append_drop], by omega, HB.out⟩

end Go.Proofs.Ytkpdehbffankkaa
