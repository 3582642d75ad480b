/- The answers of layer 8 as one, right or wrong: of the rope, and of the document. -/
import Derived.Test.YtkpdehbffankkaaOe
import Derived.Test.YtkpdehbffankkaaOd
namespace Go.Proofs.Ytkpdehbffankkaa
open Go.RowKit

def slBad (N : Nat) (f k : Int) : Prop := f < 0 ∨ k < f ∨ (N : Int) < k
instance (N : Nat) (f k : Int) : Decidable (slBad N f k) := by unfold slBad; exact inferInstance
def slE (N : Nat) (f k : Int) : Int := if slBad N f k then 3 else 0
def slL (l : List Int) (f k : Int) : List Int := if slBad l.length f k then [] else sub l f.toNat k.toNat

def atBad (N : Nat) (i : Int) : Prop := i < 0 ∨ (N : Int) ≤ i
instance (N : Nat) (i : Int) : Decidable (atBad N i) := by unfold atBad; exact inferInstance
def atV (l : List Int) (i : Int) : Int := if atBad l.length i then 0 else bt l i.toNat
def atB (l : List Int) (i : Int) : Bool := !decide (atBad l.length i)

def repBad (N : Nat) (k d : Int) : Prop := k < 0 ∨ d < 0 ∨ (N : Int) < k ∨ (N : Int) - k < d
instance (N : Nat) (k d : Int) : Decidable (repBad N k d) := by unfold repBad; exact inferInstance
def repE (N : Nat) (k d : Int) (n : Nat) : Int := if repBad N k d then 3 else if 2048 < (N : Int) - d + n then 4 else 0

theorem repE_ok {N n : Nat} {k d : Int} (h : repE N k d n = 0) : ∃ k' d' : Nat, k = k' ∧ d = d' ∧ k' + d' ≤ N ∧ N - d' + n ≤ 2048 := by
  unfold repE at h
  by_cases h1 : repBad N k d
  · rw [if_pos h1] at h; omega
  · rw [if_neg h1] at h
    unfold repBad at h1
    by_cases h2 : 2048 < (N : Int) - d + n
    · rw [if_pos h2] at h; omega
    · exact ⟨k.toNat, d.toNat, by omega, by omega, by omega, by omega⟩

variable {w : World} {b : Nat} {t : PT} {e : Nat} {sv : Value} {dn dp : Int}

theorem rep_no (k d : Int) (a : Option Addr) (n c : Nat) (h : RP w b t e sv dn dp) (hn : n ≤ 4000000) (hE : repE t.l.length k d n ≠ 0) :
    Calls Try.prog 13 #[.pointer (some ⟨b, 0, none⟩), .int .i64 k, .int .i64 d, .slice a n c] w fun r w' => r = .returned (.tuple #[.pointer none, .int .i64 (repE t.l.length k d n)]) ∧ w = w' := by
  unfold repE at hE ⊢
  by_cases h1 : repBad t.l.length k d
  · rw [if_pos h1]
    exact rep_range k d a n c h h1
  · rw [if_neg h1] at hE ⊢
    unfold repBad at h1
    by_cases h2 : 2048 < (t.l.length : Int) - d + n
    · rw [if_pos h2]
      obtain ⟨k', rfl⟩ := Int.eq_ofNat_of_zero_le (show 0 ≤ k by omega)
      obtain ⟨d', rfl⟩ := Int.eq_ofNat_of_zero_le (show 0 ≤ d by omega)
      exact rep_big k' d' a n c h (by omega) hn (by omega)
    · rw [if_neg h2] at hE; exact absurd rfl hE

theorem rrep_no (k d : Int) (a : Option Addr) (N c : Nat) (a' : Option Addr) (n c' : Nat) (w : World) (hN : N ≤ 4000000) (hn : n ≤ 4000000) (hE : repE N k d n ≠ 0) :
    Calls Try.prog 14 #[.slice a N c, .int .i64 k, .int .i64 d, .slice a' n c'] w fun r w' => r = .returned (.tuple #[.slice none 0 0, .int .i64 (repE N k d n)]) ∧ w = w' := by
  unfold repE at hE ⊢
  by_cases h1 : repBad N k d
  · rw [if_pos h1]
    exact rrep_range k d a N c a' n c' w hN h1
  · rw [if_neg h1] at hE ⊢
    unfold repBad at h1
    by_cases h2 : 2048 < (N : Int) - d + n
    · rw [if_pos h2]
      obtain ⟨k', rfl⟩ := Int.eq_ofNat_of_zero_le (show 0 ≤ k by omega)
      obtain ⟨d', rfl⟩ := Int.eq_ofNat_of_zero_le (show 0 ≤ d by omega)
      exact rrep_big k' d' a N c a' n c' w hN (by omega) hn (by omega)
    · rw [if_neg h2] at hE; exact absurd rfl hE

theorem slice_all (f k : Int) (h : RP w b t e sv dn dp) :
    Calls Try.prog 16 #[.pointer (some ⟨b, 0, none⟩), .int .i64 f, .int .i64 k] w fun r w' => ∃ a n c, r = .returned (.tuple #[.slice a n c, .int .i64 (slE t.l.length f k)]) ∧ OwnB w.heap.size 5 w' a n c (slL t.l f k) ∧ n ≤ 2048 ∧ Below w.heap.size w w' := by
  unfold slE slL
  by_cases h1 : slBad t.l.length f k
  · rw [if_pos h1, if_pos h1]
    refine (slice_bad f k h h1).mono ?_
    rintro r w' ⟨rfl, rfl⟩
    exact ⟨none, 0, 0, rfl, OwnB.none0, Nat.zero_le _, Below.refl _ _⟩
  · rw [if_neg h1, if_neg h1]
    unfold slBad at h1
    have hl := h.len
    obtain ⟨f', rfl⟩ := Int.eq_ofNat_of_zero_le (show 0 ≤ f by omega)
    obtain ⟨k', rfl⟩ := Int.eq_ofNat_of_zero_le (show 0 ≤ k by omega)
    refine (slice_any f' k' h (by omega) (by omega)).mono ?_
    rintro r w' ⟨a, c, rfl, h2, h3⟩
    exact ⟨a, _, c, rfl, h2, by omega, h3⟩

theorem rslice_all (f k : Int) (a : Option Addr) (N cap : Nat) (l : List Int) (h : Bs w a N cap l) (hN : N ≤ 2048) :
    Calls Try.prog 17 #[.slice a N cap, .int .i64 f, .int .i64 k] w fun r w' => ∃ a n c, r = .returned (.tuple #[.slice a n c, .int .i64 (slE N f k)]) ∧ OwnB w.heap.size 5 w' a n c (slL l f k) ∧ n ≤ 2048 ∧ Below w.heap.size w w' := by
  unfold slE slL
  rw [h.hl]
  by_cases h1 : slBad N f k
  · rw [if_pos h1, if_pos h1]
    refine (rslice_bad a N cap f k w (by omega) h1).mono ?_
    rintro r w' ⟨rfl, rfl⟩
    exact ⟨none, 0, 0, rfl, OwnB.none0, Nat.zero_le _, Below.refl _ _⟩
  · rw [if_neg h1, if_neg h1]
    unfold slBad at h1
    obtain ⟨f', rfl⟩ := Int.eq_ofNat_of_zero_le (show 0 ≤ f by omega)
    obtain ⟨k', rfl⟩ := Int.eq_ofNat_of_zero_le (show 0 ≤ k by omega)
    refine (rslice_any a N cap l f' k' w h (by omega) (by omega) (by omega)).mono ?_
    rintro r w' ⟨g, c, rfl, h2, h3⟩
    exact ⟨_, _, c, rfl, h2, by omega, h3⟩

theorem at_all (i : Int) (h : RP w b t e sv dn dp) :
    Calls Try.prog 18 #[.pointer (some ⟨b, 0, none⟩), .int .i64 i] w fun r w' => r = .returned (.tuple #[.int .u8 (atV t.l i), .bool (atB t.l i)]) ∧ (∃ sv', RP w' b t e sv' dn dp) ∧ w.grownBy w' (some b) := by
  unfold atV atB
  by_cases h1 : atBad t.l.length i
  · rw [if_pos h1, decide_eq_true h1]
    refine (at_bad i h h1).mono ?_
    rintro r w' ⟨rfl, rfl⟩
    exact ⟨rfl, ⟨_, h⟩, gb_below (Below.refl _ _)⟩
  · rw [if_neg h1, decide_eq_false h1]
    unfold atBad at h1
    obtain ⟨i', rfl⟩ := Int.eq_ofNat_of_zero_le (show 0 ≤ i by omega)
    exact at_any i' h (by omega)

theorem rat_all (i : Int) (a : Option Addr) (N cap : Nat) (l : List Int) (h : Bs w a N cap l) (hN : N ≤ 2048) :
    Calls Try.prog 19 #[.slice a N cap, .int .i64 i] w fun r w' => r = .returned (.tuple #[.int .u8 (atV l i), .bool (atB l i)]) ∧ w = w' := by
  unfold atV atB
  rw [h.hl]
  by_cases h1 : atBad N i
  · rw [if_pos h1, decide_eq_true h1]
    exact rat_bad a N cap i w (by omega) h1
  · rw [if_neg h1, decide_eq_false h1]
    unfold atBad at h1
    obtain ⟨i', rfl⟩ := Int.eq_ofNat_of_zero_le (show 0 ≤ i by omega)
    exact rat_any a N cap l i' w h (by omega) (by omega)

/-- The first rope, as it was. -/
def First (w : World) (g0 : Nat) (B0 : List Int) : Prop := ∃ t e sv dn dp, RP w g0 t e sv dn dp ∧ t.l = B0

theorem First.below {w w' : World} {g0 : Nat} {B0 : List Int} (h : First w g0 B0) (hb : Below w.heap.size w w') : First w' g0 B0 := by
  obtain ⟨t, e, sv, dn, dp, h1, h2⟩ := h
  exact ⟨t, e, sv, dn, dp, h1.below hb, h2⟩

theorem First.step {w w' : World} {g0 b : Nat} {B0 : List Int} {t : PT} {e e' : Nat} {sv sv' : Value} {dn dp dn' dp' : Int} (h : First w g0 B0) (h1 : RP w b t e sv dn dp) (h2 : RP w' b t e' sv' dn' dp') (hg : w.grownBy w' (some b)) (hE : b = g0 → t.l = B0) : First w' g0 B0 := by
  by_cases hb : b = g0
  · subst hb
    exact ⟨t, e', sv', dn', dp', h2, hE rfl⟩
  · obtain ⟨t0, e0, s0, n0, p0, h3, h4⟩ := h
    exact ⟨t0, e0, s0, n0, p0, h3.other h1 hg (fun hh => hb hh.symm), h4⟩

/-- A row of bytes is written: ropes are as they were. -/
theorem RP.row {w w' : World} {b : Nat} {t : PT} {e : Nat} {sv : Value} {dn dp : Int} {base : Nat} {a : Option Addr} {n c : Nat} {L : List Int} (h : RP w b t e sv dn dp) (ho : OwnB base 5 w a n c L) (hg : w.grownBy w' (Value.ownBlock (.slice a n c))) : RP w' b t e sv dn dp := by
  refine h.kt (PT.Kt.grown ho hg) (hg.block b h.lt ?_)
  intro hk
  rcases ho.1.2 with ⟨hv, _⟩ | ⟨g, cp, cur, hv, _, hgg, _⟩
  · rw [hv] at hk; simp [Value.ownBlock] at hk
  · rw [hv] at hk
    simp only [Value.ownBlock, Option.some.injEq] at hk
    subst hk
    have := hgg.symm.trans h.blk
    simp only [Option.some.injEq, Obj.cells.injEq] at this
    exact absurd this.2.1 (by decide)

theorem First.row {w w' : World} {g0 : Nat} {B0 : List Int} {base : Nat} {a : Option Addr} {n c : Nat} {L : List Int} (h : First w g0 B0) (ho : OwnB base 5 w a n c L) (hg : w.grownBy w' (Value.ownBlock (.slice a n c))) : First w' g0 B0 := by
  obtain ⟨t, e, sv, dn, dp, h1, h2⟩ := h
  exact ⟨t, e, sv, dn, dp, h1.row ho hg, h2⟩

end Go.Proofs.Ytkpdehbffankkaa
