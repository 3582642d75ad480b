/- Rows and ropes while others are written: small lemmas for RopePlays. -/
import Derived.Test.YtkpdehbffankkaaOf
namespace Go.Proofs.Ytkpdehbffankkaa
open Go.RowKit

theorem RP.ne {w : World} {b x : Nat} {t : PT} {e : Nat} {sv : Value} {dn dp : Int} {base n c : Nat} {L : List Int} (h : RP w b t e sv dn dp) (ho : OwnB base 5 w (some ⟨x, 0, none⟩) n c L) : x ≠ b := by
  intro hk
  subst hk
  rcases ho.1.2 with ⟨hv, _⟩ | ⟨g, cp, cur, hv, _, hgg, _⟩
  · simp at hv
  · simp only [Value.slice.injEq, Option.some.injEq, Addr.mk.injEq] at hv
    rw [← hv.1.1] at hgg
    have := hgg.symm.trans h.blk
    simp only [Option.some.injEq, Obj.cells.injEq] at this
    exact absurd this.2.1 (by decide)

/-- A row of an elder block, while another row is written. -/
theorem OwnB.rowN {base base' x : Nat} {e : TypeId} {w w' : World} {n c : Nat} {l : List Int} {a : Option Addr} {n' c' : Nat} {l' : List Int} (h : OwnB base e w (some ⟨x, 0, none⟩) n c l) (ho : OwnB base' e w a n' c' l') (hx : x < base') (hg : w.grownBy w' (Value.ownBlock (.slice a n' c'))) : OwnB base e w' (some ⟨x, 0, none⟩) n c l := by
  refine ⟨h.1.kept hg (.inr ?_), h.2⟩
  intro hh
  have := ho.1.lt x (by rw [← hh]; rfl)
  omega

theorem rows_below {base B : Nat} {e : TypeId} {w w' : World} {a : Option Addr} {n c : Nat} {l : List Int} (ho : OwnB base e w a n c l) (hg : w.grownBy w' (Value.ownBlock (.slice a n c))) (hB : B ≤ base) (hs : B ≤ w.heap.size) : Below B w w' :=
  (Below.refl B w).grown hg hs fun k hk => Nat.le_trans hB (ho.1.lt k hk).1

theorem gbo_set {w : World} {gp n c k : Nat} (v : Value) : w.grownBy (w.setCell ⟨gp, k, none⟩ v) (Value.ownBlock (.slice (some ⟨gp, 0, none⟩) n c)) := gb_set w gp k v
theorem gbo_trans {r : Option Nat} {w w' w'' : World} (h : w.grownBy w' r) (g : w'.grownBy w'' r) : w.grownBy w'' r :=
  ⟨g.os.trans h.os, g.tape.trans h.tape, g.output.trans h.output, Nat.le_trans h.size g.size, fun k hk hn => (g.block k (Nat.lt_of_lt_of_le hk h.size) hn).trans (h.block k hk hn)⟩

theorem OwnB.base {base base' : Nat} {e : TypeId} {w : World} {a : Option Addr} {n c : Nat} {l : List Int} (h : OwnB base e w a n c l) (hb : base' ≤ base) : OwnB base' e w a n c l := by
  refine ⟨⟨h.1.1, ?_⟩, h.2⟩
  rcases h.1.2 with h1 | ⟨x, cp, cur, h1, h2, h3⟩
  · exact .inl h1
  · exact .inr ⟨x, cp, cur, h1, Nat.le_trans hb h2, h3⟩

theorem OwnB.blk {base g n c : Nat} {e : TypeId} {w : World} {l : List Int} (h : OwnB base e w (some ⟨g, 0, none⟩) n c l) : base ≤ g ∧ g < w.heap.size := h.1.lt g rfl

end Go.Proofs.Ytkpdehbffankkaa
