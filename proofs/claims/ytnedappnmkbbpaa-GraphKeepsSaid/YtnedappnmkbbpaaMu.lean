/- An argument that is a slice of pairs of bytes: what it holds. No walk here. -/
import Derived.Test.YtnedappnmkbbpaaMn
import Derived.Test.YtnedappnmkbbpaaUb
import Derived.Deep.Slices
import Derived.WideShapes
import Derived.ProofKit
import Derived.OpenShut
namespace Go.Proofs.Ytnedappnmkbbpaa
open Go.RowKit Go.ChangeShapes Go.WideShapes

theorem cellsPair : Try.prog.cellsOf 36 = 2 := by kernel_rfl
theorem cellsU8 : Try.prog.cellsOf 5 = 1 := by kernel_rfl

section
variable {H : Type} {enc : TypeId × Value → H} {w : World} {base : Nat} {spare : Nat → Bool} {held : Bool}

theorem pair_cells {n : Nat} {cs : List Value} {x : DataW H × List MemPlace} (h : DataW.trod enc Try.prog w base spare held n 36 cs = some x) : ∃ x y : Nat, x ≤ 255 ∧ y ≤ 255 ∧ cs = [.int .u8 x, .int .u8 y] := by
  obtain ⟨xs, n', rfl, _, hl, hlen, hf⟩ := DataW.trod_array Try.underlying36 h
  rw [cellsPair] at hl
  match cs, hl, xs, hlen with
  | [c0, c1], _, [y0, y1], _ =>
    have h0 := hf 0 (by omega)
    have h1 := hf 1 (by omega)
    simp only [cellsU8, Nat.zero_mul, Nat.one_mul, List.drop_zero, List.drop_succ_cons, List.take_succ_cons, List.take_zero, List.getElem?_cons_zero, List.getElem?_cons_succ] at h0 h1
    obtain ⟨p, e0, _, w0⟩ := DataW.trod_int Try.underlying5 h0
    obtain ⟨q, e1, _, w1⟩ := DataW.trod_int Try.underlying5 h1
    have b0 := byte_rng w0
    have b1 := byte_rng w1
    obtain ⟨x, rfl⟩ := Int.eq_ofNat_of_zero_le b0.1
    obtain ⟨y, rfl⟩ := Int.eq_ofNat_of_zero_le b1.1
    simp only [List.cons.injEq, and_true] at e0 e1
    subst e0; subst e1
    exact ⟨x, y, by omega, by omega, rfl⟩

theorem open_pairs {a : Option Addr} {len cap : Nat} {d : DataW H} {ps : List MemPlace} (h : DataW.Trod enc Try.prog w base (fun _ => true) held 30 (.slice a len cap) d ps) : Pa w a len cap := by
  obtain ⟨fuel, hf⟩ := h
  rcases Go.Deep.open_slice Try.underlying30 hf with ⟨hcs, _⟩ | ⟨x, l, c, m, n, D, Pl, hcs, hb, hl, hm, hmm, _, hx⟩
  · simp [Value.cells] at hcs
    obtain ⟨rfl, rfl, rfl⟩ := hcs
    exact ⟨Nat.le_refl _, Nat.zero_le _, fun h0 => absurd h0 (by omega)⟩
  · simp [Value.cells] at hcs
    obtain ⟨rfl, rfl, rfl⟩ := hcs
    rw [if_pos rfl] at hmm
    subst hmm
    have key : ∀ i, i < len → ∃ p q : Nat, p ≤ 255 ∧ q ≤ 255 ∧ ∀ j, j < 2 → w.cell? (x.add (i * 2 + j)) = [Value.int .u8 p, .int .u8 q][j]? := by
      intro i hi
      obtain ⟨cs', h1, h2⟩ := hx i (by omega)
      rw [cellsPair] at h1
      obtain ⟨p, q, hp, hq, rfl⟩ := pair_cells h2
      obtain ⟨_, _, h3⟩ := World.cells?_some h1
      exact ⟨p, q, hp, hq, fun j hj => by rw [← Go.Deep.add_add]; exact h3 j hj⟩
    refine ⟨hl, hm, fun h0 => ?_⟩
    obtain ⟨b, off, spot⟩ := x
    obtain ⟨p, q, _, _, h1⟩ := key 0 h0
    have h1 := h1 0 (by decide)
    have hspot : spot = none := by simpa [Addr.add] using World.cell?_spot h1
    subst hspot
    refine ⟨b, off, rfl, ?_, fun j hj => ?_⟩
    · have := World.block_lt_of_cell? w _ h1
      simpa [Addr.add] using this
    · obtain ⟨p, q, hp, hq, h2⟩ := key j hj
      refine ⟨p, q, hp, hq, ?_, ?_⟩
      · have := h2 0 (by decide); rwa [addr_add] at this
      · have := h2 1 (by decide); rwa [addr_add] at this

end
end Go.Proofs.Ytnedappnmkbbpaa
