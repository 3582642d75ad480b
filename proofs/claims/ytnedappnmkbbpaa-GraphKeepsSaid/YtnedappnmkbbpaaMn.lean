/- The laws' own laid: rows with edges, and those that were not refused. -/
import Derived.Test.YtnedappnmkbbpaaMv
import Derived.Test.YtnedappnmkbbpaaMi
namespace Go.Proofs.Ytnedappnmkbbpaa
open Go.RowKit

/-- The slice value (a, len, cap) reads, in the world w, as pairs of bytes. -/
structure Pa (w : World) (a : Option Addr) (len cap : Nat) : Prop where
  lc : len ≤ cap
  cm : cap ≤ maxLen
  at_ : 0 < len → ∃ b off, a = some ⟨b, off, none⟩ ∧ b < w.heap.size ∧ ∀ j, j < len → ∃ x y : Nat, x ≤ 255 ∧ y ≤ 255 ∧ w.cell? ⟨b, off + j * 2, none⟩ = some (.int .u8 x) ∧ w.cell? ⟨b, off + j * 2 + 1, none⟩ = some (.int .u8 y)
theorem Pa.below {w w' : World} {a : Option Addr} {len cap : Nat} (h : Pa w a len cap) (hb : Below w.heap.size w w') : Pa w' a len cap :=
  ⟨h.lc, h.cm, fun h0 => by
    obtain ⟨b, off, e, hl, hc⟩ := h.at_ h0
    refine ⟨b, off, e, Nat.lt_of_lt_of_le hl hb.size, fun j hj => ?_⟩
    obtain ⟨x, y, hx, hy, c1, c2⟩ := hc j hj
    exact ⟨x, y, hx, hy, by rw [hb.cell hl]; exact c1, by rw [hb.cell hl]; exact c2⟩⟩

/-- The cells of some edges. -/
def eC (E : List (Nat × Nat)) : List Value := E.flatMap fun p => [.int .i64 p.1, .int .i64 p.2]
theorem eC_app (E : List (Nat × Nat)) (g h : Nat) : eC (E ++ [(g, h)]) = eC E ++ [.int .i64 g, .int .i64 h] := by simp [eC]
theorem eC_len (E : List (Nat × Nat)) : (eC E).length = E.length * 2 := by
  induction E with
  | nil => rfl
  | cons p E ih => simp only [eC, List.flatMap_cons, List.length_append, List.length_cons, List.length_nil] at *; omega
theorem eC_at : ∀ (E : List (Nat × Nat)) (j : Nat) (h : j < E.length), (eC E)[j * 2]? = some (.int .i64 E[j].1) ∧ (eC E)[j * 2 + 1]? = some (.int .i64 E[j].2)
  | p :: E, 0, _ => ⟨rfl, rfl⟩
  | p :: E, j + 1, h => by
    have ih := eC_at E j (by simpa using h)
    have e : eC (p :: E) = [.int .i64 p.1, .int .i64 p.2] ++ eC E := rfl
    rw [e, show (j + 1) * 2 = [Value.int .i64 (p.1 : Int), .int .i64 p.2].length + j * 2 by simp; omega, List.getElem?_append_right (by simp), List.getElem?_append_right (by simp; omega)]
    simp only [Nat.add_sub_cancel_left, List.getElem_cons_succ]
    exact ⟨ih.1, by rw [show [Value.int .i64 (p.1 : Int), .int .i64 p.2].length + j * 2 + 1 - [Value.int .i64 (p.1 : Int), .int .i64 p.2].length = j * 2 + 1 by omega]; exact ih.2⟩

theorem Only.grown {g : Nat} {w w' : World} (h : Only g w w') : w.grownBy w' (some g) := ⟨h.os, h.tape, h.output, by rw [h.size]; exact Nat.le_refl _, fun k _ hk => h.block k (fun e => hk (by rw [e]))⟩
theorem OwnV.apart {base : Nat} {e : TypeId} {k : Nat} {w : World} {a : Option Addr} {len cap : Nat} {xs : List Value} (h : OwnV base e k w a len cap xs) {q : Nat} (hq : q < base) : (Value.slice a len cap).ownBlock ≠ Option.some q := fun he => by
  have := (World.ownsRow.lt h q he).1
  omega
theorem info38 : (Try.prog.info? 38).map (fun i => (i.zero, i.size, i.bytes)) = some (some (.agg #[.int .i64 0, .int .i64 0]), 2, 16) := by kernel_rfl

theorem tmod9 (x : Nat) : ∃ k : Nat, Int.tmod (x : Int) 9 = k ∧ k ≤ 8 := ⟨x % 9, by rw [Int.tmod_eq_emod_of_nonneg (by omega)]; omega, by omega⟩


/-- What Edge answers of rows that come of edges. -/
theorem inv_e {z : List Int} {E : List (Nat × Nat)} (H : Inv z E) {g h : Nat} (hi : inG (g, h)) :
    (eE z g h = 25 ∧ eV z g h = z0 ∧ (g = h ∨ T z h g = true)) ∨ (eE z g h = 0 ∧ eV z g h = eR z g h ∧ Inv (eR z g h) (E ++ [(g, h)]) ∧ g ≠ h ∧ T z h g = false) := by
  obtain ⟨g1, g2, h1, h2⟩ := hi
  simp only at g1 g2 h1 h2
  have hb : inB 1 [(g : Int), (h : Int)] = true := by rw [inB_two]; omega
  by_cases hc : g = h ∨ T z h g = true
  · have := e_cyc (z := z) hb (show (g : Int) = h ∨ T z ((h : Int).toNat) ((g : Int).toNat) = true by rw [Int.toNat_natCast, Int.toNat_natCast]; exact hc.imp (fun e => by rw [e]) id)
    exact .inl ⟨this.1, this.2, hc⟩
  · have := e_ok (z := z) hb (show ¬ ((g : Int) = h ∨ T z ((h : Int).toNat) ((g : Int).toNat) = true) by rw [Int.toNat_natCast, Int.toNat_natCast]; exact fun hh => hc (hh.imp (fun e => by omega) id))
    rw [Int.toNat_natCast, Int.toNat_natCast] at this
    have hne : g ≠ h := fun e => hc (.inl e)
    have hf : T z h g = false := by
      cases ht : T z h g with
      | true => exact absurd (.inr ht) hc
      | false => rfl
    exact .inr ⟨this.1, this.2, H.edge ⟨g1, g2, h1, h2⟩ hne hf, hne, hf⟩

end Go.Proofs.Ytnedappnmkbbpaa
