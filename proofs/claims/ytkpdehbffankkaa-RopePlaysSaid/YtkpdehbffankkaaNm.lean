/- A rope's parts in memory: a tree of leaves and nodes; what is kept of it. -/
import Derived.Test.YtkpdehbffankkaaBy
import Derived.Test.YtkpdehbffankkaaBc
import Derived.Test.YtkpdehbffankkaaBs
import Derived.Test.YtkpdehbffankkaaRt
import Derived.Lib.MinMax
namespace Go.Proofs.Ytkpdehbffankkaa
open Go.RowKit

/-- What parts a text has: none; a leaf's block and bytes; a node's block and sides. -/
inductive PT where
  | nil
  | leaf (b : Nat) (l : List Int)
  | node (b : Nat) (x y : PT)

namespace PT
def l : PT → List Int
  | nil => []
  | leaf _ l => l
  | node _ x y => x.l ++ y.l

def v : PT → Value
  | nil => .pointer none
  | leaf b _ => .pointer (some ⟨b, 0, none⟩)
  | node b _ _ => .pointer (some ⟨b, 0, none⟩)

def d : PT → Nat
  | nil => 1
  | leaf _ _ => 1
  | node _ x y => 1 + max x.d y.d

def cellsL (l : List Int) : Array Value := #[.string (bstr l), .pointer none, .pointer none, .int .i64 l.length]
def cellsN (x y : PT) : Array Value := #[.string ⟨#[]⟩, x.v, y.v, .int .i64 (x.l.length + y.l.length : Nat)]

/-- The parts stand in the world w. -/
def ok (w : World) : PT → Prop
  | nil => True
  | leaf b l => w.heap[b]? = some (.cells (cellsL l) 88 (0, 0)) ∧ ∀ x ∈ l, 0 ≤ x ∧ x ≤ 255
  | node b x y => w.heap[b]? = some (.cells (cellsN x y) 88 (0, 0)) ∧ x.v ≠ .pointer none ∧ x.ok w ∧ y.ok w

theorem l_rng {w : World} : ∀ (t : PT), t.ok w → ∀ x ∈ t.l, 0 ≤ x ∧ x ≤ 255
  | nil, _, x, hx => by simp [l] at hx
  | leaf _ _, h, x, hx => h.2 x hx
  | node _ s t, h, x, hx => by
    rcases List.mem_append.1 hx with h1 | h1
    · exact l_rng s h.2.2.1 x h1
    · exact l_rng t h.2.2.2 x h1

theorem d_pos : ∀ (t : PT), 1 ≤ t.d
  | nil => Nat.le_refl _
  | leaf _ _ => Nat.le_refl _
  | node _ _ _ => by simp [d]

/-- The blocks that are no rows of bytes (and no ropes) are kept. -/
def Kt (w w' : World) : Prop := ∀ (k : Nat) (c : Array Value) (e : TypeId) (m : Nat × Nat), w.heap[k]? = some (.cells c e m) → e = 88 ∨ e = 83 → w'.heap[k]? = some (.cells c e m)

theorem Kt.refl (w : World) : Kt w w := fun _ _ _ _ h _ => h
theorem Kt.trans {a b c : World} (h : Kt a b) (k : Kt b c) : Kt a c := fun i x e m h1 h2 => k i x e m (h i x e m h1 h2) h2
theorem Kt.below {w w' : World} (h : Below w.heap.size w w') : Kt w w' := fun i _ _ _ h1 _ => (h.block i (Array.getElem?_eq_some_iff.1 h1).1).trans h1

/-- Behind an append onto a row of bytes of the call's own. -/
theorem Kt.grown {w w' : World} {base : Nat} {a : Option Addr} {n c : Nat} {L : List Int} (ho : OwnB base 5 w a n c L) (hg : w.grownBy w' (Value.ownBlock (.slice a n c))) : Kt w w' := by
  intro k x e m h1 h2
  refine (hg.block k (Array.getElem?_eq_some_iff.1 h1).1 ?_).trans h1
  intro hk
  rcases ho.1.2 with ⟨hv, _⟩ | ⟨g, cp, cur, hv, _, hgg, _⟩
  · rw [hv] at hk; simp [Value.ownBlock] at hk
  · rw [hv] at hk
    simp only [Value.ownBlock, Option.some.injEq] at hk
    subst hk
    rw [h1] at hgg
    simp only [Option.some.injEq, Obj.cells.injEq] at hgg
    rcases h2 with h2 | h2 <;> (rw [h2] at hgg; exact absurd hgg.2.1 (by decide))

theorem ok.kt {w w' : World} (hk : Kt w w') : ∀ (t : PT), t.ok w → t.ok w'
  | nil, _ => trivial
  | leaf b _, h => ⟨hk b _ _ _ h.1 (.inl rfl), h.2⟩
  | node b x y, h => ⟨hk b _ _ _ h.1 (.inl rfl), h.2.1, ok.kt hk x h.2.2.1, ok.kt hk y h.2.2.2⟩

theorem ok.below {w w' : World} (hk : Below w.heap.size w w') (t : PT) (h : t.ok w) : t.ok w' := ok.kt (Kt.below hk) t h

/-- What a part's pointer says of it. -/
theorem v_nil {w : World} : ∀ (t : PT), t.ok w → t.v = .pointer none → t = nil
  | nil, _, _ => rfl
  | leaf _ _, _, h => by simp [v] at h
  | node _ _ _, _, h => by simp [v] at h

theorem bstr_size (l : List Int) : (bstr l).size = l.length := by
  show (bstr l).data.size = _
  simp [bstr]

/-- The cells of a leaf. -/
theorem leaf_cells {w : World} {b : Nat} {l : List Int} (h : (leaf b l).ok w) :
    w.cell? ⟨b, 0, none⟩ = some (.string (bstr l)) ∧ w.cell? ⟨b, 1, none⟩ = some (.pointer none) ∧ w.cell? ⟨b, 2, none⟩ = some (.pointer none) ∧ w.cell? ⟨b, 3, none⟩ = some (.int .i64 l.length) := by
  refine ⟨?_, ?_, ?_, ?_⟩ <;> simp [World.cell?, h.1, cellsL]

theorem node_cells {w : World} {b : Nat} {x y : PT} (h : (node b x y).ok w) :
    w.cell? ⟨b, 0, none⟩ = some (.string ⟨#[]⟩) ∧ w.cell? ⟨b, 1, none⟩ = some x.v ∧ w.cell? ⟨b, 2, none⟩ = some y.v ∧ w.cell? ⟨b, 3, none⟩ = some (.int .i64 (x.l.length + y.l.length : Nat)) := by
  refine ⟨?_, ?_, ?_, ?_⟩ <;> simp [World.cell?, h.1, cellsN]

/-- How many bytes a part has stands in it. -/
theorem size_cell {w : World} : ∀ (t : PT), t.ok w → t.v ≠ .pointer none → ∃ b, t.v = .pointer (some ⟨b, 0, none⟩) ∧ w.cell? ⟨b, 3, none⟩ = some (.int .i64 t.l.length)
  | nil, _, h => absurd rfl h
  | leaf b l, h, _ => ⟨b, rfl, (leaf_cells h).2.2.2⟩
  | node b x y, h, _ => ⟨b, rfl, by rw [(node_cells h).2.2.2]; simp [PT.l]⟩

end PT
end Go.Proofs.Ytkpdehbffankkaa
