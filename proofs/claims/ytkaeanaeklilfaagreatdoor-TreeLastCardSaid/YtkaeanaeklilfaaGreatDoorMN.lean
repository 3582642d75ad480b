/- Texts laid one behind the other. -/
import Derived.Test.YtkaeanaeklilfaaGreatDoorMK
import Derived.MapKept
import Derived.Test.YtkaeanaeklilfaaGreatDoorML

/- A map of texts to true, of the call's own: what is in it; env.Unique. -/
namespace Go.Proofs.YtkaeanaeklilfaaGreatDoor
open Go.RowKit

def kvM (S : List Nm) : List (Value × Value) := S.map fun x => (Value.string (mk x), Value.bool true)
/-- The block g holds a map with true at each of these. -/
def MS (w : World) (g : Nat) (S : List Nm) : Prop := ∃ es clock, w.heap[g]? = some (.map es clock) ∧ es.toList.map (fun e => (e.key, e.val)) = kvM S

theorem MS.new (w : World) : MS (w.alloc (.map #[] 0)) w.heap.size [] := ⟨#[], 0, heap_alloc_new w _, rfl⟩
theorem MS.lt {w : World} {g : Nat} {S : List Nm} (h : MS w g S) : g < w.heap.size := by obtain ⟨_, _, h, _⟩ := h; exact (Array.getElem?_eq_some_iff.1 h).1
theorem MS.below {w w' : World} {g : Nat} {S : List Nm} (h : MS w g S) (hb : Below w.heap.size w w') : MS w' g S := by
  have hl := h.lt
  obtain ⟨es, cl, h, h2⟩ := h
  exact ⟨es, cl, (hb.block g hl).trans h, h2⟩
/-- Texts that are read are not in the map's block. -/
theorem Ss.only {w w' : World} {g : Nat} {S P : List Nm} {a : Option Addr} {n c : Nat} (h : Ss w a n c P) (hm : MS w g S) (ho : Only g w w') : Ss w' a n c P :=
  ⟨h.hl, h.lc, h.cm, fun h0 => by
    obtain ⟨b, off, ha, hb, hc⟩ := h.at_ h0
    have hne : b ≠ g := fun e => by
      subst e
      obtain ⟨es, cl, hm, _⟩ := hm
      have h1 := hc 0 (by omega)
      have hl := h.hl
      rw [List.getElem?_eq_getElem (by omega)] at h1
      unfold World.cell? at h1
      dsimp only at h1
      rw [hm] at h1
      cases h1
    exact ⟨b, off, ha, by rw [ho.size]; exact hb, fun j hj => (World.cell?_of_block (ho.block b hne)).trans (hc j hj)⟩⟩

/-! ### env.Unique -/

end Go.Proofs.YtkaeanaeklilfaaGreatDoor

/- env.Drop. -/
namespace Go.Proofs.YtkaeanaeklilfaaGreatDoor
open Go.RowKit Go.ChangeMaps

/-! ### The map of what is due -/

theorem MS.keep {w w' : World} {g B : Nat} {S : List Nm} (h : MS w g S) (hb : Below B w w') (hg : g < B) : MS w' g S := by
  obtain ⟨es, cl, h, h2⟩ := h
  exact ⟨es, cl, (hb.block g hg).trans h, h2⟩
theorem MS.alloc {w : World} {g : Nat} {S : List Nm} (h : MS w g S) (o : Obj) : MS (w.alloc o) g S := h.below (below_alloc w o)
/-! ### What Drop answers -/

def fk (L : List OP) (p : Nm) (k : Nat) : Bool := (L.take k).any fun o => o.1 == p
def drpE (L : List OP) (p : Nm) : Int := match drpI L p with
  | none => 2
  | some _ => 0
def drpZ (L : List OP) (z : List Int) (p : Nm) : List Int := if drpE L p = 0 then z else z0
end Go.Proofs.YtkaeanaeklilfaaGreatDoor
