import Derived.Test.YtcjbhdgjcpnklaaGreatDoorN21
import Derived.Test.YtcjbhdgjcpnklaaGreatDoorN23
namespace Go.Proofs.YtcjbhdgjcpnklaaGreatDoor
section
open Go.RowKit
section
variable (L : List OP) (z : List Int) (tok : List TK)
end
section
variable {L : List OP} {z : List Int} {tok : List TK}
variable {T : Nat → Nat → List TT} {To : Nat}
end
end
section
open Go.RowKit
section
variable {L : List OP} {z : List Int} {tok : List TK} {T : Nat → Nat → List TT} {To : Nat}
end
end
section
open Go.RowKit
section
variable {L L' : List OP} {z z' : List Int} {tok : List TK} {To : Nat}
end
end
section
open Go.RowKit
section
variable {L L' L'' : List OP} {z z' z'' : List Int} {tok : List TK}
theorem zLk : SameN L z L z tok := fun _ _ _ => rfl
theorem zJW (h : SameN L z L' z' tok) (h' : SameN L' z' L'' z'' tok) : SameN L z L'' z'' tok := fun a ha hp => (h a ha hp).trans (h' a ha hp)
def allS (L : List OP) (z : List Int) (L' : List OP) (z' : List Int) (M : List Nm) : Bool := M.all fun x => decide (entL L z x = entL L' z' x)
theorem zLl {M : List Nm} {k : Nat} (h : k < M.length) : allS L z L' z' (M.take (k + 1)) = (allS L z L' z' (M.take k) && decide (entL L z (at_ M k) = entL L' z' (at_ M k))) := by
 unfold allS at_
 rw [List.take_add_one, List.all_append, List.getD_eq_getElem?_getD, List.getElem?_eq_getElem h]
 simp
theorem zJX (h : allS L z L' z' (nmR (nms tok)) = true) : SameN L z L' z' tok := by
 intro a ha hp
 have hm : txN (tat tok a) ∈ nmR (nms tok) := by
  rw [zPI]
  unfold nms
  refine List.mem_map.2 ⟨tat tok a, List.mem_filter.2 ⟨?_, hp⟩, ?_⟩
  ·unfold tat
   rw [List.getD_eq_getElem?_getD, List.getElem?_eq_getElem ha]
   exact List.getElem_mem ha
  ·unfold txN
   rw [ByteArray.toList_eq]
 unfold allS at h
 have := List.all_eq_true.1 h _ hm
 simpa using this
end
end
end Go.Proofs.YtcjbhdgjcpnklaaGreatDoor
