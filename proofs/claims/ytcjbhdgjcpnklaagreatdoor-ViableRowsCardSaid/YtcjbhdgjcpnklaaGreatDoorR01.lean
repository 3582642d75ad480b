import Derived.Test.YtcjbhdgjcpnklaaGreatDoorV07
namespace Go.Proofs.YtcjbhdgjcpnklaaGreatDoor
section
open Go.RowKit
end
section
open Go.RowKit
end
section
open Go.RowKit
end
section
open Go.RowKit
theorem zQu {L : List TK} {j : Nat} (h : j < L.length) : tat L j ∈ L := by
 unfold tat; rw [show L.getD j _ = L[j] by simp [List.getD, h]]; exact List.getElem_mem h
end
end Go.Proofs.YtcjbhdgjcpnklaaGreatDoor
