/- Texts laid one behind the other. -/
import Derived.Test.YtcpmpidpoelleaaDoorM2
import Derived.Test.YtcpmpidpoelleaaDoorM1

/- Contracts: the document's own class of a byte. -/
namespace Go.Proofs.YtcpmpidpoelleaaDoor
open Go.RowKit

/-- The class of a byte by ranges, as the document puts it. -/
def clsR (c : Int) : Int :=
  if c = 9 then 1 else if c = 10 then 1 else if c = 13 then 1 else if c = 32 then 1
  else if 97 ≤ c ∧ c ≤ 122 then 2 else if 65 ≤ c ∧ c ≤ 90 then 3 else if c = 95 then 3 else if 48 ≤ c ∧ c ≤ 57 then 4
  else if memFrom (txt 4) c 0 then 5 else if memFrom (txt 5) c 0 then 6 else if c = 39 then 7 else if c = 37 then 8 else if 128 ≤ c then 9 else 0

theorem cls_all : ∀ n : Nat, n < 256 → cls n = clsR n := by decide +kernel
theorem cls_clsR {c : Int} (h0 : 0 ≤ c) (h1 : c ≤ 255) : cls c = clsR c := by
  have := cls_all c.toNat (by omega)
  rwa [Int.toNat_of_nonneg h0] at this


end Go.Proofs.YtcpmpidpoelleaaDoor

/- Contract: the document's own runs. -/
namespace Go.Proofs.YtcpmpidpoelleaaDoor
open Go.RowKit

end Go.Proofs.YtcpmpidpoelleaaDoor

/- Contract: the document's own names. -/
namespace Go.Proofs.YtcpmpidpoelleaaDoor
open Go.RowKit

end Go.Proofs.YtcpmpidpoelleaaDoor
