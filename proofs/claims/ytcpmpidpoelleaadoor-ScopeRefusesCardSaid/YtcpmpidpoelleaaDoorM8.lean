/- Texts laid one behind the other. -/
import Derived.Test.YtcpmpidpoelleaaDoorM7
import Derived.Test.YtcpmpidpoelleaaDoorM1
import Derived.Test.YtcpmpidpoelleaaDoorM3
import Derived.Test.YtcpmpidpoelleaaDoorM4
import Derived.Test.YtcpmpidpoelleaaDoorM5
import Derived.Test.YtcpmpidpoelleaaDoorM6

/- Contracts of the document's name and ends (layer 6). -/
namespace Go.Proofs.YtcpmpidpoelleaaDoor
open Go.RowKit

def endsB (l : List Int) : Bool := decide (l.length = 1) || (decide (cls (bt l 1) = 1) || decide (cls (bt l 1) = 8))

end Go.Proofs.YtcpmpidpoelleaaDoor

/- Contract of the document's first and Next (layer 6). -/
namespace Go.Proofs.YtcpmpidpoelleaaDoor
open Go.RowKit

theorem high_two {l : List Int} (h : 128 ≤ bt l 0) (ho : okSeq l = true) : 1 < takeN l := by
  rw [takeN_eq ho]
  have := (okSeq_pos ho).1
  unfold lenOf at this ⊢
  repeat' split
  all_goals first | omega | (simp_all; omega) | simp_all

theorem endT_ends {l : List Int} (h1 : runL 5 l = 1) (h2 : bt l 0 = 46) : endT l = endsB l := by
  unfold endT endsB
  rw [h1, h2]
  simp

end Go.Proofs.YtcpmpidpoelleaaDoor

/- Contract of the document's Next (layer 6). -/
namespace Go.Proofs.YtcpmpidpoelleaaDoor
open Go.RowKit

end Go.Proofs.YtcpmpidpoelleaaDoor
