/- How long the patterns of three operators are that came in. No walk here. -/
import Derived.Test.YtcegbmhnbmfnnaaDoorMU
import Derived.Test.YtcegbmhnbmfnnaaDoorMQ
namespace Go.Proofs.YtcegbmhnbmfnnaaDoor
open Go.RowKit Go.ChangeShapes Go.WideShapes Go.ChangeAt

theorem opers3_weight {H : Type} {T : TypeId} (hT : Tryd.prog.underlying T = some (.array 3 24)) (a b c x : OA) (hx : x ∈ [a, b, c]) : x.s.data.toList.length ∈ (DataW.agg [a.d, b.d, c.d] : DataW H).weights Tryd.prog T := by
  unfold DataW.weights
  rw [hT]
  exact weights_all (List.mem_map_of_mem (f := OA.d) hx) (oa_weight x)
end Go.Proofs.YtcegbmhnbmfnnaaDoor
