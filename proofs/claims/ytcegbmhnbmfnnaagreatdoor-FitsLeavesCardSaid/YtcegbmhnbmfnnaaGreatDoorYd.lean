/- What the laws of fits share: Make, Fit, Fits with their answers as letters. -/
import Derived.Test.YtcegbmhnbmfnnaaGreatDoorYc
import Derived.Test.YtcegbmhnbmfnnaaGreatDoorMU
import Derived.Test.YtcegbmhnbmfnnaaGreatDoorMQ
namespace Go.Proofs.YtcegbmhnbmfnnaaGreatDoor
open Go.RowKit

theorem fit_lit (p : Nm) (g s : Int) (hp : p.length ≤ 140737488355328) : ∃ (p1 : Nm) (g1 s1 : Int), p1 = (fitO (p, g, s)).1 ∧ g1 = (fitO (p, g, s)).2.1 ∧ s1 = (fitO (p, g, s)).2.2 ∧ p1.length ≤ 20 ∧ ∀ w : World, Calls Tryz.prog 42 #[.agg #[.string (mk p), .int .i64 g, .int .i64 s]] w fun e w' => e = .returned (.agg #[.string (mk p1), .int .i64 g1, .int .i64 s1]) ∧ Below w.heap.size w w' :=
  ⟨_, _, _, rfl, rfl, rfl, (fitO_good (p, g, s)).2, fun w => fit_any p g s w hp⟩
theorem make_lit (aC : Option Addr) (len cap : Nat) (C : List CH) (hok : ∀ x ∈ C, okC x) : ∃ (L : List OP) (Z : List Int), RowsOk Z ∧ okE L Z ∧ ∀ w : World, ChS w aC len cap C → Calls Tryz.prog 14 #[.slice aC len cap] w fun e w' => ∃ a n c, e = .returned (.agg (ev a n c Z)) ∧ OwnO w.heap.size w' a n c L ∧ Below w.heap.size w w' :=
  ⟨_, _, mkE_rows _, mkE_ok _, fun w h => rmake_any aC len cap C w h hok⟩
theorem fits_lit {z : List Int} (hz : z.length = 10) (hr : ∀ i, i < 10 → I64 (bt z i)) (p : Nm) (g s : Int) (q : Nm) (h t : Int) (right : Bool) (hp : p.length ≤ 1000000) (hq : q.length ≤ 1000000) : ∃ v : Bool, v = fitsB z (p, g, s) (q, h, t) right ∧ ∀ w0 w' : World, Tab w0 → Below w0.heap.size w0 w' → Calls Tryz.prog 8 #[.agg (rv z), .agg #[.string (mk p), .int .i64 g, .int .i64 s], .agg #[.string (mk q), .int .i64 h, .int .i64 t], .bool right] w' fun e w'' => e = .returned (.bool v) ∧ Below w0.heap.size w0 w'' :=
  ⟨_, rfl, fun w0 w' ht hb => (fits_any z hz hr p g s q h t right w' (ht.keep hb) hp hq).mono (by rintro e w'' ⟨rfl, hb2⟩; exact ⟨rfl, hb.trans (hb2.mono hb.size)⟩)⟩
theorem nine_cells {w : World} {b : Nat} {y0 y1 y2 y3 y4 y5 y6 y7 y8 : Value} {T : TypeId} (h : w.heap[b]? = some (.cells #[y0, y1, y2, y3, y4, y5, y6, y7, y8] T (0, 0))) : (w.cell? ⟨b, 0, none⟩ = some y0 ∧ w.cell? ⟨b, 1, none⟩ = some y1 ∧ w.cell? ⟨b, 2, none⟩ = some y2) ∧ (w.cell? ⟨b, 3, none⟩ = some y3 ∧ w.cell? ⟨b, 4, none⟩ = some y4 ∧ w.cell? ⟨b, 5, none⟩ = some y5) ∧ w.cell? ⟨b, 6, none⟩ = some y6 ∧ w.cell? ⟨b, 7, none⟩ = some y7 ∧ w.cell? ⟨b, 8, none⟩ = some y8 :=
  ⟨⟨cell_of_row w b 0 _ _ _ h, cell_of_row w b 1 _ _ _ h, cell_of_row w b 2 _ _ _ h⟩, ⟨cell_of_row w b 3 _ _ _ h, cell_of_row w b 4 _ _ _ h, cell_of_row w b 5 _ _ _ h⟩, cell_of_row w b 6 _ _ _ h, cell_of_row w b 7 _ _ _ h, cell_of_row w b 8 _ _ _ h⟩

end Go.Proofs.YtcegbmhnbmfnnaaGreatDoor
