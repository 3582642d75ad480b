import Derived.Test.YtanhpgmiadgmjaaGreatDoorT20
import Derived.Test.YtanhpgmiadgmjaaGreatDoorT24
import Derived.Test.YtanhpgmiadgmjaaGreatDoorT25
namespace Go.Proofs.YtanhpgmiadgmjaaGreatDoor
open Go.RowKit
theorem make_lit (aC : Option Addr) (len cap : Nat) (C : List CH) (hok : ∀ x ∈ C, okC x) : ∃ (L : List OP) (Z : List Int), RowsOk Z ∧ okE L Z ∧ ∀ w : World, ChS w aC len cap C → Calls Tryz.prog 16 #[.slice aC len cap] w fun e w' => ∃ a n c, e = .returned (.agg (ev a n c Z)) ∧ OwnO w.heap.size w' a n c L ∧ Below w.heap.size w w' :=
 ⟨_, _, mkE_rows _, mkE_ok _, fun w h => rmake_any aC len cap C w h hok⟩
end Go.Proofs.YtanhpgmiadgmjaaGreatDoor
