/-
  DERIVED. GIVEN WITH THE SEED: THE CARDS: each row of YtcpmpidpoelleaaDoorRows.lean that lists a variable, with what it lists TIED to the program's text (the seventh form; the later family's looks); each row that meets fmt, with fmt's text TOLD by the authors' own Lean function (tested against real Go, not proved from fmt's source: count such statements apart). THE CARD IS WHAT COUNTS. Prove the row's statement (the work); the ties are given (YtcpmpidpoelleaaDoorTie.lean); close each card by the builder's one call (the guide's Derived/Test/ToyasCard.lean, 'card_holds'). Laid BY PROGRAM, IN A SANDBOX (cutbox-door.mjs). By AI agents, Wed Nov 11 2026. No macro, syntax, notation, axiom, sorry.
-/
import Derived.Test.YtcpmpidpoelleaaDoorRows
import GoSem.ClaimSeven
namespace Go.Proofs.YtcpmpidpoelleaaDoor
namespace Rows

/-- THE TIED CARD OF 'tmesislaw16.ScopeRefuses'. -/
def scopeRefusesCard : Claim7 := { stood := { row := scopeRefusesRow, standIns := [], harness := (true, "7e530b646fadf1132148adaa50f4910df8d6d711fd4d53ff370f39f4a96e64a8"), looks := false }, kinds := [], alts := [], laidByText := true, laidKinds := [.data], laidTests := true, laidLooks := .later }
def ScopeRefusesCardSaid : Prop := Claim7.holds Tryd.pinned (.plain (OpenSpec.ofChange scopeRefusesSpec)) scopeRefusesCard

/-- THE SECOND FORM's CARD OF 'tmesislaw16.ScopeRefuses'. -/
def scopeRefusesUptoCard : Claim7 := { stood := { row := scopeRefusesUptoRow, standIns := [], harness := (true, "7e530b646fadf1132148adaa50f4910df8d6d711fd4d53ff370f39f4a96e64a8"), looks := false }, kinds := [], alts := [], laidByText := true, laidKinds := [.data], laidTests := true, laidLooks := .later }
def ScopeRefusesUptoCardSaid : Prop := Claim7.holds Tryd.pinned (.plain (OpenSpec.upto scopeRefusesSpec)) scopeRefusesUptoCard
end Rows
end Go.Proofs.YtcpmpidpoelleaaDoor
