/-
  DERIVED. GIVEN WITH THE SEED: THE CARDS: each row of YtcpmpidpoelleaaGreatDoorRows.lean that lists a variable, with what it lists TIED to the program's text (the seventh form; the later family's looks); each row that meets fmt, with fmt's text TOLD by the authors' own Lean function (tested against real Go, not proved from fmt's source: count such statements apart). THE CARD IS WHAT COUNTS. Prove the row's statement (the work); the ties are given (YtcpmpidpoelleaaGreatDoorTie.lean); close each card by the builder's one call (the guide's Derived/Test/ToyasCard.lean, 'card_holds'). Laid BY PROGRAM, IN A SANDBOX (cutbox-door.mjs). By AI agents, Wed Nov 11 2026. No macro, syntax, notation, axiom, sorry.
-/
import Derived.Test.YtcpmpidpoelleaaGreatDoorRows
import GoSem.ClaimSeven
namespace Go.Proofs.YtcpmpidpoelleaaGreatDoor
namespace Rows

/-- THE TIED CARD OF 'tmesislaw16.ScopePlays'. -/
def scopePlaysCard : Claim7 := { stood := { row := scopePlaysRow, standIns := [], harness := (true, "3b20a917c89529ec5519df22cff07bc07b2f56e1df107b852bf5cbeb83ec12ab"), looks := false }, kinds := [], alts := [], laidByText := true, laidKinds := [.data], laidTests := true, laidLooks := .later }
def ScopePlaysCardSaid : Prop := Claim7.holds Tryz.pinned (.plain (OpenSpec.ofChange scopePlaysSpec)) scopePlaysCard

/-- THE TIED CARD OF 'tmesislaw16.ScopeBlocks'. -/
def scopeBlocksCard : Claim7 := { stood := { row := scopeBlocksRow, standIns := [], harness := (true, "3b20a917c89529ec5519df22cff07bc07b2f56e1df107b852bf5cbeb83ec12ab"), looks := false }, kinds := [], alts := [], laidByText := true, laidKinds := [.data], laidTests := true, laidLooks := .later }
def ScopeBlocksCardSaid : Prop := Claim7.holds Tryz.pinned (.plain (OpenSpec.ofChange scopeBlocksSpec)) scopeBlocksCard

/-- THE SECOND FORM's CARD OF 'tmesislaw16.ScopePlays'. -/
def scopePlaysUptoCard : Claim7 := { stood := { row := scopePlaysUptoRow, standIns := [], harness := (true, "3b20a917c89529ec5519df22cff07bc07b2f56e1df107b852bf5cbeb83ec12ab"), looks := false }, kinds := [], alts := [], laidByText := true, laidKinds := [.data], laidTests := true, laidLooks := .later }
def ScopePlaysUptoCardSaid : Prop := Claim7.holds Tryz.pinned (.plain (OpenSpec.upto scopePlaysSpec)) scopePlaysUptoCard

/-- THE SECOND FORM's CARD OF 'tmesislaw16.ScopeBlocks'. -/
def scopeBlocksUptoCard : Claim7 := { stood := { row := scopeBlocksUptoRow, standIns := [], harness := (true, "3b20a917c89529ec5519df22cff07bc07b2f56e1df107b852bf5cbeb83ec12ab"), looks := false }, kinds := [], alts := [], laidByText := true, laidKinds := [.data], laidTests := true, laidLooks := .later }
def ScopeBlocksUptoCardSaid : Prop := Claim7.holds Tryz.pinned (.plain (OpenSpec.upto scopeBlocksSpec)) scopeBlocksUptoCard
end Rows
end Go.Proofs.YtcpmpidpoelleaaGreatDoor
