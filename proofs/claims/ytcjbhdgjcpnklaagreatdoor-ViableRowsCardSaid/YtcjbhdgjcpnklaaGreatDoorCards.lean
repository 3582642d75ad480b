/-
  DERIVED. GIVEN WITH THE SEED: THE CARDS: each row of YtcjbhdgjcpnklaaGreatDoorRows.lean that lists a variable, with what it lists TIED to the program's text (the seventh form; the later family's looks); each row that meets fmt, with fmt's text TOLD by the authors' own Lean function (tested against real Go, not proved from fmt's source: count such statements apart). THE CARD IS WHAT COUNTS. Prove the row's statement (the work); the ties are given (YtcjbhdgjcpnklaaGreatDoorTie.lean); close each card by the builder's one call (the guide's Derived/Test/ToyasCard.lean, 'card_holds'). Laid BY PROGRAM, IN A SANDBOX (cutbox-door.mjs). By AI agents, Wed Nov 11 2026. No macro, syntax, notation, axiom, sorry.
-/
import Derived.Test.YtcjbhdgjcpnklaaGreatDoorRows
import GoSem.ClaimSeven
namespace Go.Proofs.YtcjbhdgjcpnklaaGreatDoor
namespace Rows

/-- THE TIED CARD OF 'tmesislaw19.DeriveNames'. -/
def deriveNamesCard : Claim7 := { stood := { row := deriveNamesRow, standIns := [], harness := (true, "53de0a6ab801d87f7ea61e8445eb01d9b67626485a6ff5573abef51a4e2dba86"), looks := false }, kinds := [], alts := [], laidByText := true, laidKinds := [.data], laidTests := true, laidLooks := .later }
def DeriveNamesCardSaid : Prop := Claim7.holds Tryz.pinned (.plain (OpenSpec.ofChange deriveNamesSpec)) deriveNamesCard

/-- THE TIED CARD OF 'tmesislaw20.ViableParts'. -/
def viablePartsCard : Claim7 := { stood := { row := viablePartsRow, standIns := [], harness := (true, "53de0a6ab801d87f7ea61e8445eb01d9b67626485a6ff5573abef51a4e2dba86"), looks := false }, kinds := [], alts := [], laidByText := true, laidKinds := [.data], laidTests := true, laidLooks := .later }
def ViablePartsCardSaid : Prop := Claim7.holds Tryz.pinned (.plain (OpenSpec.ofChange viablePartsSpec)) viablePartsCard

/-- THE TIED CARD OF 'tmesislaw20.ViableTrees'. -/
def viableTreesCard : Claim7 := { stood := { row := viableTreesRow, standIns := [], harness := (true, "53de0a6ab801d87f7ea61e8445eb01d9b67626485a6ff5573abef51a4e2dba86"), looks := false }, kinds := [], alts := [], laidByText := true, laidKinds := [.data], laidTests := true, laidLooks := .later }
def ViableTreesCardSaid : Prop := Claim7.holds Tryz.pinned (.plain (OpenSpec.ofChange viableTreesSpec)) viableTreesCard

/-- THE TIED CARD OF 'tmesislaw20.ViableEnds'. -/
def viableEndsCard : Claim7 := { stood := { row := viableEndsRow, standIns := [], harness := (true, "53de0a6ab801d87f7ea61e8445eb01d9b67626485a6ff5573abef51a4e2dba86"), looks := false }, kinds := [], alts := [], laidByText := true, laidKinds := [.data], laidTests := true, laidLooks := .later }
def ViableEndsCardSaid : Prop := Claim7.holds Tryz.pinned (.plain (OpenSpec.ofChange viableEndsSpec)) viableEndsCard

/-- THE TIED CARD OF 'tmesislaw20.ViableNames'. -/
def viableNamesCard : Claim7 := { stood := { row := viableNamesRow, standIns := [], harness := (true, "53de0a6ab801d87f7ea61e8445eb01d9b67626485a6ff5573abef51a4e2dba86"), looks := false }, kinds := [], alts := [], laidByText := true, laidKinds := [.data], laidTests := true, laidLooks := .later }
def ViableNamesCardSaid : Prop := Claim7.holds Tryz.pinned (.plain (OpenSpec.ofChange viableNamesSpec)) viableNamesCard

/-- THE TIED CARD OF 'tmesislaw20.ViableRows'. -/
def viableRowsCard : Claim7 := { stood := { row := viableRowsRow, standIns := [], harness := (true, "53de0a6ab801d87f7ea61e8445eb01d9b67626485a6ff5573abef51a4e2dba86"), looks := false }, kinds := [], alts := [], laidByText := true, laidKinds := [.data], laidTests := true, laidLooks := .later }
def ViableRowsCardSaid : Prop := Claim7.holds Tryz.pinned (.plain (OpenSpec.ofChange viableRowsSpec)) viableRowsCard

/-- THE TIED CARD OF 'tmesislaw20.ViableBlocks'. -/
def viableBlocksCard : Claim7 := { stood := { row := viableBlocksRow, standIns := [], harness := (true, "53de0a6ab801d87f7ea61e8445eb01d9b67626485a6ff5573abef51a4e2dba86"), looks := false }, kinds := [], alts := [], laidByText := true, laidKinds := [.data], laidTests := true, laidLooks := .later }
def ViableBlocksCardSaid : Prop := Claim7.holds Tryz.pinned (.plain (OpenSpec.ofChange viableBlocksSpec)) viableBlocksCard

/-- THE SECOND FORM's CARD OF 'tmesislaw19.DeriveNames'. -/
def deriveNamesUptoCard : Claim7 := { stood := { row := deriveNamesUptoRow, standIns := [], harness := (true, "53de0a6ab801d87f7ea61e8445eb01d9b67626485a6ff5573abef51a4e2dba86"), looks := false }, kinds := [], alts := [], laidByText := true, laidKinds := [.data], laidTests := true, laidLooks := .later }
def DeriveNamesUptoCardSaid : Prop := Claim7.holds Tryz.pinned (.plain (OpenSpec.upto deriveNamesSpec)) deriveNamesUptoCard

/-- THE SECOND FORM's CARD OF 'tmesislaw20.ViableParts'. -/
def viablePartsUptoCard : Claim7 := { stood := { row := viablePartsUptoRow, standIns := [], harness := (true, "53de0a6ab801d87f7ea61e8445eb01d9b67626485a6ff5573abef51a4e2dba86"), looks := false }, kinds := [], alts := [], laidByText := true, laidKinds := [.data], laidTests := true, laidLooks := .later }
def ViablePartsUptoCardSaid : Prop := Claim7.holds Tryz.pinned (.plain (OpenSpec.upto viablePartsSpec)) viablePartsUptoCard

/-- THE SECOND FORM's CARD OF 'tmesislaw20.ViableTrees'. -/
def viableTreesUptoCard : Claim7 := { stood := { row := viableTreesUptoRow, standIns := [], harness := (true, "53de0a6ab801d87f7ea61e8445eb01d9b67626485a6ff5573abef51a4e2dba86"), looks := false }, kinds := [], alts := [], laidByText := true, laidKinds := [.data], laidTests := true, laidLooks := .later }
def ViableTreesUptoCardSaid : Prop := Claim7.holds Tryz.pinned (.plain (OpenSpec.upto viableTreesSpec)) viableTreesUptoCard

/-- THE SECOND FORM's CARD OF 'tmesislaw20.ViableEnds'. -/
def viableEndsUptoCard : Claim7 := { stood := { row := viableEndsUptoRow, standIns := [], harness := (true, "53de0a6ab801d87f7ea61e8445eb01d9b67626485a6ff5573abef51a4e2dba86"), looks := false }, kinds := [], alts := [], laidByText := true, laidKinds := [.data], laidTests := true, laidLooks := .later }
def ViableEndsUptoCardSaid : Prop := Claim7.holds Tryz.pinned (.plain (OpenSpec.upto viableEndsSpec)) viableEndsUptoCard

/-- THE SECOND FORM's CARD OF 'tmesislaw20.ViableNames'. -/
def viableNamesUptoCard : Claim7 := { stood := { row := viableNamesUptoRow, standIns := [], harness := (true, "53de0a6ab801d87f7ea61e8445eb01d9b67626485a6ff5573abef51a4e2dba86"), looks := false }, kinds := [], alts := [], laidByText := true, laidKinds := [.data], laidTests := true, laidLooks := .later }
def ViableNamesUptoCardSaid : Prop := Claim7.holds Tryz.pinned (.plain (OpenSpec.upto viableNamesSpec)) viableNamesUptoCard

/-- THE SECOND FORM's CARD OF 'tmesislaw20.ViableRows'. -/
def viableRowsUptoCard : Claim7 := { stood := { row := viableRowsUptoRow, standIns := [], harness := (true, "53de0a6ab801d87f7ea61e8445eb01d9b67626485a6ff5573abef51a4e2dba86"), looks := false }, kinds := [], alts := [], laidByText := true, laidKinds := [.data], laidTests := true, laidLooks := .later }
def ViableRowsUptoCardSaid : Prop := Claim7.holds Tryz.pinned (.plain (OpenSpec.upto viableRowsSpec)) viableRowsUptoCard

/-- THE SECOND FORM's CARD OF 'tmesislaw20.ViableBlocks'. -/
def viableBlocksUptoCard : Claim7 := { stood := { row := viableBlocksUptoRow, standIns := [], harness := (true, "53de0a6ab801d87f7ea61e8445eb01d9b67626485a6ff5573abef51a4e2dba86"), looks := false }, kinds := [], alts := [], laidByText := true, laidKinds := [.data], laidTests := true, laidLooks := .later }
def ViableBlocksUptoCardSaid : Prop := Claim7.holds Tryz.pinned (.plain (OpenSpec.upto viableBlocksSpec)) viableBlocksUptoCard
end Rows
end Go.Proofs.YtcjbhdgjcpnklaaGreatDoor
