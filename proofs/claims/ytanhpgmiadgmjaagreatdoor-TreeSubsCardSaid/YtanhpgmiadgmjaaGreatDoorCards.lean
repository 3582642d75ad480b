/-
  DERIVED. GIVEN WITH THE SEED: THE CARDS: each row of YtanhpgmiadgmjaaGreatDoorRows.lean that lists a variable, with what it lists TIED to the program's text (the seventh form; the later family's looks); each row that meets fmt, with fmt's text TOLD by the authors' own Lean function (tested against real Go, not proved from fmt's source: count such statements apart). THE CARD IS WHAT COUNTS. Prove the row's statement (the work); the ties are given (YtanhpgmiadgmjaaGreatDoorTie.lean); close each card by the builder's one call (the guide's Derived/Test/ToyasCard.lean, 'card_holds'). Laid BY PROGRAM, IN A SANDBOX (cutbox-door.mjs). By AI agents, Wed Nov 11 2026. No macro, syntax, notation, axiom, sorry.
-/
import Derived.Test.YtanhpgmiadgmjaaGreatDoorRows
import GoSem.ClaimSeven
namespace Go.Proofs.YtanhpgmiadgmjaaGreatDoor
namespace Rows

/-- THE TIED CARD OF 'tmesislaw18.TreeSubs'. -/
def treeSubsCard : Claim7 := { stood := { row := treeSubsRow, standIns := [], harness := (true, "c9b0ee20bf8b4d59c6d76b09c9fcc970270a069a9740bb0c70ccfd11a676a5e0"), looks := false }, kinds := [], alts := [], laidByText := true, laidKinds := [.data], laidTests := true, laidLooks := .later }
def TreeSubsCardSaid : Prop := Claim7.holds Tryz.pinned (.plain (OpenSpec.ofChange treeSubsSpec)) treeSubsCard

/-- THE TIED CARD OF 'tmesislaw19.DeriveBrackets'. -/
def deriveBracketsCard : Claim7 := { stood := { row := deriveBracketsRow, standIns := [], harness := (true, "c9b0ee20bf8b4d59c6d76b09c9fcc970270a069a9740bb0c70ccfd11a676a5e0"), looks := false }, kinds := [], alts := [], laidByText := true, laidKinds := [.data], laidTests := true, laidLooks := .later }
def DeriveBracketsCardSaid : Prop := Claim7.holds Tryz.pinned (.plain (OpenSpec.ofChange deriveBracketsSpec)) deriveBracketsCard

/-- THE TIED CARD OF 'tmesislaw19.DeriveRight'. -/
def deriveRightCard : Claim7 := { stood := { row := deriveRightRow, standIns := [], harness := (true, "c9b0ee20bf8b4d59c6d76b09c9fcc970270a069a9740bb0c70ccfd11a676a5e0"), looks := false }, kinds := [], alts := [], laidByText := true, laidKinds := [.data], laidTests := true, laidLooks := .later }
def DeriveRightCardSaid : Prop := Claim7.holds Tryz.pinned (.plain (OpenSpec.ofChange deriveRightSpec)) deriveRightCard

/-- THE TIED CARD OF 'tmesislaw19.DeriveNames'. -/
def deriveNamesCard : Claim7 := { stood := { row := deriveNamesRow, standIns := [], harness := (true, "c9b0ee20bf8b4d59c6d76b09c9fcc970270a069a9740bb0c70ccfd11a676a5e0"), looks := false }, kinds := [], alts := [], laidByText := true, laidKinds := [.data], laidTests := true, laidLooks := .later }
def DeriveNamesCardSaid : Prop := Claim7.holds Tryz.pinned (.plain (OpenSpec.ofChange deriveNamesSpec)) deriveNamesCard

/-- THE TIED CARD OF 'tmesislaw19.DeriveChain'. -/
def deriveChainCard : Claim7 := { stood := { row := deriveChainRow, standIns := [], harness := (true, "c9b0ee20bf8b4d59c6d76b09c9fcc970270a069a9740bb0c70ccfd11a676a5e0"), looks := false }, kinds := [], alts := [], laidByText := true, laidKinds := [.data], laidTests := true, laidLooks := .later }
def DeriveChainCardSaid : Prop := Claim7.holds Tryz.pinned (.plain (OpenSpec.ofChange deriveChainSpec)) deriveChainCard

/-- THE TIED CARD OF 'tmesislaw19.DeriveSigns'. -/
def deriveSignsCard : Claim7 := { stood := { row := deriveSignsRow, standIns := [], harness := (true, "c9b0ee20bf8b4d59c6d76b09c9fcc970270a069a9740bb0c70ccfd11a676a5e0"), looks := false }, kinds := [], alts := [], laidByText := true, laidKinds := [.data], laidTests := true, laidLooks := .later }
def DeriveSignsCardSaid : Prop := Claim7.holds Tryz.pinned (.plain (OpenSpec.ofChange deriveSignsSpec)) deriveSignsCard

/-- THE TIED CARD OF 'tmesislaw20.ViableParts'. -/
def viablePartsCard : Claim7 := { stood := { row := viablePartsRow, standIns := [], harness := (true, "c9b0ee20bf8b4d59c6d76b09c9fcc970270a069a9740bb0c70ccfd11a676a5e0"), looks := false }, kinds := [], alts := [], laidByText := true, laidKinds := [.data], laidTests := true, laidLooks := .later }
def ViablePartsCardSaid : Prop := Claim7.holds Tryz.pinned (.plain (OpenSpec.ofChange viablePartsSpec)) viablePartsCard

/-- THE TIED CARD OF 'tmesislaw20.ViableTrees'. -/
def viableTreesCard : Claim7 := { stood := { row := viableTreesRow, standIns := [], harness := (true, "c9b0ee20bf8b4d59c6d76b09c9fcc970270a069a9740bb0c70ccfd11a676a5e0"), looks := false }, kinds := [], alts := [], laidByText := true, laidKinds := [.data], laidTests := true, laidLooks := .later }
def ViableTreesCardSaid : Prop := Claim7.holds Tryz.pinned (.plain (OpenSpec.ofChange viableTreesSpec)) viableTreesCard

/-- THE TIED CARD OF 'tmesislaw20.ViableEnds'. -/
def viableEndsCard : Claim7 := { stood := { row := viableEndsRow, standIns := [], harness := (true, "c9b0ee20bf8b4d59c6d76b09c9fcc970270a069a9740bb0c70ccfd11a676a5e0"), looks := false }, kinds := [], alts := [], laidByText := true, laidKinds := [.data], laidTests := true, laidLooks := .later }
def ViableEndsCardSaid : Prop := Claim7.holds Tryz.pinned (.plain (OpenSpec.ofChange viableEndsSpec)) viableEndsCard

/-- THE TIED CARD OF 'tmesislaw20.ViableNames'. -/
def viableNamesCard : Claim7 := { stood := { row := viableNamesRow, standIns := [], harness := (true, "c9b0ee20bf8b4d59c6d76b09c9fcc970270a069a9740bb0c70ccfd11a676a5e0"), looks := false }, kinds := [], alts := [], laidByText := true, laidKinds := [.data], laidTests := true, laidLooks := .later }
def ViableNamesCardSaid : Prop := Claim7.holds Tryz.pinned (.plain (OpenSpec.ofChange viableNamesSpec)) viableNamesCard

/-- THE TIED CARD OF 'tmesislaw20.ViableRows'. -/
def viableRowsCard : Claim7 := { stood := { row := viableRowsRow, standIns := [], harness := (true, "c9b0ee20bf8b4d59c6d76b09c9fcc970270a069a9740bb0c70ccfd11a676a5e0"), looks := false }, kinds := [], alts := [], laidByText := true, laidKinds := [.data], laidTests := true, laidLooks := .later }
def ViableRowsCardSaid : Prop := Claim7.holds Tryz.pinned (.plain (OpenSpec.ofChange viableRowsSpec)) viableRowsCard

/-- THE TIED CARD OF 'tmesislaw20.ViableBlocks'. -/
def viableBlocksCard : Claim7 := { stood := { row := viableBlocksRow, standIns := [], harness := (true, "c9b0ee20bf8b4d59c6d76b09c9fcc970270a069a9740bb0c70ccfd11a676a5e0"), looks := false }, kinds := [], alts := [], laidByText := true, laidKinds := [.data], laidTests := true, laidLooks := .later }
def ViableBlocksCardSaid : Prop := Claim7.holds Tryz.pinned (.plain (OpenSpec.ofChange viableBlocksSpec)) viableBlocksCard

/-- THE SECOND FORM's CARD OF 'tmesislaw18.TreeSubs'. -/
def treeSubsUptoCard : Claim7 := { stood := { row := treeSubsUptoRow, standIns := [], harness := (true, "c9b0ee20bf8b4d59c6d76b09c9fcc970270a069a9740bb0c70ccfd11a676a5e0"), looks := false }, kinds := [], alts := [], laidByText := true, laidKinds := [.data], laidTests := true, laidLooks := .later }
def TreeSubsUptoCardSaid : Prop := Claim7.holds Tryz.pinned (.plain (OpenSpec.upto treeSubsSpec)) treeSubsUptoCard

/-- THE SECOND FORM's CARD OF 'tmesislaw19.DeriveBrackets'. -/
def deriveBracketsUptoCard : Claim7 := { stood := { row := deriveBracketsUptoRow, standIns := [], harness := (true, "c9b0ee20bf8b4d59c6d76b09c9fcc970270a069a9740bb0c70ccfd11a676a5e0"), looks := false }, kinds := [], alts := [], laidByText := true, laidKinds := [.data], laidTests := true, laidLooks := .later }
def DeriveBracketsUptoCardSaid : Prop := Claim7.holds Tryz.pinned (.plain (OpenSpec.upto deriveBracketsSpec)) deriveBracketsUptoCard

/-- THE SECOND FORM's CARD OF 'tmesislaw19.DeriveRight'. -/
def deriveRightUptoCard : Claim7 := { stood := { row := deriveRightUptoRow, standIns := [], harness := (true, "c9b0ee20bf8b4d59c6d76b09c9fcc970270a069a9740bb0c70ccfd11a676a5e0"), looks := false }, kinds := [], alts := [], laidByText := true, laidKinds := [.data], laidTests := true, laidLooks := .later }
def DeriveRightUptoCardSaid : Prop := Claim7.holds Tryz.pinned (.plain (OpenSpec.upto deriveRightSpec)) deriveRightUptoCard

/-- THE SECOND FORM's CARD OF 'tmesislaw19.DeriveNames'. -/
def deriveNamesUptoCard : Claim7 := { stood := { row := deriveNamesUptoRow, standIns := [], harness := (true, "c9b0ee20bf8b4d59c6d76b09c9fcc970270a069a9740bb0c70ccfd11a676a5e0"), looks := false }, kinds := [], alts := [], laidByText := true, laidKinds := [.data], laidTests := true, laidLooks := .later }
def DeriveNamesUptoCardSaid : Prop := Claim7.holds Tryz.pinned (.plain (OpenSpec.upto deriveNamesSpec)) deriveNamesUptoCard

/-- THE SECOND FORM's CARD OF 'tmesislaw19.DeriveChain'. -/
def deriveChainUptoCard : Claim7 := { stood := { row := deriveChainUptoRow, standIns := [], harness := (true, "c9b0ee20bf8b4d59c6d76b09c9fcc970270a069a9740bb0c70ccfd11a676a5e0"), looks := false }, kinds := [], alts := [], laidByText := true, laidKinds := [.data], laidTests := true, laidLooks := .later }
def DeriveChainUptoCardSaid : Prop := Claim7.holds Tryz.pinned (.plain (OpenSpec.upto deriveChainSpec)) deriveChainUptoCard

/-- THE SECOND FORM's CARD OF 'tmesislaw19.DeriveSigns'. -/
def deriveSignsUptoCard : Claim7 := { stood := { row := deriveSignsUptoRow, standIns := [], harness := (true, "c9b0ee20bf8b4d59c6d76b09c9fcc970270a069a9740bb0c70ccfd11a676a5e0"), looks := false }, kinds := [], alts := [], laidByText := true, laidKinds := [.data], laidTests := true, laidLooks := .later }
def DeriveSignsUptoCardSaid : Prop := Claim7.holds Tryz.pinned (.plain (OpenSpec.upto deriveSignsSpec)) deriveSignsUptoCard

/-- THE SECOND FORM's CARD OF 'tmesislaw20.ViableParts'. -/
def viablePartsUptoCard : Claim7 := { stood := { row := viablePartsUptoRow, standIns := [], harness := (true, "c9b0ee20bf8b4d59c6d76b09c9fcc970270a069a9740bb0c70ccfd11a676a5e0"), looks := false }, kinds := [], alts := [], laidByText := true, laidKinds := [.data], laidTests := true, laidLooks := .later }
def ViablePartsUptoCardSaid : Prop := Claim7.holds Tryz.pinned (.plain (OpenSpec.upto viablePartsSpec)) viablePartsUptoCard

/-- THE SECOND FORM's CARD OF 'tmesislaw20.ViableTrees'. -/
def viableTreesUptoCard : Claim7 := { stood := { row := viableTreesUptoRow, standIns := [], harness := (true, "c9b0ee20bf8b4d59c6d76b09c9fcc970270a069a9740bb0c70ccfd11a676a5e0"), looks := false }, kinds := [], alts := [], laidByText := true, laidKinds := [.data], laidTests := true, laidLooks := .later }
def ViableTreesUptoCardSaid : Prop := Claim7.holds Tryz.pinned (.plain (OpenSpec.upto viableTreesSpec)) viableTreesUptoCard

/-- THE SECOND FORM's CARD OF 'tmesislaw20.ViableEnds'. -/
def viableEndsUptoCard : Claim7 := { stood := { row := viableEndsUptoRow, standIns := [], harness := (true, "c9b0ee20bf8b4d59c6d76b09c9fcc970270a069a9740bb0c70ccfd11a676a5e0"), looks := false }, kinds := [], alts := [], laidByText := true, laidKinds := [.data], laidTests := true, laidLooks := .later }
def ViableEndsUptoCardSaid : Prop := Claim7.holds Tryz.pinned (.plain (OpenSpec.upto viableEndsSpec)) viableEndsUptoCard

/-- THE SECOND FORM's CARD OF 'tmesislaw20.ViableNames'. -/
def viableNamesUptoCard : Claim7 := { stood := { row := viableNamesUptoRow, standIns := [], harness := (true, "c9b0ee20bf8b4d59c6d76b09c9fcc970270a069a9740bb0c70ccfd11a676a5e0"), looks := false }, kinds := [], alts := [], laidByText := true, laidKinds := [.data], laidTests := true, laidLooks := .later }
def ViableNamesUptoCardSaid : Prop := Claim7.holds Tryz.pinned (.plain (OpenSpec.upto viableNamesSpec)) viableNamesUptoCard

/-- THE SECOND FORM's CARD OF 'tmesislaw20.ViableRows'. -/
def viableRowsUptoCard : Claim7 := { stood := { row := viableRowsUptoRow, standIns := [], harness := (true, "c9b0ee20bf8b4d59c6d76b09c9fcc970270a069a9740bb0c70ccfd11a676a5e0"), looks := false }, kinds := [], alts := [], laidByText := true, laidKinds := [.data], laidTests := true, laidLooks := .later }
def ViableRowsUptoCardSaid : Prop := Claim7.holds Tryz.pinned (.plain (OpenSpec.upto viableRowsSpec)) viableRowsUptoCard

/-- THE SECOND FORM's CARD OF 'tmesislaw20.ViableBlocks'. -/
def viableBlocksUptoCard : Claim7 := { stood := { row := viableBlocksUptoRow, standIns := [], harness := (true, "c9b0ee20bf8b4d59c6d76b09c9fcc970270a069a9740bb0c70ccfd11a676a5e0"), looks := false }, kinds := [], alts := [], laidByText := true, laidKinds := [.data], laidTests := true, laidLooks := .later }
def ViableBlocksUptoCardSaid : Prop := Claim7.holds Tryz.pinned (.plain (OpenSpec.upto viableBlocksSpec)) viableBlocksUptoCard
end Rows
end Go.Proofs.YtanhpgmiadgmjaaGreatDoor
