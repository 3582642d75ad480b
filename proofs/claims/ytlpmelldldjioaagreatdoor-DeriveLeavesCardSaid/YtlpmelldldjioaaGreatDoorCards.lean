/-
  DERIVED. GIVEN WITH THE SEED: THE CARDS: each row of YtlpmelldldjioaaGreatDoorRows.lean that lists a variable, with what it lists TIED to the program's text (the seventh form; the later family's looks); each row that meets fmt, with fmt's text TOLD by the authors' own Lean function (tested against real Go, not proved from fmt's source: count such statements apart). THE CARD IS WHAT COUNTS. Prove the row's statement (the work); the ties are given (YtlpmelldldjioaaGreatDoorTie.lean); close each card by the builder's one call (the guide's Derived/Test/ToyasCard.lean, 'card_holds'). Laid BY PROGRAM, IN A SANDBOX (cutbox-door.mjs). By AI agents, Wed Nov 11 2026. No macro, syntax, notation, axiom, sorry.
-/
import Derived.Test.YtlpmelldldjioaaGreatDoorRows
import GoSem.ClaimSeven
namespace Go.Proofs.YtlpmelldldjioaaGreatDoor
namespace Rows

/-- THE TIED CARD OF 'tmesislaw18.TreeAll'. -/
def treeAllCard : Claim7 := { stood := { row := treeAllRow, standIns := [], harness := (true, "efe2c01c69121115ad93aa322224a58b3c27d7f6f36c2ceb6d2fb8a11c3b245c"), looks := false }, kinds := [], alts := [], laidByText := true, laidKinds := [.data], laidTests := true, laidLooks := .later }
def TreeAllCardSaid : Prop := Claim7.holds Tryz.pinned (.plain (OpenSpec.ofChange treeAllSpec)) treeAllCard

/-- THE TIED CARD OF 'tmesislaw18.TreeSubs'. -/
def treeSubsCard : Claim7 := { stood := { row := treeSubsRow, standIns := [], harness := (true, "efe2c01c69121115ad93aa322224a58b3c27d7f6f36c2ceb6d2fb8a11c3b245c"), looks := false }, kinds := [], alts := [], laidByText := true, laidKinds := [.data], laidTests := true, laidLooks := .later }
def TreeSubsCardSaid : Prop := Claim7.holds Tryz.pinned (.plain (OpenSpec.ofChange treeSubsSpec)) treeSubsCard

/-- THE TIED CARD OF 'tmesislaw19.DeriveAll'. -/
def deriveAllCard : Claim7 := { stood := { row := deriveAllRow, standIns := [], harness := (true, "efe2c01c69121115ad93aa322224a58b3c27d7f6f36c2ceb6d2fb8a11c3b245c"), looks := false }, kinds := [], alts := [], laidByText := true, laidKinds := [.data], laidTests := true, laidLooks := .later }
def DeriveAllCardSaid : Prop := Claim7.holds Tryz.pinned (.plain (OpenSpec.ofChange deriveAllSpec)) deriveAllCard

/-- THE TIED CARD OF 'tmesislaw19.DeriveRight'. -/
def deriveRightCard : Claim7 := { stood := { row := deriveRightRow, standIns := [], harness := (true, "efe2c01c69121115ad93aa322224a58b3c27d7f6f36c2ceb6d2fb8a11c3b245c"), looks := false }, kinds := [], alts := [], laidByText := true, laidKinds := [.data], laidTests := true, laidLooks := .later }
def DeriveRightCardSaid : Prop := Claim7.holds Tryz.pinned (.plain (OpenSpec.ofChange deriveRightSpec)) deriveRightCard

/-- THE TIED CARD OF 'tmesislaw19.DeriveUnique'. -/
def deriveUniqueCard : Claim7 := { stood := { row := deriveUniqueRow, standIns := [], harness := (true, "efe2c01c69121115ad93aa322224a58b3c27d7f6f36c2ceb6d2fb8a11c3b245c"), looks := false }, kinds := [], alts := [], laidByText := true, laidKinds := [.data], laidTests := true, laidLooks := .later }
def DeriveUniqueCardSaid : Prop := Claim7.holds Tryz.pinned (.plain (OpenSpec.ofChange deriveUniqueSpec)) deriveUniqueCard

/-- THE TIED CARD OF 'tmesislaw19.DeriveNames'. -/
def deriveNamesCard : Claim7 := { stood := { row := deriveNamesRow, standIns := [], harness := (true, "efe2c01c69121115ad93aa322224a58b3c27d7f6f36c2ceb6d2fb8a11c3b245c"), looks := false }, kinds := [], alts := [], laidByText := true, laidKinds := [.data], laidTests := true, laidLooks := .later }
def DeriveNamesCardSaid : Prop := Claim7.holds Tryz.pinned (.plain (OpenSpec.ofChange deriveNamesSpec)) deriveNamesCard

/-- THE TIED CARD OF 'tmesislaw19.DeriveBrackets'. -/
def deriveBracketsCard : Claim7 := { stood := { row := deriveBracketsRow, standIns := [], harness := (true, "efe2c01c69121115ad93aa322224a58b3c27d7f6f36c2ceb6d2fb8a11c3b245c"), looks := false }, kinds := [], alts := [], laidByText := true, laidKinds := [.data], laidTests := true, laidLooks := .later }
def DeriveBracketsCardSaid : Prop := Claim7.holds Tryz.pinned (.plain (OpenSpec.ofChange deriveBracketsSpec)) deriveBracketsCard

/-- THE TIED CARD OF 'tmesislaw19.DeriveFit'. -/
def deriveFitCard : Claim7 := { stood := { row := deriveFitRow, standIns := [], harness := (true, "efe2c01c69121115ad93aa322224a58b3c27d7f6f36c2ceb6d2fb8a11c3b245c"), looks := false }, kinds := [], alts := [], laidByText := true, laidKinds := [.data], laidTests := true, laidLooks := .later }
def DeriveFitCardSaid : Prop := Claim7.holds Tryz.pinned (.plain (OpenSpec.ofChange deriveFitSpec)) deriveFitCard

/-- THE TIED CARD OF 'tmesislaw19.DeriveChain'. -/
def deriveChainCard : Claim7 := { stood := { row := deriveChainRow, standIns := [], harness := (true, "efe2c01c69121115ad93aa322224a58b3c27d7f6f36c2ceb6d2fb8a11c3b245c"), looks := false }, kinds := [], alts := [], laidByText := true, laidKinds := [.data], laidTests := true, laidLooks := .later }
def DeriveChainCardSaid : Prop := Claim7.holds Tryz.pinned (.plain (OpenSpec.ofChange deriveChainSpec)) deriveChainCard

/-- THE TIED CARD OF 'tmesislaw19.DeriveSigns'. -/
def deriveSignsCard : Claim7 := { stood := { row := deriveSignsRow, standIns := [], harness := (true, "efe2c01c69121115ad93aa322224a58b3c27d7f6f36c2ceb6d2fb8a11c3b245c"), looks := false }, kinds := [], alts := [], laidByText := true, laidKinds := [.data], laidTests := true, laidLooks := .later }
def DeriveSignsCardSaid : Prop := Claim7.holds Tryz.pinned (.plain (OpenSpec.ofChange deriveSignsSpec)) deriveSignsCard

/-- THE TIED CARD OF 'tmesislaw19.DeriveLeaves'. -/
def deriveLeavesCard : Claim7 := { stood := { row := deriveLeavesRow, standIns := [], harness := (true, "efe2c01c69121115ad93aa322224a58b3c27d7f6f36c2ceb6d2fb8a11c3b245c"), looks := false }, kinds := [], alts := [], laidByText := true, laidKinds := [.data], laidTests := true, laidLooks := .later }
def DeriveLeavesCardSaid : Prop := Claim7.holds Tryz.pinned (.plain (OpenSpec.ofChange deriveLeavesSpec)) deriveLeavesCard

/-- THE SECOND FORM's CARD OF 'tmesislaw18.TreeAll'. -/
def treeAllUptoCard : Claim7 := { stood := { row := treeAllUptoRow, standIns := [], harness := (true, "efe2c01c69121115ad93aa322224a58b3c27d7f6f36c2ceb6d2fb8a11c3b245c"), looks := false }, kinds := [], alts := [], laidByText := true, laidKinds := [.data], laidTests := true, laidLooks := .later }
def TreeAllUptoCardSaid : Prop := Claim7.holds Tryz.pinned (.plain (OpenSpec.upto treeAllSpec)) treeAllUptoCard

/-- THE SECOND FORM's CARD OF 'tmesislaw18.TreeSubs'. -/
def treeSubsUptoCard : Claim7 := { stood := { row := treeSubsUptoRow, standIns := [], harness := (true, "efe2c01c69121115ad93aa322224a58b3c27d7f6f36c2ceb6d2fb8a11c3b245c"), looks := false }, kinds := [], alts := [], laidByText := true, laidKinds := [.data], laidTests := true, laidLooks := .later }
def TreeSubsUptoCardSaid : Prop := Claim7.holds Tryz.pinned (.plain (OpenSpec.upto treeSubsSpec)) treeSubsUptoCard

/-- THE SECOND FORM's CARD OF 'tmesislaw19.DeriveAll'. -/
def deriveAllUptoCard : Claim7 := { stood := { row := deriveAllUptoRow, standIns := [], harness := (true, "efe2c01c69121115ad93aa322224a58b3c27d7f6f36c2ceb6d2fb8a11c3b245c"), looks := false }, kinds := [], alts := [], laidByText := true, laidKinds := [.data], laidTests := true, laidLooks := .later }
def DeriveAllUptoCardSaid : Prop := Claim7.holds Tryz.pinned (.plain (OpenSpec.upto deriveAllSpec)) deriveAllUptoCard

/-- THE SECOND FORM's CARD OF 'tmesislaw19.DeriveRight'. -/
def deriveRightUptoCard : Claim7 := { stood := { row := deriveRightUptoRow, standIns := [], harness := (true, "efe2c01c69121115ad93aa322224a58b3c27d7f6f36c2ceb6d2fb8a11c3b245c"), looks := false }, kinds := [], alts := [], laidByText := true, laidKinds := [.data], laidTests := true, laidLooks := .later }
def DeriveRightUptoCardSaid : Prop := Claim7.holds Tryz.pinned (.plain (OpenSpec.upto deriveRightSpec)) deriveRightUptoCard

/-- THE SECOND FORM's CARD OF 'tmesislaw19.DeriveUnique'. -/
def deriveUniqueUptoCard : Claim7 := { stood := { row := deriveUniqueUptoRow, standIns := [], harness := (true, "efe2c01c69121115ad93aa322224a58b3c27d7f6f36c2ceb6d2fb8a11c3b245c"), looks := false }, kinds := [], alts := [], laidByText := true, laidKinds := [.data], laidTests := true, laidLooks := .later }
def DeriveUniqueUptoCardSaid : Prop := Claim7.holds Tryz.pinned (.plain (OpenSpec.upto deriveUniqueSpec)) deriveUniqueUptoCard

/-- THE SECOND FORM's CARD OF 'tmesislaw19.DeriveNames'. -/
def deriveNamesUptoCard : Claim7 := { stood := { row := deriveNamesUptoRow, standIns := [], harness := (true, "efe2c01c69121115ad93aa322224a58b3c27d7f6f36c2ceb6d2fb8a11c3b245c"), looks := false }, kinds := [], alts := [], laidByText := true, laidKinds := [.data], laidTests := true, laidLooks := .later }
def DeriveNamesUptoCardSaid : Prop := Claim7.holds Tryz.pinned (.plain (OpenSpec.upto deriveNamesSpec)) deriveNamesUptoCard

/-- THE SECOND FORM's CARD OF 'tmesislaw19.DeriveBrackets'. -/
def deriveBracketsUptoCard : Claim7 := { stood := { row := deriveBracketsUptoRow, standIns := [], harness := (true, "efe2c01c69121115ad93aa322224a58b3c27d7f6f36c2ceb6d2fb8a11c3b245c"), looks := false }, kinds := [], alts := [], laidByText := true, laidKinds := [.data], laidTests := true, laidLooks := .later }
def DeriveBracketsUptoCardSaid : Prop := Claim7.holds Tryz.pinned (.plain (OpenSpec.upto deriveBracketsSpec)) deriveBracketsUptoCard

/-- THE SECOND FORM's CARD OF 'tmesislaw19.DeriveFit'. -/
def deriveFitUptoCard : Claim7 := { stood := { row := deriveFitUptoRow, standIns := [], harness := (true, "efe2c01c69121115ad93aa322224a58b3c27d7f6f36c2ceb6d2fb8a11c3b245c"), looks := false }, kinds := [], alts := [], laidByText := true, laidKinds := [.data], laidTests := true, laidLooks := .later }
def DeriveFitUptoCardSaid : Prop := Claim7.holds Tryz.pinned (.plain (OpenSpec.upto deriveFitSpec)) deriveFitUptoCard

/-- THE SECOND FORM's CARD OF 'tmesislaw19.DeriveChain'. -/
def deriveChainUptoCard : Claim7 := { stood := { row := deriveChainUptoRow, standIns := [], harness := (true, "efe2c01c69121115ad93aa322224a58b3c27d7f6f36c2ceb6d2fb8a11c3b245c"), looks := false }, kinds := [], alts := [], laidByText := true, laidKinds := [.data], laidTests := true, laidLooks := .later }
def DeriveChainUptoCardSaid : Prop := Claim7.holds Tryz.pinned (.plain (OpenSpec.upto deriveChainSpec)) deriveChainUptoCard

/-- THE SECOND FORM's CARD OF 'tmesislaw19.DeriveSigns'. -/
def deriveSignsUptoCard : Claim7 := { stood := { row := deriveSignsUptoRow, standIns := [], harness := (true, "efe2c01c69121115ad93aa322224a58b3c27d7f6f36c2ceb6d2fb8a11c3b245c"), looks := false }, kinds := [], alts := [], laidByText := true, laidKinds := [.data], laidTests := true, laidLooks := .later }
def DeriveSignsUptoCardSaid : Prop := Claim7.holds Tryz.pinned (.plain (OpenSpec.upto deriveSignsSpec)) deriveSignsUptoCard

/-- THE SECOND FORM's CARD OF 'tmesislaw19.DeriveLeaves'. -/
def deriveLeavesUptoCard : Claim7 := { stood := { row := deriveLeavesUptoRow, standIns := [], harness := (true, "efe2c01c69121115ad93aa322224a58b3c27d7f6f36c2ceb6d2fb8a11c3b245c"), looks := false }, kinds := [], alts := [], laidByText := true, laidKinds := [.data], laidTests := true, laidLooks := .later }
def DeriveLeavesUptoCardSaid : Prop := Claim7.holds Tryz.pinned (.plain (OpenSpec.upto deriveLeavesSpec)) deriveLeavesUptoCard
end Rows
end Go.Proofs.YtlpmelldldjioaaGreatDoor
