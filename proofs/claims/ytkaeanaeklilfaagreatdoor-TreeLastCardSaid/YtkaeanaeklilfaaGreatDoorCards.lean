/-
  DERIVED. GIVEN WITH THE SEED: THE CARDS: each row of YtkaeanaeklilfaaGreatDoorRows.lean that lists a variable, with what it lists TIED to the program's text (the seventh form; the later family's looks); each row that meets fmt, with fmt's text TOLD by the authors' own Lean function (tested against real Go, not proved from fmt's source: count such statements apart). THE CARD IS WHAT COUNTS. Prove the row's statement (the work); the ties are given (YtkaeanaeklilfaaGreatDoorTie.lean); close each card by the builder's one call (the guide's Derived/Test/ToyasCard.lean, 'card_holds'). Laid BY PROGRAM, IN A SANDBOX (cutbox-door.mjs). By AI agents, Wed Nov 11 2026. No macro, syntax, notation, axiom, sorry.
-/
import Derived.Test.YtkaeanaeklilfaaGreatDoorRows
import GoSem.ClaimSeven
namespace Go.Proofs.YtkaeanaeklilfaaGreatDoor
namespace Rows

/-- THE TIED CARD OF 'tmesislaw18.TreeAll'. -/
def treeAllCard : Claim7 := { stood := { row := treeAllRow, standIns := [], harness := (true, "8bd89ece8c9593364eaff4df9f9b80d2f57c8109e275daceecc09c14bd744137"), looks := false }, kinds := [], alts := [], laidByText := true, laidKinds := [.data], laidTests := true, laidLooks := .later }
def TreeAllCardSaid : Prop := Claim7.holds Tryz.pinned (.plain (OpenSpec.ofChange treeAllSpec)) treeAllCard

/-- THE TIED CARD OF 'tmesislaw18.TreeEnds'. -/
def treeEndsCard : Claim7 := { stood := { row := treeEndsRow, standIns := [], harness := (true, "8bd89ece8c9593364eaff4df9f9b80d2f57c8109e275daceecc09c14bd744137"), looks := false }, kinds := [], alts := [], laidByText := true, laidKinds := [.data], laidTests := true, laidLooks := .later }
def TreeEndsCardSaid : Prop := Claim7.holds Tryz.pinned (.plain (OpenSpec.ofChange treeEndsSpec)) treeEndsCard

/-- THE TIED CARD OF 'tmesislaw18.TreeSubs'. -/
def treeSubsCard : Claim7 := { stood := { row := treeSubsRow, standIns := [], harness := (true, "8bd89ece8c9593364eaff4df9f9b80d2f57c8109e275daceecc09c14bd744137"), looks := false }, kinds := [], alts := [], laidByText := true, laidKinds := [.data], laidTests := true, laidLooks := .later }
def TreeSubsCardSaid : Prop := Claim7.holds Tryz.pinned (.plain (OpenSpec.ofChange treeSubsSpec)) treeSubsCard

/-- THE TIED CARD OF 'tmesislaw18.TreeBares'. -/
def treeBaresCard : Claim7 := { stood := { row := treeBaresRow, standIns := [], harness := (true, "8bd89ece8c9593364eaff4df9f9b80d2f57c8109e275daceecc09c14bd744137"), looks := false }, kinds := [], alts := [], laidByText := true, laidKinds := [.data], laidTests := true, laidLooks := .later }
def TreeBaresCardSaid : Prop := Claim7.holds Tryz.pinned (.plain (OpenSpec.ofChange treeBaresSpec)) treeBaresCard

/-- THE TIED CARD OF 'tmesislaw18.TreeLast'. -/
def treeLastCard : Claim7 := { stood := { row := treeLastRow, standIns := [], harness := (true, "8bd89ece8c9593364eaff4df9f9b80d2f57c8109e275daceecc09c14bd744137"), looks := false }, kinds := [], alts := [], laidByText := true, laidKinds := [.data], laidTests := true, laidLooks := .later }
def TreeLastCardSaid : Prop := Claim7.holds Tryz.pinned (.plain (OpenSpec.ofChange treeLastSpec)) treeLastCard

/-- THE SECOND FORM's CARD OF 'tmesislaw18.TreeAll'. -/
def treeAllUptoCard : Claim7 := { stood := { row := treeAllUptoRow, standIns := [], harness := (true, "8bd89ece8c9593364eaff4df9f9b80d2f57c8109e275daceecc09c14bd744137"), looks := false }, kinds := [], alts := [], laidByText := true, laidKinds := [.data], laidTests := true, laidLooks := .later }
def TreeAllUptoCardSaid : Prop := Claim7.holds Tryz.pinned (.plain (OpenSpec.upto treeAllSpec)) treeAllUptoCard

/-- THE SECOND FORM's CARD OF 'tmesislaw18.TreeEnds'. -/
def treeEndsUptoCard : Claim7 := { stood := { row := treeEndsUptoRow, standIns := [], harness := (true, "8bd89ece8c9593364eaff4df9f9b80d2f57c8109e275daceecc09c14bd744137"), looks := false }, kinds := [], alts := [], laidByText := true, laidKinds := [.data], laidTests := true, laidLooks := .later }
def TreeEndsUptoCardSaid : Prop := Claim7.holds Tryz.pinned (.plain (OpenSpec.upto treeEndsSpec)) treeEndsUptoCard

/-- THE SECOND FORM's CARD OF 'tmesislaw18.TreeSubs'. -/
def treeSubsUptoCard : Claim7 := { stood := { row := treeSubsUptoRow, standIns := [], harness := (true, "8bd89ece8c9593364eaff4df9f9b80d2f57c8109e275daceecc09c14bd744137"), looks := false }, kinds := [], alts := [], laidByText := true, laidKinds := [.data], laidTests := true, laidLooks := .later }
def TreeSubsUptoCardSaid : Prop := Claim7.holds Tryz.pinned (.plain (OpenSpec.upto treeSubsSpec)) treeSubsUptoCard

/-- THE SECOND FORM's CARD OF 'tmesislaw18.TreeBares'. -/
def treeBaresUptoCard : Claim7 := { stood := { row := treeBaresUptoRow, standIns := [], harness := (true, "8bd89ece8c9593364eaff4df9f9b80d2f57c8109e275daceecc09c14bd744137"), looks := false }, kinds := [], alts := [], laidByText := true, laidKinds := [.data], laidTests := true, laidLooks := .later }
def TreeBaresUptoCardSaid : Prop := Claim7.holds Tryz.pinned (.plain (OpenSpec.upto treeBaresSpec)) treeBaresUptoCard

/-- THE SECOND FORM's CARD OF 'tmesislaw18.TreeLast'. -/
def treeLastUptoCard : Claim7 := { stood := { row := treeLastUptoRow, standIns := [], harness := (true, "8bd89ece8c9593364eaff4df9f9b80d2f57c8109e275daceecc09c14bd744137"), looks := false }, kinds := [], alts := [], laidByText := true, laidKinds := [.data], laidTests := true, laidLooks := .later }
def TreeLastUptoCardSaid : Prop := Claim7.holds Tryz.pinned (.plain (OpenSpec.upto treeLastSpec)) treeLastUptoCard
end Rows
end Go.Proofs.YtkaeanaeklilfaaGreatDoor
