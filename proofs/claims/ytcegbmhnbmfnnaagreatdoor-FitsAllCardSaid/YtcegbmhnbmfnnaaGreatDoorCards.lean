/-
  DERIVED. GIVEN WITH THE SEED: THE CARDS: each row of YtcegbmhnbmfnnaaGreatDoorRows.lean that lists a variable, with what it lists TIED to the program's text (the seventh form; the later family's looks); each row that meets fmt, with fmt's text TOLD by the authors' own Lean function (tested against real Go, not proved from fmt's source: count such statements apart). THE CARD IS WHAT COUNTS. Prove the row's statement (the work); the ties are given (YtcegbmhnbmfnnaaGreatDoorTie.lean); close each card by the builder's one call (the guide's Derived/Test/ToyasCard.lean, 'card_holds'). Laid BY PROGRAM, IN A SANDBOX (cutbox-door.mjs). By AI agents, Wed Nov 11 2026. No macro, syntax, notation, axiom, sorry.
-/
import Derived.Test.YtcegbmhnbmfnnaaGreatDoorRows
import GoSem.ClaimSeven
namespace Go.Proofs.YtcegbmhnbmfnnaaGreatDoor
namespace Rows

/-- THE TIED CARD OF 'tmesislaw17.FitsAll'. -/
def fitsAllCard : Claim7 := { stood := { row := fitsAllRow, standIns := [], harness := (true, "a587f92e8703594914b3ff03b26f5084fdcb9d9c8573b72fb5bf2018f170f69d"), looks := false }, kinds := [], alts := [], laidByText := true, laidKinds := [.data], laidTests := true, laidLooks := .later }
def FitsAllCardSaid : Prop := Claim7.holds Tryz.pinned (.plain (OpenSpec.ofChange fitsAllSpec)) fitsAllCard

/-- THE TIED CARD OF 'tmesislaw17.FitsLeaves'. -/
def fitsLeavesCard : Claim7 := { stood := { row := fitsLeavesRow, standIns := [], harness := (true, "a587f92e8703594914b3ff03b26f5084fdcb9d9c8573b72fb5bf2018f170f69d"), looks := false }, kinds := [], alts := [], laidByText := true, laidKinds := [.data], laidTests := true, laidLooks := .later }
def FitsLeavesCardSaid : Prop := Claim7.holds Tryz.pinned (.plain (OpenSpec.ofChange fitsLeavesSpec)) fitsLeavesCard

/-- THE SECOND FORM's CARD OF 'tmesislaw17.FitsAll'. -/
def fitsAllUptoCard : Claim7 := { stood := { row := fitsAllUptoRow, standIns := [], harness := (true, "a587f92e8703594914b3ff03b26f5084fdcb9d9c8573b72fb5bf2018f170f69d"), looks := false }, kinds := [], alts := [], laidByText := true, laidKinds := [.data], laidTests := true, laidLooks := .later }
def FitsAllUptoCardSaid : Prop := Claim7.holds Tryz.pinned (.plain (OpenSpec.upto fitsAllSpec)) fitsAllUptoCard

/-- THE SECOND FORM's CARD OF 'tmesislaw17.FitsLeaves'. -/
def fitsLeavesUptoCard : Claim7 := { stood := { row := fitsLeavesUptoRow, standIns := [], harness := (true, "a587f92e8703594914b3ff03b26f5084fdcb9d9c8573b72fb5bf2018f170f69d"), looks := false }, kinds := [], alts := [], laidByText := true, laidKinds := [.data], laidTests := true, laidLooks := .later }
def FitsLeavesUptoCardSaid : Prop := Claim7.holds Tryz.pinned (.plain (OpenSpec.upto fitsLeavesSpec)) fitsLeavesUptoCard
end Rows
end Go.Proofs.YtcegbmhnbmfnnaaGreatDoor
