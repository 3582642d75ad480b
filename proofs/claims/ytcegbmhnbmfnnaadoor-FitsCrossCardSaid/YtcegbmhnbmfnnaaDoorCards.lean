/-
  DERIVED. GIVEN WITH THE SEED: THE CARDS: each row of YtcegbmhnbmfnnaaDoorRows.lean that lists a variable, with what it lists TIED to the program's text (the seventh form; the later family's looks); each row that meets fmt, with fmt's text TOLD by the authors' own Lean function (tested against real Go, not proved from fmt's source: count such statements apart). THE CARD IS WHAT COUNTS. Prove the row's statement (the work); the ties are given (YtcegbmhnbmfnnaaDoorTie.lean); close each card by the builder's one call (the guide's Derived/Test/ToyasCard.lean, 'card_holds'). Laid BY PROGRAM, IN A SANDBOX (cutbox-door.mjs). By AI agents, Wed Nov 11 2026. No macro, syntax, notation, axiom, sorry.
-/
import Derived.Test.YtcegbmhnbmfnnaaDoorRows
import GoSem.ClaimSeven
namespace Go.Proofs.YtcegbmhnbmfnnaaDoor
namespace Rows

/-- THE TIED CARD OF 'tmesislaw17.FitsOnce'. -/
def fitsOnceCard : Claim7 := { stood := { row := fitsOnceRow, standIns := [], harness := (true, "e69d702806bcaf6ff94778c35a9da6d71f14796093e4d4cc444c5200a4ce6e9b"), looks := false }, kinds := [], alts := [], laidByText := true, laidKinds := [.data], laidTests := true, laidLooks := .later }
def FitsOnceCardSaid : Prop := Claim7.holds Tryd.pinned (.plain (OpenSpec.ofChange fitsOnceSpec)) fitsOnceCard

/-- THE TIED CARD OF 'tmesislaw17.FitsThrough'. -/
def fitsThroughCard : Claim7 := { stood := { row := fitsThroughRow, standIns := [], harness := (true, "e69d702806bcaf6ff94778c35a9da6d71f14796093e4d4cc444c5200a4ce6e9b"), looks := false }, kinds := [], alts := [], laidByText := true, laidKinds := [.data], laidTests := true, laidLooks := .later }
def FitsThroughCardSaid : Prop := Claim7.holds Tryd.pinned (.plain (OpenSpec.ofChange fitsThroughSpec)) fitsThroughCard

/-- THE TIED CARD OF 'tmesislaw17.FitsCross'. -/
def fitsCrossCard : Claim7 := { stood := { row := fitsCrossRow, standIns := [], harness := (true, "e69d702806bcaf6ff94778c35a9da6d71f14796093e4d4cc444c5200a4ce6e9b"), looks := false }, kinds := [], alts := [], laidByText := true, laidKinds := [.data], laidTests := true, laidLooks := .later }
def FitsCrossCardSaid : Prop := Claim7.holds Tryd.pinned (.plain (OpenSpec.ofChange fitsCrossSpec)) fitsCrossCard

/-- THE TIED CARD OF 'tmesislaw17.FitsClosed'. -/
def fitsClosedCard : Claim7 := { stood := { row := fitsClosedRow, standIns := [], harness := (true, "e69d702806bcaf6ff94778c35a9da6d71f14796093e4d4cc444c5200a4ce6e9b"), looks := false }, kinds := [], alts := [], laidByText := true, laidKinds := [.data], laidTests := true, laidLooks := .later }
def FitsClosedCardSaid : Prop := Claim7.holds Tryd.pinned (.plain (OpenSpec.ofChange fitsClosedSpec)) fitsClosedCard

/-- THE SECOND FORM's CARD OF 'tmesislaw17.FitsOnce'. -/
def fitsOnceUptoCard : Claim7 := { stood := { row := fitsOnceUptoRow, standIns := [], harness := (true, "e69d702806bcaf6ff94778c35a9da6d71f14796093e4d4cc444c5200a4ce6e9b"), looks := false }, kinds := [], alts := [], laidByText := true, laidKinds := [.data], laidTests := true, laidLooks := .later }
def FitsOnceUptoCardSaid : Prop := Claim7.holds Tryd.pinned (.plain (OpenSpec.upto fitsOnceSpec)) fitsOnceUptoCard

/-- THE SECOND FORM's CARD OF 'tmesislaw17.FitsThrough'. -/
def fitsThroughUptoCard : Claim7 := { stood := { row := fitsThroughUptoRow, standIns := [], harness := (true, "e69d702806bcaf6ff94778c35a9da6d71f14796093e4d4cc444c5200a4ce6e9b"), looks := false }, kinds := [], alts := [], laidByText := true, laidKinds := [.data], laidTests := true, laidLooks := .later }
def FitsThroughUptoCardSaid : Prop := Claim7.holds Tryd.pinned (.plain (OpenSpec.upto fitsThroughSpec)) fitsThroughUptoCard

/-- THE SECOND FORM's CARD OF 'tmesislaw17.FitsCross'. -/
def fitsCrossUptoCard : Claim7 := { stood := { row := fitsCrossUptoRow, standIns := [], harness := (true, "e69d702806bcaf6ff94778c35a9da6d71f14796093e4d4cc444c5200a4ce6e9b"), looks := false }, kinds := [], alts := [], laidByText := true, laidKinds := [.data], laidTests := true, laidLooks := .later }
def FitsCrossUptoCardSaid : Prop := Claim7.holds Tryd.pinned (.plain (OpenSpec.upto fitsCrossSpec)) fitsCrossUptoCard

/-- THE SECOND FORM's CARD OF 'tmesislaw17.FitsClosed'. -/
def fitsClosedUptoCard : Claim7 := { stood := { row := fitsClosedUptoRow, standIns := [], harness := (true, "e69d702806bcaf6ff94778c35a9da6d71f14796093e4d4cc444c5200a4ce6e9b"), looks := false }, kinds := [], alts := [], laidByText := true, laidKinds := [.data], laidTests := true, laidLooks := .later }
def FitsClosedUptoCardSaid : Prop := Claim7.holds Tryd.pinned (.plain (OpenSpec.upto fitsClosedSpec)) fitsClosedUptoCard
end Rows
end Go.Proofs.YtcegbmhnbmfnnaaDoor
