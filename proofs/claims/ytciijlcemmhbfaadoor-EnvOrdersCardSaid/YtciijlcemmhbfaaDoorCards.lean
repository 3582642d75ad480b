/-
  DERIVED. GIVEN WITH THE SEED: THE CARDS: each row of YtciijlcemmhbfaaDoorRows.lean that lists a variable, with what it lists TIED to the program's text (the seventh form; the later family's looks); each row that meets fmt, with fmt's text TOLD by the authors' own Lean function (tested against real Go, not proved from fmt's source: count such statements apart). THE CARD IS WHAT COUNTS. Prove the row's statement (the work); the ties are given (YtciijlcemmhbfaaDoorTie.lean); close each card by the builder's one call (the guide's Derived/Test/ToyasCard.lean, 'card_holds'). Laid BY PROGRAM, IN A SANDBOX (cutbox-door.mjs). By AI agents, Wed Nov 11 2026. No macro, syntax, notation, axiom, sorry.
-/
import Derived.Test.YtciijlcemmhbfaaDoorRows
import GoSem.ClaimSeven
namespace Go.Proofs.YtciijlcemmhbfaaDoor
namespace Rows

/-- THE TIED CARD OF 'tmesislaw14.EnvOrders'. -/
def envOrdersCard : Claim7 := { stood := { row := envOrdersRow, standIns := [], harness := (true, "696edae0fba5be194152b07ab9074f687069a389ccb8a80b99de535329f5b115"), looks := false }, kinds := [], alts := [], laidByText := true, laidKinds := [.data], laidTests := true, laidLooks := .later }
def EnvOrdersCardSaid : Prop := Claim7.holds Tryd.pinned (.plain (OpenSpec.ofChange envOrdersSpec)) envOrdersCard

/-- THE TIED CARD OF 'tmesislaw14.EnvFull'. -/
def envFullCard : Claim7 := { stood := { row := envFullRow, standIns := [], harness := (true, "696edae0fba5be194152b07ab9074f687069a389ccb8a80b99de535329f5b115"), looks := false }, kinds := [], alts := [], laidByText := true, laidKinds := [.data], laidTests := true, laidLooks := .later }
def EnvFullCardSaid : Prop := Claim7.holds Tryd.pinned (.plain (OpenSpec.ofChange envFullSpec)) envFullCard

/-- THE SECOND FORM's CARD OF 'tmesislaw14.EnvOrders'. -/
def envOrdersUptoCard : Claim7 := { stood := { row := envOrdersUptoRow, standIns := [], harness := (true, "696edae0fba5be194152b07ab9074f687069a389ccb8a80b99de535329f5b115"), looks := false }, kinds := [], alts := [], laidByText := true, laidKinds := [.data], laidTests := true, laidLooks := .later }
def EnvOrdersUptoCardSaid : Prop := Claim7.holds Tryd.pinned (.plain (OpenSpec.upto envOrdersSpec)) envOrdersUptoCard

/-- THE SECOND FORM's CARD OF 'tmesislaw14.EnvFull'. -/
def envFullUptoCard : Claim7 := { stood := { row := envFullUptoRow, standIns := [], harness := (true, "696edae0fba5be194152b07ab9074f687069a389ccb8a80b99de535329f5b115"), looks := false }, kinds := [], alts := [], laidByText := true, laidKinds := [.data], laidTests := true, laidLooks := .later }
def EnvFullUptoCardSaid : Prop := Claim7.holds Tryd.pinned (.plain (OpenSpec.upto envFullSpec)) envFullUptoCard
end Rows
end Go.Proofs.YtciijlcemmhbfaaDoor
