/-
  DERIVED. GIVEN WITH THE SEED: THE CARDS: each row of YtciijlcemmhbfaaGreatDoorRows.lean that lists a variable, with what it lists TIED to the program's text (the seventh form; the later family's looks); each row that meets fmt, with fmt's text TOLD by the authors' own Lean function (tested against real Go, not proved from fmt's source: count such statements apart). THE CARD IS WHAT COUNTS. Prove the row's statement (the work); the ties are given (YtciijlcemmhbfaaGreatDoorTie.lean); close each card by the builder's one call (the guide's Derived/Test/ToyasCard.lean, 'card_holds'). Laid BY PROGRAM, IN A SANDBOX (cutbox-door.mjs). By AI agents, Wed Nov 11 2026. No macro, syntax, notation, axiom, sorry.
-/
import Derived.Test.YtciijlcemmhbfaaGreatDoorRows
import GoSem.ClaimSeven
namespace Go.Proofs.YtciijlcemmhbfaaGreatDoor
namespace Rows

/-- THE TIED CARD OF 'tmesislaw14.EnvAll'. -/
def envAllCard : Claim7 := { stood := { row := envAllRow, standIns := [], harness := (true, "25588d5cef4ab7d57c136d8be3714a5da740e71501269fa94fda005d9ee539c7"), looks := false }, kinds := [], alts := [], laidByText := true, laidKinds := [.data], laidTests := true, laidLooks := .later }
def EnvAllCardSaid : Prop := Claim7.holds Tryz.pinned (.plain (OpenSpec.ofChange envAllSpec)) envAllCard

/-- THE TIED CARD OF 'tmesislaw14.EnvMade'. -/
def envMadeCard : Claim7 := { stood := { row := envMadeRow, standIns := [], harness := (true, "25588d5cef4ab7d57c136d8be3714a5da740e71501269fa94fda005d9ee539c7"), looks := false }, kinds := [], alts := [], laidByText := true, laidKinds := [.data], laidTests := true, laidLooks := .later }
def EnvMadeCardSaid : Prop := Claim7.holds Tryz.pinned (.plain (OpenSpec.ofChange envMadeSpec)) envMadeCard

/-- THE TIED CARD OF 'tmesislaw14.EnvLast'. -/
def envLastCard : Claim7 := { stood := { row := envLastRow, standIns := [], harness := (true, "25588d5cef4ab7d57c136d8be3714a5da740e71501269fa94fda005d9ee539c7"), looks := false }, kinds := [], alts := [], laidByText := true, laidKinds := [.data], laidTests := true, laidLooks := .later }
def EnvLastCardSaid : Prop := Claim7.holds Tryz.pinned (.plain (OpenSpec.ofChange envLastSpec)) envLastCard

/-- THE TIED CARD OF 'tmesislaw14.EnvKeeps'. -/
def envKeepsCard : Claim7 := { stood := { row := envKeepsRow, standIns := [], harness := (true, "25588d5cef4ab7d57c136d8be3714a5da740e71501269fa94fda005d9ee539c7"), looks := false }, kinds := [], alts := [], laidByText := true, laidKinds := [.data], laidTests := true, laidLooks := .later }
def EnvKeepsCardSaid : Prop := Claim7.holds Tryz.pinned (.plain (OpenSpec.ofChange envKeepsSpec)) envKeepsCard

/-- THE SECOND FORM's CARD OF 'tmesislaw14.EnvAll'. -/
def envAllUptoCard : Claim7 := { stood := { row := envAllUptoRow, standIns := [], harness := (true, "25588d5cef4ab7d57c136d8be3714a5da740e71501269fa94fda005d9ee539c7"), looks := false }, kinds := [], alts := [], laidByText := true, laidKinds := [.data], laidTests := true, laidLooks := .later }
def EnvAllUptoCardSaid : Prop := Claim7.holds Tryz.pinned (.plain (OpenSpec.upto envAllSpec)) envAllUptoCard

/-- THE SECOND FORM's CARD OF 'tmesislaw14.EnvMade'. -/
def envMadeUptoCard : Claim7 := { stood := { row := envMadeUptoRow, standIns := [], harness := (true, "25588d5cef4ab7d57c136d8be3714a5da740e71501269fa94fda005d9ee539c7"), looks := false }, kinds := [], alts := [], laidByText := true, laidKinds := [.data], laidTests := true, laidLooks := .later }
def EnvMadeUptoCardSaid : Prop := Claim7.holds Tryz.pinned (.plain (OpenSpec.upto envMadeSpec)) envMadeUptoCard

/-- THE SECOND FORM's CARD OF 'tmesislaw14.EnvLast'. -/
def envLastUptoCard : Claim7 := { stood := { row := envLastUptoRow, standIns := [], harness := (true, "25588d5cef4ab7d57c136d8be3714a5da740e71501269fa94fda005d9ee539c7"), looks := false }, kinds := [], alts := [], laidByText := true, laidKinds := [.data], laidTests := true, laidLooks := .later }
def EnvLastUptoCardSaid : Prop := Claim7.holds Tryz.pinned (.plain (OpenSpec.upto envLastSpec)) envLastUptoCard

/-- THE SECOND FORM's CARD OF 'tmesislaw14.EnvKeeps'. -/
def envKeepsUptoCard : Claim7 := { stood := { row := envKeepsUptoRow, standIns := [], harness := (true, "25588d5cef4ab7d57c136d8be3714a5da740e71501269fa94fda005d9ee539c7"), looks := false }, kinds := [], alts := [], laidByText := true, laidKinds := [.data], laidTests := true, laidLooks := .later }
def EnvKeepsUptoCardSaid : Prop := Claim7.holds Tryz.pinned (.plain (OpenSpec.upto envKeepsSpec)) envKeepsUptoCard
end Rows
end Go.Proofs.YtciijlcemmhbfaaGreatDoor
