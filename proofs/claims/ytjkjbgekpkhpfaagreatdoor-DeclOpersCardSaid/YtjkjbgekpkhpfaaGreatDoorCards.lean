/-
  DERIVED. GIVEN WITH THE SEED: THE CARDS: each row of YtjkjbgekpkhpfaaGreatDoorRows.lean that lists a variable, with what it lists TIED to the program's text (the seventh form; the later family's looks); each row that meets fmt, with fmt's text TOLD by the authors' own Lean function (tested against real Go, not proved from fmt's source: count such statements apart). THE CARD IS WHAT COUNTS. Prove the row's statement (the work); the ties are given (YtjkjbgekpkhpfaaGreatDoorTie.lean); close each card by the builder's one call (the guide's Derived/Test/ToyasCard.lean, 'card_holds'). Laid BY PROGRAM, IN A SANDBOX (cutbox-door.mjs). By AI agents, Wed Nov 11 2026. No macro, syntax, notation, axiom, sorry.
-/
import Derived.Test.YtjkjbgekpkhpfaaGreatDoorRows
import GoSem.ClaimSeven
namespace Go.Proofs.YtjkjbgekpkhpfaaGreatDoor
namespace Rows

/-- THE TIED CARD OF 'tmesislaw14.EnvAll'. -/
def envAllCard : Claim7 := { stood := { row := envAllRow, standIns := [], harness := (true, "58ae5e556dda0107620db7dfa1af89e7b329b218eac6bca5937558e1abd01247"), looks := false }, kinds := [], alts := [], laidByText := true, laidKinds := [.data], laidTests := true, laidLooks := .later }
def EnvAllCardSaid : Prop := Claim7.holds Tryz.pinned (.plain (OpenSpec.ofChange envAllSpec)) envAllCard

/-- THE TIED CARD OF 'tmesislaw15.DeclOpers'. -/
def declOpersCard : Claim7 := { stood := { row := declOpersRow, standIns := [], harness := (true, "58ae5e556dda0107620db7dfa1af89e7b329b218eac6bca5937558e1abd01247"), looks := false }, kinds := [], alts := [], laidByText := true, laidKinds := [.data, .data, .data, .data, .data], laidTests := true, laidLooks := .later }
def DeclOpersCardSaid : Prop := Claim7.holds Tryz.pinned (.plain (OpenSpec.ofChange declOpersSpec)) declOpersCard

/-- THE SECOND FORM's CARD OF 'tmesislaw14.EnvAll'. -/
def envAllUptoCard : Claim7 := { stood := { row := envAllUptoRow, standIns := [], harness := (true, "58ae5e556dda0107620db7dfa1af89e7b329b218eac6bca5937558e1abd01247"), looks := false }, kinds := [], alts := [], laidByText := true, laidKinds := [.data], laidTests := true, laidLooks := .later }
def EnvAllUptoCardSaid : Prop := Claim7.holds Tryz.pinned (.plain (OpenSpec.upto envAllSpec)) envAllUptoCard

/-- THE SECOND FORM's CARD OF 'tmesislaw15.DeclOpers'. -/
def declOpersUptoCard : Claim7 := { stood := { row := declOpersUptoRow, standIns := [], harness := (true, "58ae5e556dda0107620db7dfa1af89e7b329b218eac6bca5937558e1abd01247"), looks := false }, kinds := [], alts := [], laidByText := true, laidKinds := [.data, .data, .data, .data, .data], laidTests := true, laidLooks := .later }
def DeclOpersUptoCardSaid : Prop := Claim7.holds Tryz.pinned (.plain (OpenSpec.upto declOpersSpec)) declOpersUptoCard
end Rows
end Go.Proofs.YtjkjbgekpkhpfaaGreatDoor
