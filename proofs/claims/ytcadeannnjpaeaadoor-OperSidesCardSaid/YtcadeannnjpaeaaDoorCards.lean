/-
  DERIVED. GIVEN WITH THE SEED: THE CARDS: each row of YtcadeannnjpaeaaDoorRows.lean that lists a variable, with what it lists TIED to the program's text (the seventh form; the later family's looks); each row that meets fmt, with fmt's text TOLD by the authors' own Lean function (tested against real Go, not proved from fmt's source: count such statements apart). THE CARD IS WHAT COUNTS. Prove the row's statement (the work); the ties are given (YtcadeannnjpaeaaDoorTie.lean); close each card by the builder's one call (the guide's Derived/Test/ToyasCard.lean, 'card_holds'). Laid BY PROGRAM, IN A SANDBOX (cutbox-door.mjs). By AI agents, Wed Nov 11 2026. No macro, syntax, notation, axiom, sorry.
-/
import Derived.Test.YtcadeannnjpaeaaDoorRows
import GoSem.ClaimSeven
namespace Go.Proofs.YtcadeannnjpaeaaDoor
namespace Rows

/-- THE TIED CARD OF 'tmesislaw12.OperAll'. -/
def operAllCard : Claim7 := { stood := { row := operAllRow, standIns := [], harness := (true, "2fd1213262a970d9aa4ffe18193ed1b3976c94fb6ebdf8afc8fde7ebc0b34cf2"), looks := false }, kinds := [], alts := [], laidByText := true, laidKinds := [.data, .data], laidTests := true, laidLooks := .later }
def OperAllCardSaid : Prop := Claim7.holds Tryd.pinned (.plain (OpenSpec.ofChange operAllSpec)) operAllCard

/-- THE TIED CARD OF 'tmesislaw12.OperSimple'. -/
def operSimpleCard : Claim7 := { stood := { row := operSimpleRow, standIns := [], harness := (true, "2fd1213262a970d9aa4ffe18193ed1b3976c94fb6ebdf8afc8fde7ebc0b34cf2"), looks := false }, kinds := [], alts := [], laidByText := true, laidKinds := [.data, .data], laidTests := true, laidLooks := .later }
def OperSimpleCardSaid : Prop := Claim7.holds Tryd.pinned (.plain (OpenSpec.ofChange operSimpleSpec)) operSimpleCard

/-- THE TIED CARD OF 'tmesislaw12.OperFirst'. -/
def operFirstCard : Claim7 := { stood := { row := operFirstRow, standIns := [], harness := (true, "2fd1213262a970d9aa4ffe18193ed1b3976c94fb6ebdf8afc8fde7ebc0b34cf2"), looks := false }, kinds := [], alts := [], laidByText := true, laidKinds := [.data, .data], laidTests := true, laidLooks := .later }
def OperFirstCardSaid : Prop := Claim7.holds Tryd.pinned (.plain (OpenSpec.ofChange operFirstSpec)) operFirstCard

/-- THE TIED CARD OF 'tmesislaw12.OperSides'. -/
def operSidesCard : Claim7 := { stood := { row := operSidesRow, standIns := [], harness := (true, "2fd1213262a970d9aa4ffe18193ed1b3976c94fb6ebdf8afc8fde7ebc0b34cf2"), looks := false }, kinds := [], alts := [], laidByText := true, laidKinds := [.data, .data], laidTests := true, laidLooks := .later }
def OperSidesCardSaid : Prop := Claim7.holds Tryd.pinned (.plain (OpenSpec.ofChange operSidesSpec)) operSidesCard

/-- THE SECOND FORM's CARD OF 'tmesislaw12.OperAll'. -/
def operAllUptoCard : Claim7 := { stood := { row := operAllUptoRow, standIns := [], harness := (true, "2fd1213262a970d9aa4ffe18193ed1b3976c94fb6ebdf8afc8fde7ebc0b34cf2"), looks := false }, kinds := [], alts := [], laidByText := true, laidKinds := [.data, .data], laidTests := true, laidLooks := .later }
def OperAllUptoCardSaid : Prop := Claim7.holds Tryd.pinned (.plain (OpenSpec.upto operAllSpec)) operAllUptoCard

/-- THE SECOND FORM's CARD OF 'tmesislaw12.OperSimple'. -/
def operSimpleUptoCard : Claim7 := { stood := { row := operSimpleUptoRow, standIns := [], harness := (true, "2fd1213262a970d9aa4ffe18193ed1b3976c94fb6ebdf8afc8fde7ebc0b34cf2"), looks := false }, kinds := [], alts := [], laidByText := true, laidKinds := [.data, .data], laidTests := true, laidLooks := .later }
def OperSimpleUptoCardSaid : Prop := Claim7.holds Tryd.pinned (.plain (OpenSpec.upto operSimpleSpec)) operSimpleUptoCard

/-- THE SECOND FORM's CARD OF 'tmesislaw12.OperFirst'. -/
def operFirstUptoCard : Claim7 := { stood := { row := operFirstUptoRow, standIns := [], harness := (true, "2fd1213262a970d9aa4ffe18193ed1b3976c94fb6ebdf8afc8fde7ebc0b34cf2"), looks := false }, kinds := [], alts := [], laidByText := true, laidKinds := [.data, .data], laidTests := true, laidLooks := .later }
def OperFirstUptoCardSaid : Prop := Claim7.holds Tryd.pinned (.plain (OpenSpec.upto operFirstSpec)) operFirstUptoCard

/-- THE SECOND FORM's CARD OF 'tmesislaw12.OperSides'. -/
def operSidesUptoCard : Claim7 := { stood := { row := operSidesUptoRow, standIns := [], harness := (true, "2fd1213262a970d9aa4ffe18193ed1b3976c94fb6ebdf8afc8fde7ebc0b34cf2"), looks := false }, kinds := [], alts := [], laidByText := true, laidKinds := [.data, .data], laidTests := true, laidLooks := .later }
def OperSidesUptoCardSaid : Prop := Claim7.holds Tryd.pinned (.plain (OpenSpec.upto operSidesSpec)) operSidesUptoCard
end Rows
end Go.Proofs.YtcadeannnjpaeaaDoor
