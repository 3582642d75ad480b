/-
  DERIVED. GIVEN WITH THE SEED: THE CARDS: each row of YtenaadfmlpmffaaDoorRows.lean that lists a variable, with what it lists TIED to the program's text (the seventh form; the later family's looks); each row that meets fmt, with fmt's text TOLD by the authors' own Lean function (tested against real Go, not proved from fmt's source: count such statements apart). THE CARD IS WHAT COUNTS. Prove the row's statement (the work); the ties are given (YtenaadfmlpmffaaDoorTie.lean); close each card by the builder's one call (the guide's Derived/Test/ToyasCard.lean, 'card_holds'). Laid BY PROGRAM, IN A SANDBOX (cutbox-door.mjs). By AI agents, Wed Nov 11 2026. No macro, syntax, notation, axiom, sorry.
-/
import Derived.Test.YtenaadfmlpmffaaDoorRows
import GoSem.ClaimSeven
namespace Go.Proofs.YtenaadfmlpmffaaDoor
namespace Rows

/-- THE TIED CARD OF 'tmesislaw11.ShapeAll'. -/
def shapeAllCard : Claim7 := { stood := { row := shapeAllRow, standIns := [], harness := (true, "d624cbe00c554fc1d6e2c46f0224677c41158e3a42151708e709b0fa398531a1"), looks := false }, kinds := [], alts := [], laidByText := true, laidKinds := [.data], laidTests := true, laidLooks := .later }
def ShapeAllCardSaid : Prop := Claim7.holds Tryd.pinned (.plain (OpenSpec.ofChange shapeAllSpec)) shapeAllCard

/-- THE TIED CARD OF 'tmesislaw11.ShapeBack'. -/
def shapeBackCard : Claim7 := { stood := { row := shapeBackRow, standIns := [], harness := (true, "d624cbe00c554fc1d6e2c46f0224677c41158e3a42151708e709b0fa398531a1"), looks := false }, kinds := [], alts := [], laidByText := true, laidKinds := [.data], laidTests := true, laidLooks := .later }
def ShapeBackCardSaid : Prop := Claim7.holds Tryd.pinned (.plain (OpenSpec.ofChange shapeBackSpec)) shapeBackCard

/-- THE TIED CARD OF 'tmesislaw11.ShapeMade'. -/
def shapeMadeCard : Claim7 := { stood := { row := shapeMadeRow, standIns := [], harness := (true, "d624cbe00c554fc1d6e2c46f0224677c41158e3a42151708e709b0fa398531a1"), looks := false }, kinds := [], alts := [], laidByText := true, laidKinds := [.data], laidTests := true, laidLooks := .later }
def ShapeMadeCardSaid : Prop := Claim7.holds Tryd.pinned (.plain (OpenSpec.ofChange shapeMadeSpec)) shapeMadeCard

/-- THE TIED CARD OF 'tmesislaw11.ShapeEnds'. -/
def shapeEndsCard : Claim7 := { stood := { row := shapeEndsRow, standIns := [], harness := (true, "d624cbe00c554fc1d6e2c46f0224677c41158e3a42151708e709b0fa398531a1"), looks := false }, kinds := [], alts := [], laidByText := true, laidKinds := [.data], laidTests := true, laidLooks := .later }
def ShapeEndsCardSaid : Prop := Claim7.holds Tryd.pinned (.plain (OpenSpec.ofChange shapeEndsSpec)) shapeEndsCard

/-- THE SECOND FORM's CARD OF 'tmesislaw11.ShapeAll'. -/
def shapeAllUptoCard : Claim7 := { stood := { row := shapeAllUptoRow, standIns := [], harness := (true, "d624cbe00c554fc1d6e2c46f0224677c41158e3a42151708e709b0fa398531a1"), looks := false }, kinds := [], alts := [], laidByText := true, laidKinds := [.data], laidTests := true, laidLooks := .later }
def ShapeAllUptoCardSaid : Prop := Claim7.holds Tryd.pinned (.plain (OpenSpec.upto shapeAllSpec)) shapeAllUptoCard

/-- THE SECOND FORM's CARD OF 'tmesislaw11.ShapeBack'. -/
def shapeBackUptoCard : Claim7 := { stood := { row := shapeBackUptoRow, standIns := [], harness := (true, "d624cbe00c554fc1d6e2c46f0224677c41158e3a42151708e709b0fa398531a1"), looks := false }, kinds := [], alts := [], laidByText := true, laidKinds := [.data], laidTests := true, laidLooks := .later }
def ShapeBackUptoCardSaid : Prop := Claim7.holds Tryd.pinned (.plain (OpenSpec.upto shapeBackSpec)) shapeBackUptoCard

/-- THE SECOND FORM's CARD OF 'tmesislaw11.ShapeMade'. -/
def shapeMadeUptoCard : Claim7 := { stood := { row := shapeMadeUptoRow, standIns := [], harness := (true, "d624cbe00c554fc1d6e2c46f0224677c41158e3a42151708e709b0fa398531a1"), looks := false }, kinds := [], alts := [], laidByText := true, laidKinds := [.data], laidTests := true, laidLooks := .later }
def ShapeMadeUptoCardSaid : Prop := Claim7.holds Tryd.pinned (.plain (OpenSpec.upto shapeMadeSpec)) shapeMadeUptoCard

/-- THE SECOND FORM's CARD OF 'tmesislaw11.ShapeEnds'. -/
def shapeEndsUptoCard : Claim7 := { stood := { row := shapeEndsUptoRow, standIns := [], harness := (true, "d624cbe00c554fc1d6e2c46f0224677c41158e3a42151708e709b0fa398531a1"), looks := false }, kinds := [], alts := [], laidByText := true, laidKinds := [.data], laidTests := true, laidLooks := .later }
def ShapeEndsUptoCardSaid : Prop := Claim7.holds Tryd.pinned (.plain (OpenSpec.upto shapeEndsSpec)) shapeEndsUptoCard
end Rows
end Go.Proofs.YtenaadfmlpmffaaDoor
