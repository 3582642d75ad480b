/-
  DERIVED. GIVEN WITH THE SEED: THE CARDS: each row of YtjkjbgekpkhpfaaDoorRows.lean that lists a variable, with what it lists TIED to the program's text (the seventh form; the later family's looks); each row that meets fmt, with fmt's text TOLD by the authors' own Lean function (tested against real Go, not proved from fmt's source: count such statements apart). THE CARD IS WHAT COUNTS. Prove the row's statement (the work); the ties are given (YtjkjbgekpkhpfaaDoorTie.lean); close each card by the builder's one call (the guide's Derived/Test/ToyasCard.lean, 'card_holds'). Laid BY PROGRAM, IN A SANDBOX (cutbox-door.mjs). By AI agents, Wed Nov 11 2026. No macro, syntax, notation, axiom, sorry.
-/
import Derived.Test.YtjkjbgekpkhpfaaDoorRows
import GoSem.ClaimSeven
namespace Go.Proofs.YtjkjbgekpkhpfaaDoor
namespace Rows

/-- THE TIED CARD OF 'tmesislaw15.DeclEdges'. -/
def declEdgesCard : Claim7 := { stood := { row := declEdgesRow, standIns := [], harness := (true, "14f085157cd6d447d0952ed6c9e5f1f3d00bc19b69225d30bbe85d7938d2f487"), looks := false }, kinds := [], alts := [], laidByText := true, laidKinds := [.data, .data, .data, .data, .data], laidTests := true, laidLooks := .later }
def DeclEdgesCardSaid : Prop := Claim7.holds Tryd.pinned (.plain (OpenSpec.ofChange declEdgesSpec)) declEdgesCard

/-- THE TIED CARD OF 'tmesislaw15.DeclWords'. -/
def declWordsCard : Claim7 := { stood := { row := declWordsRow, standIns := [], harness := (true, "14f085157cd6d447d0952ed6c9e5f1f3d00bc19b69225d30bbe85d7938d2f487"), looks := false }, kinds := [], alts := [], laidByText := true, laidKinds := [.data, .data], laidTests := true, laidLooks := .later }
def DeclWordsCardSaid : Prop := Claim7.holds Tryd.pinned (.plain (OpenSpec.ofChange declWordsSpec)) declWordsCard

/-- THE SECOND FORM's CARD OF 'tmesislaw15.DeclEdges'. -/
def declEdgesUptoCard : Claim7 := { stood := { row := declEdgesUptoRow, standIns := [], harness := (true, "14f085157cd6d447d0952ed6c9e5f1f3d00bc19b69225d30bbe85d7938d2f487"), looks := false }, kinds := [], alts := [], laidByText := true, laidKinds := [.data, .data, .data, .data, .data], laidTests := true, laidLooks := .later }
def DeclEdgesUptoCardSaid : Prop := Claim7.holds Tryd.pinned (.plain (OpenSpec.upto declEdgesSpec)) declEdgesUptoCard

/-- THE SECOND FORM's CARD OF 'tmesislaw15.DeclWords'. -/
def declWordsUptoCard : Claim7 := { stood := { row := declWordsUptoRow, standIns := [], harness := (true, "14f085157cd6d447d0952ed6c9e5f1f3d00bc19b69225d30bbe85d7938d2f487"), looks := false }, kinds := [], alts := [], laidByText := true, laidKinds := [.data, .data], laidTests := true, laidLooks := .later }
def DeclWordsUptoCardSaid : Prop := Claim7.holds Tryd.pinned (.plain (OpenSpec.upto declWordsSpec)) declWordsUptoCard
end Rows
end Go.Proofs.YtjkjbgekpkhpfaaDoor
