/-
  NARROWER THAN 'FOR EVERY INPUT', by the rows' own cells (each row's printed sentence says how): DeriveNames: laid · ViableParts: laid · ViableTrees: laid · ViableEnds: laid · ViableNames: laid · ViableRows: laid · ViableBlocks: laid.
  DERIVED. THE GIVEN ROWS OF THIS SEAT. 7 by the template 'for every input the law returns true; each argument reads behind the call as it read before'; 0 by the template 'total and deterministic' (their statements: YtcjbhdgjcpnklaaGreatDoorTotals.lean).
  GIVEN WITH THE SEED: the statements are not yours to turn. If you find one false, say at which input.
  Laid BY PROGRAM, IN A SANDBOX (cutbox-rows.mjs): the forced cells as the released guide's own fill.sh prints them over the translation 9d5d7333523d3c27… (all of the seat's roots in one cut). By AI agents, Wed Nov 11 2026. No macro, syntax, notation, axiom, sorry.
-/
import Derived.Test.YtcjbhdgjcpnklaaGreatDoorChecked
import GoSem.Claim
import GoSem.ClaimJoined
import GoSem.ClaimMapViews
import Derived.JoinedTies
import Derived.KernelRfl
namespace Go.Proofs.YtcjbhdgjcpnklaaGreatDoor
/- THE CELL 'sum', in the pinned program and in every row, IS THE sha256 OF THE DUMP (.gsa) THAT YtcjbhdgjcpnklaaGreatDoorProg.lean LOADS. Nothing in Lean hashes anything: it is a label: what it is worth is what the hold of that sum in a sandbox is worth. -/
noncomputable def Tryz.pinned : Pinned := { name := "ytcjbhdgjcpnklaagreatdoor", sum := "9d5d7333523d3c27886575b4a677a85463dc812a5b0aa489026e9495a2350c2b", checked := Tryz.checked }
namespace Rows
def none {H : Type} : Left H := { results := [], args := [] }

/- WHAT THE LISTED PACKAGE-LEVEL VARIABLES READ AS WHEN THE CALL BEGINS. Each datum BY PROGRAM (the guide's laid-datum.mjs) off the statement by which the dump's own 'gosem.cut.vars' lays the variable. In a bare row this is a premise. The card (YtcjbhdgjcpnklaaGreatDoorCards.lean) ties it to the program's text. -/
def laid_tmesis_class_sets {H : Type} : DataW H := .agg [.agg [.lit (.int .i64 1), .lit (.string [9, 10, 13, 32])], .agg [.lit (.int .i64 2), .lit (.string [97, 98, 99, 100, 101, 102, 103, 104, 105, 106, 107, 108, 109, 110, 111, 112, 113, 114, 115, 116, 117, 118, 119, 120, 121, 122])], .agg [.lit (.int .i64 3), .lit (.string [65, 66, 67, 68, 69, 70, 71, 72, 73, 74, 75, 76, 77, 78, 79, 80, 81, 82, 83, 84, 85, 86, 87, 88, 89, 90, 95])], .agg [.lit (.int .i64 4), .lit (.string [48, 49, 50, 51, 52, 53, 54, 55, 56, 57])], .agg [.lit (.int .i64 5), .lit (.string [43, 45, 42, 47, 92, 94, 60, 62, 61, 126, 58, 46, 63, 64, 35, 38, 36, 33])], .agg [.lit (.int .i64 6), .lit (.string [40, 41, 44, 124, 59, 91, 93, 123, 125])], .agg [.lit (.int .i64 7), .lit (.string [39])], .agg [.lit (.int .i64 8), .lit (.string [37])]]

/-- 'tmesislaw19.DeriveNames': WHATEVER THE INPUT: true; the input reads as it did. -/
def deriveNamesSpec : ChangeSpec := { name := "deriveNames", fn := fun _ => fun
  | [d1, d2, d3] => { results := [.lit (.bool true)], args := [d1, d2, d3] }
  | _ => none }
def deriveNamesRow : OpenClaim := { program := "ytcjbhdgjcpnklaagreatdoor", sum := "9d5d7333523d3c27886575b4a677a85463dc812a5b0aa489026e9495a2350c2b", func := "tmesis/tmesislaw19.DeriveNames", spec := "deriveNames", inPlace := ["internal/bytealg.IndexByteString", "internal/bytealg.IndexString", "internal/bytealg.IndexByte", "slices.overlaps[tmesis/api.Oper]"], unfollowed := true, recurses := true, named := ["internal/bytealg.MaxLen", "tmesis/class.sets"], plainKeys := false, apart := false, laid := [("tmesis/class.sets", laid_tmesis_class_sets)] }
def DeriveNamesSaid : Prop := deriveNamesRow.holds Tryz.pinned (OpenSpec.ofChange deriveNamesSpec)

/-- ITS FALSE NEIGHBOUR: 'it returns false'. Refute it at one input. -/
def deriveNamesWrong : ChangeSpec := { name := "deriveNames", fn := fun _ => fun
  | [d1, d2, d3] => { results := [.lit (.bool false)], args := [d1, d2, d3] }
  | _ => none }
def DeriveNamesWrongFalsely : Prop := deriveNamesRow.holds Tryz.pinned (OpenSpec.ofChange deriveNamesWrong)

/-- 'tmesislaw20.ViableParts': WHATEVER THE INPUT: true; the input reads as it did. -/
def viablePartsSpec : ChangeSpec := { name := "viableParts", fn := fun _ => fun
  | [d1, d2] => { results := [.lit (.bool true)], args := [d1, d2] }
  | _ => none }
def viablePartsRow : OpenClaim := { program := "ytcjbhdgjcpnklaagreatdoor", sum := "9d5d7333523d3c27886575b4a677a85463dc812a5b0aa489026e9495a2350c2b", func := "tmesis/tmesislaw20.ViableParts", spec := "viableParts", inPlace := ["internal/bytealg.IndexByteString", "internal/bytealg.IndexString", "internal/bytealg.IndexByte", "slices.overlaps[tmesis/api.Oper]"], unfollowed := true, recurses := true, named := ["internal/bytealg.MaxLen", "tmesis/class.sets"], plainKeys := false, apart := false, laid := [("tmesis/class.sets", laid_tmesis_class_sets)] }
def ViablePartsSaid : Prop := viablePartsRow.holds Tryz.pinned (OpenSpec.ofChange viablePartsSpec)

/-- ITS FALSE NEIGHBOUR: 'it returns false'. Refute it at one input. -/
def viablePartsWrong : ChangeSpec := { name := "viableParts", fn := fun _ => fun
  | [d1, d2] => { results := [.lit (.bool false)], args := [d1, d2] }
  | _ => none }
def ViablePartsWrongFalsely : Prop := viablePartsRow.holds Tryz.pinned (OpenSpec.ofChange viablePartsWrong)

/-- 'tmesislaw20.ViableTrees': WHATEVER THE INPUT: true; the input reads as it did. -/
def viableTreesSpec : ChangeSpec := { name := "viableTrees", fn := fun _ => fun
  | [d1, d2] => { results := [.lit (.bool true)], args := [d1, d2] }
  | _ => none }
def viableTreesRow : OpenClaim := { program := "ytcjbhdgjcpnklaagreatdoor", sum := "9d5d7333523d3c27886575b4a677a85463dc812a5b0aa489026e9495a2350c2b", func := "tmesis/tmesislaw20.ViableTrees", spec := "viableTrees", inPlace := ["internal/bytealg.IndexByteString", "internal/bytealg.IndexString", "internal/bytealg.IndexByte", "slices.overlaps[tmesis/api.Oper]"], unfollowed := true, recurses := true, named := ["internal/bytealg.MaxLen", "tmesis/class.sets"], plainKeys := false, apart := false, laid := [("tmesis/class.sets", laid_tmesis_class_sets)] }
def ViableTreesSaid : Prop := viableTreesRow.holds Tryz.pinned (OpenSpec.ofChange viableTreesSpec)

/-- ITS FALSE NEIGHBOUR: 'it returns false'. Refute it at one input. -/
def viableTreesWrong : ChangeSpec := { name := "viableTrees", fn := fun _ => fun
  | [d1, d2] => { results := [.lit (.bool false)], args := [d1, d2] }
  | _ => none }
def ViableTreesWrongFalsely : Prop := viableTreesRow.holds Tryz.pinned (OpenSpec.ofChange viableTreesWrong)

/-- 'tmesislaw20.ViableEnds': WHATEVER THE INPUT: true; the input reads as it did. -/
def viableEndsSpec : ChangeSpec := { name := "viableEnds", fn := fun _ => fun
  | [d1, d2, d3] => { results := [.lit (.bool true)], args := [d1, d2, d3] }
  | _ => none }
def viableEndsRow : OpenClaim := { program := "ytcjbhdgjcpnklaagreatdoor", sum := "9d5d7333523d3c27886575b4a677a85463dc812a5b0aa489026e9495a2350c2b", func := "tmesis/tmesislaw20.ViableEnds", spec := "viableEnds", inPlace := ["internal/bytealg.IndexByteString", "internal/bytealg.IndexString", "internal/bytealg.IndexByte", "slices.overlaps[tmesis/api.Oper]"], unfollowed := true, recurses := true, named := ["internal/bytealg.MaxLen", "tmesis/class.sets"], plainKeys := false, apart := false, laid := [("tmesis/class.sets", laid_tmesis_class_sets)] }
def ViableEndsSaid : Prop := viableEndsRow.holds Tryz.pinned (OpenSpec.ofChange viableEndsSpec)

/-- ITS FALSE NEIGHBOUR: 'it returns false'. Refute it at one input. -/
def viableEndsWrong : ChangeSpec := { name := "viableEnds", fn := fun _ => fun
  | [d1, d2, d3] => { results := [.lit (.bool false)], args := [d1, d2, d3] }
  | _ => none }
def ViableEndsWrongFalsely : Prop := viableEndsRow.holds Tryz.pinned (OpenSpec.ofChange viableEndsWrong)

/-- 'tmesislaw20.ViableNames': WHATEVER THE INPUT: true; the input reads as it did. -/
def viableNamesSpec : ChangeSpec := { name := "viableNames", fn := fun _ => fun
  | [d1, d2, d3] => { results := [.lit (.bool true)], args := [d1, d2, d3] }
  | _ => none }
def viableNamesRow : OpenClaim := { program := "ytcjbhdgjcpnklaagreatdoor", sum := "9d5d7333523d3c27886575b4a677a85463dc812a5b0aa489026e9495a2350c2b", func := "tmesis/tmesislaw20.ViableNames", spec := "viableNames", inPlace := ["internal/bytealg.IndexByteString", "internal/bytealg.IndexString", "internal/bytealg.IndexByte", "slices.overlaps[tmesis/api.Oper]"], unfollowed := true, recurses := true, named := ["internal/bytealg.MaxLen", "tmesis/class.sets"], plainKeys := false, apart := false, laid := [("tmesis/class.sets", laid_tmesis_class_sets)] }
def ViableNamesSaid : Prop := viableNamesRow.holds Tryz.pinned (OpenSpec.ofChange viableNamesSpec)

/-- ITS FALSE NEIGHBOUR: 'it returns false'. Refute it at one input. -/
def viableNamesWrong : ChangeSpec := { name := "viableNames", fn := fun _ => fun
  | [d1, d2, d3] => { results := [.lit (.bool false)], args := [d1, d2, d3] }
  | _ => none }
def ViableNamesWrongFalsely : Prop := viableNamesRow.holds Tryz.pinned (OpenSpec.ofChange viableNamesWrong)

/-- 'tmesislaw20.ViableRows': WHATEVER THE INPUT: true; the input reads as it did. -/
def viableRowsSpec : ChangeSpec := { name := "viableRows", fn := fun _ => fun
  | [d1, d2, d3] => { results := [.lit (.bool true)], args := [d1, d2, d3] }
  | _ => none }
def viableRowsRow : OpenClaim := { program := "ytcjbhdgjcpnklaagreatdoor", sum := "9d5d7333523d3c27886575b4a677a85463dc812a5b0aa489026e9495a2350c2b", func := "tmesis/tmesislaw20.ViableRows", spec := "viableRows", inPlace := ["internal/bytealg.IndexByteString", "internal/bytealg.IndexString", "internal/bytealg.IndexByte", "slices.overlaps[tmesis/api.Oper]"], unfollowed := true, recurses := true, named := ["internal/bytealg.MaxLen", "tmesis/class.sets"], plainKeys := false, apart := false, laid := [("tmesis/class.sets", laid_tmesis_class_sets)] }
def ViableRowsSaid : Prop := viableRowsRow.holds Tryz.pinned (OpenSpec.ofChange viableRowsSpec)

/-- ITS FALSE NEIGHBOUR: 'it returns false'. Refute it at one input. -/
def viableRowsWrong : ChangeSpec := { name := "viableRows", fn := fun _ => fun
  | [d1, d2, d3] => { results := [.lit (.bool false)], args := [d1, d2, d3] }
  | _ => none }
def ViableRowsWrongFalsely : Prop := viableRowsRow.holds Tryz.pinned (OpenSpec.ofChange viableRowsWrong)

/-- 'tmesislaw20.ViableBlocks': WHATEVER THE INPUT: true; the input reads as it did. -/
def viableBlocksSpec : ChangeSpec := { name := "viableBlocks", fn := fun _ => fun
  | [d1, d2] => { results := [.lit (.bool true)], args := [d1, d2] }
  | _ => none }
def viableBlocksRow : OpenClaim := { program := "ytcjbhdgjcpnklaagreatdoor", sum := "9d5d7333523d3c27886575b4a677a85463dc812a5b0aa489026e9495a2350c2b", func := "tmesis/tmesislaw20.ViableBlocks", spec := "viableBlocks", inPlace := ["internal/bytealg.IndexByteString", "internal/bytealg.IndexString", "internal/bytealg.IndexByte", "slices.overlaps[tmesis/api.Oper]"], unfollowed := true, recurses := true, named := ["internal/bytealg.MaxLen", "tmesis/class.sets"], plainKeys := false, apart := false, laid := [("tmesis/class.sets", laid_tmesis_class_sets)] }
def ViableBlocksSaid : Prop := viableBlocksRow.holds Tryz.pinned (OpenSpec.ofChange viableBlocksSpec)

/-- ITS FALSE NEIGHBOUR: 'it returns false'. Refute it at one input. -/
def viableBlocksWrong : ChangeSpec := { name := "viableBlocks", fn := fun _ => fun
  | [d1, d2] => { results := [.lit (.bool false)], args := [d1, d2] }
  | _ => none }
def ViableBlocksWrongFalsely : Prop := viableBlocksRow.holds Tryz.pinned (OpenSpec.ofChange viableBlocksWrong)

/- THE SECOND FORM. 'bulk': how many values and letters a reading holds, each counted each time it is reached (what is shared counts as often as it is met; a slice's spare places count too). A statement '..UptoSaid' is the law's where the arguments, and the package variables that the reading takes, are together of bulk at most 1048576: NARROWER than '..Said'. Prove '..Said' where nothing that the law and all that it calls make is longer than what came in: it says more and counts as full. Else prove '..UptoSaid'. A law counts once. -/
mutual
def uptoBulk {H : Type} : DataW H → Nat
  | .lit (.string bytes) => bytes.length + 1
  | .lit _ => 1
  | .nil => 1
  | .ptr d => uptoBulk d + 1
  | .slice elems spare => uptoBulkAll elems + uptoBulkAll spare + 1
  | .agg parts => uptoBulkAll parts + 1
  | .iface _ d => uptoBulk d + 1
  | .map entries => uptoBulkEntries entries + 1
  | .held _ => 1
def uptoBulkAll {H : Type} : List (DataW H) → Nat
  | [] => 0
  | d :: r => uptoBulk d + uptoBulkAll r
def uptoBulkEntries {H : Type} : List (Lit × DataW H) → Nat
  | [] => 0
  | x :: r => uptoBulkEntry x + uptoBulkEntries r
def uptoBulkEntry {H : Type} : Lit × DataW H → Nat
  | (.string bytes, d) => bytes.length + uptoBulk d + 1
  | (_, d) => uptoBulk d + 1
 end
def uptoSmall : (H : Type) → List (DataW H) → Bool := fun _ ds => decide (uptoBulkAll ds ≤ 1048576)
def OpenSpec.upto (s : _root_.Go.ChangeSpec) : _root_.Go.OpenSpec := { _root_.Go.OpenSpec.ofChange s with cond := some uptoSmall }

/-- 'tmesislaw19.DeriveNames', WHERE WHAT IT READS IS OF BULK AT MOST 1048576: true; the input reads as it did. -/
def deriveNamesUptoRow : OpenClaim := { program := "ytcjbhdgjcpnklaagreatdoor", sum := "9d5d7333523d3c27886575b4a677a85463dc812a5b0aa489026e9495a2350c2b", func := "tmesis/tmesislaw19.DeriveNames", spec := "deriveNames", inPlace := ["internal/bytealg.IndexByteString", "internal/bytealg.IndexString", "internal/bytealg.IndexByte", "slices.overlaps[tmesis/api.Oper]"], unfollowed := true, recurses := true, named := ["internal/bytealg.MaxLen", "tmesis/class.sets"], plainKeys := false, apart := false, laid := [("tmesis/class.sets", laid_tmesis_class_sets)], narrowed := true }
def DeriveNamesUptoSaid : Prop := deriveNamesUptoRow.holds Tryz.pinned (OpenSpec.upto deriveNamesSpec)

/-- 'tmesislaw20.ViableParts', WHERE WHAT IT READS IS OF BULK AT MOST 1048576: true; the input reads as it did. -/
def viablePartsUptoRow : OpenClaim := { program := "ytcjbhdgjcpnklaagreatdoor", sum := "9d5d7333523d3c27886575b4a677a85463dc812a5b0aa489026e9495a2350c2b", func := "tmesis/tmesislaw20.ViableParts", spec := "viableParts", inPlace := ["internal/bytealg.IndexByteString", "internal/bytealg.IndexString", "internal/bytealg.IndexByte", "slices.overlaps[tmesis/api.Oper]"], unfollowed := true, recurses := true, named := ["internal/bytealg.MaxLen", "tmesis/class.sets"], plainKeys := false, apart := false, laid := [("tmesis/class.sets", laid_tmesis_class_sets)], narrowed := true }
def ViablePartsUptoSaid : Prop := viablePartsUptoRow.holds Tryz.pinned (OpenSpec.upto viablePartsSpec)

/-- 'tmesislaw20.ViableTrees', WHERE WHAT IT READS IS OF BULK AT MOST 1048576: true; the input reads as it did. -/
def viableTreesUptoRow : OpenClaim := { program := "ytcjbhdgjcpnklaagreatdoor", sum := "9d5d7333523d3c27886575b4a677a85463dc812a5b0aa489026e9495a2350c2b", func := "tmesis/tmesislaw20.ViableTrees", spec := "viableTrees", inPlace := ["internal/bytealg.IndexByteString", "internal/bytealg.IndexString", "internal/bytealg.IndexByte", "slices.overlaps[tmesis/api.Oper]"], unfollowed := true, recurses := true, named := ["internal/bytealg.MaxLen", "tmesis/class.sets"], plainKeys := false, apart := false, laid := [("tmesis/class.sets", laid_tmesis_class_sets)], narrowed := true }
def ViableTreesUptoSaid : Prop := viableTreesUptoRow.holds Tryz.pinned (OpenSpec.upto viableTreesSpec)

/-- 'tmesislaw20.ViableEnds', WHERE WHAT IT READS IS OF BULK AT MOST 1048576: true; the input reads as it did. -/
def viableEndsUptoRow : OpenClaim := { program := "ytcjbhdgjcpnklaagreatdoor", sum := "9d5d7333523d3c27886575b4a677a85463dc812a5b0aa489026e9495a2350c2b", func := "tmesis/tmesislaw20.ViableEnds", spec := "viableEnds", inPlace := ["internal/bytealg.IndexByteString", "internal/bytealg.IndexString", "internal/bytealg.IndexByte", "slices.overlaps[tmesis/api.Oper]"], unfollowed := true, recurses := true, named := ["internal/bytealg.MaxLen", "tmesis/class.sets"], plainKeys := false, apart := false, laid := [("tmesis/class.sets", laid_tmesis_class_sets)], narrowed := true }
def ViableEndsUptoSaid : Prop := viableEndsUptoRow.holds Tryz.pinned (OpenSpec.upto viableEndsSpec)

/-- 'tmesislaw20.ViableNames', WHERE WHAT IT READS IS OF BULK AT MOST 1048576: true; the input reads as it did. -/
def viableNamesUptoRow : OpenClaim := { program := "ytcjbhdgjcpnklaagreatdoor", sum := "9d5d7333523d3c27886575b4a677a85463dc812a5b0aa489026e9495a2350c2b", func := "tmesis/tmesislaw20.ViableNames", spec := "viableNames", inPlace := ["internal/bytealg.IndexByteString", "internal/bytealg.IndexString", "internal/bytealg.IndexByte", "slices.overlaps[tmesis/api.Oper]"], unfollowed := true, recurses := true, named := ["internal/bytealg.MaxLen", "tmesis/class.sets"], plainKeys := false, apart := false, laid := [("tmesis/class.sets", laid_tmesis_class_sets)], narrowed := true }
def ViableNamesUptoSaid : Prop := viableNamesUptoRow.holds Tryz.pinned (OpenSpec.upto viableNamesSpec)

/-- 'tmesislaw20.ViableRows', WHERE WHAT IT READS IS OF BULK AT MOST 1048576: true; the input reads as it did. -/
def viableRowsUptoRow : OpenClaim := { program := "ytcjbhdgjcpnklaagreatdoor", sum := "9d5d7333523d3c27886575b4a677a85463dc812a5b0aa489026e9495a2350c2b", func := "tmesis/tmesislaw20.ViableRows", spec := "viableRows", inPlace := ["internal/bytealg.IndexByteString", "internal/bytealg.IndexString", "internal/bytealg.IndexByte", "slices.overlaps[tmesis/api.Oper]"], unfollowed := true, recurses := true, named := ["internal/bytealg.MaxLen", "tmesis/class.sets"], plainKeys := false, apart := false, laid := [("tmesis/class.sets", laid_tmesis_class_sets)], narrowed := true }
def ViableRowsUptoSaid : Prop := viableRowsUptoRow.holds Tryz.pinned (OpenSpec.upto viableRowsSpec)

/-- 'tmesislaw20.ViableBlocks', WHERE WHAT IT READS IS OF BULK AT MOST 1048576: true; the input reads as it did. -/
def viableBlocksUptoRow : OpenClaim := { program := "ytcjbhdgjcpnklaagreatdoor", sum := "9d5d7333523d3c27886575b4a677a85463dc812a5b0aa489026e9495a2350c2b", func := "tmesis/tmesislaw20.ViableBlocks", spec := "viableBlocks", inPlace := ["internal/bytealg.IndexByteString", "internal/bytealg.IndexString", "internal/bytealg.IndexByte", "slices.overlaps[tmesis/api.Oper]"], unfollowed := true, recurses := true, named := ["internal/bytealg.MaxLen", "tmesis/class.sets"], plainKeys := false, apart := false, laid := [("tmesis/class.sets", laid_tmesis_class_sets)], narrowed := true }
def ViableBlocksUptoSaid : Prop := viableBlocksUptoRow.holds Tryz.pinned (OpenSpec.upto viableBlocksSpec)

end Rows
end Go.Proofs.YtcjbhdgjcpnklaaGreatDoor
