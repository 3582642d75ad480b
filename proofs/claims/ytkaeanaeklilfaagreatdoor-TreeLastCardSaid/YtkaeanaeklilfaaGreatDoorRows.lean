/-
  NARROWER THAN 'FOR EVERY INPUT', by the rows' own cells (each row's printed sentence says how): TreeAll: laid · TreeEnds: laid · TreeSubs: laid · TreeBares: laid · TreeLast: laid.
  DERIVED. THE GIVEN ROWS OF THIS SEAT. 5 by the template 'for every input the law returns true; each argument reads behind the call as it read before'; 0 by the template 'total and deterministic' (their statements: YtkaeanaeklilfaaGreatDoorTotals.lean).
  GIVEN WITH THE SEED: the statements are not yours to turn. If you find one false, say at which input.
  Laid BY PROGRAM, IN A SANDBOX (cutbox-rows.mjs): the forced cells as the released guide's own fill.sh prints them over the translation 874f071cfe3b8902… (all of the seat's roots in one cut). By AI agents, Wed Nov 11 2026. No macro, syntax, notation, axiom, sorry.
-/
import Derived.Test.YtkaeanaeklilfaaGreatDoorChecked
import GoSem.Claim
import GoSem.ClaimJoined
import GoSem.ClaimMapViews
import Derived.JoinedTies
import Derived.KernelRfl
namespace Go.Proofs.YtkaeanaeklilfaaGreatDoor
/- THE CELL 'sum', in the pinned program and in every row, IS THE sha256 OF THE DUMP (.gsa) THAT YtkaeanaeklilfaaGreatDoorProg.lean LOADS. Nothing in Lean hashes anything: it is a label: what it is worth is what the hold of that sum in a sandbox is worth. -/
noncomputable def Tryz.pinned : Pinned := { name := "ytkaeanaeklilfaagreatdoor", sum := "874f071cfe3b8902257aaa4e4ad31841e1fbb00f300880550a231dd8c1071ea2", checked := Tryz.checked }
namespace Rows
def none {H : Type} : Left H := { results := [], args := [] }

/- WHAT THE LISTED PACKAGE-LEVEL VARIABLES READ AS WHEN THE CALL BEGINS. Each datum BY PROGRAM (the guide's laid-datum.mjs) off the statement by which the dump's own 'gosem.cut.vars' lays the variable. In a bare row this is a premise. The card (YtkaeanaeklilfaaGreatDoorCards.lean) ties it to the program's text. -/
def laid_tmesis_class_sets {H : Type} : DataW H := .agg [.agg [.lit (.int .i64 1), .lit (.string [9, 10, 13, 32])], .agg [.lit (.int .i64 2), .lit (.string [97, 98, 99, 100, 101, 102, 103, 104, 105, 106, 107, 108, 109, 110, 111, 112, 113, 114, 115, 116, 117, 118, 119, 120, 121, 122])], .agg [.lit (.int .i64 3), .lit (.string [65, 66, 67, 68, 69, 70, 71, 72, 73, 74, 75, 76, 77, 78, 79, 80, 81, 82, 83, 84, 85, 86, 87, 88, 89, 90, 95])], .agg [.lit (.int .i64 4), .lit (.string [48, 49, 50, 51, 52, 53, 54, 55, 56, 57])], .agg [.lit (.int .i64 5), .lit (.string [43, 45, 42, 47, 92, 94, 60, 62, 61, 126, 58, 46, 63, 64, 35, 38, 36, 33])], .agg [.lit (.int .i64 6), .lit (.string [40, 41, 44, 124, 59, 91, 93, 123, 125])], .agg [.lit (.int .i64 7), .lit (.string [39])], .agg [.lit (.int .i64 8), .lit (.string [37])]]

/-- 'tmesislaw18.TreeAll': WHATEVER THE INPUT: true; the input reads as it did. -/
def treeAllSpec : ChangeSpec := { name := "treeAll", fn := fun _ => fun
  | [d1, d2, d3] => { results := [.lit (.bool true)], args := [d1, d2, d3] }
  | _ => none }
def treeAllRow : OpenClaim := { program := "ytkaeanaeklilfaagreatdoor", sum := "874f071cfe3b8902257aaa4e4ad31841e1fbb00f300880550a231dd8c1071ea2", func := "tmesis/tmesislaw18.TreeAll", spec := "treeAll", inPlace := ["internal/bytealg.IndexByteString", "internal/bytealg.IndexString", "internal/bytealg.IndexByte", "slices.overlaps[tmesis/api.Oper]"], unfollowed := true, recurses := true, named := ["internal/bytealg.MaxLen", "tmesis/class.sets"], apart := false, laid := [("tmesis/class.sets", laid_tmesis_class_sets)] }
def TreeAllSaid : Prop := treeAllRow.holds Tryz.pinned (OpenSpec.ofChange treeAllSpec)

/-- ITS FALSE NEIGHBOUR: 'it returns false'. Refute it at one input. -/
def treeAllWrong : ChangeSpec := { name := "treeAll", fn := fun _ => fun
  | [d1, d2, d3] => { results := [.lit (.bool false)], args := [d1, d2, d3] }
  | _ => none }
def TreeAllWrongFalsely : Prop := treeAllRow.holds Tryz.pinned (OpenSpec.ofChange treeAllWrong)

/-- 'tmesislaw18.TreeEnds': WHATEVER THE INPUT: true; the input reads as it did. -/
def treeEndsSpec : ChangeSpec := { name := "treeEnds", fn := fun _ => fun
  | [d1, d2] => { results := [.lit (.bool true)], args := [d1, d2] }
  | _ => none }
def treeEndsRow : OpenClaim := { program := "ytkaeanaeklilfaagreatdoor", sum := "874f071cfe3b8902257aaa4e4ad31841e1fbb00f300880550a231dd8c1071ea2", func := "tmesis/tmesislaw18.TreeEnds", spec := "treeEnds", inPlace := ["internal/bytealg.IndexByteString", "internal/bytealg.IndexString", "internal/bytealg.IndexByte", "slices.overlaps[tmesis/api.Oper]"], unfollowed := true, recurses := true, named := ["internal/bytealg.MaxLen", "tmesis/class.sets"], apart := false, laid := [("tmesis/class.sets", laid_tmesis_class_sets)] }
def TreeEndsSaid : Prop := treeEndsRow.holds Tryz.pinned (OpenSpec.ofChange treeEndsSpec)

/-- ITS FALSE NEIGHBOUR: 'it returns false'. Refute it at one input. -/
def treeEndsWrong : ChangeSpec := { name := "treeEnds", fn := fun _ => fun
  | [d1, d2] => { results := [.lit (.bool false)], args := [d1, d2] }
  | _ => none }
def TreeEndsWrongFalsely : Prop := treeEndsRow.holds Tryz.pinned (OpenSpec.ofChange treeEndsWrong)

/-- 'tmesislaw18.TreeSubs': WHATEVER THE INPUT: true; the input reads as it did. -/
def treeSubsSpec : ChangeSpec := { name := "treeSubs", fn := fun _ => fun
  | [d1, d2, d3] => { results := [.lit (.bool true)], args := [d1, d2, d3] }
  | _ => none }
def treeSubsRow : OpenClaim := { program := "ytkaeanaeklilfaagreatdoor", sum := "874f071cfe3b8902257aaa4e4ad31841e1fbb00f300880550a231dd8c1071ea2", func := "tmesis/tmesislaw18.TreeSubs", spec := "treeSubs", inPlace := ["internal/bytealg.IndexByteString", "internal/bytealg.IndexString", "internal/bytealg.IndexByte", "slices.overlaps[tmesis/api.Oper]"], unfollowed := true, recurses := true, named := ["internal/bytealg.MaxLen", "tmesis/class.sets"], apart := false, laid := [("tmesis/class.sets", laid_tmesis_class_sets)] }
def TreeSubsSaid : Prop := treeSubsRow.holds Tryz.pinned (OpenSpec.ofChange treeSubsSpec)

/-- ITS FALSE NEIGHBOUR: 'it returns false'. Refute it at one input. -/
def treeSubsWrong : ChangeSpec := { name := "treeSubs", fn := fun _ => fun
  | [d1, d2, d3] => { results := [.lit (.bool false)], args := [d1, d2, d3] }
  | _ => none }
def TreeSubsWrongFalsely : Prop := treeSubsRow.holds Tryz.pinned (OpenSpec.ofChange treeSubsWrong)

/-- 'tmesislaw18.TreeBares': WHATEVER THE INPUT: true; the input reads as it did. -/
def treeBaresSpec : ChangeSpec := { name := "treeBares", fn := fun _ => fun
  | [d1, d2, d3] => { results := [.lit (.bool true)], args := [d1, d2, d3] }
  | _ => none }
def treeBaresRow : OpenClaim := { program := "ytkaeanaeklilfaagreatdoor", sum := "874f071cfe3b8902257aaa4e4ad31841e1fbb00f300880550a231dd8c1071ea2", func := "tmesis/tmesislaw18.TreeBares", spec := "treeBares", inPlace := ["internal/bytealg.IndexByteString", "internal/bytealg.IndexString", "internal/bytealg.IndexByte", "slices.overlaps[tmesis/api.Oper]"], unfollowed := true, recurses := true, named := ["internal/bytealg.MaxLen", "tmesis/class.sets"], apart := false, laid := [("tmesis/class.sets", laid_tmesis_class_sets)] }
def TreeBaresSaid : Prop := treeBaresRow.holds Tryz.pinned (OpenSpec.ofChange treeBaresSpec)

/-- ITS FALSE NEIGHBOUR: 'it returns false'. Refute it at one input. -/
def treeBaresWrong : ChangeSpec := { name := "treeBares", fn := fun _ => fun
  | [d1, d2, d3] => { results := [.lit (.bool false)], args := [d1, d2, d3] }
  | _ => none }
def TreeBaresWrongFalsely : Prop := treeBaresRow.holds Tryz.pinned (OpenSpec.ofChange treeBaresWrong)

/-- 'tmesislaw18.TreeLast': WHATEVER THE INPUT: true; the input reads as it did. -/
def treeLastSpec : ChangeSpec := { name := "treeLast", fn := fun _ => fun
  | [d1, d2, d3] => { results := [.lit (.bool true)], args := [d1, d2, d3] }
  | _ => none }
def treeLastRow : OpenClaim := { program := "ytkaeanaeklilfaagreatdoor", sum := "874f071cfe3b8902257aaa4e4ad31841e1fbb00f300880550a231dd8c1071ea2", func := "tmesis/tmesislaw18.TreeLast", spec := "treeLast", inPlace := ["internal/bytealg.IndexByteString", "internal/bytealg.IndexString", "internal/bytealg.IndexByte", "slices.overlaps[tmesis/api.Oper]"], unfollowed := true, recurses := true, named := ["internal/bytealg.MaxLen", "tmesis/class.sets"], apart := false, laid := [("tmesis/class.sets", laid_tmesis_class_sets)] }
def TreeLastSaid : Prop := treeLastRow.holds Tryz.pinned (OpenSpec.ofChange treeLastSpec)

/-- ITS FALSE NEIGHBOUR: 'it returns false'. Refute it at one input. -/
def treeLastWrong : ChangeSpec := { name := "treeLast", fn := fun _ => fun
  | [d1, d2, d3] => { results := [.lit (.bool false)], args := [d1, d2, d3] }
  | _ => none }
def TreeLastWrongFalsely : Prop := treeLastRow.holds Tryz.pinned (OpenSpec.ofChange treeLastWrong)

/- THE SECOND FORM. 'bulk': how many values and letters a reading holds, each counted each time it is reached (what is shared counts as often as it is met; a slice's spare places count too). A statement '..UptoSaid' is the law's where the arguments, and the package variables that the reading takes, are together of bulk at most 1048576: NARROWER than '..Said'. Prove '..Said' where nothing that the law and all that it calls make is longer than what came in: it says more and counts as full. Else prove '..UptoSaid'. A law counts once. -/
mutual
def uptoBulk {H : Type} : DataW H → Nat
  | .lit (.string bytes) => bytes.length + 1
  | .lit _ => 1
  | .nil => 1
  | .ptr d => uptoBulk d + 1
  | .slice elems spare => uptoBulkAll elems + uptoBulkAll spare + 1
  | .agg parts => uptoBulkAll parts + 1
  | .iface _ d => uptoBulk d + 1
  | .map entries => uptoBulkEntries entries + 1
  | .held _ => 1
def uptoBulkAll {H : Type} : List (DataW H) → Nat
  | [] => 0
  | d :: r => uptoBulk d + uptoBulkAll r
def uptoBulkEntries {H : Type} : List (Lit × DataW H) → Nat
  | [] => 0
  | x :: r => uptoBulkEntry x + uptoBulkEntries r
def uptoBulkEntry {H : Type} : Lit × DataW H → Nat
  | (.string bytes, d) => bytes.length + uptoBulk d + 1
  | (_, d) => uptoBulk d + 1
 end
def uptoSmall : (H : Type) → List (DataW H) → Bool := fun _ ds => decide (uptoBulkAll ds ≤ 1048576)
def OpenSpec.upto (s : _root_.Go.ChangeSpec) : _root_.Go.OpenSpec := { _root_.Go.OpenSpec.ofChange s with cond := some uptoSmall }

/-- 'tmesislaw18.TreeAll', WHERE WHAT IT READS IS OF BULK AT MOST 1048576: true; the input reads as it did. -/
def treeAllUptoRow : OpenClaim := { program := "ytkaeanaeklilfaagreatdoor", sum := "874f071cfe3b8902257aaa4e4ad31841e1fbb00f300880550a231dd8c1071ea2", func := "tmesis/tmesislaw18.TreeAll", spec := "treeAll", inPlace := ["internal/bytealg.IndexByteString", "internal/bytealg.IndexString", "internal/bytealg.IndexByte", "slices.overlaps[tmesis/api.Oper]"], unfollowed := true, recurses := true, named := ["internal/bytealg.MaxLen", "tmesis/class.sets"], apart := false, laid := [("tmesis/class.sets", laid_tmesis_class_sets)], narrowed := true }
def TreeAllUptoSaid : Prop := treeAllUptoRow.holds Tryz.pinned (OpenSpec.upto treeAllSpec)

/-- 'tmesislaw18.TreeEnds', WHERE WHAT IT READS IS OF BULK AT MOST 1048576: true; the input reads as it did. -/
def treeEndsUptoRow : OpenClaim := { program := "ytkaeanaeklilfaagreatdoor", sum := "874f071cfe3b8902257aaa4e4ad31841e1fbb00f300880550a231dd8c1071ea2", func := "tmesis/tmesislaw18.TreeEnds", spec := "treeEnds", inPlace := ["internal/bytealg.IndexByteString", "internal/bytealg.IndexString", "internal/bytealg.IndexByte", "slices.overlaps[tmesis/api.Oper]"], unfollowed := true, recurses := true, named := ["internal/bytealg.MaxLen", "tmesis/class.sets"], apart := false, laid := [("tmesis/class.sets", laid_tmesis_class_sets)], narrowed := true }
def TreeEndsUptoSaid : Prop := treeEndsUptoRow.holds Tryz.pinned (OpenSpec.upto treeEndsSpec)

/-- 'tmesislaw18.TreeSubs', WHERE WHAT IT READS IS OF BULK AT MOST 1048576: true; the input reads as it did. -/
def treeSubsUptoRow : OpenClaim := { program := "ytkaeanaeklilfaagreatdoor", sum := "874f071cfe3b8902257aaa4e4ad31841e1fbb00f300880550a231dd8c1071ea2", func := "tmesis/tmesislaw18.TreeSubs", spec := "treeSubs", inPlace := ["internal/bytealg.IndexByteString", "internal/bytealg.IndexString", "internal/bytealg.IndexByte", "slices.overlaps[tmesis/api.Oper]"], unfollowed := true, recurses := true, named := ["internal/bytealg.MaxLen", "tmesis/class.sets"], apart := false, laid := [("tmesis/class.sets", laid_tmesis_class_sets)], narrowed := true }
def TreeSubsUptoSaid : Prop := treeSubsUptoRow.holds Tryz.pinned (OpenSpec.upto treeSubsSpec)

/-- 'tmesislaw18.TreeBares', WHERE WHAT IT READS IS OF BULK AT MOST 1048576: true; the input reads as it did. -/
def treeBaresUptoRow : OpenClaim := { program := "ytkaeanaeklilfaagreatdoor", sum := "874f071cfe3b8902257aaa4e4ad31841e1fbb00f300880550a231dd8c1071ea2", func := "tmesis/tmesislaw18.TreeBares", spec := "treeBares", inPlace := ["internal/bytealg.IndexByteString", "internal/bytealg.IndexString", "internal/bytealg.IndexByte", "slices.overlaps[tmesis/api.Oper]"], unfollowed := true, recurses := true, named := ["internal/bytealg.MaxLen", "tmesis/class.sets"], apart := false, laid := [("tmesis/class.sets", laid_tmesis_class_sets)], narrowed := true }
def TreeBaresUptoSaid : Prop := treeBaresUptoRow.holds Tryz.pinned (OpenSpec.upto treeBaresSpec)

/-- 'tmesislaw18.TreeLast', WHERE WHAT IT READS IS OF BULK AT MOST 1048576: true; the input reads as it did. -/
def treeLastUptoRow : OpenClaim := { program := "ytkaeanaeklilfaagreatdoor", sum := "874f071cfe3b8902257aaa4e4ad31841e1fbb00f300880550a231dd8c1071ea2", func := "tmesis/tmesislaw18.TreeLast", spec := "treeLast", inPlace := ["internal/bytealg.IndexByteString", "internal/bytealg.IndexString", "internal/bytealg.IndexByte", "slices.overlaps[tmesis/api.Oper]"], unfollowed := true, recurses := true, named := ["internal/bytealg.MaxLen", "tmesis/class.sets"], apart := false, laid := [("tmesis/class.sets", laid_tmesis_class_sets)], narrowed := true }
def TreeLastUptoSaid : Prop := treeLastUptoRow.holds Tryz.pinned (OpenSpec.upto treeLastSpec)

end Rows
end Go.Proofs.YtkaeanaeklilfaaGreatDoor
