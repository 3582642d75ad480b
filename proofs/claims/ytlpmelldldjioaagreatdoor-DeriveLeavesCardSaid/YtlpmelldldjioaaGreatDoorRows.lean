/-
  NARROWER THAN 'FOR EVERY INPUT', by the rows' own cells (each row's printed sentence says how): TreeAll: laid · TreeSubs: laid · DeriveAll: laid · DeriveRight: laid · DeriveUnique: laid · DeriveNames: laid · DeriveBrackets: laid · DeriveFit: laid · DeriveChain: laid · DeriveSigns: laid · DeriveLeaves: laid.
  DERIVED. THE GIVEN ROWS OF THIS SEAT. 11 by the template 'for every input the law returns true; each argument reads behind the call as it read before'; 0 by the template 'total and deterministic' (their statements: YtlpmelldldjioaaGreatDoorTotals.lean).
  GIVEN WITH THE SEED: the statements are not yours to turn. If you find one false, say at which input.
  Laid BY PROGRAM, IN A SANDBOX (cutbox-rows.mjs): the forced cells as the released guide's own fill.sh prints them over the translation 642419142725447f… (all of the seat's roots in one cut). By AI agents, Wed Nov 11 2026. No macro, syntax, notation, axiom, sorry.
-/
import Derived.Test.YtlpmelldldjioaaGreatDoorChecked
import GoSem.Claim
import GoSem.ClaimJoined
import GoSem.ClaimMapViews
import Derived.JoinedTies
import Derived.KernelRfl
namespace Go.Proofs.YtlpmelldldjioaaGreatDoor
/- THE CELL 'sum', in the pinned program and in every row, IS THE sha256 OF THE DUMP (.gsa) THAT YtlpmelldldjioaaGreatDoorProg.lean LOADS. Nothing in Lean hashes anything: it is a label: what it is worth is what the hold of that sum in a sandbox is worth. -/
noncomputable def Tryz.pinned : Pinned := { name := "ytlpmelldldjioaagreatdoor", sum := "642419142725447f777913c19a83a65f6f50006658ee565fb33c3b12d4cedf3b", checked := Tryz.checked }
namespace Rows
def none {H : Type} : Left H := { results := [], args := [] }

/- WHAT THE LISTED PACKAGE-LEVEL VARIABLES READ AS WHEN THE CALL BEGINS. Each datum BY PROGRAM (the guide's laid-datum.mjs) off the statement by which the dump's own 'gosem.cut.vars' lays the variable. In a bare row this is a premise. The card (YtlpmelldldjioaaGreatDoorCards.lean) ties it to the program's text. -/
def laid_tmesis_class_sets {H : Type} : DataW H := .agg [.agg [.lit (.int .i64 1), .lit (.string [9, 10, 13, 32])], .agg [.lit (.int .i64 2), .lit (.string [97, 98, 99, 100, 101, 102, 103, 104, 105, 106, 107, 108, 109, 110, 111, 112, 113, 114, 115, 116, 117, 118, 119, 120, 121, 122])], .agg [.lit (.int .i64 3), .lit (.string [65, 66, 67, 68, 69, 70, 71, 72, 73, 74, 75, 76, 77, 78, 79, 80, 81, 82, 83, 84, 85, 86, 87, 88, 89, 90, 95])], .agg [.lit (.int .i64 4), .lit (.string [48, 49, 50, 51, 52, 53, 54, 55, 56, 57])], .agg [.lit (.int .i64 5), .lit (.string [43, 45, 42, 47, 92, 94, 60, 62, 61, 126, 58, 46, 63, 64, 35, 38, 36, 33])], .agg [.lit (.int .i64 6), .lit (.string [40, 41, 44, 124, 59, 91, 93, 123, 125])], .agg [.lit (.int .i64 7), .lit (.string [39])], .agg [.lit (.int .i64 8), .lit (.string [37])]]

/-- 'tmesislaw18.TreeAll': WHATEVER THE INPUT: true; the input reads as it did. -/
def treeAllSpec : ChangeSpec := { name := "treeAll", fn := fun _ => fun
  | [d1, d2, d3] => { results := [.lit (.bool true)], args := [d1, d2, d3] }
  | _ => none }
def treeAllRow : OpenClaim := { program := "ytlpmelldldjioaagreatdoor", sum := "642419142725447f777913c19a83a65f6f50006658ee565fb33c3b12d4cedf3b", func := "tmesis/tmesislaw18.TreeAll", spec := "treeAll", inPlace := ["internal/bytealg.IndexByteString", "internal/bytealg.IndexString", "internal/bytealg.IndexByte", "slices.overlaps[tmesis/api.Oper]"], unfollowed := true, recurses := true, named := ["internal/bytealg.MaxLen", "tmesis/class.sets"], plainKeys := false, apart := false, laid := [("tmesis/class.sets", laid_tmesis_class_sets)] }
def TreeAllSaid : Prop := treeAllRow.holds Tryz.pinned (OpenSpec.ofChange treeAllSpec)

/-- ITS FALSE NEIGHBOUR: 'it returns false'. Refute it at one input. -/
def treeAllWrong : ChangeSpec := { name := "treeAll", fn := fun _ => fun
  | [d1, d2, d3] => { results := [.lit (.bool false)], args := [d1, d2, d3] }
  | _ => none }
def TreeAllWrongFalsely : Prop := treeAllRow.holds Tryz.pinned (OpenSpec.ofChange treeAllWrong)

/-- 'tmesislaw18.TreeSubs': WHATEVER THE INPUT: true; the input reads as it did. -/
def treeSubsSpec : ChangeSpec := { name := "treeSubs", fn := fun _ => fun
  | [d1, d2, d3] => { results := [.lit (.bool true)], args := [d1, d2, d3] }
  | _ => none }
def treeSubsRow : OpenClaim := { program := "ytlpmelldldjioaagreatdoor", sum := "642419142725447f777913c19a83a65f6f50006658ee565fb33c3b12d4cedf3b", func := "tmesis/tmesislaw18.TreeSubs", spec := "treeSubs", inPlace := ["internal/bytealg.IndexByteString", "internal/bytealg.IndexString", "internal/bytealg.IndexByte", "slices.overlaps[tmesis/api.Oper]"], unfollowed := true, recurses := true, named := ["internal/bytealg.MaxLen", "tmesis/class.sets"], plainKeys := false, apart := false, laid := [("tmesis/class.sets", laid_tmesis_class_sets)] }
def TreeSubsSaid : Prop := treeSubsRow.holds Tryz.pinned (OpenSpec.ofChange treeSubsSpec)

/-- ITS FALSE NEIGHBOUR: 'it returns false'. Refute it at one input. -/
def treeSubsWrong : ChangeSpec := { name := "treeSubs", fn := fun _ => fun
  | [d1, d2, d3] => { results := [.lit (.bool false)], args := [d1, d2, d3] }
  | _ => none }
def TreeSubsWrongFalsely : Prop := treeSubsRow.holds Tryz.pinned (OpenSpec.ofChange treeSubsWrong)

/-- 'tmesislaw19.DeriveAll': WHATEVER THE INPUT: true; the input reads as it did. -/
def deriveAllSpec : ChangeSpec := { name := "deriveAll", fn := fun _ => fun
  | [d1, d2] => { results := [.lit (.bool true)], args := [d1, d2] }
  | _ => none }
def deriveAllRow : OpenClaim := { program := "ytlpmelldldjioaagreatdoor", sum := "642419142725447f777913c19a83a65f6f50006658ee565fb33c3b12d4cedf3b", func := "tmesis/tmesislaw19.DeriveAll", spec := "deriveAll", inPlace := ["internal/bytealg.IndexByteString", "internal/bytealg.IndexString", "internal/bytealg.IndexByte", "slices.overlaps[tmesis/api.Oper]"], unfollowed := true, recurses := true, named := ["internal/bytealg.MaxLen", "tmesis/class.sets"], plainKeys := false, apart := false, laid := [("tmesis/class.sets", laid_tmesis_class_sets)] }
def DeriveAllSaid : Prop := deriveAllRow.holds Tryz.pinned (OpenSpec.ofChange deriveAllSpec)

/-- ITS FALSE NEIGHBOUR: 'it returns false'. Refute it at one input. -/
def deriveAllWrong : ChangeSpec := { name := "deriveAll", fn := fun _ => fun
  | [d1, d2] => { results := [.lit (.bool false)], args := [d1, d2] }
  | _ => none }
def DeriveAllWrongFalsely : Prop := deriveAllRow.holds Tryz.pinned (OpenSpec.ofChange deriveAllWrong)

/-- 'tmesislaw19.DeriveRight': WHATEVER THE INPUT: true; the input reads as it did. -/
def deriveRightSpec : ChangeSpec := { name := "deriveRight", fn := fun _ => fun
  | [d1, d2, d3] => { results := [.lit (.bool true)], args := [d1, d2, d3] }
  | _ => none }
def deriveRightRow : OpenClaim := { program := "ytlpmelldldjioaagreatdoor", sum := "642419142725447f777913c19a83a65f6f50006658ee565fb33c3b12d4cedf3b", func := "tmesis/tmesislaw19.DeriveRight", spec := "deriveRight", inPlace := ["internal/bytealg.IndexByteString", "internal/bytealg.IndexString", "internal/bytealg.IndexByte", "slices.overlaps[tmesis/api.Oper]"], unfollowed := true, recurses := true, named := ["internal/bytealg.MaxLen", "tmesis/class.sets"], plainKeys := false, apart := false, laid := [("tmesis/class.sets", laid_tmesis_class_sets)] }
def DeriveRightSaid : Prop := deriveRightRow.holds Tryz.pinned (OpenSpec.ofChange deriveRightSpec)

/-- ITS FALSE NEIGHBOUR: 'it returns false'. Refute it at one input. -/
def deriveRightWrong : ChangeSpec := { name := "deriveRight", fn := fun _ => fun
  | [d1, d2, d3] => { results := [.lit (.bool false)], args := [d1, d2, d3] }
  | _ => none }
def DeriveRightWrongFalsely : Prop := deriveRightRow.holds Tryz.pinned (OpenSpec.ofChange deriveRightWrong)

/-- 'tmesislaw19.DeriveUnique': WHATEVER THE INPUT: true; the input reads as it did. -/
def deriveUniqueSpec : ChangeSpec := { name := "deriveUnique", fn := fun _ => fun
  | [d1, d2] => { results := [.lit (.bool true)], args := [d1, d2] }
  | _ => none }
def deriveUniqueRow : OpenClaim := { program := "ytlpmelldldjioaagreatdoor", sum := "642419142725447f777913c19a83a65f6f50006658ee565fb33c3b12d4cedf3b", func := "tmesis/tmesislaw19.DeriveUnique", spec := "deriveUnique", inPlace := ["internal/bytealg.IndexByteString", "internal/bytealg.IndexString", "internal/bytealg.IndexByte", "slices.overlaps[tmesis/api.Oper]"], unfollowed := true, recurses := true, named := ["internal/bytealg.MaxLen", "tmesis/class.sets"], plainKeys := false, apart := false, laid := [("tmesis/class.sets", laid_tmesis_class_sets)] }
def DeriveUniqueSaid : Prop := deriveUniqueRow.holds Tryz.pinned (OpenSpec.ofChange deriveUniqueSpec)

/-- ITS FALSE NEIGHBOUR: 'it returns false'. Refute it at one input. -/
def deriveUniqueWrong : ChangeSpec := { name := "deriveUnique", fn := fun _ => fun
  | [d1, d2] => { results := [.lit (.bool false)], args := [d1, d2] }
  | _ => none }
def DeriveUniqueWrongFalsely : Prop := deriveUniqueRow.holds Tryz.pinned (OpenSpec.ofChange deriveUniqueWrong)

/-- 'tmesislaw19.DeriveNames': WHATEVER THE INPUT: true; the input reads as it did. -/
def deriveNamesSpec : ChangeSpec := { name := "deriveNames", fn := fun _ => fun
  | [d1, d2, d3] => { results := [.lit (.bool true)], args := [d1, d2, d3] }
  | _ => none }
def deriveNamesRow : OpenClaim := { program := "ytlpmelldldjioaagreatdoor", sum := "642419142725447f777913c19a83a65f6f50006658ee565fb33c3b12d4cedf3b", func := "tmesis/tmesislaw19.DeriveNames", spec := "deriveNames", inPlace := ["internal/bytealg.IndexByteString", "internal/bytealg.IndexString", "internal/bytealg.IndexByte", "slices.overlaps[tmesis/api.Oper]"], unfollowed := true, recurses := true, named := ["internal/bytealg.MaxLen", "tmesis/class.sets"], plainKeys := false, apart := false, laid := [("tmesis/class.sets", laid_tmesis_class_sets)] }
def DeriveNamesSaid : Prop := deriveNamesRow.holds Tryz.pinned (OpenSpec.ofChange deriveNamesSpec)

/-- ITS FALSE NEIGHBOUR: 'it returns false'. Refute it at one input. -/
def deriveNamesWrong : ChangeSpec := { name := "deriveNames", fn := fun _ => fun
  | [d1, d2, d3] => { results := [.lit (.bool false)], args := [d1, d2, d3] }
  | _ => none }
def DeriveNamesWrongFalsely : Prop := deriveNamesRow.holds Tryz.pinned (OpenSpec.ofChange deriveNamesWrong)

/-- 'tmesislaw19.DeriveBrackets': WHATEVER THE INPUT: true; the input reads as it did. -/
def deriveBracketsSpec : ChangeSpec := { name := "deriveBrackets", fn := fun _ => fun
  | [d1, d2] => { results := [.lit (.bool true)], args := [d1, d2] }
  | _ => none }
def deriveBracketsRow : OpenClaim := { program := "ytlpmelldldjioaagreatdoor", sum := "642419142725447f777913c19a83a65f6f50006658ee565fb33c3b12d4cedf3b", func := "tmesis/tmesislaw19.DeriveBrackets", spec := "deriveBrackets", inPlace := ["internal/bytealg.IndexByteString", "internal/bytealg.IndexString", "internal/bytealg.IndexByte", "slices.overlaps[tmesis/api.Oper]"], unfollowed := true, recurses := true, named := ["internal/bytealg.MaxLen", "tmesis/class.sets"], plainKeys := false, apart := false, laid := [("tmesis/class.sets", laid_tmesis_class_sets)] }
def DeriveBracketsSaid : Prop := deriveBracketsRow.holds Tryz.pinned (OpenSpec.ofChange deriveBracketsSpec)

/-- ITS FALSE NEIGHBOUR: 'it returns false'. Refute it at one input. -/
def deriveBracketsWrong : ChangeSpec := { name := "deriveBrackets", fn := fun _ => fun
  | [d1, d2] => { results := [.lit (.bool false)], args := [d1, d2] }
  | _ => none }
def DeriveBracketsWrongFalsely : Prop := deriveBracketsRow.holds Tryz.pinned (OpenSpec.ofChange deriveBracketsWrong)

/-- 'tmesislaw19.DeriveFit': WHATEVER THE INPUT: true; the input reads as it did. -/
def deriveFitSpec : ChangeSpec := { name := "deriveFit", fn := fun _ => fun
  | [d1, d2] => { results := [.lit (.bool true)], args := [d1, d2] }
  | _ => none }
def deriveFitRow : OpenClaim := { program := "ytlpmelldldjioaagreatdoor", sum := "642419142725447f777913c19a83a65f6f50006658ee565fb33c3b12d4cedf3b", func := "tmesis/tmesislaw19.DeriveFit", spec := "deriveFit", inPlace := ["internal/bytealg.IndexByteString", "internal/bytealg.IndexString", "internal/bytealg.IndexByte", "slices.overlaps[tmesis/api.Oper]"], unfollowed := true, recurses := true, named := ["internal/bytealg.MaxLen", "tmesis/class.sets"], plainKeys := false, apart := false, laid := [("tmesis/class.sets", laid_tmesis_class_sets)] }
def DeriveFitSaid : Prop := deriveFitRow.holds Tryz.pinned (OpenSpec.ofChange deriveFitSpec)

/-- ITS FALSE NEIGHBOUR: 'it returns false'. Refute it at one input. -/
def deriveFitWrong : ChangeSpec := { name := "deriveFit", fn := fun _ => fun
  | [d1, d2] => { results := [.lit (.bool false)], args := [d1, d2] }
  | _ => none }
def DeriveFitWrongFalsely : Prop := deriveFitRow.holds Tryz.pinned (OpenSpec.ofChange deriveFitWrong)

/-- 'tmesislaw19.DeriveChain': WHATEVER THE INPUT: true; the input reads as it did. -/
def deriveChainSpec : ChangeSpec := { name := "deriveChain", fn := fun _ => fun
  | [d1, d2, d3] => { results := [.lit (.bool true)], args := [d1, d2, d3] }
  | _ => none }
def deriveChainRow : OpenClaim := { program := "ytlpmelldldjioaagreatdoor", sum := "642419142725447f777913c19a83a65f6f50006658ee565fb33c3b12d4cedf3b", func := "tmesis/tmesislaw19.DeriveChain", spec := "deriveChain", inPlace := ["internal/bytealg.IndexByteString", "internal/bytealg.IndexString", "internal/bytealg.IndexByte", "slices.overlaps[tmesis/api.Oper]"], unfollowed := true, recurses := true, named := ["internal/bytealg.MaxLen", "tmesis/class.sets"], plainKeys := false, apart := false, laid := [("tmesis/class.sets", laid_tmesis_class_sets)] }
def DeriveChainSaid : Prop := deriveChainRow.holds Tryz.pinned (OpenSpec.ofChange deriveChainSpec)

/-- ITS FALSE NEIGHBOUR: 'it returns false'. Refute it at one input. -/
def deriveChainWrong : ChangeSpec := { name := "deriveChain", fn := fun _ => fun
  | [d1, d2, d3] => { results := [.lit (.bool false)], args := [d1, d2, d3] }
  | _ => none }
def DeriveChainWrongFalsely : Prop := deriveChainRow.holds Tryz.pinned (OpenSpec.ofChange deriveChainWrong)

/-- 'tmesislaw19.DeriveSigns': WHATEVER THE INPUT: true; the input reads as it did. -/
def deriveSignsSpec : ChangeSpec := { name := "deriveSigns", fn := fun _ => fun
  | [d1, d2] => { results := [.lit (.bool true)], args := [d1, d2] }
  | _ => none }
def deriveSignsRow : OpenClaim := { program := "ytlpmelldldjioaagreatdoor", sum := "642419142725447f777913c19a83a65f6f50006658ee565fb33c3b12d4cedf3b", func := "tmesis/tmesislaw19.DeriveSigns", spec := "deriveSigns", inPlace := ["internal/bytealg.IndexByteString", "internal/bytealg.IndexString", "internal/bytealg.IndexByte", "slices.overlaps[tmesis/api.Oper]"], unfollowed := true, recurses := true, named := ["internal/bytealg.MaxLen", "tmesis/class.sets"], plainKeys := false, apart := false, laid := [("tmesis/class.sets", laid_tmesis_class_sets)] }
def DeriveSignsSaid : Prop := deriveSignsRow.holds Tryz.pinned (OpenSpec.ofChange deriveSignsSpec)

/-- ITS FALSE NEIGHBOUR: 'it returns false'. Refute it at one input. -/
def deriveSignsWrong : ChangeSpec := { name := "deriveSigns", fn := fun _ => fun
  | [d1, d2] => { results := [.lit (.bool false)], args := [d1, d2] }
  | _ => none }
def DeriveSignsWrongFalsely : Prop := deriveSignsRow.holds Tryz.pinned (OpenSpec.ofChange deriveSignsWrong)

/-- 'tmesislaw19.DeriveLeaves': WHATEVER THE INPUT: true; the input reads as it did. -/
def deriveLeavesSpec : ChangeSpec := { name := "deriveLeaves", fn := fun _ => fun
  | [d] => { results := [.lit (.bool true)], args := [d] }
  | _ => none }
def deriveLeavesRow : OpenClaim := { program := "ytlpmelldldjioaagreatdoor", sum := "642419142725447f777913c19a83a65f6f50006658ee565fb33c3b12d4cedf3b", func := "tmesis/tmesislaw19.DeriveLeaves", spec := "deriveLeaves", inPlace := ["internal/bytealg.IndexByteString", "internal/bytealg.IndexString", "internal/bytealg.IndexByte", "slices.overlaps[tmesis/api.Oper]"], unfollowed := true, recurses := true, named := ["internal/bytealg.MaxLen", "tmesis/class.sets"], plainKeys := false, apart := false, laid := [("tmesis/class.sets", laid_tmesis_class_sets)] }
def DeriveLeavesSaid : Prop := deriveLeavesRow.holds Tryz.pinned (OpenSpec.ofChange deriveLeavesSpec)

/-- ITS FALSE NEIGHBOUR: 'it returns false'. Refute it at one input. -/
def deriveLeavesWrong : ChangeSpec := { name := "deriveLeaves", fn := fun _ => fun
  | [d] => { results := [.lit (.bool false)], args := [d] }
  | _ => none }
def DeriveLeavesWrongFalsely : Prop := deriveLeavesRow.holds Tryz.pinned (OpenSpec.ofChange deriveLeavesWrong)

/- THE SECOND FORM. 'bulk': how many values and letters a reading holds, each counted each time it is reached (what is shared counts as often as it is met; a slice's spare places count too). A statement '..UptoSaid' is the law's where the arguments, and the package variables that the reading takes, are together of bulk at most 1048576: NARROWER than '..Said'. Prove '..Said' where nothing that the law and all that it calls make is longer than what came in: it says more and counts as full. Else prove '..UptoSaid'. A law counts once. -/
mutual
def uptoBulk {H : Type} : DataW H → Nat
  | .lit (.string bytes) => bytes.length + 1
  | .lit _ => 1
  | .nil => 1
  | .ptr d => uptoBulk d + 1
  | .slice elems spare => uptoBulkAll elems + uptoBulkAll spare + 1
  | .agg parts => uptoBulkAll parts + 1
  | .iface _ d => uptoBulk d + 1
  | .map entries => uptoBulkEntries entries + 1
  | .held _ => 1
def uptoBulkAll {H : Type} : List (DataW H) → Nat
  | [] => 0
  | d :: r => uptoBulk d + uptoBulkAll r
def uptoBulkEntries {H : Type} : List (Lit × DataW H) → Nat
  | [] => 0
  | x :: r => uptoBulkEntry x + uptoBulkEntries r
def uptoBulkEntry {H : Type} : Lit × DataW H → Nat
  | (.string bytes, d) => bytes.length + uptoBulk d + 1
  | (_, d) => uptoBulk d + 1
 end
def uptoSmall : (H : Type) → List (DataW H) → Bool := fun _ ds => decide (uptoBulkAll ds ≤ 1048576)
def OpenSpec.upto (s : _root_.Go.ChangeSpec) : _root_.Go.OpenSpec := { _root_.Go.OpenSpec.ofChange s with cond := some uptoSmall }

/-- 'tmesislaw18.TreeAll', WHERE WHAT IT READS IS OF BULK AT MOST 1048576: true; the input reads as it did. -/
def treeAllUptoRow : OpenClaim := { program := "ytlpmelldldjioaagreatdoor", sum := "642419142725447f777913c19a83a65f6f50006658ee565fb33c3b12d4cedf3b", func := "tmesis/tmesislaw18.TreeAll", spec := "treeAll", inPlace := ["internal/bytealg.IndexByteString", "internal/bytealg.IndexString", "internal/bytealg.IndexByte", "slices.overlaps[tmesis/api.Oper]"], unfollowed := true, recurses := true, named := ["internal/bytealg.MaxLen", "tmesis/class.sets"], plainKeys := false, apart := false, laid := [("tmesis/class.sets", laid_tmesis_class_sets)], narrowed := true }
def TreeAllUptoSaid : Prop := treeAllUptoRow.holds Tryz.pinned (OpenSpec.upto treeAllSpec)

/-- 'tmesislaw18.TreeSubs', WHERE WHAT IT READS IS OF BULK AT MOST 1048576: true; the input reads as it did. -/
def treeSubsUptoRow : OpenClaim := { program := "ytlpmelldldjioaagreatdoor", sum := "642419142725447f777913c19a83a65f6f50006658ee565fb33c3b12d4cedf3b", func := "tmesis/tmesislaw18.TreeSubs", spec := "treeSubs", inPlace := ["internal/bytealg.IndexByteString", "internal/bytealg.IndexString", "internal/bytealg.IndexByte", "slices.overlaps[tmesis/api.Oper]"], unfollowed := true, recurses := true, named := ["internal/bytealg.MaxLen", "tmesis/class.sets"], plainKeys := false, apart := false, laid := [("tmesis/class.sets", laid_tmesis_class_sets)], narrowed := true }
def TreeSubsUptoSaid : Prop := treeSubsUptoRow.holds Tryz.pinned (OpenSpec.upto treeSubsSpec)

/-- 'tmesislaw19.DeriveAll', WHERE WHAT IT READS IS OF BULK AT MOST 1048576: true; the input reads as it did. -/
def deriveAllUptoRow : OpenClaim := { program := "ytlpmelldldjioaagreatdoor", sum := "642419142725447f777913c19a83a65f6f50006658ee565fb33c3b12d4cedf3b", func := "tmesis/tmesislaw19.DeriveAll", spec := "deriveAll", inPlace := ["internal/bytealg.IndexByteString", "internal/bytealg.IndexString", "internal/bytealg.IndexByte", "slices.overlaps[tmesis/api.Oper]"], unfollowed := true, recurses := true, named := ["internal/bytealg.MaxLen", "tmesis/class.sets"], plainKeys := false, apart := false, laid := [("tmesis/class.sets", laid_tmesis_class_sets)], narrowed := true }
def DeriveAllUptoSaid : Prop := deriveAllUptoRow.holds Tryz.pinned (OpenSpec.upto deriveAllSpec)

/-- 'tmesislaw19.DeriveRight', WHERE WHAT IT READS IS OF BULK AT MOST 1048576: true; the input reads as it did. -/
def deriveRightUptoRow : OpenClaim := { program := "ytlpmelldldjioaagreatdoor", sum := "642419142725447f777913c19a83a65f6f50006658ee565fb33c3b12d4cedf3b", func := "tmesis/tmesislaw19.DeriveRight", spec := "deriveRight", inPlace := ["internal/bytealg.IndexByteString", "internal/bytealg.IndexString", "internal/bytealg.IndexByte", "slices.overlaps[tmesis/api.Oper]"], unfollowed := true, recurses := true, named := ["internal/bytealg.MaxLen", "tmesis/class.sets"], plainKeys := false, apart := false, laid := [("tmesis/class.sets", laid_tmesis_class_sets)], narrowed := true }
def DeriveRightUptoSaid : Prop := deriveRightUptoRow.holds Tryz.pinned (OpenSpec.upto deriveRightSpec)

/-- 'tmesislaw19.DeriveUnique', WHERE WHAT IT READS IS OF BULK AT MOST 1048576: true; the input reads as it did. -/
def deriveUniqueUptoRow : OpenClaim := { program := "ytlpmelldldjioaagreatdoor", sum := "642419142725447f777913c19a83a65f6f50006658ee565fb33c3b12d4cedf3b", func := "tmesis/tmesislaw19.DeriveUnique", spec := "deriveUnique", inPlace := ["internal/bytealg.IndexByteString", "internal/bytealg.IndexString", "internal/bytealg.IndexByte", "slices.overlaps[tmesis/api.Oper]"], unfollowed := true, recurses := true, named := ["internal/bytealg.MaxLen", "tmesis/class.sets"], plainKeys := false, apart := false, laid := [("tmesis/class.sets", laid_tmesis_class_sets)], narrowed := true }
def DeriveUniqueUptoSaid : Prop := deriveUniqueUptoRow.holds Tryz.pinned (OpenSpec.upto deriveUniqueSpec)

/-- 'tmesislaw19.DeriveNames', WHERE WHAT IT READS IS OF BULK AT MOST 1048576: true; the input reads as it did. -/
def deriveNamesUptoRow : OpenClaim := { program := "ytlpmelldldjioaagreatdoor", sum := "642419142725447f777913c19a83a65f6f50006658ee565fb33c3b12d4cedf3b", func := "tmesis/tmesislaw19.DeriveNames", spec := "deriveNames", inPlace := ["internal/bytealg.IndexByteString", "internal/bytealg.IndexString", "internal/bytealg.IndexByte", "slices.overlaps[tmesis/api.Oper]"], unfollowed := true, recurses := true, named := ["internal/bytealg.MaxLen", "tmesis/class.sets"], plainKeys := false, apart := false, laid := [("tmesis/class.sets", laid_tmesis_class_sets)], narrowed := true }
def DeriveNamesUptoSaid : Prop := deriveNamesUptoRow.holds Tryz.pinned (OpenSpec.upto deriveNamesSpec)

/-- 'tmesislaw19.DeriveBrackets', WHERE WHAT IT READS IS OF BULK AT MOST 1048576: true; the input reads as it did. -/
def deriveBracketsUptoRow : OpenClaim := { program := "ytlpmelldldjioaagreatdoor", sum := "642419142725447f777913c19a83a65f6f50006658ee565fb33c3b12d4cedf3b", func := "tmesis/tmesislaw19.DeriveBrackets", spec := "deriveBrackets", inPlace := ["internal/bytealg.IndexByteString", "internal/bytealg.IndexString", "internal/bytealg.IndexByte", "slices.overlaps[tmesis/api.Oper]"], unfollowed := true, recurses := true, named := ["internal/bytealg.MaxLen", "tmesis/class.sets"], plainKeys := false, apart := false, laid := [("tmesis/class.sets", laid_tmesis_class_sets)], narrowed := true }
def DeriveBracketsUptoSaid : Prop := deriveBracketsUptoRow.holds Tryz.pinned (OpenSpec.upto deriveBracketsSpec)

/-- 'tmesislaw19.DeriveFit', WHERE WHAT IT READS IS OF BULK AT MOST 1048576: true; the input reads as it did. -/
def deriveFitUptoRow : OpenClaim := { program := "ytlpmelldldjioaagreatdoor", sum := "642419142725447f777913c19a83a65f6f50006658ee565fb33c3b12d4cedf3b", func := "tmesis/tmesislaw19.DeriveFit", spec := "deriveFit", inPlace := ["internal/bytealg.IndexByteString", "internal/bytealg.IndexString", "internal/bytealg.IndexByte", "slices.overlaps[tmesis/api.Oper]"], unfollowed := true, recurses := true, named := ["internal/bytealg.MaxLen", "tmesis/class.sets"], plainKeys := false, apart := false, laid := [("tmesis/class.sets", laid_tmesis_class_sets)], narrowed := true }
def DeriveFitUptoSaid : Prop := deriveFitUptoRow.holds Tryz.pinned (OpenSpec.upto deriveFitSpec)

/-- 'tmesislaw19.DeriveChain', WHERE WHAT IT READS IS OF BULK AT MOST 1048576: true; the input reads as it did. -/
def deriveChainUptoRow : OpenClaim := { program := "ytlpmelldldjioaagreatdoor", sum := "642419142725447f777913c19a83a65f6f50006658ee565fb33c3b12d4cedf3b", func := "tmesis/tmesislaw19.DeriveChain", spec := "deriveChain", inPlace := ["internal/bytealg.IndexByteString", "internal/bytealg.IndexString", "internal/bytealg.IndexByte", "slices.overlaps[tmesis/api.Oper]"], unfollowed := true, recurses := true, named := ["internal/bytealg.MaxLen", "tmesis/class.sets"], plainKeys := false, apart := false, laid := [("tmesis/class.sets", laid_tmesis_class_sets)], narrowed := true }
def DeriveChainUptoSaid : Prop := deriveChainUptoRow.holds Tryz.pinned (OpenSpec.upto deriveChainSpec)

/-- 'tmesislaw19.DeriveSigns', WHERE WHAT IT READS IS OF BULK AT MOST 1048576: true; the input reads as it did. -/
def deriveSignsUptoRow : OpenClaim := { program := "ytlpmelldldjioaagreatdoor", sum := "642419142725447f777913c19a83a65f6f50006658ee565fb33c3b12d4cedf3b", func := "tmesis/tmesislaw19.DeriveSigns", spec := "deriveSigns", inPlace := ["internal/bytealg.IndexByteString", "internal/bytealg.IndexString", "internal/bytealg.IndexByte", "slices.overlaps[tmesis/api.Oper]"], unfollowed := true, recurses := true, named := ["internal/bytealg.MaxLen", "tmesis/class.sets"], plainKeys := false, apart := false, laid := [("tmesis/class.sets", laid_tmesis_class_sets)], narrowed := true }
def DeriveSignsUptoSaid : Prop := deriveSignsUptoRow.holds Tryz.pinned (OpenSpec.upto deriveSignsSpec)

/-- 'tmesislaw19.DeriveLeaves', WHERE WHAT IT READS IS OF BULK AT MOST 1048576: true; the input reads as it did. -/
def deriveLeavesUptoRow : OpenClaim := { program := "ytlpmelldldjioaagreatdoor", sum := "642419142725447f777913c19a83a65f6f50006658ee565fb33c3b12d4cedf3b", func := "tmesis/tmesislaw19.DeriveLeaves", spec := "deriveLeaves", inPlace := ["internal/bytealg.IndexByteString", "internal/bytealg.IndexString", "internal/bytealg.IndexByte", "slices.overlaps[tmesis/api.Oper]"], unfollowed := true, recurses := true, named := ["internal/bytealg.MaxLen", "tmesis/class.sets"], plainKeys := false, apart := false, laid := [("tmesis/class.sets", laid_tmesis_class_sets)], narrowed := true }
def DeriveLeavesUptoSaid : Prop := deriveLeavesUptoRow.holds Tryz.pinned (OpenSpec.upto deriveLeavesSpec)

end Rows
end Go.Proofs.YtlpmelldldjioaaGreatDoor
