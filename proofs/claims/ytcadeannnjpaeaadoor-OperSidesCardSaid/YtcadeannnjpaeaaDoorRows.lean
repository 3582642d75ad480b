/-
  NARROWER THAN 'FOR EVERY INPUT', by the rows' own cells (each row's printed sentence says how): OperAll: laid · OperSimple: laid · OperFirst: laid · OperSides: laid.
  DERIVED. THE GIVEN ROWS OF THIS SEAT. 4 by the template 'for every input the law returns true; each argument reads behind the call as it read before'; 0 by the template 'total and deterministic' (their statements: YtcadeannnjpaeaaDoorTotals.lean).
  GIVEN WITH THE SEED: the statements are not yours to turn. If you find one false, say at which input.
  Laid BY PROGRAM, IN A SANDBOX (cutbox-rows.mjs): the forced cells as the released guide's own fill.sh prints them over the translation 4f5609edbee7befc… (all of the seat's roots in one cut). By AI agents, Wed Nov 11 2026. No macro, syntax, notation, axiom, sorry.
-/
import Derived.Test.YtcadeannnjpaeaaDoorChecked
import GoSem.Claim
import GoSem.ClaimJoined
import GoSem.ClaimMapViews
import Derived.JoinedTies
import Derived.KernelRfl
namespace Go.Proofs.YtcadeannnjpaeaaDoor
/- THE CELL 'sum', in the pinned program and in every row, IS THE sha256 OF THE DUMP (.gsa) THAT YtcadeannnjpaeaaDoorProg.lean LOADS. Nothing in Lean hashes anything: it is a label: what it is worth is what the hold of that sum in a sandbox is worth. -/
noncomputable def Tryd.pinned : Pinned := { name := "ytcadeannnjpaeaadoor", sum := "4f5609edbee7befcf13ce58988577c57f38b66eaa0582c96f7bca7813d239400", checked := Tryd.checked }
namespace Rows
def none {H : Type} : Left H := { results := [], args := [] }

/- WHAT THE LISTED PACKAGE-LEVEL VARIABLES READ AS WHEN THE CALL BEGINS. Each datum BY PROGRAM (the guide's laid-datum.mjs) off the statement by which the dump's own 'gosem.cut.vars' lays the variable. In a bare row this is a premise. The card (YtcadeannnjpaeaaDoorCards.lean) ties it to the program's text. -/
def laid_tmesis_class_sets {H : Type} : DataW H := .agg [.agg [.lit (.int .i64 1), .lit (.string [9, 10, 13, 32])], .agg [.lit (.int .i64 2), .lit (.string [97, 98, 99, 100, 101, 102, 103, 104, 105, 106, 107, 108, 109, 110, 111, 112, 113, 114, 115, 116, 117, 118, 119, 120, 121, 122])], .agg [.lit (.int .i64 3), .lit (.string [65, 66, 67, 68, 69, 70, 71, 72, 73, 74, 75, 76, 77, 78, 79, 80, 81, 82, 83, 84, 85, 86, 87, 88, 89, 90, 95])], .agg [.lit (.int .i64 4), .lit (.string [48, 49, 50, 51, 52, 53, 54, 55, 56, 57])], .agg [.lit (.int .i64 5), .lit (.string [43, 45, 42, 47, 92, 94, 60, 62, 61, 126, 58, 46, 63, 64, 35, 38, 36, 33])], .agg [.lit (.int .i64 6), .lit (.string [40, 41, 44, 124, 59, 91, 93, 123, 125])], .agg [.lit (.int .i64 7), .lit (.string [39])], .agg [.lit (.int .i64 8), .lit (.string [37])]]
def laid_tmesis_oper_kinds {H : Type} : DataW H := .agg [.agg [.lit (.string [120, 102, 120]), .lit (.string [95]), .lit (.string [95]), .lit (.int .i64 0)], .agg [.lit (.string [120, 102, 121]), .lit (.string [95]), .lit (.string [95]), .lit (.int .i64 2)], .agg [.lit (.string [121, 102, 120]), .lit (.string [95]), .lit (.string [95]), .lit (.int .i64 1)], .agg [.lit (.string [102, 120]), .lit (.string []), .lit (.string [95]), .lit (.int .i64 0)], .agg [.lit (.string [102, 121]), .lit (.string []), .lit (.string [95]), .lit (.int .i64 2)], .agg [.lit (.string [120, 102]), .lit (.string [95]), .lit (.string []), .lit (.int .i64 0)], .agg [.lit (.string [121, 102]), .lit (.string [95]), .lit (.string []), .lit (.int .i64 1)]]

/-- 'tmesislaw12.OperAll': WHATEVER THE INPUT: true; the input reads as it did. -/
def operAllSpec : ChangeSpec := { name := "operAll", fn := fun _ => fun
  | [d1, d2, d3] => { results := [.lit (.bool true)], args := [d1, d2, d3] }
  | _ => none }
def operAllRow : OpenClaim := { program := "ytcadeannnjpaeaadoor", sum := "4f5609edbee7befcf13ce58988577c57f38b66eaa0582c96f7bca7813d239400", func := "tmesis/tmesislaw12.OperAll", spec := "operAll", inPlace := ["internal/bytealg.IndexByteString", "internal/bytealg.IndexString", "internal/bytealg.IndexByte"], unfollowed := true, recurses := true, named := ["tmesis/oper.kinds", "internal/bytealg.MaxLen", "tmesis/class.sets"], apart := false, laid := [("tmesis/class.sets", laid_tmesis_class_sets), ("tmesis/oper.kinds", laid_tmesis_oper_kinds)] }
def OperAllSaid : Prop := operAllRow.holds Tryd.pinned (OpenSpec.ofChange operAllSpec)

/-- ITS FALSE NEIGHBOUR: 'it returns false'. Refute it at one input. -/
def operAllWrong : ChangeSpec := { name := "operAll", fn := fun _ => fun
  | [d1, d2, d3] => { results := [.lit (.bool false)], args := [d1, d2, d3] }
  | _ => none }
def OperAllWrongFalsely : Prop := operAllRow.holds Tryd.pinned (OpenSpec.ofChange operAllWrong)

/-- 'tmesislaw12.OperSimple': WHATEVER THE INPUT: true; the input reads as it did. -/
def operSimpleSpec : ChangeSpec := { name := "operSimple", fn := fun _ => fun
  | [d1, d2, d3] => { results := [.lit (.bool true)], args := [d1, d2, d3] }
  | _ => none }
def operSimpleRow : OpenClaim := { program := "ytcadeannnjpaeaadoor", sum := "4f5609edbee7befcf13ce58988577c57f38b66eaa0582c96f7bca7813d239400", func := "tmesis/tmesislaw12.OperSimple", spec := "operSimple", inPlace := ["internal/bytealg.IndexByteString", "internal/bytealg.IndexString", "internal/bytealg.IndexByte"], unfollowed := true, recurses := true, named := ["tmesis/oper.kinds", "internal/bytealg.MaxLen", "tmesis/class.sets"], apart := false, laid := [("tmesis/class.sets", laid_tmesis_class_sets), ("tmesis/oper.kinds", laid_tmesis_oper_kinds)] }
def OperSimpleSaid : Prop := operSimpleRow.holds Tryd.pinned (OpenSpec.ofChange operSimpleSpec)

/-- ITS FALSE NEIGHBOUR: 'it returns false'. Refute it at one input. -/
def operSimpleWrong : ChangeSpec := { name := "operSimple", fn := fun _ => fun
  | [d1, d2, d3] => { results := [.lit (.bool false)], args := [d1, d2, d3] }
  | _ => none }
def OperSimpleWrongFalsely : Prop := operSimpleRow.holds Tryd.pinned (OpenSpec.ofChange operSimpleWrong)

/-- 'tmesislaw12.OperFirst': WHATEVER THE INPUT: true; the input reads as it did. -/
def operFirstSpec : ChangeSpec := { name := "operFirst", fn := fun _ => fun
  | [d1, d2] => { results := [.lit (.bool true)], args := [d1, d2] }
  | _ => none }
def operFirstRow : OpenClaim := { program := "ytcadeannnjpaeaadoor", sum := "4f5609edbee7befcf13ce58988577c57f38b66eaa0582c96f7bca7813d239400", func := "tmesis/tmesislaw12.OperFirst", spec := "operFirst", inPlace := ["internal/bytealg.IndexByteString", "internal/bytealg.IndexString", "internal/bytealg.IndexByte"], unfollowed := true, recurses := true, named := ["tmesis/oper.kinds", "internal/bytealg.MaxLen", "tmesis/class.sets"], apart := false, laid := [("tmesis/class.sets", laid_tmesis_class_sets), ("tmesis/oper.kinds", laid_tmesis_oper_kinds)] }
def OperFirstSaid : Prop := operFirstRow.holds Tryd.pinned (OpenSpec.ofChange operFirstSpec)

/-- ITS FALSE NEIGHBOUR: 'it returns false'. Refute it at one input. -/
def operFirstWrong : ChangeSpec := { name := "operFirst", fn := fun _ => fun
  | [d1, d2] => { results := [.lit (.bool false)], args := [d1, d2] }
  | _ => none }
def OperFirstWrongFalsely : Prop := operFirstRow.holds Tryd.pinned (OpenSpec.ofChange operFirstWrong)

/-- 'tmesislaw12.OperSides': WHATEVER THE INPUT: true; the input reads as it did. -/
def operSidesSpec : ChangeSpec := { name := "operSides", fn := fun _ => fun
  | [d1, d2] => { results := [.lit (.bool true)], args := [d1, d2] }
  | _ => none }
def operSidesRow : OpenClaim := { program := "ytcadeannnjpaeaadoor", sum := "4f5609edbee7befcf13ce58988577c57f38b66eaa0582c96f7bca7813d239400", func := "tmesis/tmesislaw12.OperSides", spec := "operSides", inPlace := ["internal/bytealg.IndexByteString", "internal/bytealg.IndexString", "internal/bytealg.IndexByte"], unfollowed := true, recurses := true, named := ["tmesis/oper.kinds", "internal/bytealg.MaxLen", "tmesis/class.sets"], apart := false, laid := [("tmesis/class.sets", laid_tmesis_class_sets), ("tmesis/oper.kinds", laid_tmesis_oper_kinds)] }
def OperSidesSaid : Prop := operSidesRow.holds Tryd.pinned (OpenSpec.ofChange operSidesSpec)

/-- ITS FALSE NEIGHBOUR: 'it returns false'. Refute it at one input. -/
def operSidesWrong : ChangeSpec := { name := "operSides", fn := fun _ => fun
  | [d1, d2] => { results := [.lit (.bool false)], args := [d1, d2] }
  | _ => none }
def OperSidesWrongFalsely : Prop := operSidesRow.holds Tryd.pinned (OpenSpec.ofChange operSidesWrong)

/- THE SECOND FORM. 'bulk': how many values and letters a reading holds, each counted each time it is reached (what is shared counts as often as it is met; a slice's spare places count too). A statement '..UptoSaid' is the law's where the arguments, and the package variables that the reading takes, are together of bulk at most 1048576: NARROWER than '..Said'. Prove '..Said' where nothing that the law and all that it calls make is longer than what came in: it says more and counts as full. Else prove '..UptoSaid'. A law counts once. -/
mutual
def uptoBulk {H : Type} : DataW H → Nat
  | .lit (.string bytes) => bytes.length + 1
  | .lit _ => 1
  | .nil => 1
  | .ptr d => uptoBulk d + 1
  | .slice elems spare => uptoBulkAll elems + uptoBulkAll spare + 1
  | .agg parts => uptoBulkAll parts + 1
  | .iface _ d => uptoBulk d + 1
  | .map entries => uptoBulkEntries entries + 1
  | .held _ => 1
def uptoBulkAll {H : Type} : List (DataW H) → Nat
  | [] => 0
  | d :: r => uptoBulk d + uptoBulkAll r
def uptoBulkEntries {H : Type} : List (Lit × DataW H) → Nat
  | [] => 0
  | x :: r => uptoBulkEntry x + uptoBulkEntries r
def uptoBulkEntry {H : Type} : Lit × DataW H → Nat
  | (.string bytes, d) => bytes.length + uptoBulk d + 1
  | (_, d) => uptoBulk d + 1
 end
def uptoSmall : (H : Type) → List (DataW H) → Bool := fun _ ds => decide (uptoBulkAll ds ≤ 1048576)
def OpenSpec.upto (s : _root_.Go.ChangeSpec) : _root_.Go.OpenSpec := { _root_.Go.OpenSpec.ofChange s with cond := some uptoSmall }

/-- 'tmesislaw12.OperAll', WHERE WHAT IT READS IS OF BULK AT MOST 1048576: true; the input reads as it did. -/
def operAllUptoRow : OpenClaim := { program := "ytcadeannnjpaeaadoor", sum := "4f5609edbee7befcf13ce58988577c57f38b66eaa0582c96f7bca7813d239400", func := "tmesis/tmesislaw12.OperAll", spec := "operAll", inPlace := ["internal/bytealg.IndexByteString", "internal/bytealg.IndexString", "internal/bytealg.IndexByte"], unfollowed := true, recurses := true, named := ["tmesis/oper.kinds", "internal/bytealg.MaxLen", "tmesis/class.sets"], apart := false, laid := [("tmesis/class.sets", laid_tmesis_class_sets), ("tmesis/oper.kinds", laid_tmesis_oper_kinds)], narrowed := true }
def OperAllUptoSaid : Prop := operAllUptoRow.holds Tryd.pinned (OpenSpec.upto operAllSpec)

/-- 'tmesislaw12.OperSimple', WHERE WHAT IT READS IS OF BULK AT MOST 1048576: true; the input reads as it did. -/
def operSimpleUptoRow : OpenClaim := { program := "ytcadeannnjpaeaadoor", sum := "4f5609edbee7befcf13ce58988577c57f38b66eaa0582c96f7bca7813d239400", func := "tmesis/tmesislaw12.OperSimple", spec := "operSimple", inPlace := ["internal/bytealg.IndexByteString", "internal/bytealg.IndexString", "internal/bytealg.IndexByte"], unfollowed := true, recurses := true, named := ["tmesis/oper.kinds", "internal/bytealg.MaxLen", "tmesis/class.sets"], apart := false, laid := [("tmesis/class.sets", laid_tmesis_class_sets), ("tmesis/oper.kinds", laid_tmesis_oper_kinds)], narrowed := true }
def OperSimpleUptoSaid : Prop := operSimpleUptoRow.holds Tryd.pinned (OpenSpec.upto operSimpleSpec)

/-- 'tmesislaw12.OperFirst', WHERE WHAT IT READS IS OF BULK AT MOST 1048576: true; the input reads as it did. -/
def operFirstUptoRow : OpenClaim := { program := "ytcadeannnjpaeaadoor", sum := "4f5609edbee7befcf13ce58988577c57f38b66eaa0582c96f7bca7813d239400", func := "tmesis/tmesislaw12.OperFirst", spec := "operFirst", inPlace := ["internal/bytealg.IndexByteString", "internal/bytealg.IndexString", "internal/bytealg.IndexByte"], unfollowed := true, recurses := true, named := ["tmesis/oper.kinds", "internal/bytealg.MaxLen", "tmesis/class.sets"], apart := false, laid := [("tmesis/class.sets", laid_tmesis_class_sets), ("tmesis/oper.kinds", laid_tmesis_oper_kinds)], narrowed := true }
def OperFirstUptoSaid : Prop := operFirstUptoRow.holds Tryd.pinned (OpenSpec.upto operFirstSpec)

/-- 'tmesislaw12.OperSides', WHERE WHAT IT READS IS OF BULK AT MOST 1048576: true; the input reads as it did. -/
def operSidesUptoRow : OpenClaim := { program := "ytcadeannnjpaeaadoor", sum := "4f5609edbee7befcf13ce58988577c57f38b66eaa0582c96f7bca7813d239400", func := "tmesis/tmesislaw12.OperSides", spec := "operSides", inPlace := ["internal/bytealg.IndexByteString", "internal/bytealg.IndexString", "internal/bytealg.IndexByte"], unfollowed := true, recurses := true, named := ["tmesis/oper.kinds", "internal/bytealg.MaxLen", "tmesis/class.sets"], apart := false, laid := [("tmesis/class.sets", laid_tmesis_class_sets), ("tmesis/oper.kinds", laid_tmesis_oper_kinds)], narrowed := true }
def OperSidesUptoSaid : Prop := operSidesUptoRow.holds Tryd.pinned (OpenSpec.upto operSidesSpec)

end Rows
end Go.Proofs.YtcadeannnjpaeaaDoor
