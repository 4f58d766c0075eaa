/-
  NARROWER THAN 'FOR EVERY INPUT', by the rows' own cells (each row's printed sentence says how): FlowAt: loops, laid · FlowReplaces: loops, laid · FlowSame: loops, laid · FlowUnrolls: loops, laid · FlowJoins: loops, laid.
  DERIVED. THE GIVEN ROWS OF THIS SEAT. 5 by the template 'for every input the law returns true; each argument reads behind the call as it read before'; 0 by the template 'total and deterministic' (their statements: YtbalioicgpgehaaGreatDoorTotals.lean).
  GIVEN WITH THE SEED: the statements are not yours to turn. If you find one false, say at which input.
  Laid BY PROGRAM, IN A SANDBOX (cutbox-rows.mjs): the forced cells as the released guide's own fill.sh prints them over the translation 9abfe46df9f65f25… (all of the seat's roots in one cut). By AI agents, Wed Nov 11 2026. No macro, syntax, notation, axiom, sorry.
-/
import Derived.Test.YtbalioicgpgehaaGreatDoorChecked
import GoSem.PinnedTables
import GoSem.Claim
import GoSem.ClaimJoined
import GoSem.ClaimMapViews
import Derived.JoinedTies
import Derived.KernelRfl
namespace Go.Proofs.YtbalioicgpgehaaGreatDoor
/- THE CELL 'sum', in the pinned program and in every row, IS THE sha256 OF THE DUMP (.gsa) THAT YtbalioicgpgehaaGreatDoorProg.lean LOADS. Nothing in Lean hashes anything: it is a label: what it is worth is what the hold of that sum in a sandbox is worth. -/
noncomputable def Tryz.pinned : Pinned := { name := "ytbalioicgpgehaagreatdoor", sum := "9abfe46df9f65f25fd24098323820ea8ecad0fefc99391706b412e21bfe7ecf1", checked := Tryz.checked }
namespace Rows
def none {H : Type} : Left H := { results := [], args := [] }

/- WHAT THE LISTED PACKAGE-LEVEL VARIABLES READ AS WHEN THE CALL BEGINS. Each datum BY PROGRAM (the guide's laid-datum.mjs) off the statement by which the dump's own 'gosem.cut.vars' lays the variable. In a bare row this is a premise. The card (YtbalioicgpgehaaGreatDoorCards.lean) ties it to the program's text. -/
def laid_unicode_utf8_acceptRanges {H : Type} : DataW H := .agg [.agg [.lit (.int .u8 128), .lit (.int .u8 191)], .agg [.lit (.int .u8 160), .lit (.int .u8 191)], .agg [.lit (.int .u8 128), .lit (.int .u8 159)], .agg [.lit (.int .u8 144), .lit (.int .u8 191)], .agg [.lit (.int .u8 128), .lit (.int .u8 143)], .agg [.lit (.int .u8 0), .lit (.int .u8 0)], .agg [.lit (.int .u8 0), .lit (.int .u8 0)], .agg [.lit (.int .u8 0), .lit (.int .u8 0)], .agg [.lit (.int .u8 0), .lit (.int .u8 0)], .agg [.lit (.int .u8 0), .lit (.int .u8 0)], .agg [.lit (.int .u8 0), .lit (.int .u8 0)], .agg [.lit (.int .u8 0), .lit (.int .u8 0)], .agg [.lit (.int .u8 0), .lit (.int .u8 0)], .agg [.lit (.int .u8 0), .lit (.int .u8 0)], .agg [.lit (.int .u8 0), .lit (.int .u8 0)], .agg [.lit (.int .u8 0), .lit (.int .u8 0)]]
def laid_sepal_tree_partsOf {H : Type} : DataW H := .agg [.lit (.int .i64 0), .lit (.int .i64 33), .lit (.int .i64 21), .lit (.int .i64 49), .lit (.int .i64 9), .lit (.int .i64 1), .lit (.int .i64 1), .lit (.int .i64 128), .lit (.int .i64 3136), .lit (.int .i64 1600), .lit (.int .i64 64), .lit (.int .i64 1026), .lit (.int .i64 384)]
/-- One of Go's own tables, pinned by name: the form's constant. -/
def laid_unicode_utf8_first : DataW Unit := Go.Pinned.utf8First

/-- 'sepallaw11.FlowAt': WHATEVER THE INPUT: true; the input reads as it did. -/
def flowAtSpec : ChangeSpec := { name := "flowAt", fn := fun _ => fun
  | [d1, d2] => { results := [.lit (.bool true)], args := [d1, d2] }
  | _ => none }
def flowAtRow : OpenClaim := { program := "ytbalioicgpgehaagreatdoor", sum := "9abfe46df9f65f25fd24098323820ea8ecad0fefc99391706b412e21bfe7ecf1", func := "sepal/sepallaw11.FlowAt", spec := "flowAt", inPlace := ["internal/bytealg.IndexByteString", "internal/bytealg.IndexString"], unfollowed := true, recurses := true, named := ["unicode/utf8.first", "unicode/utf8.acceptRanges", "sepal/tree.partsOf", "internal/bytealg.MaxLen"], loops := true, apart := false, laid := [("unicode/utf8.acceptRanges", laid_unicode_utf8_acceptRanges), ("sepal/tree.partsOf", laid_sepal_tree_partsOf), ("unicode/utf8.first", laid_unicode_utf8_first)] }
def FlowAtSaid : Prop := flowAtRow.holds Tryz.pinned (OpenSpec.ofChange flowAtSpec)

/-- ITS FALSE NEIGHBOUR: 'it returns false'. Refute it at one input. -/
def flowAtWrong : ChangeSpec := { name := "flowAt", fn := fun _ => fun
  | [d1, d2] => { results := [.lit (.bool false)], args := [d1, d2] }
  | _ => none }
def FlowAtWrongFalsely : Prop := flowAtRow.holds Tryz.pinned (OpenSpec.ofChange flowAtWrong)

/-- 'sepallaw11.FlowReplaces': WHATEVER THE INPUT: true; the input reads as it did. -/
def flowReplacesSpec : ChangeSpec := { name := "flowReplaces", fn := fun _ => fun
  | [d1, d2, d3] => { results := [.lit (.bool true)], args := [d1, d2, d3] }
  | _ => none }
def flowReplacesRow : OpenClaim := { program := "ytbalioicgpgehaagreatdoor", sum := "9abfe46df9f65f25fd24098323820ea8ecad0fefc99391706b412e21bfe7ecf1", func := "sepal/sepallaw11.FlowReplaces", spec := "flowReplaces", inPlace := ["internal/bytealg.IndexByteString", "internal/bytealg.IndexString", "slices.overlaps[sepal/api.Stmt]"], unfollowed := true, recurses := true, named := ["unicode/utf8.first", "unicode/utf8.acceptRanges", "sepal/tree.partsOf", "internal/bytealg.MaxLen"], loops := true, apart := false, laid := [("unicode/utf8.acceptRanges", laid_unicode_utf8_acceptRanges), ("sepal/tree.partsOf", laid_sepal_tree_partsOf), ("unicode/utf8.first", laid_unicode_utf8_first)] }
def FlowReplacesSaid : Prop := flowReplacesRow.holds Tryz.pinned (OpenSpec.ofChange flowReplacesSpec)

/-- ITS FALSE NEIGHBOUR: 'it returns false'. Refute it at one input. -/
def flowReplacesWrong : ChangeSpec := { name := "flowReplaces", fn := fun _ => fun
  | [d1, d2, d3] => { results := [.lit (.bool false)], args := [d1, d2, d3] }
  | _ => none }
def FlowReplacesWrongFalsely : Prop := flowReplacesRow.holds Tryz.pinned (OpenSpec.ofChange flowReplacesWrong)

/-- 'sepallaw11.FlowSame': WHATEVER THE INPUT: true; the input reads as it did. -/
def flowSameSpec : ChangeSpec := { name := "flowSame", fn := fun _ => fun
  | [d1, d2, d3] => { results := [.lit (.bool true)], args := [d1, d2, d3] }
  | _ => none }
def flowSameRow : OpenClaim := { program := "ytbalioicgpgehaagreatdoor", sum := "9abfe46df9f65f25fd24098323820ea8ecad0fefc99391706b412e21bfe7ecf1", func := "sepal/sepallaw11.FlowSame", spec := "flowSame", inPlace := ["internal/bytealg.IndexByteString", "internal/bytealg.IndexString", "slices.overlaps[sepal/api.Stmt]"], unfollowed := true, recurses := true, named := ["unicode/utf8.first", "unicode/utf8.acceptRanges", "sepal/tree.partsOf", "internal/bytealg.MaxLen"], loops := true, apart := false, laid := [("unicode/utf8.acceptRanges", laid_unicode_utf8_acceptRanges), ("sepal/tree.partsOf", laid_sepal_tree_partsOf), ("unicode/utf8.first", laid_unicode_utf8_first)] }
def FlowSameSaid : Prop := flowSameRow.holds Tryz.pinned (OpenSpec.ofChange flowSameSpec)

/-- ITS FALSE NEIGHBOUR: 'it returns false'. Refute it at one input. -/
def flowSameWrong : ChangeSpec := { name := "flowSame", fn := fun _ => fun
  | [d1, d2, d3] => { results := [.lit (.bool false)], args := [d1, d2, d3] }
  | _ => none }
def FlowSameWrongFalsely : Prop := flowSameRow.holds Tryz.pinned (OpenSpec.ofChange flowSameWrong)

/-- 'sepallaw11.FlowUnrolls': WHATEVER THE INPUT: true; the input reads as it did. -/
def flowUnrollsSpec : ChangeSpec := { name := "flowUnrolls", fn := fun _ => fun
  | [d1, d2] => { results := [.lit (.bool true)], args := [d1, d2] }
  | _ => none }
def flowUnrollsRow : OpenClaim := { program := "ytbalioicgpgehaagreatdoor", sum := "9abfe46df9f65f25fd24098323820ea8ecad0fefc99391706b412e21bfe7ecf1", func := "sepal/sepallaw11.FlowUnrolls", spec := "flowUnrolls", inPlace := ["internal/bytealg.IndexByteString", "internal/bytealg.IndexString"], unfollowed := true, recurses := true, named := ["unicode/utf8.first", "unicode/utf8.acceptRanges", "sepal/tree.partsOf", "internal/bytealg.MaxLen"], loops := true, apart := false, laid := [("unicode/utf8.acceptRanges", laid_unicode_utf8_acceptRanges), ("sepal/tree.partsOf", laid_sepal_tree_partsOf), ("unicode/utf8.first", laid_unicode_utf8_first)] }
def FlowUnrollsSaid : Prop := flowUnrollsRow.holds Tryz.pinned (OpenSpec.ofChange flowUnrollsSpec)

/-- ITS FALSE NEIGHBOUR: 'it returns false'. Refute it at one input. -/
def flowUnrollsWrong : ChangeSpec := { name := "flowUnrolls", fn := fun _ => fun
  | [d1, d2] => { results := [.lit (.bool false)], args := [d1, d2] }
  | _ => none }
def FlowUnrollsWrongFalsely : Prop := flowUnrollsRow.holds Tryz.pinned (OpenSpec.ofChange flowUnrollsWrong)

/-- 'sepallaw11.FlowJoins': WHATEVER THE INPUT: true; the input reads as it did. -/
def flowJoinsSpec : ChangeSpec := { name := "flowJoins", fn := fun _ => fun
  | [d1, d2, d3] => { results := [.lit (.bool true)], args := [d1, d2, d3] }
  | _ => none }
def flowJoinsRow : OpenClaim := { program := "ytbalioicgpgehaagreatdoor", sum := "9abfe46df9f65f25fd24098323820ea8ecad0fefc99391706b412e21bfe7ecf1", func := "sepal/sepallaw11.FlowJoins", spec := "flowJoins", inPlace := ["internal/bytealg.IndexByteString", "internal/bytealg.IndexString"], unfollowed := true, recurses := true, named := ["unicode/utf8.first", "unicode/utf8.acceptRanges", "sepal/tree.partsOf", "internal/bytealg.MaxLen"], loops := true, apart := false, laid := [("unicode/utf8.acceptRanges", laid_unicode_utf8_acceptRanges), ("sepal/tree.partsOf", laid_sepal_tree_partsOf), ("unicode/utf8.first", laid_unicode_utf8_first)] }
def FlowJoinsSaid : Prop := flowJoinsRow.holds Tryz.pinned (OpenSpec.ofChange flowJoinsSpec)

/-- ITS FALSE NEIGHBOUR: 'it returns false'. Refute it at one input. -/
def flowJoinsWrong : ChangeSpec := { name := "flowJoins", fn := fun _ => fun
  | [d1, d2, d3] => { results := [.lit (.bool false)], args := [d1, d2, d3] }
  | _ => none }
def FlowJoinsWrongFalsely : Prop := flowJoinsRow.holds Tryz.pinned (OpenSpec.ofChange flowJoinsWrong)

/- THE SECOND FORM. 'bulk': how many values and letters a reading holds, each counted each time it is reached (what is shared counts as often as it is met; a slice's spare places count too). A statement '..UptoSaid' is the law's where the arguments, and the package variables that the reading takes, are together of bulk at most 1048576: NARROWER than '..Said'. Prove '..Said' where nothing that the law and all that it calls make is longer than what came in: it says more and counts as full. Else prove '..UptoSaid'. A law counts once. -/
mutual
def uptoBulk {H : Type} : DataW H → Nat
  | .lit (.string bytes) => bytes.length + 1
  | .lit _ => 1
  | .nil => 1
  | .ptr d => uptoBulk d + 1
  | .slice elems spare => uptoBulkAll elems + uptoBulkAll spare + 1
  | .agg parts => uptoBulkAll parts + 1
  | .iface _ d => uptoBulk d + 1
  | .map entries => uptoBulkEntries entries + 1
  | .held _ => 1
def uptoBulkAll {H : Type} : List (DataW H) → Nat
  | [] => 0
  | d :: r => uptoBulk d + uptoBulkAll r
def uptoBulkEntries {H : Type} : List (Lit × DataW H) → Nat
  | [] => 0
  | x :: r => uptoBulkEntry x + uptoBulkEntries r
def uptoBulkEntry {H : Type} : Lit × DataW H → Nat
  | (.string bytes, d) => bytes.length + uptoBulk d + 1
  | (_, d) => uptoBulk d + 1
 end
def uptoSmall : (H : Type) → List (DataW H) → Bool := fun _ ds => decide (uptoBulkAll ds ≤ 1048576)
def OpenSpec.upto (s : _root_.Go.ChangeSpec) : _root_.Go.OpenSpec := { _root_.Go.OpenSpec.ofChange s with cond := some uptoSmall }

/-- 'sepallaw11.FlowAt', WHERE WHAT IT READS IS OF BULK AT MOST 1048576: true; the input reads as it did. -/
def flowAtUptoRow : OpenClaim := { program := "ytbalioicgpgehaagreatdoor", sum := "9abfe46df9f65f25fd24098323820ea8ecad0fefc99391706b412e21bfe7ecf1", func := "sepal/sepallaw11.FlowAt", spec := "flowAt", inPlace := ["internal/bytealg.IndexByteString", "internal/bytealg.IndexString"], unfollowed := true, recurses := true, named := ["unicode/utf8.first", "unicode/utf8.acceptRanges", "sepal/tree.partsOf", "internal/bytealg.MaxLen"], loops := true, apart := false, laid := [("unicode/utf8.acceptRanges", laid_unicode_utf8_acceptRanges), ("sepal/tree.partsOf", laid_sepal_tree_partsOf), ("unicode/utf8.first", laid_unicode_utf8_first)], narrowed := true }
def FlowAtUptoSaid : Prop := flowAtUptoRow.holds Tryz.pinned (OpenSpec.upto flowAtSpec)

/-- 'sepallaw11.FlowReplaces', WHERE WHAT IT READS IS OF BULK AT MOST 1048576: true; the input reads as it did. -/
def flowReplacesUptoRow : OpenClaim := { program := "ytbalioicgpgehaagreatdoor", sum := "9abfe46df9f65f25fd24098323820ea8ecad0fefc99391706b412e21bfe7ecf1", func := "sepal/sepallaw11.FlowReplaces", spec := "flowReplaces", inPlace := ["internal/bytealg.IndexByteString", "internal/bytealg.IndexString", "slices.overlaps[sepal/api.Stmt]"], unfollowed := true, recurses := true, named := ["unicode/utf8.first", "unicode/utf8.acceptRanges", "sepal/tree.partsOf", "internal/bytealg.MaxLen"], loops := true, apart := false, laid := [("unicode/utf8.acceptRanges", laid_unicode_utf8_acceptRanges), ("sepal/tree.partsOf", laid_sepal_tree_partsOf), ("unicode/utf8.first", laid_unicode_utf8_first)], narrowed := true }
def FlowReplacesUptoSaid : Prop := flowReplacesUptoRow.holds Tryz.pinned (OpenSpec.upto flowReplacesSpec)

/-- 'sepallaw11.FlowSame', WHERE WHAT IT READS IS OF BULK AT MOST 1048576: true; the input reads as it did. -/
def flowSameUptoRow : OpenClaim := { program := "ytbalioicgpgehaagreatdoor", sum := "9abfe46df9f65f25fd24098323820ea8ecad0fefc99391706b412e21bfe7ecf1", func := "sepal/sepallaw11.FlowSame", spec := "flowSame", inPlace := ["internal/bytealg.IndexByteString", "internal/bytealg.IndexString", "slices.overlaps[sepal/api.Stmt]"], unfollowed := true, recurses := true, named := ["unicode/utf8.first", "unicode/utf8.acceptRanges", "sepal/tree.partsOf", "internal/bytealg.MaxLen"], loops := true, apart := false, laid := [("unicode/utf8.acceptRanges", laid_unicode_utf8_acceptRanges), ("sepal/tree.partsOf", laid_sepal_tree_partsOf), ("unicode/utf8.first", laid_unicode_utf8_first)], narrowed := true }
def FlowSameUptoSaid : Prop := flowSameUptoRow.holds Tryz.pinned (OpenSpec.upto flowSameSpec)

/-- 'sepallaw11.FlowUnrolls', WHERE WHAT IT READS IS OF BULK AT MOST 1048576: true; the input reads as it did. -/
def flowUnrollsUptoRow : OpenClaim := { program := "ytbalioicgpgehaagreatdoor", sum := "9abfe46df9f65f25fd24098323820ea8ecad0fefc99391706b412e21bfe7ecf1", func := "sepal/sepallaw11.FlowUnrolls", spec := "flowUnrolls", inPlace := ["internal/bytealg.IndexByteString", "internal/bytealg.IndexString"], unfollowed := true, recurses := true, named := ["unicode/utf8.first", "unicode/utf8.acceptRanges", "sepal/tree.partsOf", "internal/bytealg.MaxLen"], loops := true, apart := false, laid := [("unicode/utf8.acceptRanges", laid_unicode_utf8_acceptRanges), ("sepal/tree.partsOf", laid_sepal_tree_partsOf), ("unicode/utf8.first", laid_unicode_utf8_first)], narrowed := true }
def FlowUnrollsUptoSaid : Prop := flowUnrollsUptoRow.holds Tryz.pinned (OpenSpec.upto flowUnrollsSpec)

/-- 'sepallaw11.FlowJoins', WHERE WHAT IT READS IS OF BULK AT MOST 1048576: true; the input reads as it did. -/
def flowJoinsUptoRow : OpenClaim := { program := "ytbalioicgpgehaagreatdoor", sum := "9abfe46df9f65f25fd24098323820ea8ecad0fefc99391706b412e21bfe7ecf1", func := "sepal/sepallaw11.FlowJoins", spec := "flowJoins", inPlace := ["internal/bytealg.IndexByteString", "internal/bytealg.IndexString"], unfollowed := true, recurses := true, named := ["unicode/utf8.first", "unicode/utf8.acceptRanges", "sepal/tree.partsOf", "internal/bytealg.MaxLen"], loops := true, apart := false, laid := [("unicode/utf8.acceptRanges", laid_unicode_utf8_acceptRanges), ("sepal/tree.partsOf", laid_sepal_tree_partsOf), ("unicode/utf8.first", laid_unicode_utf8_first)], narrowed := true }
def FlowJoinsUptoSaid : Prop := flowJoinsUptoRow.holds Tryz.pinned (OpenSpec.upto flowJoinsSpec)

end Rows
end Go.Proofs.YtbalioicgpgehaaGreatDoor
