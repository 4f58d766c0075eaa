/-
  NARROWER THAN 'FOR EVERY INPUT', by the rows' own cells (each row's printed sentence says how): TypesFind: loops, laid · TypesExchange: loops, laid · TypesRemoves: loops, laid · TypesGrows: loops, laid.
  DERIVED. THE GIVEN ROWS OF THIS SEAT. 4 by the template 'for every input the law returns true; each argument reads behind the call as it read before'; 0 by the template 'total and deterministic' (their statements: YtojjfdegkooknaaGreatDoorTotals.lean).
  GIVEN WITH THE SEED: the statements are not yours to turn. If you find one false, say at which input.
  Laid BY PROGRAM, IN A SANDBOX (cutbox-rows.mjs): the forced cells as the released guide's own fill.sh prints them over the translation 06167995fc7b2d60… (all of the seat's roots in one cut). By AI agents, Wed Nov 11 2026. No macro, syntax, notation, axiom, sorry.
-/
import Derived.Test.YtojjfdegkooknaaGreatDoorChecked
import GoSem.PinnedTables
import GoSem.Claim
import GoSem.ClaimJoined
import GoSem.ClaimMapViews
import Derived.JoinedTies
import Derived.KernelRfl
namespace Go.Proofs.YtojjfdegkooknaaGreatDoor
/- THE CELL 'sum', in the pinned program and in every row, IS THE sha256 OF THE DUMP (.gsa) THAT YtojjfdegkooknaaGreatDoorProg.lean LOADS. Nothing in Lean hashes anything: it is a label: what it is worth is what the hold of that sum in a sandbox is worth. -/
noncomputable def Tryz.pinned : Pinned := { name := "ytojjfdegkooknaagreatdoor", sum := "06167995fc7b2d6000c8c4332436ec6b5a8c436003e82987aa714818d6f68fbf", checked := Tryz.checked }
namespace Rows
def none {H : Type} : Left H := { results := [], args := [] }

/- WHAT THE LISTED PACKAGE-LEVEL VARIABLES READ AS WHEN THE CALL BEGINS. Each datum BY PROGRAM (the guide's laid-datum.mjs) off the statement by which the dump's own 'gosem.cut.vars' lays the variable. In a bare row this is a premise. The card (YtojjfdegkooknaaGreatDoorCards.lean) ties it to the program's text. -/
def laid_sepal_tree_partsOf {H : Type} : DataW H := .agg [.lit (.int .i64 0), .lit (.int .i64 33), .lit (.int .i64 21), .lit (.int .i64 49), .lit (.int .i64 9), .lit (.int .i64 1), .lit (.int .i64 1), .lit (.int .i64 128), .lit (.int .i64 3136), .lit (.int .i64 1600), .lit (.int .i64 64), .lit (.int .i64 1026), .lit (.int .i64 384)]
def laid_unicode_utf8_acceptRanges {H : Type} : DataW H := .agg [.agg [.lit (.int .u8 128), .lit (.int .u8 191)], .agg [.lit (.int .u8 160), .lit (.int .u8 191)], .agg [.lit (.int .u8 128), .lit (.int .u8 159)], .agg [.lit (.int .u8 144), .lit (.int .u8 191)], .agg [.lit (.int .u8 128), .lit (.int .u8 143)], .agg [.lit (.int .u8 0), .lit (.int .u8 0)], .agg [.lit (.int .u8 0), .lit (.int .u8 0)], .agg [.lit (.int .u8 0), .lit (.int .u8 0)], .agg [.lit (.int .u8 0), .lit (.int .u8 0)], .agg [.lit (.int .u8 0), .lit (.int .u8 0)], .agg [.lit (.int .u8 0), .lit (.int .u8 0)], .agg [.lit (.int .u8 0), .lit (.int .u8 0)], .agg [.lit (.int .u8 0), .lit (.int .u8 0)], .agg [.lit (.int .u8 0), .lit (.int .u8 0)], .agg [.lit (.int .u8 0), .lit (.int .u8 0)], .agg [.lit (.int .u8 0), .lit (.int .u8 0)]]
/-- One of Go's own tables, pinned by name: the form's constant. -/
def laid_unicode_utf8_first : DataW Unit := Go.Pinned.utf8First

/-- 'sepallaw05.TypesFind': WHATEVER THE INPUT: true; the input reads as it did. -/
def typesFindSpec : ChangeSpec := { name := "typesFind", fn := fun _ => fun
  | [d1, d2, d3] => { results := [.lit (.bool true)], args := [d1, d2, d3] }
  | _ => none }
def typesFindRow : OpenClaim := { program := "ytojjfdegkooknaagreatdoor", sum := "06167995fc7b2d6000c8c4332436ec6b5a8c436003e82987aa714818d6f68fbf", func := "sepal/sepallaw05.TypesFind", spec := "typesFind", unfollowed := true, recurses := true, named := ["sepal/tree.partsOf"], loops := true, apart := false, laid := [("sepal/tree.partsOf", laid_sepal_tree_partsOf)] }
def TypesFindSaid : Prop := typesFindRow.holds Tryz.pinned (OpenSpec.ofChange typesFindSpec)

/-- ITS FALSE NEIGHBOUR: 'it returns false'. Refute it at one input. -/
def typesFindWrong : ChangeSpec := { name := "typesFind", fn := fun _ => fun
  | [d1, d2, d3] => { results := [.lit (.bool false)], args := [d1, d2, d3] }
  | _ => none }
def TypesFindWrongFalsely : Prop := typesFindRow.holds Tryz.pinned (OpenSpec.ofChange typesFindWrong)

/-- 'sepallaw05.TypesExchange': WHATEVER THE INPUT: true; the input reads as it did. -/
def typesExchangeSpec : ChangeSpec := { name := "typesExchange", fn := fun _ => fun
  | [d] => { results := [.lit (.bool true)], args := [d] }
  | _ => none }
def typesExchangeRow : OpenClaim := { program := "ytojjfdegkooknaagreatdoor", sum := "06167995fc7b2d6000c8c4332436ec6b5a8c436003e82987aa714818d6f68fbf", func := "sepal/sepallaw05.TypesExchange", spec := "typesExchange", unfollowed := true, recurses := true, named := ["sepal/tree.partsOf"], loops := true, apart := false, laid := [("sepal/tree.partsOf", laid_sepal_tree_partsOf)] }
def TypesExchangeSaid : Prop := typesExchangeRow.holds Tryz.pinned (OpenSpec.ofChange typesExchangeSpec)

/-- ITS FALSE NEIGHBOUR: 'it returns false'. Refute it at one input. -/
def typesExchangeWrong : ChangeSpec := { name := "typesExchange", fn := fun _ => fun
  | [d] => { results := [.lit (.bool false)], args := [d] }
  | _ => none }
def TypesExchangeWrongFalsely : Prop := typesExchangeRow.holds Tryz.pinned (OpenSpec.ofChange typesExchangeWrong)

/-- 'sepallaw05.TypesRemoves': WHATEVER THE INPUT: true; the input reads as it did. -/
def typesRemovesSpec : ChangeSpec := { name := "typesRemoves", fn := fun _ => fun
  | [d1, d2] => { results := [.lit (.bool true)], args := [d1, d2] }
  | _ => none }
def typesRemovesRow : OpenClaim := { program := "ytojjfdegkooknaagreatdoor", sum := "06167995fc7b2d6000c8c4332436ec6b5a8c436003e82987aa714818d6f68fbf", func := "sepal/sepallaw05.TypesRemoves", spec := "typesRemoves", unfollowed := true, recurses := true, named := ["sepal/tree.partsOf"], loops := true, apart := false, laid := [("sepal/tree.partsOf", laid_sepal_tree_partsOf)] }
def TypesRemovesSaid : Prop := typesRemovesRow.holds Tryz.pinned (OpenSpec.ofChange typesRemovesSpec)

/-- ITS FALSE NEIGHBOUR: 'it returns false'. Refute it at one input. -/
def typesRemovesWrong : ChangeSpec := { name := "typesRemoves", fn := fun _ => fun
  | [d1, d2] => { results := [.lit (.bool false)], args := [d1, d2] }
  | _ => none }
def TypesRemovesWrongFalsely : Prop := typesRemovesRow.holds Tryz.pinned (OpenSpec.ofChange typesRemovesWrong)

/-- 'sepallaw05.TypesGrows': WHATEVER THE INPUT: true; the input reads as it did. -/
def typesGrowsSpec : ChangeSpec := { name := "typesGrows", fn := fun _ => fun
  | [d1, d2, d3, d4] => { results := [.lit (.bool true)], args := [d1, d2, d3, d4] }
  | _ => none }
def typesGrowsRow : OpenClaim := { program := "ytojjfdegkooknaagreatdoor", sum := "06167995fc7b2d6000c8c4332436ec6b5a8c436003e82987aa714818d6f68fbf", func := "sepal/sepallaw05.TypesGrows", spec := "typesGrows", inPlace := ["internal/bytealg.IndexByteString", "internal/bytealg.IndexString"], unfollowed := true, recurses := true, named := ["sepal/tree.partsOf", "unicode/utf8.first", "unicode/utf8.acceptRanges", "internal/bytealg.MaxLen"], loops := true, apart := false, laid := [("unicode/utf8.acceptRanges", laid_unicode_utf8_acceptRanges), ("sepal/tree.partsOf", laid_sepal_tree_partsOf), ("unicode/utf8.first", laid_unicode_utf8_first)] }
def TypesGrowsSaid : Prop := typesGrowsRow.holds Tryz.pinned (OpenSpec.ofChange typesGrowsSpec)

/-- ITS FALSE NEIGHBOUR: 'it returns false'. Refute it at one input. -/
def typesGrowsWrong : ChangeSpec := { name := "typesGrows", fn := fun _ => fun
  | [d1, d2, d3, d4] => { results := [.lit (.bool false)], args := [d1, d2, d3, d4] }
  | _ => none }
def TypesGrowsWrongFalsely : Prop := typesGrowsRow.holds Tryz.pinned (OpenSpec.ofChange typesGrowsWrong)

/- THE SECOND FORM. 'bulk': how many values and letters a reading holds, each counted each time it is reached (what is shared counts as often as it is met; a slice's spare places count too). A statement '..UptoSaid' is the law's where the arguments, and the package variables that the reading takes, are together of bulk at most 1048576: NARROWER than '..Said'. Prove '..Said' where nothing that the law and all that it calls make is longer than what came in: it says more and counts as full. Else prove '..UptoSaid'. A law counts once. -/
mutual
def uptoBulk {H : Type} : DataW H → Nat
  | .lit (.string bytes) => bytes.length + 1
  | .lit _ => 1
  | .nil => 1
  | .ptr d => uptoBulk d + 1
  | .slice elems spare => uptoBulkAll elems + uptoBulkAll spare + 1
  | .agg parts => uptoBulkAll parts + 1
  | .iface _ d => uptoBulk d + 1
  | .map entries => uptoBulkEntries entries + 1
  | .held _ => 1
def uptoBulkAll {H : Type} : List (DataW H) → Nat
  | [] => 0
  | d :: r => uptoBulk d + uptoBulkAll r
def uptoBulkEntries {H : Type} : List (Lit × DataW H) → Nat
  | [] => 0
  | x :: r => uptoBulkEntry x + uptoBulkEntries r
def uptoBulkEntry {H : Type} : Lit × DataW H → Nat
  | (.string bytes, d) => bytes.length + uptoBulk d + 1
  | (_, d) => uptoBulk d + 1
 end
def uptoSmall : (H : Type) → List (DataW H) → Bool := fun _ ds => decide (uptoBulkAll ds ≤ 1048576)
def OpenSpec.upto (s : _root_.Go.ChangeSpec) : _root_.Go.OpenSpec := { _root_.Go.OpenSpec.ofChange s with cond := some uptoSmall }

/-- 'sepallaw05.TypesFind', WHERE WHAT IT READS IS OF BULK AT MOST 1048576: true; the input reads as it did. -/
def typesFindUptoRow : OpenClaim := { program := "ytojjfdegkooknaagreatdoor", sum := "06167995fc7b2d6000c8c4332436ec6b5a8c436003e82987aa714818d6f68fbf", func := "sepal/sepallaw05.TypesFind", spec := "typesFind", unfollowed := true, recurses := true, named := ["sepal/tree.partsOf"], loops := true, apart := false, laid := [("sepal/tree.partsOf", laid_sepal_tree_partsOf)], narrowed := true }
def TypesFindUptoSaid : Prop := typesFindUptoRow.holds Tryz.pinned (OpenSpec.upto typesFindSpec)

/-- 'sepallaw05.TypesExchange', WHERE WHAT IT READS IS OF BULK AT MOST 1048576: true; the input reads as it did. -/
def typesExchangeUptoRow : OpenClaim := { program := "ytojjfdegkooknaagreatdoor", sum := "06167995fc7b2d6000c8c4332436ec6b5a8c436003e82987aa714818d6f68fbf", func := "sepal/sepallaw05.TypesExchange", spec := "typesExchange", unfollowed := true, recurses := true, named := ["sepal/tree.partsOf"], loops := true, apart := false, laid := [("sepal/tree.partsOf", laid_sepal_tree_partsOf)], narrowed := true }
def TypesExchangeUptoSaid : Prop := typesExchangeUptoRow.holds Tryz.pinned (OpenSpec.upto typesExchangeSpec)

/-- 'sepallaw05.TypesRemoves', WHERE WHAT IT READS IS OF BULK AT MOST 1048576: true; the input reads as it did. -/
def typesRemovesUptoRow : OpenClaim := { program := "ytojjfdegkooknaagreatdoor", sum := "06167995fc7b2d6000c8c4332436ec6b5a8c436003e82987aa714818d6f68fbf", func := "sepal/sepallaw05.TypesRemoves", spec := "typesRemoves", unfollowed := true, recurses := true, named := ["sepal/tree.partsOf"], loops := true, apart := false, laid := [("sepal/tree.partsOf", laid_sepal_tree_partsOf)], narrowed := true }
def TypesRemovesUptoSaid : Prop := typesRemovesUptoRow.holds Tryz.pinned (OpenSpec.upto typesRemovesSpec)

/-- 'sepallaw05.TypesGrows', WHERE WHAT IT READS IS OF BULK AT MOST 1048576: true; the input reads as it did. -/
def typesGrowsUptoRow : OpenClaim := { program := "ytojjfdegkooknaagreatdoor", sum := "06167995fc7b2d6000c8c4332436ec6b5a8c436003e82987aa714818d6f68fbf", func := "sepal/sepallaw05.TypesGrows", spec := "typesGrows", inPlace := ["internal/bytealg.IndexByteString", "internal/bytealg.IndexString"], unfollowed := true, recurses := true, named := ["sepal/tree.partsOf", "unicode/utf8.first", "unicode/utf8.acceptRanges", "internal/bytealg.MaxLen"], loops := true, apart := false, laid := [("unicode/utf8.acceptRanges", laid_unicode_utf8_acceptRanges), ("sepal/tree.partsOf", laid_sepal_tree_partsOf), ("unicode/utf8.first", laid_unicode_utf8_first)], narrowed := true }
def TypesGrowsUptoSaid : Prop := typesGrowsUptoRow.holds Tryz.pinned (OpenSpec.upto typesGrowsSpec)

end Rows
end Go.Proofs.YtojjfdegkooknaaGreatDoor
