/-
  No cell of these rows narrows 'for every input' (looked for: loops, veiled, ifaces, maps, wideKeys, modest, calm, conditions, laid).
  DERIVED. THE GIVEN ROWS OF THIS SEAT. 8 by the template 'for every input the law returns true; each argument reads behind the call as it read before'; 0 by the template 'total and deterministic' (their statements: YtocgbooackofiaaTotals.lean).
  GIVEN WITH THE SEED: the statements are not yours to turn. If you find one false, say at which input.
  Laid BY PROGRAM, IN A SANDBOX (cutbox-rows.mjs): the forced cells as the released guide's own fill.sh prints them over the translation 125a32ee64cdac77… (all of the seat's roots in one cut). By AI agents, Wed Nov 11 2026. No macro, syntax, notation, axiom, sorry.
-/
import Derived.Test.YtocgbooackofiaaChecked
import GoSem.Claim
import GoSem.ClaimJoined
import GoSem.ClaimMapViews
import Derived.JoinedTies
import Derived.KernelRfl
namespace Go.Proofs.Ytocgbooackofiaa
/- THE CELL 'sum', in the pinned program and in every row, IS THE sha256 OF THE DUMP (.gsa) THAT YtocgbooackofiaaProg.lean LOADS. Nothing in Lean hashes anything: it is a label: what it is worth is what the hold of that sum in a sandbox is worth. -/
noncomputable def Try.pinned : Pinned := { name := "ytocgbooackofiaa", sum := "125a32ee64cdac7759541154cefecc6d677f7ac4952feb926056a128a2448f69", checked := Try.checked }
namespace Rows
def none {H : Type} : Left H := { results := [], args := [] }

/-- 'sepallaw06.MemoryValid': WHATEVER THE INPUT: true; the input reads as it did. -/
def memoryValidSpec : ChangeSpec := { name := "memoryValid", fn := fun _ => fun
  | [d1, d2] => { results := [.lit (.bool true)], args := [d1, d2] }
  | _ => none }
def memoryValidRow : OpenClaim := { program := "ytocgbooackofiaa", sum := "125a32ee64cdac7759541154cefecc6d677f7ac4952feb926056a128a2448f69", func := "sepal/sepallaw06.MemoryValid", spec := "memoryValid", inPlace := ["slices.overlaps[sepal/api.Block]"], unfollowed := true, recurses := true, apart := false }
def MemoryValidSaid : Prop := memoryValidRow.holds Try.pinned (OpenSpec.ofChange memoryValidSpec)

/-- ITS FALSE NEIGHBOUR: 'it returns false'. Refute it at one input. -/
def memoryValidWrong : ChangeSpec := { name := "memoryValid", fn := fun _ => fun
  | [d1, d2] => { results := [.lit (.bool false)], args := [d1, d2] }
  | _ => none }
def MemoryValidWrongFalsely : Prop := memoryValidRow.holds Try.pinned (OpenSpec.ofChange memoryValidWrong)

/-- 'sepallaw06.MemoryReads': WHATEVER THE INPUT: true; the input reads as it did. -/
def memoryReadsSpec : ChangeSpec := { name := "memoryReads", fn := fun _ => fun
  | [d1, d2, d3, d4] => { results := [.lit (.bool true)], args := [d1, d2, d3, d4] }
  | _ => none }
def memoryReadsRow : OpenClaim := { program := "ytocgbooackofiaa", sum := "125a32ee64cdac7759541154cefecc6d677f7ac4952feb926056a128a2448f69", func := "sepal/sepallaw06.MemoryReads", spec := "memoryReads", inPlace := ["slices.overlaps[sepal/api.Block]"], unfollowed := true, recurses := true, apart := false }
def MemoryReadsSaid : Prop := memoryReadsRow.holds Try.pinned (OpenSpec.ofChange memoryReadsSpec)

/-- ITS FALSE NEIGHBOUR: 'it returns false'. Refute it at one input. -/
def memoryReadsWrong : ChangeSpec := { name := "memoryReads", fn := fun _ => fun
  | [d1, d2, d3, d4] => { results := [.lit (.bool false)], args := [d1, d2, d3, d4] }
  | _ => none }
def MemoryReadsWrongFalsely : Prop := memoryReadsRow.holds Try.pinned (OpenSpec.ofChange memoryReadsWrong)

/-- 'sepallaw06.MemoryWrites': WHATEVER THE INPUT: true; the input reads as it did. -/
def memoryWritesSpec : ChangeSpec := { name := "memoryWrites", fn := fun _ => fun
  | [d1, d2, d3, d4, d5] => { results := [.lit (.bool true)], args := [d1, d2, d3, d4, d5] }
  | _ => none }
def memoryWritesRow : OpenClaim := { program := "ytocgbooackofiaa", sum := "125a32ee64cdac7759541154cefecc6d677f7ac4952feb926056a128a2448f69", func := "sepal/sepallaw06.MemoryWrites", spec := "memoryWrites", inPlace := ["slices.overlaps[sepal/api.Block]"], unfollowed := true, recurses := true, apart := false }
def MemoryWritesSaid : Prop := memoryWritesRow.holds Try.pinned (OpenSpec.ofChange memoryWritesSpec)

/-- ITS FALSE NEIGHBOUR: 'it returns false'. Refute it at one input. -/
def memoryWritesWrong : ChangeSpec := { name := "memoryWrites", fn := fun _ => fun
  | [d1, d2, d3, d4, d5] => { results := [.lit (.bool false)], args := [d1, d2, d3, d4, d5] }
  | _ => none }
def MemoryWritesWrongFalsely : Prop := memoryWritesRow.holds Try.pinned (OpenSpec.ofChange memoryWritesWrong)

/-- 'sepallaw06.MemoryNews': WHATEVER THE INPUT: true; the input reads as it did. -/
def memoryNewsSpec : ChangeSpec := { name := "memoryNews", fn := fun _ => fun
  | [d1, d2, d3, d4] => { results := [.lit (.bool true)], args := [d1, d2, d3, d4] }
  | _ => none }
def memoryNewsRow : OpenClaim := { program := "ytocgbooackofiaa", sum := "125a32ee64cdac7759541154cefecc6d677f7ac4952feb926056a128a2448f69", func := "sepal/sepallaw06.MemoryNews", spec := "memoryNews", inPlace := ["slices.overlaps[sepal/api.Block]"], unfollowed := true, recurses := true, apart := false }
def MemoryNewsSaid : Prop := memoryNewsRow.holds Try.pinned (OpenSpec.ofChange memoryNewsSpec)

/-- ITS FALSE NEIGHBOUR: 'it returns false'. Refute it at one input. -/
def memoryNewsWrong : ChangeSpec := { name := "memoryNews", fn := fun _ => fun
  | [d1, d2, d3, d4] => { results := [.lit (.bool false)], args := [d1, d2, d3, d4] }
  | _ => none }
def MemoryNewsWrongFalsely : Prop := memoryNewsRow.holds Try.pinned (OpenSpec.ofChange memoryNewsWrong)

/-- 'sepallaw06.MemoryFrees': WHATEVER THE INPUT: true; the input reads as it did. -/
def memoryFreesSpec : ChangeSpec := { name := "memoryFrees", fn := fun _ => fun
  | [d1, d2] => { results := [.lit (.bool true)], args := [d1, d2] }
  | _ => none }
def memoryFreesRow : OpenClaim := { program := "ytocgbooackofiaa", sum := "125a32ee64cdac7759541154cefecc6d677f7ac4952feb926056a128a2448f69", func := "sepal/sepallaw06.MemoryFrees", spec := "memoryFrees", inPlace := ["slices.overlaps[sepal/api.Block]"], unfollowed := true, recurses := true, apart := false }
def MemoryFreesSaid : Prop := memoryFreesRow.holds Try.pinned (OpenSpec.ofChange memoryFreesSpec)

/-- ITS FALSE NEIGHBOUR: 'it returns false'. Refute it at one input. -/
def memoryFreesWrong : ChangeSpec := { name := "memoryFrees", fn := fun _ => fun
  | [d1, d2] => { results := [.lit (.bool false)], args := [d1, d2] }
  | _ => none }
def MemoryFreesWrongFalsely : Prop := memoryFreesRow.holds Try.pinned (OpenSpec.ofChange memoryFreesWrong)

/-- 'sepallaw06.MemoryJoins': WHATEVER THE INPUT: true; the input reads as it did. -/
def memoryJoinsSpec : ChangeSpec := { name := "memoryJoins", fn := fun _ => fun
  | [d1, d2, d3] => { results := [.lit (.bool true)], args := [d1, d2, d3] }
  | _ => none }
def memoryJoinsRow : OpenClaim := { program := "ytocgbooackofiaa", sum := "125a32ee64cdac7759541154cefecc6d677f7ac4952feb926056a128a2448f69", func := "sepal/sepallaw06.MemoryJoins", spec := "memoryJoins", inPlace := ["slices.overlaps[sepal/api.Block]"], unfollowed := true, recurses := true, apart := false }
def MemoryJoinsSaid : Prop := memoryJoinsRow.holds Try.pinned (OpenSpec.ofChange memoryJoinsSpec)

/-- ITS FALSE NEIGHBOUR: 'it returns false'. Refute it at one input. -/
def memoryJoinsWrong : ChangeSpec := { name := "memoryJoins", fn := fun _ => fun
  | [d1, d2, d3] => { results := [.lit (.bool false)], args := [d1, d2, d3] }
  | _ => none }
def MemoryJoinsWrongFalsely : Prop := memoryJoinsRow.holds Try.pinned (OpenSpec.ofChange memoryJoinsWrong)

/-- 'sepallaw06.MemoryFrame': WHATEVER THE INPUT: true; the input reads as it did. -/
def memoryFrameSpec : ChangeSpec := { name := "memoryFrame", fn := fun _ => fun
  | [d1, d2, d3, d4, d5, d6, d7] => { results := [.lit (.bool true)], args := [d1, d2, d3, d4, d5, d6, d7] }
  | _ => none }
def memoryFrameRow : OpenClaim := { program := "ytocgbooackofiaa", sum := "125a32ee64cdac7759541154cefecc6d677f7ac4952feb926056a128a2448f69", func := "sepal/sepallaw06.MemoryFrame", spec := "memoryFrame", inPlace := ["slices.overlaps[sepal/api.Block]"], unfollowed := true, recurses := true, apart := false }
def MemoryFrameSaid : Prop := memoryFrameRow.holds Try.pinned (OpenSpec.ofChange memoryFrameSpec)

/-- ITS FALSE NEIGHBOUR: 'it returns false'. Refute it at one input. -/
def memoryFrameWrong : ChangeSpec := { name := "memoryFrame", fn := fun _ => fun
  | [d1, d2, d3, d4, d5, d6, d7] => { results := [.lit (.bool false)], args := [d1, d2, d3, d4, d5, d6, d7] }
  | _ => none }
def MemoryFrameWrongFalsely : Prop := memoryFrameRow.holds Try.pinned (OpenSpec.ofChange memoryFrameWrong)

/-- 'sepallaw06.MemoryReaches': WHATEVER THE INPUT: true; the input reads as it did. -/
def memoryReachesSpec : ChangeSpec := { name := "memoryReaches", fn := fun _ => fun
  | [d1, d2] => { results := [.lit (.bool true)], args := [d1, d2] }
  | _ => none }
def memoryReachesRow : OpenClaim := { program := "ytocgbooackofiaa", sum := "125a32ee64cdac7759541154cefecc6d677f7ac4952feb926056a128a2448f69", func := "sepal/sepallaw06.MemoryReaches", spec := "memoryReaches", inPlace := ["slices.overlaps[sepal/api.Block]"], unfollowed := true, recurses := true, apart := false }
def MemoryReachesSaid : Prop := memoryReachesRow.holds Try.pinned (OpenSpec.ofChange memoryReachesSpec)

/-- ITS FALSE NEIGHBOUR: 'it returns false'. Refute it at one input. -/
def memoryReachesWrong : ChangeSpec := { name := "memoryReaches", fn := fun _ => fun
  | [d1, d2] => { results := [.lit (.bool false)], args := [d1, d2] }
  | _ => none }
def MemoryReachesWrongFalsely : Prop := memoryReachesRow.holds Try.pinned (OpenSpec.ofChange memoryReachesWrong)

/- THE SECOND FORM. 'bulk': how many values and letters a reading holds, each counted each time it is reached (what is shared counts as often as it is met; a slice's spare places count too). A statement '..UptoSaid' is the law's where the arguments, and the package variables that the reading takes, are together of bulk at most 1048576: NARROWER than '..Said'. Prove '..Said' where nothing that the law and all that it calls make is longer than what came in: it says more and counts as full. Else prove '..UptoSaid'. A law counts once. -/
mutual
def uptoBulk {H : Type} : DataW H → Nat
  | .lit (.string bytes) => bytes.length + 1
  | .lit _ => 1
  | .nil => 1
  | .ptr d => uptoBulk d + 1
  | .slice elems spare => uptoBulkAll elems + uptoBulkAll spare + 1
  | .agg parts => uptoBulkAll parts + 1
  | .iface _ d => uptoBulk d + 1
  | .map entries => uptoBulkEntries entries + 1
  | .held _ => 1
def uptoBulkAll {H : Type} : List (DataW H) → Nat
  | [] => 0
  | d :: r => uptoBulk d + uptoBulkAll r
def uptoBulkEntries {H : Type} : List (Lit × DataW H) → Nat
  | [] => 0
  | x :: r => uptoBulkEntry x + uptoBulkEntries r
def uptoBulkEntry {H : Type} : Lit × DataW H → Nat
  | (.string bytes, d) => bytes.length + uptoBulk d + 1
  | (_, d) => uptoBulk d + 1
 end
def uptoSmall : (H : Type) → List (DataW H) → Bool := fun _ ds => decide (uptoBulkAll ds ≤ 1048576)
def OpenSpec.upto (s : _root_.Go.ChangeSpec) : _root_.Go.OpenSpec := { _root_.Go.OpenSpec.ofChange s with cond := some uptoSmall }

/-- 'sepallaw06.MemoryValid', WHERE WHAT IT READS IS OF BULK AT MOST 1048576: true; the input reads as it did. -/
def memoryValidUptoRow : OpenClaim := { program := "ytocgbooackofiaa", sum := "125a32ee64cdac7759541154cefecc6d677f7ac4952feb926056a128a2448f69", func := "sepal/sepallaw06.MemoryValid", spec := "memoryValid", inPlace := ["slices.overlaps[sepal/api.Block]"], unfollowed := true, recurses := true, apart := false, narrowed := true }
def MemoryValidUptoSaid : Prop := memoryValidUptoRow.holds Try.pinned (OpenSpec.upto memoryValidSpec)

/-- 'sepallaw06.MemoryReads', WHERE WHAT IT READS IS OF BULK AT MOST 1048576: true; the input reads as it did. -/
def memoryReadsUptoRow : OpenClaim := { program := "ytocgbooackofiaa", sum := "125a32ee64cdac7759541154cefecc6d677f7ac4952feb926056a128a2448f69", func := "sepal/sepallaw06.MemoryReads", spec := "memoryReads", inPlace := ["slices.overlaps[sepal/api.Block]"], unfollowed := true, recurses := true, apart := false, narrowed := true }
def MemoryReadsUptoSaid : Prop := memoryReadsUptoRow.holds Try.pinned (OpenSpec.upto memoryReadsSpec)

/-- 'sepallaw06.MemoryWrites', WHERE WHAT IT READS IS OF BULK AT MOST 1048576: true; the input reads as it did. -/
def memoryWritesUptoRow : OpenClaim := { program := "ytocgbooackofiaa", sum := "125a32ee64cdac7759541154cefecc6d677f7ac4952feb926056a128a2448f69", func := "sepal/sepallaw06.MemoryWrites", spec := "memoryWrites", inPlace := ["slices.overlaps[sepal/api.Block]"], unfollowed := true, recurses := true, apart := false, narrowed := true }
def MemoryWritesUptoSaid : Prop := memoryWritesUptoRow.holds Try.pinned (OpenSpec.upto memoryWritesSpec)

/-- 'sepallaw06.MemoryNews', WHERE WHAT IT READS IS OF BULK AT MOST 1048576: true; the input reads as it did. -/
def memoryNewsUptoRow : OpenClaim := { program := "ytocgbooackofiaa", sum := "125a32ee64cdac7759541154cefecc6d677f7ac4952feb926056a128a2448f69", func := "sepal/sepallaw06.MemoryNews", spec := "memoryNews", inPlace := ["slices.overlaps[sepal/api.Block]"], unfollowed := true, recurses := true, apart := false, narrowed := true }
def MemoryNewsUptoSaid : Prop := memoryNewsUptoRow.holds Try.pinned (OpenSpec.upto memoryNewsSpec)

/-- 'sepallaw06.MemoryFrees', WHERE WHAT IT READS IS OF BULK AT MOST 1048576: true; the input reads as it did. -/
def memoryFreesUptoRow : OpenClaim := { program := "ytocgbooackofiaa", sum := "125a32ee64cdac7759541154cefecc6d677f7ac4952feb926056a128a2448f69", func := "sepal/sepallaw06.MemoryFrees", spec := "memoryFrees", inPlace := ["slices.overlaps[sepal/api.Block]"], unfollowed := true, recurses := true, apart := false, narrowed := true }
def MemoryFreesUptoSaid : Prop := memoryFreesUptoRow.holds Try.pinned (OpenSpec.upto memoryFreesSpec)

/-- 'sepallaw06.MemoryJoins', WHERE WHAT IT READS IS OF BULK AT MOST 1048576: true; the input reads as it did. -/
def memoryJoinsUptoRow : OpenClaim := { program := "ytocgbooackofiaa", sum := "125a32ee64cdac7759541154cefecc6d677f7ac4952feb926056a128a2448f69", func := "sepal/sepallaw06.MemoryJoins", spec := "memoryJoins", inPlace := ["slices.overlaps[sepal/api.Block]"], unfollowed := true, recurses := true, apart := false, narrowed := true }
def MemoryJoinsUptoSaid : Prop := memoryJoinsUptoRow.holds Try.pinned (OpenSpec.upto memoryJoinsSpec)

/-- 'sepallaw06.MemoryFrame', WHERE WHAT IT READS IS OF BULK AT MOST 1048576: true; the input reads as it did. -/
def memoryFrameUptoRow : OpenClaim := { program := "ytocgbooackofiaa", sum := "125a32ee64cdac7759541154cefecc6d677f7ac4952feb926056a128a2448f69", func := "sepal/sepallaw06.MemoryFrame", spec := "memoryFrame", inPlace := ["slices.overlaps[sepal/api.Block]"], unfollowed := true, recurses := true, apart := false, narrowed := true }
def MemoryFrameUptoSaid : Prop := memoryFrameUptoRow.holds Try.pinned (OpenSpec.upto memoryFrameSpec)

/-- 'sepallaw06.MemoryReaches', WHERE WHAT IT READS IS OF BULK AT MOST 1048576: true; the input reads as it did. -/
def memoryReachesUptoRow : OpenClaim := { program := "ytocgbooackofiaa", sum := "125a32ee64cdac7759541154cefecc6d677f7ac4952feb926056a128a2448f69", func := "sepal/sepallaw06.MemoryReaches", spec := "memoryReaches", inPlace := ["slices.overlaps[sepal/api.Block]"], unfollowed := true, recurses := true, apart := false, narrowed := true }
def MemoryReachesUptoSaid : Prop := memoryReachesUptoRow.holds Try.pinned (OpenSpec.upto memoryReachesSpec)

end Rows
end Go.Proofs.Ytocgbooackofiaa
