/-
  DERIVED. GIVEN WITH THE SEED: THE CARDS: each row of YtllfkgggolfojaaGreatDoorRows.lean that lists a variable, with what it lists TIED to the program's text (the seventh form; the later family's looks); each row that meets fmt, with fmt's text TOLD by the authors' own Lean function (tested against real Go, not proved from fmt's source: count such statements apart). THE CARD IS WHAT COUNTS. Prove the row's statement (the work); the ties are given (YtllfkgggolfojaaGreatDoorTie.lean); close each card by the builder's one call (the guide's Derived/Test/ToyasCard.lean, 'card_holds'). Laid BY PROGRAM, IN A SANDBOX (cutbox-door.mjs). By AI agents, Wed Nov 11 2026. No macro, syntax, notation, axiom, sorry.
-/
import Derived.Test.YtllfkgggolfojaaGreatDoorRows
import GoSem.ClaimSeven
namespace Go.Proofs.YtllfkgggolfojaaGreatDoor
namespace Rows

/-- THE TIED CARD OF 'sepallaw02.TreeFormulas'. -/
def treeFormulasCard : Claim7 := { stood := { row := treeFormulasRow, standIns := [], harness := (true, "58d413c624d307cc2fb79a88b561127dc17df8f989dc81abd3de41b4d5d1c02a"), looks := false }, kinds := [], alts := [], laidByText := true, laidKinds := [.data, .pinned], laidTests := true, laidLooks := .later }
def TreeFormulasCardSaid : Prop := Claim7.holds Tryz.pinned (.plain (OpenSpec.ofChange treeFormulasSpec)) treeFormulasCard

/-- THE TIED CARD OF 'sepallaw02.TreeStmts'. -/
def treeStmtsCard : Claim7 := { stood := { row := treeStmtsRow, standIns := [], harness := (true, "58d413c624d307cc2fb79a88b561127dc17df8f989dc81abd3de41b4d5d1c02a"), looks := false }, kinds := [], alts := [], laidByText := true, laidKinds := [.data, .data, .pinned], laidTests := true, laidLooks := .later }
def TreeStmtsCardSaid : Prop := Claim7.holds Tryz.pinned (.plain (OpenSpec.ofChange treeStmtsSpec)) treeStmtsCard

/-- THE TIED CARD OF 'sepallaw02.TreeDeep'. -/
def treeDeepCard : Claim7 := { stood := { row := treeDeepRow, standIns := [], harness := (true, "58d413c624d307cc2fb79a88b561127dc17df8f989dc81abd3de41b4d5d1c02a"), looks := false }, kinds := [], alts := [], laidByText := true, laidKinds := [.data, .data, .pinned], laidTests := true, laidLooks := .later }
def TreeDeepCardSaid : Prop := Claim7.holds Tryz.pinned (.plain (OpenSpec.ofChange treeDeepSpec)) treeDeepCard

/-- THE SECOND FORM's CARD OF 'sepallaw02.TreeFormulas'. -/
def treeFormulasUptoCard : Claim7 := { stood := { row := treeFormulasUptoRow, standIns := [], harness := (true, "58d413c624d307cc2fb79a88b561127dc17df8f989dc81abd3de41b4d5d1c02a"), looks := false }, kinds := [], alts := [], laidByText := true, laidKinds := [.data, .pinned], laidTests := true, laidLooks := .later }
def TreeFormulasUptoCardSaid : Prop := Claim7.holds Tryz.pinned (.plain (OpenSpec.upto treeFormulasSpec)) treeFormulasUptoCard

/-- THE SECOND FORM's CARD OF 'sepallaw02.TreeStmts'. -/
def treeStmtsUptoCard : Claim7 := { stood := { row := treeStmtsUptoRow, standIns := [], harness := (true, "58d413c624d307cc2fb79a88b561127dc17df8f989dc81abd3de41b4d5d1c02a"), looks := false }, kinds := [], alts := [], laidByText := true, laidKinds := [.data, .data, .pinned], laidTests := true, laidLooks := .later }
def TreeStmtsUptoCardSaid : Prop := Claim7.holds Tryz.pinned (.plain (OpenSpec.upto treeStmtsSpec)) treeStmtsUptoCard

/-- THE SECOND FORM's CARD OF 'sepallaw02.TreeDeep'. -/
def treeDeepUptoCard : Claim7 := { stood := { row := treeDeepUptoRow, standIns := [], harness := (true, "58d413c624d307cc2fb79a88b561127dc17df8f989dc81abd3de41b4d5d1c02a"), looks := false }, kinds := [], alts := [], laidByText := true, laidKinds := [.data, .data, .pinned], laidTests := true, laidLooks := .later }
def TreeDeepUptoCardSaid : Prop := Claim7.holds Tryz.pinned (.plain (OpenSpec.upto treeDeepSpec)) treeDeepUptoCard
end Rows
end Go.Proofs.YtllfkgggolfojaaGreatDoor
