/-
  DERIVED. GIVEN WITH THE SEED: THE CARDS: each row of YtkjfgbcbeabpgaaGreatDoorRows.lean that lists a variable, with what it lists TIED to the program's text (the seventh form; the later family's looks); each row that meets fmt, with fmt's text TOLD by the authors' own Lean function (tested against real Go, not proved from fmt's source: count such statements apart). THE CARD IS WHAT COUNTS. Prove the row's statement (the work); the ties are given (YtkjfgbcbeabpgaaGreatDoorTie.lean); close each card by the builder's one call (the guide's Derived/Test/ToyasCard.lean, 'card_holds'). Laid BY PROGRAM, IN A SANDBOX (cutbox-door.mjs). By AI agents, Wed Nov 11 2026. No macro, syntax, notation, axiom, sorry.
-/
import Derived.Test.YtkjfgbcbeabpgaaGreatDoorRows
import GoSem.ClaimSeven
namespace Go.Proofs.YtkjfgbcbeabpgaaGreatDoor
namespace Rows

/-- THE TIED CARD OF 'sepallaw02.TreeExprs'. -/
def treeExprsCard : Claim7 := { stood := { row := treeExprsRow, standIns := [], harness := (true, "1b3f5246ba78c8f80be0a57c5a73ef55ba5b7912b41a97aa8746d69824e534c6"), looks := false }, kinds := [], alts := [], laidByText := true, laidKinds := [.data, .pinned], laidTests := true, laidLooks := .later }
def TreeExprsCardSaid : Prop := Claim7.holds Tryz.pinned (.plain (OpenSpec.ofChange treeExprsSpec)) treeExprsCard

/-- THE TIED CARD OF 'sepallaw02.TreeFormulas'. -/
def treeFormulasCard : Claim7 := { stood := { row := treeFormulasRow, standIns := [], harness := (true, "1b3f5246ba78c8f80be0a57c5a73ef55ba5b7912b41a97aa8746d69824e534c6"), looks := false }, kinds := [], alts := [], laidByText := true, laidKinds := [.data, .pinned], laidTests := true, laidLooks := .later }
def TreeFormulasCardSaid : Prop := Claim7.holds Tryz.pinned (.plain (OpenSpec.ofChange treeFormulasSpec)) treeFormulasCard

/-- THE TIED CARD OF 'sepallaw02.TreeStmts'. -/
def treeStmtsCard : Claim7 := { stood := { row := treeStmtsRow, standIns := [], harness := (true, "1b3f5246ba78c8f80be0a57c5a73ef55ba5b7912b41a97aa8746d69824e534c6"), looks := false }, kinds := [], alts := [], laidByText := true, laidKinds := [.data, .data, .pinned], laidTests := true, laidLooks := .later }
def TreeStmtsCardSaid : Prop := Claim7.holds Tryz.pinned (.plain (OpenSpec.ofChange treeStmtsSpec)) treeStmtsCard

/-- THE TIED CARD OF 'sepallaw02.TreePrograms'. -/
def treeProgramsCard : Claim7 := { stood := { row := treeProgramsRow, standIns := [], harness := (true, "1b3f5246ba78c8f80be0a57c5a73ef55ba5b7912b41a97aa8746d69824e534c6"), looks := false }, kinds := [], alts := [], laidByText := true, laidKinds := [.data, .data, .pinned], laidTests := true, laidLooks := .later }
def TreeProgramsCardSaid : Prop := Claim7.holds Tryz.pinned (.plain (OpenSpec.ofChange treeProgramsSpec)) treeProgramsCard

/-- THE TIED CARD OF 'sepallaw02.TreeEqual'. -/
def treeEqualCard : Claim7 := { stood := { row := treeEqualRow, standIns := [], harness := (true, "1b3f5246ba78c8f80be0a57c5a73ef55ba5b7912b41a97aa8746d69824e534c6"), looks := false }, kinds := [], alts := [], laidByText := true, laidKinds := [.data, .pinned], laidTests := true, laidLooks := .later }
def TreeEqualCardSaid : Prop := Claim7.holds Tryz.pinned (.plain (OpenSpec.ofChange treeEqualSpec)) treeEqualCard

/-- THE TIED CARD OF 'sepallaw02.TreeDeep'. -/
def treeDeepCard : Claim7 := { stood := { row := treeDeepRow, standIns := [], harness := (true, "1b3f5246ba78c8f80be0a57c5a73ef55ba5b7912b41a97aa8746d69824e534c6"), looks := false }, kinds := [], alts := [], laidByText := true, laidKinds := [.data, .data, .pinned], laidTests := true, laidLooks := .later }
def TreeDeepCardSaid : Prop := Claim7.holds Tryz.pinned (.plain (OpenSpec.ofChange treeDeepSpec)) treeDeepCard

/-- THE SECOND FORM's CARD OF 'sepallaw02.TreeExprs'. -/
def treeExprsUptoCard : Claim7 := { stood := { row := treeExprsUptoRow, standIns := [], harness := (true, "1b3f5246ba78c8f80be0a57c5a73ef55ba5b7912b41a97aa8746d69824e534c6"), looks := false }, kinds := [], alts := [], laidByText := true, laidKinds := [.data, .pinned], laidTests := true, laidLooks := .later }
def TreeExprsUptoCardSaid : Prop := Claim7.holds Tryz.pinned (.plain (OpenSpec.upto treeExprsSpec)) treeExprsUptoCard

/-- THE SECOND FORM's CARD OF 'sepallaw02.TreeFormulas'. -/
def treeFormulasUptoCard : Claim7 := { stood := { row := treeFormulasUptoRow, standIns := [], harness := (true, "1b3f5246ba78c8f80be0a57c5a73ef55ba5b7912b41a97aa8746d69824e534c6"), looks := false }, kinds := [], alts := [], laidByText := true, laidKinds := [.data, .pinned], laidTests := true, laidLooks := .later }
def TreeFormulasUptoCardSaid : Prop := Claim7.holds Tryz.pinned (.plain (OpenSpec.upto treeFormulasSpec)) treeFormulasUptoCard

/-- THE SECOND FORM's CARD OF 'sepallaw02.TreeStmts'. -/
def treeStmtsUptoCard : Claim7 := { stood := { row := treeStmtsUptoRow, standIns := [], harness := (true, "1b3f5246ba78c8f80be0a57c5a73ef55ba5b7912b41a97aa8746d69824e534c6"), looks := false }, kinds := [], alts := [], laidByText := true, laidKinds := [.data, .data, .pinned], laidTests := true, laidLooks := .later }
def TreeStmtsUptoCardSaid : Prop := Claim7.holds Tryz.pinned (.plain (OpenSpec.upto treeStmtsSpec)) treeStmtsUptoCard

/-- THE SECOND FORM's CARD OF 'sepallaw02.TreePrograms'. -/
def treeProgramsUptoCard : Claim7 := { stood := { row := treeProgramsUptoRow, standIns := [], harness := (true, "1b3f5246ba78c8f80be0a57c5a73ef55ba5b7912b41a97aa8746d69824e534c6"), looks := false }, kinds := [], alts := [], laidByText := true, laidKinds := [.data, .data, .pinned], laidTests := true, laidLooks := .later }
def TreeProgramsUptoCardSaid : Prop := Claim7.holds Tryz.pinned (.plain (OpenSpec.upto treeProgramsSpec)) treeProgramsUptoCard

/-- THE SECOND FORM's CARD OF 'sepallaw02.TreeEqual'. -/
def treeEqualUptoCard : Claim7 := { stood := { row := treeEqualUptoRow, standIns := [], harness := (true, "1b3f5246ba78c8f80be0a57c5a73ef55ba5b7912b41a97aa8746d69824e534c6"), looks := false }, kinds := [], alts := [], laidByText := true, laidKinds := [.data, .pinned], laidTests := true, laidLooks := .later }
def TreeEqualUptoCardSaid : Prop := Claim7.holds Tryz.pinned (.plain (OpenSpec.upto treeEqualSpec)) treeEqualUptoCard

/-- THE SECOND FORM's CARD OF 'sepallaw02.TreeDeep'. -/
def treeDeepUptoCard : Claim7 := { stood := { row := treeDeepUptoRow, standIns := [], harness := (true, "1b3f5246ba78c8f80be0a57c5a73ef55ba5b7912b41a97aa8746d69824e534c6"), looks := false }, kinds := [], alts := [], laidByText := true, laidKinds := [.data, .data, .pinned], laidTests := true, laidLooks := .later }
def TreeDeepUptoCardSaid : Prop := Claim7.holds Tryz.pinned (.plain (OpenSpec.upto treeDeepSpec)) treeDeepUptoCard
end Rows
end Go.Proofs.YtkjfgbcbeabpgaaGreatDoor
