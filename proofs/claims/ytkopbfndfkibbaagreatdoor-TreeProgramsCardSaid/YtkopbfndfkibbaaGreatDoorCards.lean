/-
  DERIVED. GIVEN WITH THE SEED: THE CARDS: each row of YtkopbfndfkibbaaGreatDoorRows.lean that lists a variable, with what it lists TIED to the program's text (the seventh form; the later family's looks); each row that meets fmt, with fmt's text TOLD by the authors' own Lean function (tested against real Go, not proved from fmt's source: count such statements apart). THE CARD IS WHAT COUNTS. Prove the row's statement (the work); the ties are given (YtkopbfndfkibbaaGreatDoorTie.lean); close each card by the builder's one call (the guide's Derived/Test/ToyasCard.lean, 'card_holds'). Laid BY PROGRAM, IN A SANDBOX (cutbox-door.mjs). By AI agents, Wed Nov 11 2026. No macro, syntax, notation, axiom, sorry.
-/
import Derived.Test.YtkopbfndfkibbaaGreatDoorRows
import GoSem.ClaimSeven
namespace Go.Proofs.YtkopbfndfkibbaaGreatDoor
namespace Rows

/-- THE TIED CARD OF 'sepallaw02.TreePrograms'. -/
def treeProgramsCard : Claim7 := { stood := { row := treeProgramsRow, standIns := [], harness := (true, "be109de81104c55319d305e9c88837ba0c89b82ba72b8dca7e3e989af5016848"), looks := false }, kinds := [], alts := [], laidByText := true, laidKinds := [.data, .data, .pinned], laidTests := true, laidLooks := .later }
def TreeProgramsCardSaid : Prop := Claim7.holds Tryz.pinned (.plain (OpenSpec.ofChange treeProgramsSpec)) treeProgramsCard

/-- THE SECOND FORM's CARD OF 'sepallaw02.TreePrograms'. -/
def treeProgramsUptoCard : Claim7 := { stood := { row := treeProgramsUptoRow, standIns := [], harness := (true, "be109de81104c55319d305e9c88837ba0c89b82ba72b8dca7e3e989af5016848"), looks := false }, kinds := [], alts := [], laidByText := true, laidKinds := [.data, .data, .pinned], laidTests := true, laidLooks := .later }
def TreeProgramsUptoCardSaid : Prop := Claim7.holds Tryz.pinned (.plain (OpenSpec.upto treeProgramsSpec)) treeProgramsUptoCard
end Rows
end Go.Proofs.YtkopbfndfkibbaaGreatDoor
