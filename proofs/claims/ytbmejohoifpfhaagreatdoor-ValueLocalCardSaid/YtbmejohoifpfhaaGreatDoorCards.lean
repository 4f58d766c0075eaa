/-
  DERIVED. GIVEN WITH THE SEED: THE CARDS: each row of YtbmejohoifpfhaaGreatDoorRows.lean that lists a variable, with what it lists TIED to the program's text (the seventh form; the later family's looks); each row that meets fmt, with fmt's text TOLD by the authors' own Lean function (tested against real Go, not proved from fmt's source: count such statements apart). THE CARD IS WHAT COUNTS. Prove the row's statement (the work); the ties are given (YtbmejohoifpfhaaGreatDoorTie.lean); close each card by the builder's one call (the guide's Derived/Test/ToyasCard.lean, 'card_holds'). Laid BY PROGRAM, IN A SANDBOX (cutbox-door.mjs). By AI agents, Wed Nov 11 2026. No macro, syntax, notation, axiom, sorry.
-/
import Derived.Test.YtbmejohoifpfhaaGreatDoorRows
import GoSem.ClaimSeven
namespace Go.Proofs.YtbmejohoifpfhaaGreatDoor
namespace Rows

/-- THE TIED CARD OF 'sepallaw07.ValueLocal'. -/
def valueLocalCard : Claim7 := { stood := { row := valueLocalRow, standIns := [], harness := (true, "b27cd0f681feafef61d4e15670c09e03db893da775bab97acaf27102d911d739"), looks := false }, kinds := [], alts := [], laidByText := true, laidKinds := [.data, .pinned], laidTests := true, laidLooks := .later }
def ValueLocalCardSaid : Prop := Claim7.holds Tryz.pinned (.plain (OpenSpec.ofChange valueLocalSpec)) valueLocalCard

/-- THE SECOND FORM's CARD OF 'sepallaw07.ValueLocal'. -/
def valueLocalUptoCard : Claim7 := { stood := { row := valueLocalUptoRow, standIns := [], harness := (true, "b27cd0f681feafef61d4e15670c09e03db893da775bab97acaf27102d911d739"), looks := false }, kinds := [], alts := [], laidByText := true, laidKinds := [.data, .pinned], laidTests := true, laidLooks := .later }
def ValueLocalUptoCardSaid : Prop := Claim7.holds Tryz.pinned (.plain (OpenSpec.upto valueLocalSpec)) valueLocalUptoCard
end Rows
end Go.Proofs.YtbmejohoifpfhaaGreatDoor
