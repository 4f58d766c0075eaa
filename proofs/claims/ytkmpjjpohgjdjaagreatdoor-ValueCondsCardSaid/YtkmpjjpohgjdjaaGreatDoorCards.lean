/-
  DERIVED. GIVEN WITH THE SEED: THE CARDS: each row of YtkmpjjpohgjdjaaGreatDoorRows.lean that lists a variable, with what it lists TIED to the program's text (the seventh form; the later family's looks); each row that meets fmt, with fmt's text TOLD by the authors' own Lean function (tested against real Go, not proved from fmt's source: count such statements apart). THE CARD IS WHAT COUNTS. Prove the row's statement (the work); the ties are given (YtkmpjjpohgjdjaaGreatDoorTie.lean); close each card by the builder's one call (the guide's Derived/Test/ToyasCard.lean, 'card_holds'). Laid BY PROGRAM, IN A SANDBOX (cutbox-door.mjs). By AI agents, Wed Nov 11 2026. No macro, syntax, notation, axiom, sorry.
-/
import Derived.Test.YtkmpjjpohgjdjaaGreatDoorRows
import GoSem.ClaimSeven
namespace Go.Proofs.YtkmpjjpohgjdjaaGreatDoor
namespace Rows

/-- THE TIED CARD OF 'sepallaw07.ValueConds'. -/
def valueCondsCard : Claim7 := { stood := { row := valueCondsRow, standIns := [], harness := (true, "baadc4a466a22067d8abd8ff3a37ae4a69ab4a51c8b1d83f64b6fc913303e6fd"), looks := false }, kinds := [], alts := [], laidByText := true, laidKinds := [.data, .pinned], laidTests := true, laidLooks := .later }
def ValueCondsCardSaid : Prop := Claim7.holds Tryz.pinned (.plain (OpenSpec.ofChange valueCondsSpec)) valueCondsCard

/-- THE TIED CARD OF 'sepallaw07.ValueAtoms'. -/
def valueAtomsCard : Claim7 := { stood := { row := valueAtomsRow, standIns := [], harness := (true, "baadc4a466a22067d8abd8ff3a37ae4a69ab4a51c8b1d83f64b6fc913303e6fd"), looks := false }, kinds := [], alts := [], laidByText := true, laidKinds := [.data, .pinned], laidTests := true, laidLooks := .later }
def ValueAtomsCardSaid : Prop := Claim7.holds Tryz.pinned (.plain (OpenSpec.ofChange valueAtomsSpec)) valueAtomsCard

/-- THE TIED CARD OF 'sepallaw07.ValueLocal'. -/
def valueLocalCard : Claim7 := { stood := { row := valueLocalRow, standIns := [], harness := (true, "baadc4a466a22067d8abd8ff3a37ae4a69ab4a51c8b1d83f64b6fc913303e6fd"), looks := false }, kinds := [], alts := [], laidByText := true, laidKinds := [.data, .pinned], laidTests := true, laidLooks := .later }
def ValueLocalCardSaid : Prop := Claim7.holds Tryz.pinned (.plain (OpenSpec.ofChange valueLocalSpec)) valueLocalCard

/-- THE SECOND FORM's CARD OF 'sepallaw07.ValueConds'. -/
def valueCondsUptoCard : Claim7 := { stood := { row := valueCondsUptoRow, standIns := [], harness := (true, "baadc4a466a22067d8abd8ff3a37ae4a69ab4a51c8b1d83f64b6fc913303e6fd"), looks := false }, kinds := [], alts := [], laidByText := true, laidKinds := [.data, .pinned], laidTests := true, laidLooks := .later }
def ValueCondsUptoCardSaid : Prop := Claim7.holds Tryz.pinned (.plain (OpenSpec.upto valueCondsSpec)) valueCondsUptoCard

/-- THE SECOND FORM's CARD OF 'sepallaw07.ValueAtoms'. -/
def valueAtomsUptoCard : Claim7 := { stood := { row := valueAtomsUptoRow, standIns := [], harness := (true, "baadc4a466a22067d8abd8ff3a37ae4a69ab4a51c8b1d83f64b6fc913303e6fd"), looks := false }, kinds := [], alts := [], laidByText := true, laidKinds := [.data, .pinned], laidTests := true, laidLooks := .later }
def ValueAtomsUptoCardSaid : Prop := Claim7.holds Tryz.pinned (.plain (OpenSpec.upto valueAtomsSpec)) valueAtomsUptoCard

/-- THE SECOND FORM's CARD OF 'sepallaw07.ValueLocal'. -/
def valueLocalUptoCard : Claim7 := { stood := { row := valueLocalUptoRow, standIns := [], harness := (true, "baadc4a466a22067d8abd8ff3a37ae4a69ab4a51c8b1d83f64b6fc913303e6fd"), looks := false }, kinds := [], alts := [], laidByText := true, laidKinds := [.data, .pinned], laidTests := true, laidLooks := .later }
def ValueLocalUptoCardSaid : Prop := Claim7.holds Tryz.pinned (.plain (OpenSpec.upto valueLocalSpec)) valueLocalUptoCard
end Rows
end Go.Proofs.YtkmpjjpohgjdjaaGreatDoor
