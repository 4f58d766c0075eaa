/-
  DERIVED. GIVEN WITH THE SEED: THE CARDS: each row of YtlemkmfpjehlmaaGreatDoorRows.lean that lists a variable, with what it lists TIED to the program's text (the seventh form; the later family's looks); each row that meets fmt, with fmt's text TOLD by the authors' own Lean function (tested against real Go, not proved from fmt's source: count such statements apart). THE CARD IS WHAT COUNTS. Prove the row's statement (the work); the ties are given (YtlemkmfpjehlmaaGreatDoorTie.lean); close each card by the builder's one call (the guide's Derived/Test/ToyasCard.lean, 'card_holds'). Laid BY PROGRAM, IN A SANDBOX (cutbox-door.mjs). By AI agents, Wed Nov 11 2026. No macro, syntax, notation, axiom, sorry.
-/
import Derived.Test.YtlemkmfpjehlmaaGreatDoorRows
import GoSem.ClaimSeven
namespace Go.Proofs.YtlemkmfpjehlmaaGreatDoor
namespace Rows

/-- THE TIED CARD OF 'sepallaw05.TypesFind'. -/
def typesFindCard : Claim7 := { stood := { row := typesFindRow, standIns := [], harness := (true, "e2592aa2ea9593c45e18186f369fdd5d5733a912b8964bdc0a184e4a15ee432a"), looks := true }, kinds := [], alts := [], laidByText := true, laidKinds := [.data], laidTests := true, laidLooks := .later }
def TypesFindCardSaid : Prop := Claim7.holds Tryz.pinned (.plain (OpenSpec.ofChange typesFindSpec)) typesFindCard

/-- THE TIED CARD OF 'sepallaw05.TypesGrows'. -/
def typesGrowsCard : Claim7 := { stood := { row := typesGrowsRow, standIns := [], harness := (true, "e2592aa2ea9593c45e18186f369fdd5d5733a912b8964bdc0a184e4a15ee432a"), looks := true }, kinds := [], alts := [], laidByText := true, laidKinds := [.data, .data, .pinned], laidTests := true, laidLooks := .later }
def TypesGrowsCardSaid : Prop := Claim7.holds Tryz.pinned (.plain (OpenSpec.ofChange typesGrowsSpec)) typesGrowsCard

/-- THE SECOND FORM's CARD OF 'sepallaw05.TypesFind'. -/
def typesFindUptoCard : Claim7 := { stood := { row := typesFindUptoRow, standIns := [], harness := (true, "e2592aa2ea9593c45e18186f369fdd5d5733a912b8964bdc0a184e4a15ee432a"), looks := true }, kinds := [], alts := [], laidByText := true, laidKinds := [.data], laidTests := true, laidLooks := .later }
def TypesFindUptoCardSaid : Prop := Claim7.holds Tryz.pinned (.plain (OpenSpec.upto typesFindSpec)) typesFindUptoCard

/-- THE SECOND FORM's CARD OF 'sepallaw05.TypesGrows'. -/
def typesGrowsUptoCard : Claim7 := { stood := { row := typesGrowsUptoRow, standIns := [], harness := (true, "e2592aa2ea9593c45e18186f369fdd5d5733a912b8964bdc0a184e4a15ee432a"), looks := true }, kinds := [], alts := [], laidByText := true, laidKinds := [.data, .data, .pinned], laidTests := true, laidLooks := .later }
def TypesGrowsUptoCardSaid : Prop := Claim7.holds Tryz.pinned (.plain (OpenSpec.upto typesGrowsSpec)) typesGrowsUptoCard
end Rows
end Go.Proofs.YtlemkmfpjehlmaaGreatDoor
