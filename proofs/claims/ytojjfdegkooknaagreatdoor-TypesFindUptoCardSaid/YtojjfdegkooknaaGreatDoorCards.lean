/-
  DERIVED. GIVEN WITH THE SEED: THE CARDS: each row of YtojjfdegkooknaaGreatDoorRows.lean that lists a variable, with what it lists TIED to the program's text (the seventh form; the later family's looks); each row that meets fmt, with fmt's text TOLD by the authors' own Lean function (tested against real Go, not proved from fmt's source: count such statements apart). THE CARD IS WHAT COUNTS. Prove the row's statement (the work); the ties are given (YtojjfdegkooknaaGreatDoorTie.lean); close each card by the builder's one call (the guide's Derived/Test/ToyasCard.lean, 'card_holds'). Laid BY PROGRAM, IN A SANDBOX (cutbox-door.mjs). By AI agents, Wed Nov 11 2026. No macro, syntax, notation, axiom, sorry.
-/
import Derived.Test.YtojjfdegkooknaaGreatDoorRows
import GoSem.ClaimSeven
namespace Go.Proofs.YtojjfdegkooknaaGreatDoor
namespace Rows

/-- THE TIED CARD OF 'sepallaw05.TypesFind'. -/
def typesFindCard : Claim7 := { stood := { row := typesFindRow, standIns := [], harness := (true, "b1cab57b8dff95f0a3ee68b5674dd2a2f389e320255a3aa9da0f45885b4dfcce"), looks := true }, kinds := [], alts := [], laidByText := true, laidKinds := [.data], laidTests := true, laidLooks := .later }
def TypesFindCardSaid : Prop := Claim7.holds Tryz.pinned (.plain (OpenSpec.ofChange typesFindSpec)) typesFindCard

/-- THE TIED CARD OF 'sepallaw05.TypesExchange'. -/
def typesExchangeCard : Claim7 := { stood := { row := typesExchangeRow, standIns := [], harness := (true, "b1cab57b8dff95f0a3ee68b5674dd2a2f389e320255a3aa9da0f45885b4dfcce"), looks := true }, kinds := [], alts := [], laidByText := true, laidKinds := [.data], laidTests := true, laidLooks := .later }
def TypesExchangeCardSaid : Prop := Claim7.holds Tryz.pinned (.plain (OpenSpec.ofChange typesExchangeSpec)) typesExchangeCard

/-- THE TIED CARD OF 'sepallaw05.TypesRemoves'. -/
def typesRemovesCard : Claim7 := { stood := { row := typesRemovesRow, standIns := [], harness := (true, "b1cab57b8dff95f0a3ee68b5674dd2a2f389e320255a3aa9da0f45885b4dfcce"), looks := true }, kinds := [], alts := [], laidByText := true, laidKinds := [.data], laidTests := true, laidLooks := .later }
def TypesRemovesCardSaid : Prop := Claim7.holds Tryz.pinned (.plain (OpenSpec.ofChange typesRemovesSpec)) typesRemovesCard

/-- THE TIED CARD OF 'sepallaw05.TypesGrows'. -/
def typesGrowsCard : Claim7 := { stood := { row := typesGrowsRow, standIns := [], harness := (true, "b1cab57b8dff95f0a3ee68b5674dd2a2f389e320255a3aa9da0f45885b4dfcce"), looks := true }, kinds := [], alts := [], laidByText := true, laidKinds := [.data, .data, .pinned], laidTests := true, laidLooks := .later }
def TypesGrowsCardSaid : Prop := Claim7.holds Tryz.pinned (.plain (OpenSpec.ofChange typesGrowsSpec)) typesGrowsCard

/-- THE SECOND FORM's CARD OF 'sepallaw05.TypesFind'. -/
def typesFindUptoCard : Claim7 := { stood := { row := typesFindUptoRow, standIns := [], harness := (true, "b1cab57b8dff95f0a3ee68b5674dd2a2f389e320255a3aa9da0f45885b4dfcce"), looks := true }, kinds := [], alts := [], laidByText := true, laidKinds := [.data], laidTests := true, laidLooks := .later }
def TypesFindUptoCardSaid : Prop := Claim7.holds Tryz.pinned (.plain (OpenSpec.upto typesFindSpec)) typesFindUptoCard

/-- THE SECOND FORM's CARD OF 'sepallaw05.TypesExchange'. -/
def typesExchangeUptoCard : Claim7 := { stood := { row := typesExchangeUptoRow, standIns := [], harness := (true, "b1cab57b8dff95f0a3ee68b5674dd2a2f389e320255a3aa9da0f45885b4dfcce"), looks := true }, kinds := [], alts := [], laidByText := true, laidKinds := [.data], laidTests := true, laidLooks := .later }
def TypesExchangeUptoCardSaid : Prop := Claim7.holds Tryz.pinned (.plain (OpenSpec.upto typesExchangeSpec)) typesExchangeUptoCard

/-- THE SECOND FORM's CARD OF 'sepallaw05.TypesRemoves'. -/
def typesRemovesUptoCard : Claim7 := { stood := { row := typesRemovesUptoRow, standIns := [], harness := (true, "b1cab57b8dff95f0a3ee68b5674dd2a2f389e320255a3aa9da0f45885b4dfcce"), looks := true }, kinds := [], alts := [], laidByText := true, laidKinds := [.data], laidTests := true, laidLooks := .later }
def TypesRemovesUptoCardSaid : Prop := Claim7.holds Tryz.pinned (.plain (OpenSpec.upto typesRemovesSpec)) typesRemovesUptoCard

/-- THE SECOND FORM's CARD OF 'sepallaw05.TypesGrows'. -/
def typesGrowsUptoCard : Claim7 := { stood := { row := typesGrowsUptoRow, standIns := [], harness := (true, "b1cab57b8dff95f0a3ee68b5674dd2a2f389e320255a3aa9da0f45885b4dfcce"), looks := true }, kinds := [], alts := [], laidByText := true, laidKinds := [.data, .data, .pinned], laidTests := true, laidLooks := .later }
def TypesGrowsUptoCardSaid : Prop := Claim7.holds Tryz.pinned (.plain (OpenSpec.upto typesGrowsSpec)) typesGrowsUptoCard
end Rows
end Go.Proofs.YtojjfdegkooknaaGreatDoor
