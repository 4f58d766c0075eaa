/-
  DERIVED. GIVEN WITH THE SEED: THE CARDS: each row of YtkmpjjpohgjdjaaDoorRows.lean that lists a variable, with what it lists TIED to the program's text (the seventh form; the later family's looks); each row that meets fmt, with fmt's text TOLD by the authors' own Lean function (tested against real Go, not proved from fmt's source: count such statements apart). THE CARD IS WHAT COUNTS. Prove the row's statement (the work); the ties are given (YtkmpjjpohgjdjaaDoorTie.lean); close each card by the builder's one call (the guide's Derived/Test/ToyasCard.lean, 'card_holds'). Laid BY PROGRAM, IN A SANDBOX (cutbox-door.mjs). By AI agents, Wed Nov 11 2026. No macro, syntax, notation, axiom, sorry.
-/
import Derived.Test.YtkmpjjpohgjdjaaDoorRows
import GoSem.ClaimSeven
namespace Go.Proofs.YtkmpjjpohgjdjaaDoor
namespace Rows

/-- THE TIED CARD OF 'sepallaw07.ValueStores'. -/
def valueStoresCard : Claim7 := { stood := { row := valueStoresRow, standIns := [], harness := (true, "9eb50c2c8b49ce09fad71b8272bee907e01666a24a27556c6c9087e37d56c640"), looks := false }, kinds := [], alts := [], laidByText := true, laidKinds := [.data, .pinned], laidTests := true, laidLooks := .later }
def ValueStoresCardSaid : Prop := Claim7.holds Tryd.pinned (.plain (OpenSpec.ofChange valueStoresSpec)) valueStoresCard

/-- THE TIED CARD OF 'sepallaw07.ValueSets'. -/
def valueSetsCard : Claim7 := { stood := { row := valueSetsRow, standIns := [], harness := (true, "9eb50c2c8b49ce09fad71b8272bee907e01666a24a27556c6c9087e37d56c640"), looks := false }, kinds := [], alts := [], laidByText := true, laidKinds := [.data, .pinned], laidTests := true, laidLooks := .later }
def ValueSetsCardSaid : Prop := Claim7.holds Tryd.pinned (.plain (OpenSpec.ofChange valueSetsSpec)) valueSetsCard

/-- THE TIED CARD OF 'sepallaw07.ValueExprs'. -/
def valueExprsCard : Claim7 := { stood := { row := valueExprsRow, standIns := [], harness := (true, "9eb50c2c8b49ce09fad71b8272bee907e01666a24a27556c6c9087e37d56c640"), looks := false }, kinds := [], alts := [], laidByText := true, laidKinds := [.data, .pinned], laidTests := true, laidLooks := .later }
def ValueExprsCardSaid : Prop := Claim7.holds Tryd.pinned (.plain (OpenSpec.ofChange valueExprsSpec)) valueExprsCard

/-- THE TIED CARD OF 'sepallaw07.ValueOpposite'. -/
def valueOppositeCard : Claim7 := { stood := { row := valueOppositeRow, standIns := [], harness := (true, "9eb50c2c8b49ce09fad71b8272bee907e01666a24a27556c6c9087e37d56c640"), looks := false }, kinds := [], alts := [], laidByText := true, laidKinds := [.data, .pinned], laidTests := true, laidLooks := .later }
def ValueOppositeCardSaid : Prop := Claim7.holds Tryd.pinned (.plain (OpenSpec.ofChange valueOppositeSpec)) valueOppositeCard

/-- THE TIED CARD OF 'sepallaw07.ValueLogic'. -/
def valueLogicCard : Claim7 := { stood := { row := valueLogicRow, standIns := [], harness := (true, "9eb50c2c8b49ce09fad71b8272bee907e01666a24a27556c6c9087e37d56c640"), looks := false }, kinds := [], alts := [], laidByText := true, laidKinds := [.data, .pinned], laidTests := true, laidLooks := .later }
def ValueLogicCardSaid : Prop := Claim7.holds Tryd.pinned (.plain (OpenSpec.ofChange valueLogicSpec)) valueLogicCard

/-- THE TIED CARD OF 'sepallaw07.ValueSums'. -/
def valueSumsCard : Claim7 := { stood := { row := valueSumsRow, standIns := [], harness := (true, "9eb50c2c8b49ce09fad71b8272bee907e01666a24a27556c6c9087e37d56c640"), looks := false }, kinds := [], alts := [], laidByText := true, laidKinds := [.data, .pinned], laidTests := true, laidLooks := .later }
def ValueSumsCardSaid : Prop := Claim7.holds Tryd.pinned (.plain (OpenSpec.ofChange valueSumsSpec)) valueSumsCard

/-- THE SECOND FORM's CARD OF 'sepallaw07.ValueStores'. -/
def valueStoresUptoCard : Claim7 := { stood := { row := valueStoresUptoRow, standIns := [], harness := (true, "9eb50c2c8b49ce09fad71b8272bee907e01666a24a27556c6c9087e37d56c640"), looks := false }, kinds := [], alts := [], laidByText := true, laidKinds := [.data, .pinned], laidTests := true, laidLooks := .later }
def ValueStoresUptoCardSaid : Prop := Claim7.holds Tryd.pinned (.plain (OpenSpec.upto valueStoresSpec)) valueStoresUptoCard

/-- THE SECOND FORM's CARD OF 'sepallaw07.ValueSets'. -/
def valueSetsUptoCard : Claim7 := { stood := { row := valueSetsUptoRow, standIns := [], harness := (true, "9eb50c2c8b49ce09fad71b8272bee907e01666a24a27556c6c9087e37d56c640"), looks := false }, kinds := [], alts := [], laidByText := true, laidKinds := [.data, .pinned], laidTests := true, laidLooks := .later }
def ValueSetsUptoCardSaid : Prop := Claim7.holds Tryd.pinned (.plain (OpenSpec.upto valueSetsSpec)) valueSetsUptoCard

/-- THE SECOND FORM's CARD OF 'sepallaw07.ValueExprs'. -/
def valueExprsUptoCard : Claim7 := { stood := { row := valueExprsUptoRow, standIns := [], harness := (true, "9eb50c2c8b49ce09fad71b8272bee907e01666a24a27556c6c9087e37d56c640"), looks := false }, kinds := [], alts := [], laidByText := true, laidKinds := [.data, .pinned], laidTests := true, laidLooks := .later }
def ValueExprsUptoCardSaid : Prop := Claim7.holds Tryd.pinned (.plain (OpenSpec.upto valueExprsSpec)) valueExprsUptoCard

/-- THE SECOND FORM's CARD OF 'sepallaw07.ValueOpposite'. -/
def valueOppositeUptoCard : Claim7 := { stood := { row := valueOppositeUptoRow, standIns := [], harness := (true, "9eb50c2c8b49ce09fad71b8272bee907e01666a24a27556c6c9087e37d56c640"), looks := false }, kinds := [], alts := [], laidByText := true, laidKinds := [.data, .pinned], laidTests := true, laidLooks := .later }
def ValueOppositeUptoCardSaid : Prop := Claim7.holds Tryd.pinned (.plain (OpenSpec.upto valueOppositeSpec)) valueOppositeUptoCard

/-- THE SECOND FORM's CARD OF 'sepallaw07.ValueLogic'. -/
def valueLogicUptoCard : Claim7 := { stood := { row := valueLogicUptoRow, standIns := [], harness := (true, "9eb50c2c8b49ce09fad71b8272bee907e01666a24a27556c6c9087e37d56c640"), looks := false }, kinds := [], alts := [], laidByText := true, laidKinds := [.data, .pinned], laidTests := true, laidLooks := .later }
def ValueLogicUptoCardSaid : Prop := Claim7.holds Tryd.pinned (.plain (OpenSpec.upto valueLogicSpec)) valueLogicUptoCard

/-- THE SECOND FORM's CARD OF 'sepallaw07.ValueSums'. -/
def valueSumsUptoCard : Claim7 := { stood := { row := valueSumsUptoRow, standIns := [], harness := (true, "9eb50c2c8b49ce09fad71b8272bee907e01666a24a27556c6c9087e37d56c640"), looks := false }, kinds := [], alts := [], laidByText := true, laidKinds := [.data, .pinned], laidTests := true, laidLooks := .later }
def ValueSumsUptoCardSaid : Prop := Claim7.holds Tryd.pinned (.plain (OpenSpec.upto valueSumsSpec)) valueSumsUptoCard
end Rows
end Go.Proofs.YtkmpjjpohgjdjaaDoor
