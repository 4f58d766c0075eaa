/-
  DERIVED. GIVEN WITH THE SEED: THE CARDS: each row of YtbalioicgpgehaaGreatDoorRows.lean that lists a variable, with what it lists TIED to the program's text (the seventh form; the later family's looks); each row that meets fmt, with fmt's text TOLD by the authors' own Lean function (tested against real Go, not proved from fmt's source: count such statements apart). THE CARD IS WHAT COUNTS. Prove the row's statement (the work); the ties are given (YtbalioicgpgehaaGreatDoorTie.lean); close each card by the builder's one call (the guide's Derived/Test/ToyasCard.lean, 'card_holds'). Laid BY PROGRAM, IN A SANDBOX (cutbox-door.mjs). By AI agents, Wed Nov 11 2026. No macro, syntax, notation, axiom, sorry.
-/
import Derived.Test.YtbalioicgpgehaaGreatDoorRows
import GoSem.ClaimSeven
namespace Go.Proofs.YtbalioicgpgehaaGreatDoor
namespace Rows

/-- THE TIED CARD OF 'sepallaw11.FlowAt'. -/
def flowAtCard : Claim7 := { stood := { row := flowAtRow, standIns := [], harness := (true, "22bafaec6c90b596099a44ba14ac9f04678ceb2cefa3ae1c86bc1ec6d18a9a5a"), looks := false }, kinds := [], alts := [], laidByText := true, laidKinds := [.data, .data, .pinned], laidTests := true, laidLooks := .later }
def FlowAtCardSaid : Prop := Claim7.holds Tryz.pinned (.plain (OpenSpec.ofChange flowAtSpec)) flowAtCard

/-- THE TIED CARD OF 'sepallaw11.FlowReplaces'. -/
def flowReplacesCard : Claim7 := { stood := { row := flowReplacesRow, standIns := [], harness := (true, "22bafaec6c90b596099a44ba14ac9f04678ceb2cefa3ae1c86bc1ec6d18a9a5a"), looks := false }, kinds := [], alts := [], laidByText := true, laidKinds := [.data, .data, .pinned], laidTests := true, laidLooks := .later }
def FlowReplacesCardSaid : Prop := Claim7.holds Tryz.pinned (.plain (OpenSpec.ofChange flowReplacesSpec)) flowReplacesCard

/-- THE TIED CARD OF 'sepallaw11.FlowSame'. -/
def flowSameCard : Claim7 := { stood := { row := flowSameRow, standIns := [], harness := (true, "22bafaec6c90b596099a44ba14ac9f04678ceb2cefa3ae1c86bc1ec6d18a9a5a"), looks := false }, kinds := [], alts := [], laidByText := true, laidKinds := [.data, .data, .pinned], laidTests := true, laidLooks := .later }
def FlowSameCardSaid : Prop := Claim7.holds Tryz.pinned (.plain (OpenSpec.ofChange flowSameSpec)) flowSameCard

/-- THE TIED CARD OF 'sepallaw11.FlowUnrolls'. -/
def flowUnrollsCard : Claim7 := { stood := { row := flowUnrollsRow, standIns := [], harness := (true, "22bafaec6c90b596099a44ba14ac9f04678ceb2cefa3ae1c86bc1ec6d18a9a5a"), looks := false }, kinds := [], alts := [], laidByText := true, laidKinds := [.data, .data, .pinned], laidTests := true, laidLooks := .later }
def FlowUnrollsCardSaid : Prop := Claim7.holds Tryz.pinned (.plain (OpenSpec.ofChange flowUnrollsSpec)) flowUnrollsCard

/-- THE TIED CARD OF 'sepallaw11.FlowJoins'. -/
def flowJoinsCard : Claim7 := { stood := { row := flowJoinsRow, standIns := [], harness := (true, "22bafaec6c90b596099a44ba14ac9f04678ceb2cefa3ae1c86bc1ec6d18a9a5a"), looks := false }, kinds := [], alts := [], laidByText := true, laidKinds := [.data, .data, .pinned], laidTests := true, laidLooks := .later }
def FlowJoinsCardSaid : Prop := Claim7.holds Tryz.pinned (.plain (OpenSpec.ofChange flowJoinsSpec)) flowJoinsCard

/-- THE SECOND FORM's CARD OF 'sepallaw11.FlowAt'. -/
def flowAtUptoCard : Claim7 := { stood := { row := flowAtUptoRow, standIns := [], harness := (true, "22bafaec6c90b596099a44ba14ac9f04678ceb2cefa3ae1c86bc1ec6d18a9a5a"), looks := false }, kinds := [], alts := [], laidByText := true, laidKinds := [.data, .data, .pinned], laidTests := true, laidLooks := .later }
def FlowAtUptoCardSaid : Prop := Claim7.holds Tryz.pinned (.plain (OpenSpec.upto flowAtSpec)) flowAtUptoCard

/-- THE SECOND FORM's CARD OF 'sepallaw11.FlowReplaces'. -/
def flowReplacesUptoCard : Claim7 := { stood := { row := flowReplacesUptoRow, standIns := [], harness := (true, "22bafaec6c90b596099a44ba14ac9f04678ceb2cefa3ae1c86bc1ec6d18a9a5a"), looks := false }, kinds := [], alts := [], laidByText := true, laidKinds := [.data, .data, .pinned], laidTests := true, laidLooks := .later }
def FlowReplacesUptoCardSaid : Prop := Claim7.holds Tryz.pinned (.plain (OpenSpec.upto flowReplacesSpec)) flowReplacesUptoCard

/-- THE SECOND FORM's CARD OF 'sepallaw11.FlowSame'. -/
def flowSameUptoCard : Claim7 := { stood := { row := flowSameUptoRow, standIns := [], harness := (true, "22bafaec6c90b596099a44ba14ac9f04678ceb2cefa3ae1c86bc1ec6d18a9a5a"), looks := false }, kinds := [], alts := [], laidByText := true, laidKinds := [.data, .data, .pinned], laidTests := true, laidLooks := .later }
def FlowSameUptoCardSaid : Prop := Claim7.holds Tryz.pinned (.plain (OpenSpec.upto flowSameSpec)) flowSameUptoCard

/-- THE SECOND FORM's CARD OF 'sepallaw11.FlowUnrolls'. -/
def flowUnrollsUptoCard : Claim7 := { stood := { row := flowUnrollsUptoRow, standIns := [], harness := (true, "22bafaec6c90b596099a44ba14ac9f04678ceb2cefa3ae1c86bc1ec6d18a9a5a"), looks := false }, kinds := [], alts := [], laidByText := true, laidKinds := [.data, .data, .pinned], laidTests := true, laidLooks := .later }
def FlowUnrollsUptoCardSaid : Prop := Claim7.holds Tryz.pinned (.plain (OpenSpec.upto flowUnrollsSpec)) flowUnrollsUptoCard

/-- THE SECOND FORM's CARD OF 'sepallaw11.FlowJoins'. -/
def flowJoinsUptoCard : Claim7 := { stood := { row := flowJoinsUptoRow, standIns := [], harness := (true, "22bafaec6c90b596099a44ba14ac9f04678ceb2cefa3ae1c86bc1ec6d18a9a5a"), looks := false }, kinds := [], alts := [], laidByText := true, laidKinds := [.data, .data, .pinned], laidTests := true, laidLooks := .later }
def FlowJoinsUptoCardSaid : Prop := Claim7.holds Tryz.pinned (.plain (OpenSpec.upto flowJoinsSpec)) flowJoinsUptoCard
end Rows
end Go.Proofs.YtbalioicgpgehaaGreatDoor
