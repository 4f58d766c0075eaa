/-
  DERIVED. GIVEN WITH THE SEED: THE CARDS: each row of YtnbdfpjcpapdcaaGreatDoorRows.lean that lists a variable, with what it lists TIED to the program's text (the seventh form; the later family's looks); each row that meets fmt, with fmt's text TOLD by the authors' own Lean function (tested against real Go, not proved from fmt's source: count such statements apart). THE CARD IS WHAT COUNTS. Prove the row's statement (the work); the ties are given (YtnbdfpjcpapdcaaGreatDoorTie.lean); close each card by the builder's one call (the guide's Derived/Test/ToyasCard.lean, 'card_holds'). Laid BY PROGRAM, IN A SANDBOX (cutbox-door.mjs). By AI agents, Wed Nov 11 2026. No macro, syntax, notation, axiom, sorry.
-/
import Derived.Test.YtnbdfpjcpapdcaaGreatDoorRows
import GoSem.ClaimSeven
namespace Go.Proofs.YtnbdfpjcpapdcaaGreatDoor
namespace Rows

/-- THE TIED CARD OF 'sepallaw11.FlowNames'. -/
def flowNamesCard : Claim7 := { stood := { row := flowNamesRow, standIns := [], harness := (true, "b18a9eb1e7f5e7bb855f3d72970023c98c05b033992fb089d87f887e9731f604"), looks := false }, kinds := [], alts := [], laidByText := true, laidKinds := [.data, .data, .pinned], laidTests := true, laidLooks := .later }
def FlowNamesCardSaid : Prop := Claim7.holds Tryz.pinned (.plain (OpenSpec.ofChange flowNamesSpec)) flowNamesCard

/-- THE TIED CARD OF 'sepallaw11.FlowPaths'. -/
def flowPathsCard : Claim7 := { stood := { row := flowPathsRow, standIns := [], harness := (true, "b18a9eb1e7f5e7bb855f3d72970023c98c05b033992fb089d87f887e9731f604"), looks := false }, kinds := [], alts := [], laidByText := true, laidKinds := [.data, .data, .pinned], laidTests := true, laidLooks := .later }
def FlowPathsCardSaid : Prop := Claim7.holds Tryz.pinned (.plain (OpenSpec.ofChange flowPathsSpec)) flowPathsCard

/-- THE TIED CARD OF 'sepallaw11.FlowAt'. -/
def flowAtCard : Claim7 := { stood := { row := flowAtRow, standIns := [], harness := (true, "b18a9eb1e7f5e7bb855f3d72970023c98c05b033992fb089d87f887e9731f604"), looks := false }, kinds := [], alts := [], laidByText := true, laidKinds := [.data, .data, .pinned], laidTests := true, laidLooks := .later }
def FlowAtCardSaid : Prop := Claim7.holds Tryz.pinned (.plain (OpenSpec.ofChange flowAtSpec)) flowAtCard

/-- THE TIED CARD OF 'sepallaw11.FlowReplaces'. -/
def flowReplacesCard : Claim7 := { stood := { row := flowReplacesRow, standIns := [], harness := (true, "b18a9eb1e7f5e7bb855f3d72970023c98c05b033992fb089d87f887e9731f604"), looks := false }, kinds := [], alts := [], laidByText := true, laidKinds := [.data, .data, .pinned], laidTests := true, laidLooks := .later }
def FlowReplacesCardSaid : Prop := Claim7.holds Tryz.pinned (.plain (OpenSpec.ofChange flowReplacesSpec)) flowReplacesCard

/-- THE TIED CARD OF 'sepallaw11.FlowSame'. -/
def flowSameCard : Claim7 := { stood := { row := flowSameRow, standIns := [], harness := (true, "b18a9eb1e7f5e7bb855f3d72970023c98c05b033992fb089d87f887e9731f604"), looks := false }, kinds := [], alts := [], laidByText := true, laidKinds := [.data, .data, .pinned], laidTests := true, laidLooks := .later }
def FlowSameCardSaid : Prop := Claim7.holds Tryz.pinned (.plain (OpenSpec.ofChange flowSameSpec)) flowSameCard

/-- THE TIED CARD OF 'sepallaw11.FlowJoins'. -/
def flowJoinsCard : Claim7 := { stood := { row := flowJoinsRow, standIns := [], harness := (true, "b18a9eb1e7f5e7bb855f3d72970023c98c05b033992fb089d87f887e9731f604"), looks := false }, kinds := [], alts := [], laidByText := true, laidKinds := [.data, .data, .pinned], laidTests := true, laidLooks := .later }
def FlowJoinsCardSaid : Prop := Claim7.holds Tryz.pinned (.plain (OpenSpec.ofChange flowJoinsSpec)) flowJoinsCard

/-- THE TIED CARD OF 'sepallaw11.FlowUnrolls'. -/
def flowUnrollsCard : Claim7 := { stood := { row := flowUnrollsRow, standIns := [], harness := (true, "b18a9eb1e7f5e7bb855f3d72970023c98c05b033992fb089d87f887e9731f604"), looks := false }, kinds := [], alts := [], laidByText := true, laidKinds := [.data, .data, .pinned], laidTests := true, laidLooks := .later }
def FlowUnrollsCardSaid : Prop := Claim7.holds Tryz.pinned (.plain (OpenSpec.ofChange flowUnrollsSpec)) flowUnrollsCard

/-- THE SECOND FORM's CARD OF 'sepallaw11.FlowNames'. -/
def flowNamesUptoCard : Claim7 := { stood := { row := flowNamesUptoRow, standIns := [], harness := (true, "b18a9eb1e7f5e7bb855f3d72970023c98c05b033992fb089d87f887e9731f604"), looks := false }, kinds := [], alts := [], laidByText := true, laidKinds := [.data, .data, .pinned], laidTests := true, laidLooks := .later }
def FlowNamesUptoCardSaid : Prop := Claim7.holds Tryz.pinned (.plain (OpenSpec.upto flowNamesSpec)) flowNamesUptoCard

/-- THE SECOND FORM's CARD OF 'sepallaw11.FlowPaths'. -/
def flowPathsUptoCard : Claim7 := { stood := { row := flowPathsUptoRow, standIns := [], harness := (true, "b18a9eb1e7f5e7bb855f3d72970023c98c05b033992fb089d87f887e9731f604"), looks := false }, kinds := [], alts := [], laidByText := true, laidKinds := [.data, .data, .pinned], laidTests := true, laidLooks := .later }
def FlowPathsUptoCardSaid : Prop := Claim7.holds Tryz.pinned (.plain (OpenSpec.upto flowPathsSpec)) flowPathsUptoCard

/-- THE SECOND FORM's CARD OF 'sepallaw11.FlowAt'. -/
def flowAtUptoCard : Claim7 := { stood := { row := flowAtUptoRow, standIns := [], harness := (true, "b18a9eb1e7f5e7bb855f3d72970023c98c05b033992fb089d87f887e9731f604"), looks := false }, kinds := [], alts := [], laidByText := true, laidKinds := [.data, .data, .pinned], laidTests := true, laidLooks := .later }
def FlowAtUptoCardSaid : Prop := Claim7.holds Tryz.pinned (.plain (OpenSpec.upto flowAtSpec)) flowAtUptoCard

/-- THE SECOND FORM's CARD OF 'sepallaw11.FlowReplaces'. -/
def flowReplacesUptoCard : Claim7 := { stood := { row := flowReplacesUptoRow, standIns := [], harness := (true, "b18a9eb1e7f5e7bb855f3d72970023c98c05b033992fb089d87f887e9731f604"), looks := false }, kinds := [], alts := [], laidByText := true, laidKinds := [.data, .data, .pinned], laidTests := true, laidLooks := .later }
def FlowReplacesUptoCardSaid : Prop := Claim7.holds Tryz.pinned (.plain (OpenSpec.upto flowReplacesSpec)) flowReplacesUptoCard

/-- THE SECOND FORM's CARD OF 'sepallaw11.FlowSame'. -/
def flowSameUptoCard : Claim7 := { stood := { row := flowSameUptoRow, standIns := [], harness := (true, "b18a9eb1e7f5e7bb855f3d72970023c98c05b033992fb089d87f887e9731f604"), looks := false }, kinds := [], alts := [], laidByText := true, laidKinds := [.data, .data, .pinned], laidTests := true, laidLooks := .later }
def FlowSameUptoCardSaid : Prop := Claim7.holds Tryz.pinned (.plain (OpenSpec.upto flowSameSpec)) flowSameUptoCard

/-- THE SECOND FORM's CARD OF 'sepallaw11.FlowJoins'. -/
def flowJoinsUptoCard : Claim7 := { stood := { row := flowJoinsUptoRow, standIns := [], harness := (true, "b18a9eb1e7f5e7bb855f3d72970023c98c05b033992fb089d87f887e9731f604"), looks := false }, kinds := [], alts := [], laidByText := true, laidKinds := [.data, .data, .pinned], laidTests := true, laidLooks := .later }
def FlowJoinsUptoCardSaid : Prop := Claim7.holds Tryz.pinned (.plain (OpenSpec.upto flowJoinsSpec)) flowJoinsUptoCard

/-- THE SECOND FORM's CARD OF 'sepallaw11.FlowUnrolls'. -/
def flowUnrollsUptoCard : Claim7 := { stood := { row := flowUnrollsUptoRow, standIns := [], harness := (true, "b18a9eb1e7f5e7bb855f3d72970023c98c05b033992fb089d87f887e9731f604"), looks := false }, kinds := [], alts := [], laidByText := true, laidKinds := [.data, .data, .pinned], laidTests := true, laidLooks := .later }
def FlowUnrollsUptoCardSaid : Prop := Claim7.holds Tryz.pinned (.plain (OpenSpec.upto flowUnrollsSpec)) flowUnrollsUptoCard
end Rows
end Go.Proofs.YtnbdfpjcpapdcaaGreatDoor
