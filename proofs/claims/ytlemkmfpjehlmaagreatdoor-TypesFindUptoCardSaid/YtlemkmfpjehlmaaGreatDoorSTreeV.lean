/-
  tree.collectVars at a leaf. tree.Vars.
-/
import Derived.Maps.OwnOps
import Derived.Maps.Views
import Derived.Maps.Ext
import Derived.Test.YtlemkmfpjehlmaaGreatDoorSTreeB
import Derived.Test.YtlemkmfpjehlmaaGreatDoorProg
import Derived.OwnWalkIn
import Derived.TacticsInMore
set_option linter.unusedVariables false
set_option linter.unusedSimpArgs false
namespace Go.Proofs.YtlemkmfpjehlmaaGreatDoor
open Go.RowKit
open Go.Maps (Keyed)
abbrev NamesAt (w : World) (b n : Nat) (D : DataW Unit) : Prop:=w.ownsMap Tryz.prog 9 (plainElem (H:=Unit) Tryz.prog 4) b n D
end Go.Proofs.YtlemkmfpjehlmaaGreatDoor
namespace Go.Proofs.YtlemkmfpjehlmaaGreatDoor
open Go.RowKit
open Go.Maps (Keyed)
end Go.Proofs.YtlemkmfpjehlmaaGreatDoor
