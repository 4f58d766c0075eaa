import Derived.Maps.OwnOps
import Derived.Maps.Views
import Derived.Maps.Ext
import Derived.Test.YtojjfdegkooknaaGreatDoorQTreeB
import Derived.Test.YtojjfdegkooknaaGreatDoorProg
import Derived.OwnWalkIn
import Derived.TacticsInMore
set_option linter.unusedVariables false
set_option linter.unusedSimpArgs false
namespace Go.Proofs.YtojjfdegkooknaaGreatDoor
open Go.RowKit
open Go.Maps (Keyed)
abbrev NamesAt (w : World) (b n : Nat) (D : DataW Unit) : Prop:=w.ownsMap Tryz.prog 9 (plainElem (H:=Unit) Tryz.prog 4) b n D
end Go.Proofs.YtojjfdegkooknaaGreatDoor
namespace Go.Proofs.YtojjfdegkooknaaGreatDoor
open Go.RowKit
open Go.Maps (Keyed)
end Go.Proofs.YtojjfdegkooknaaGreatDoor
