import Derived.Test.YthenbbpagbdbeaaGreatDoorRows
import Derived.ProofKit
import Derived.JoinedCond
set_option linter.unusedVariables false
set_option linter.unusedSimpArgs false
namespace Go.Proofs.YthenbbpagbdbeaaGreatDoor
set_option maxRecDepth 100000
theorem closedGrows : joinedFacts Tryz.pinned.checked.prog 3 Tryz.f3 (OpenSpec.ofChange Rows.typesGrowsSpec).bare Rows.typesGrowsRow = true:=by kernel_rfl
end Go.Proofs.YthenbbpagbdbeaaGreatDoor
