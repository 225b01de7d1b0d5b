/- Own texts in one: PnY. -/
import Derived.Test.YtbanopnofpjnbaaGreatDoorU24
import Derived.Test.YtbanopnofpjnbaaGreatDoorU42
import Derived.Test.YtbanopnofpjnbaaGreatDoorRows
set_option maxRecDepth 1000000
set_option linter.unusedVariables false
set_option maxHeartbeats 4000000
namespace Go.Proofs.YtbanopnofpjnbaaGreatDoor
open Go Go.RowKit Go.Proofs.Tryz
theorem deCA:DeC GA:=fun v _ hG hf=>B7 v hG.1 hG.2.2 hf
end Go.Proofs.YtbanopnofpjnbaaGreatDoor
