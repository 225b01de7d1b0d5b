/- Own texts in one: PnZa. -/
import Derived.Test.YtbanopnofpjnbaaGreatDoorU61
import Derived.Test.YtbanopnofpjnbaaGreatDoorRows
set_option maxRecDepth 1000000
set_option linter.unusedVariables false
set_option maxHeartbeats 4000000
namespace Go.Proofs.YtbanopnofpjnbaaGreatDoor
open Go Go.RowKit Go.Proofs.Tryz
theorem enEA:EnE:=fun v _ _ _ hp=>CQ v hp
end Go.Proofs.YtbanopnofpjnbaaGreatDoor
