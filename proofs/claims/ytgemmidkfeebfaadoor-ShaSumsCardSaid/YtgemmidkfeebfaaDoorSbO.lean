/- The program's samples of a row, all of them. -/
import Derived.Test.YtgemmidkfeebfaaDoorSbK
set_option maxRecDepth 100000
set_option linter.unusedVariables false
namespace Go.Proofs.YtgemmidkfeebfaaDoor
set_option maxRecDepth 100000
open Go Go.RowKit
end Go.Proofs.YtgemmidkfeebfaaDoor
