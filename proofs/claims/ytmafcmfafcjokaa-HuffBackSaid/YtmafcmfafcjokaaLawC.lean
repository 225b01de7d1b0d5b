/- The walks of the statements on Check and Codes. -/
import Derived.Test.YtmafcmfafcjokaaAwakeH
namespace Go.Proofs.Ytmafcmfafcjokaa
open Go Go.RowKit

end Go.Proofs.Ytmafcmfafcjokaa
