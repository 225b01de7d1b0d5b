/- The program's calls of layer 7: the landed code's own walks. -/
import Derived.Test.YtdfjdajfkamafaaCkF
import Derived.Test.YtdfjdajfkamafaaCkT
import Derived.Test.YtdfjdajfkamafaaCkU
namespace Go.Proofs.Ytdfjdajfkamafaa
set_option maxRecDepth 100000
end Go.Proofs.Ytdfjdajfkamafaa
