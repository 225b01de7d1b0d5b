/- The program's samples: what the laws' walks ask for. -/
import Derived.Test.YtfibffcmbnlomaaSbO
import Derived.Test.YtfibffcmbnlomaaSbF
set_option maxRecDepth 100000
set_option linter.unusedVariables false
namespace Go.Proofs.Ytfibffcmbnlomaa
set_option maxRecDepth 100000
open Go Go.RowKit
theorem sunpack_any (w : World) {s : ByteArray} {d n : Int} (hs : s.size ≤ 140737488351232) (hn : -9223372036854775808 ≤ n ∧ n ≤ 9223372036854775807) :
    Calls Try.prog 11 #[.string s, .int .i64 d, .int .i64 n] w (GotN w (unpackA s d n)) := punpack_any w hs
end Go.Proofs.Ytfibffcmbnlomaa
