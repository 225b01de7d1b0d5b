/- The contracts of the cyclic sum and the other sum: the program's functions and the document's answer compute the same numbers, and write nothing. -/
import Derived.Test.YtgemmidkfeebfaaDoorChecked
import Derived.Test.YtgemmidkfeebfaaDoorWA
import Derived.Test.YtgemmidkfeebfaaDoorWords
import Derived.WalkKit
import Derived.Lib.Hide
import Derived.Outline
namespace Go.Proofs.YtgemmidkfeebfaaDoor
set_option maxRecDepth 100000
open Go Go.RowKit

theorem ret_int {k : IntKind} {a b : Int} (h : a = b) : Ending.returned (.int k a) = .returned (.int k b) := by rw [h]
theorem crcBits_succ (n c : Nat) : crcBits (n + 1) c = crcBit (crcBits n c) := rfl
theorem crcBit_odd {c : Nat} (h : (c : Int) % 2 = 1) : crcBit c = (c / 2) ^^^ 3988292384 := by unfold crcBit; rw [if_pos (by omega)]
theorem crcBit_even {c : Nat} (h : ¬ (c : Int) % 2 = 1) : crcBit c = c / 2 := by unfold crcBit; rw [if_neg (by omega)]

end Go.Proofs.YtgemmidkfeebfaaDoor
