/- The program's sum as four bytes, its check of the head, its check of the sum. -/
import Derived.Test.YtookfoanggjnkaaDoorFour
import Derived.Test.YtookfoanggjnkaaDoorCrc
import Derived.Test.YtookfoanggjnkaaDoorMem
import Derived.Deep.QuietTactic
import Derived.BigQuiet
import Derived.BigRegion
import Derived.Deep.RegionWith
set_option maxRecDepth 100000
set_option linter.unusedVariables false
namespace Go.Proofs.YtookfoanggjnkaaDoor
set_option maxRecDepth 100000
open Go Go.RowKit
theorem bits32 (b : Nat) (h : b < 256) : bits .and .i64 (b : Int) 32 = ((32 * (b / 32 % 2) : Nat) : Int) := by
  have h0 : ∀ b, b < 256 → bits .and .i64 ((b : Nat) : Int) 32 = ((32 * (b / 32 % 2) : Nat) : Int) := by decide +kernel
  exact h0 b h
theorem byteZ_run {s : ByteArray} {k : Nat} (hk : k < s.size) (w : World) : (Instr.index 9 (.string s) (.int .i64 (k : Int))).run Tryd.prog w = .ok (.int .u8 (s[k].toNat : Nat)) w := by
  rw [run_index_string w 9 s .i64 _ Tryd.underlying9, dif_pos (by omega)]
  simp
end Go.Proofs.YtookfoanggjnkaaDoor
