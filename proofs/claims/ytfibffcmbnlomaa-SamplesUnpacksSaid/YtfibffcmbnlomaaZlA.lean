/- The program's sum as four bytes, its check of the head, its check of the sum. -/
import Derived.Test.YtfibffcmbnlomaaFour
import Derived.Test.YtfibffcmbnlomaaCrc
import Derived.Test.YtfibffcmbnlomaaMem
import Derived.Deep.QuietTactic
import Derived.BigQuiet
import Derived.BigRegion
import Derived.Deep.RegionWith
set_option maxRecDepth 100000
set_option linter.unusedVariables false
namespace Go.Proofs.Ytfibffcmbnlomaa
set_option maxRecDepth 100000
open Go Go.RowKit
theorem conv_atZ {W : World} {g cap : Nat} {L : List UInt8} (h : ∀ j (hj : j < L.length), W.cell? ⟨g, j, none⟩ = some (.int .u8 (L[j].toNat : Int))) :
    (convert 46 9 (.slice (some ⟨g, 0, none⟩) L.length cap)).run Try.prog W = .ok (.string (strL L)) W := by
  refine run_convert_bytes_back W 46 9 5 ⟨g, 0, none⟩ cap L Try.underlying46 Try.underlying5 Try.underlying9 (fun j hj => ?_)
  have e2 : (⟨g, 0, none⟩ : Addr).add j = ⟨g, j, none⟩ := by unfold Addr.add; split <;> simp_all
  rw [e2]; exact h j hj
theorem conv_fourZ (W : World) {n a b c d : Nat} (h1 : a = n / 16777216 % 256) (h2 : b = n / 65536 % 256) (h3 : c = n / 256 % 256) (h4 : d = n % 256) :
    (convert 46 9 (.slice (some ⟨W.heap.size, 0, none⟩) 4 4)).run Try.prog (W.alloc (.cells #[.int .u8 a, .int .u8 b, .int .u8 c, .int .u8 d] 5)) = .ok (.string (strL (fourL n))) (W.alloc (.cells #[.int .u8 a, .int .u8 b, .int .u8 c, .int .u8 d] 5)) := by
  refine conv_atZ (L := fourL n) (cap := 4) fun j hj => ?_
  have a1 := UInt8.toNat_ofNat' (n := n / 16777216)
  have a2 := UInt8.toNat_ofNat' (n := n / 65536)
  have a3 := UInt8.toNat_ofNat' (n := n / 256)
  have a4 := UInt8.toNat_ofNat' (n := n)
  rw [World.cell?_alloc_mark]
  rw [fourL_length] at hj
  unfold fourL
  match j, hj with
  | 0, _ => show some (Value.int .u8 (a : Int)) = some (Value.int .u8 ((UInt8.ofNat (n / 16777216)).toNat : Int)); rw [a1, h1]
  | 1, _ => show some (Value.int .u8 (b : Int)) = some (Value.int .u8 ((UInt8.ofNat (n / 65536)).toNat : Int)); rw [a2, h2]
  | 2, _ => show some (Value.int .u8 (c : Int)) = some (Value.int .u8 ((UInt8.ofNat (n / 256)).toNat : Int)); rw [a3, h3]
  | 3, _ => show some (Value.int .u8 (d : Int)) = some (Value.int .u8 ((UInt8.ofNat n).toNat : Int)); rw [a4, h4]
theorem bits32 (b : Nat) (h : b < 256) : bits .and .i64 (b : Int) 32 = ((32 * (b / 32 % 2) : Nat) : Int) := by
  have h0 : ∀ b, b < 256 → bits .and .i64 ((b : Nat) : Int) 32 = ((32 * (b / 32 % 2) : Nat) : Int) := by decide +kernel
  exact h0 b h
theorem byteZ_run {s : ByteArray} {k : Nat} (hk : k < s.size) (w : World) : (Instr.index 9 (.string s) (.int .i64 (k : Int))).run Try.prog w = .ok (.int .u8 (s[k].toNat : Nat)) w := by
  rw [run_index_string w 9 s .i64 _ Try.underlying9, dif_pos (by omega)]
  simp
end Go.Proofs.Ytfibffcmbnlomaa
