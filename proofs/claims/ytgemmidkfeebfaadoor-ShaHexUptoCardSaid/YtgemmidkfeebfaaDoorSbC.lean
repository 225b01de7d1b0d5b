/- The document's samples of a row. -/
import Derived.Test.YtgemmidkfeebfaaDoorWB
import Derived.Test.YtgemmidkfeebfaaDoorWC
set_option maxRecDepth 100000
set_option linter.unusedVariables false
namespace Go.Proofs.YtgemmidkfeebfaaDoor
set_option maxRecDepth 100000
open Go Go.RowKit
/-- The samples of a row, of whatever arguments. -/
def unpackA (s : ByteArray) (d n : Int) : List Nat × Int :=
  if depB d = false ∨ n < 0 ∨ 4096 < n then ([], 1) else if 8 * (s.size : Int) < n * d then ([], 30) else (unpackT s.data.toList d.toNat n.toNat, 0)
theorem unpackT_next (row : List UInt8) (D i : Nat) : unpackT row D (i + 1) = unpackT row D i ++ [sampleN row D i] := by
  unfold unpackT
  rw [List.range_succ, List.map_append]
  rfl
theorem unpackT_length (row : List UInt8) (D i : Nat) : (unpackT row D i).length = i := by unfold unpackT; rw [List.length_map, List.length_range]
theorem byteR_run {s : ByteArray} {k : Nat} (hk : k < s.size) (w : World) : (Instr.index 9 (.string s) (.int .i64 (k : Int))).run Tryd.prog w = .ok (.int .u8 (s[k].toNat : Nat)) w := by
  simp [go_sem, Tryd.underlying9, hk]
theorem u8_one {y : Nat} (hy : y < 256) : bits .and .u8 (y : Int) 1 = ((y % 2 : Nat) : Int) := by
  have h := u8_and_nat y 1 hy (by decide)
  rw [Nat.and_one_is_mod] at h
  exact h
/-- What is told of samples. -/
def GotNs (w : World) (r : List Nat × Int) (e : Ending) (w' : World) : Prop := ∃ A cap, e = .returned (.tuple #[.slice A r.1.length cap, .int .i64 r.2]) ∧ Nums w' A r.1.length r.1 ∧ r.1.length ≤ cap ∧ But [] w w'
end Go.Proofs.YtgemmidkfeebfaaDoor
