/- The document's four bytes of a number, and the number of bytes. -/
import Derived.Test.YtfibffcmbnlomaaZlA
set_option maxRecDepth 100000
set_option linter.unusedVariables false
namespace Go.Proofs.Ytfibffcmbnlomaa
set_option maxRecDepth 100000
open Go Go.RowKit
theorem ofL_snoc (l : List UInt8) (b : UInt8) : ofL (l ++ [b]) = 256 * ofL l + b.toNat := by
  unfold ofL; rw [List.foldl_append]; rfl
theorem ofL_small : ∀ (n : Nat) (l : List UInt8), l.length = n → n ≤ 7 → ofL l < 256 ^ n
  | 0, l, h, _ => by rw [List.length_eq_zero_iff.1 h]; decide
  | n + 1, l, h, h7 => by
    have hne : l ≠ [] := fun e => by rw [e] at h; simp at h
    rw [← List.dropLast_concat_getLast hne, ofL_snoc]
    have ih := ofL_small n l.dropLast (by rw [List.length_dropLast, h]; rfl) (by omega)
    have hb := (l.getLast hne).toNat_lt
    rw [Nat.pow_succ]
    omega
end Go.Proofs.Ytfibffcmbnlomaa
