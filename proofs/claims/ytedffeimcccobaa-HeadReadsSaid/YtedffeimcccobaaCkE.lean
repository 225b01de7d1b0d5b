/- Whether two lists of chunks are the same; whether chunks are few. -/
import Derived.Test.YtedffeimcccobaaCkD
set_option maxRecDepth 100000
set_option linter.unusedVariables false
namespace Go.Proofs.Ytedffeimcccobaa
set_option maxRecDepth 100000
open Go Go.RowKit
attribute [local irreducible] strL
/-- Whether chunks are few. -/
def fewC (L : List Ck) : Bool := decide (sizeC L ≤ 100000)
theorem sizeC_take {L : List Ck} {i : Nat} {c : Ck} (h : L[i]? = some c) : sizeC (L.take (i + 1)) = sizeC (L.take i) + (12 + c.1.length + c.2.length) := by
  rw [take_next h]
  unfold sizeC
  rw [List.map_append, List.sum_append]
  simp
theorem sizeC_take_le (L : List Ck) (i : Nat) : sizeC (L.take i) ≤ sizeC L := by
  have e : sizeC L = sizeC (L.take i) + sizeC (L.drop i) := by
    unfold sizeC
    rw [← List.sum_append, ← List.map_append, List.take_append_drop]
  omega
end Go.Proofs.Ytedffeimcccobaa
