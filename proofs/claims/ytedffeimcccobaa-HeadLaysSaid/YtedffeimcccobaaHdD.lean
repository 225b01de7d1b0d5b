/- The document's Read. -/
import Derived.Test.YtedffeimcccobaaHdC
set_option maxRecDepth 100000
set_option linter.unusedVariables false
namespace Go.Proofs.Ytedffeimcccobaa
set_option maxRecDepth 100000
open Go Go.RowKit
/-- How many bytes the data of chunks have. -/
def dataC (L : List Ck) : Nat := (L.map fun c => c.2.length).sum
theorem str_eq {t : List UInt8} {k : List UInt8} (h : t = k) : (strL t).toList = k := by rw [ByteArray.toList_eq, strL_list, h]
theorem str_ne {t : List UInt8} {k : List UInt8} (h : ¬ t = k) : ¬ (strL t).toList = k ∧ ((strL t).toList == k) = false := by
  have h2 : ¬ (strL t).toList = k := by rw [ByteArray.toList_eq, strL_list]; exact h
  exact ⟨h2, by simpa using h2⟩
theorem readT_none : readT [] = ([], hs0, 23) := rfl
theorem readT_type {k : Ck} {l : List Ck} (h : ¬ k.1 = tIHDR) : readT (k :: l) = ([], hs0, 23) := by rw [readT_cons, if_pos h]
theorem byteD_run {D : List UInt8} {k : Nat} (hk : k < D.length) (W : World) : (Instr.index 9 (.string (strL D)) (.int .i64 (k : Int))).run Try.prog W = .ok (.int .u8 ((D.getD k 0).toNat : Nat)) W := by
  rw [run_index_string W 9 (strL D) .i64 _ Try.underlying9, dif_pos (by rw [strL_size]; omega)]
  have e : (strL D)[k]'(by rw [strL_size]; exact hk) = D.getD k 0 := by
    rw [List.getD_eq_getElem?_getD, List.getElem?_eq_getElem hk]
    show (strL D).data[k] = D[k]
    unfold strL
    simp
  simp [e]
theorem readT_bad {D : List UInt8} {l : List Ck} (h : D.length ≠ 13 ∨ D.getD 10 0 ≠ 0 ∨ D.getD 11 0 ≠ 0) : readT ((tIHDR, D) :: l) = ([], hs0, 24) := by rw [readT_cons, if_neg (by simp), if_pos h]
theorem readT_head {D : List UInt8} {l : List Ck} (h : ¬ (D.length ≠ 13 ∨ D.getD 10 0 ≠ 0 ∨ D.getD 11 0 ≠ 0)) (hr : rightN (numsH D) ≠ 0) : readT ((tIHDR, D) :: l) = ([], hs0, rightN (numsH D)) := by rw [readT_cons, if_neg (by simp), if_neg h, if_pos hr]
theorem readT_on {D : List UInt8} {l : List Ck} (h : ¬ (D.length ≠ 13 ∨ D.getD 10 0 ≠ 0 ∨ D.getD 11 0 ≠ 0)) (hr : rightN (numsH D) = 0) : readT ((tIHDR, D) :: l) =
    if (runH ((numsH D).getD 2 0) ((numsH D).getD 3 0) l hs0).2 = 0 then (numsH D, runH ((numsH D).getD 2 0) ((numsH D).getD 3 0) l hs0) else ([], hs0, (runH ((numsH D).getD 2 0) ((numsH D).getD 3 0) l hs0).2) := by
  rw [readT_cons, if_neg (by simp), if_neg h, if_neg (by rw [hr]; simp)]
end Go.Proofs.Ytedffeimcccobaa
