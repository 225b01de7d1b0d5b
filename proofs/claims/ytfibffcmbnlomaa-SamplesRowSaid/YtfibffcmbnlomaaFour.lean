/- Plain: a number as four bytes, strings as lists of bytes. -/
import Derived.Test.YtfibffcmbnlomaaMath
set_option linter.unusedVariables false
namespace Go.Proofs.Ytfibffcmbnlomaa
set_option maxRecDepth 100000
open Go

/-- A number as four bytes, the highest one first. -/
def fourL (n : Nat) : List UInt8 := [UInt8.ofNat (n / 16777216), UInt8.ofNat (n / 65536), UInt8.ofNat (n / 256), UInt8.ofNat n]
/-- The number of bytes, the highest one first. -/
def ofL (l : List UInt8) : Nat := l.foldl (fun n b => 256 * n + b.toNat) 0
theorem ofL_four {n : Nat} (h : n < 4294967296) : ofL (fourL n) = n := by
  have a := UInt8.toNat_ofNat' (n := n / 16777216)
  have b := UInt8.toNat_ofNat' (n := n / 65536)
  have c := UInt8.toNat_ofNat' (n := n / 256)
  have d := UInt8.toNat_ofNat' (n := n)
  show 256 * (256 * (256 * (256 * 0 + (UInt8.ofNat (n / 16777216)).toNat) + (UInt8.ofNat (n / 65536)).toNat) + (UInt8.ofNat (n / 256)).toNat) + (UInt8.ofNat n).toNat = n
  omega
theorem ofL_inj4 : ∀ {a b : List UInt8}, a.length = 4 → b.length = 4 → ofL a = ofL b → a = b
  | [a1, a2, a3, a4], [b1, b2, b3, b4], _, _, h => by
    have h' : 256 * (256 * (256 * (256 * 0 + a1.toNat) + a2.toNat) + a3.toNat) + a4.toNat = 256 * (256 * (256 * (256 * 0 + b1.toNat) + b2.toNat) + b3.toNat) + b4.toNat := h
    have l1 := a1.toNat_lt; have l2 := a2.toNat_lt; have l3 := a3.toNat_lt; have l4 := a4.toNat_lt
    have m1 := b1.toNat_lt; have m2 := b2.toNat_lt; have m3 := b3.toNat_lt; have m4 := b4.toNat_lt
    have e1 : a1.toNat = b1.toNat := by omega
    have e2 : a2.toNat = b2.toNat := by omega
    have e3 : a3.toNat = b3.toNat := by omega
    have e4 : a4.toNat = b4.toNat := by omega
    rw [UInt8.toNat_inj.1 e1, UInt8.toNat_inj.1 e2, UInt8.toNat_inj.1 e3, UInt8.toNat_inj.1 e4]
/-- Bytes as a string. -/
def strL (l : List UInt8) : ByteArray := ⟨l.toArray⟩
theorem strL_list (l : List UInt8) : (strL l).data.toList = l := by unfold strL; simp
theorem strL_size (l : List UInt8) : (strL l).size = l.length := by unfold strL; show l.toArray.size = l.length; simp
theorem strL_of (s : ByteArray) : strL s.data.toList = s := by unfold strL; apply ByteArray.ext; simp
theorem strL_append (a b : List UInt8) : strL (a ++ b) = strL a ++ strL b := by
  unfold strL
  apply ByteArray.ext
  simp
theorem ext_list (s : ByteArray) (i j : Nat) : s.extract i j = strL ((s.data.toList.take j).drop i) := by
  unfold strL
  apply ByteArray.ext
  rw [ByteArray.data_extract]
  apply Array.ext'
  rw [Array.toList_extract, List.extract_eq_take_drop]
  simp only
  rw [List.drop_take]
theorem fourL_length (n : Nat) : (fourL n).length = 4 := rfl
theorem ofL_lt4 : ∀ {a : List UInt8}, a.length = 4 → ofL a < 4294967296
  | [a1, a2, a3, a4], _ => by
    have l1 := a1.toNat_lt; have l2 := a2.toNat_lt; have l3 := a3.toNat_lt; have l4 := a4.toNat_lt
    show 256 * (256 * (256 * (256 * 0 + a1.toNat) + a2.toNat) + a3.toNat) + a4.toNat < 4294967296
    omega
theorem four_ofL {a : List UInt8} (h : a.length = 4) : fourL (ofL a) = a := ofL_inj4 (fourL_length _) h (ofL_four (ofL_lt4 h))
theorem adSum_lt (l : List UInt8) : adSum l < 4294967296 := by
  have h := adP_lt l
  unfold adSum
  omega
theorem set_ne {l : List UInt8} {k : Nat} {y : UInt8} (hk : k < l.length) (hy : y ≠ l[k]) : l.set k y ≠ l := by
  intro h
  have h1 : (l.set k y)[k]'(by rw [List.length_set]; exact hk) = y := List.getElem_set_self _
  apply hy
  rw [← h1]
  simp only [h]
end Go.Proofs.Ytfibffcmbnlomaa
