/- The contract of the text that a call of a statement lays: so many bytes that count up. -/
import Derived.Test.YtmafcmfafcjokaaWriteD
namespace Go.Proofs.Ytmafcmfafcjokaa
open Go Go.RowKit

/-- The byte at place i. -/
def upByte (v : Int) (i : Nat) : UInt8 := UInt8.ofNat ((v + (i : Int)) % 256).toNat
theorem upByte_nat (v : Int) (i : Nat) : ((upByte v i).toNat : Int) = (v + (i : Int)) % 256 := by
  have h : (upByte v i).toNat = ((v + (i : Int)) % 256).toNat % 256 := UInt8.toNat_ofNat'
  omega
def upLen (n : Int) : Nat := min n.toNat 50
def upText (n v : Int) : ByteArray := ⟨((List.range (upLen n)).map (upByte v)).toArray⟩
theorem upText_size (n v : Int) : (upText n v).size = upLen n := by
  show ((List.range (upLen n)).map (upByte v)).toArray.size = _
  simp
theorem upLen_le (n : Int) : upLen n ≤ 50 := by unfold upLen; omega
/-- The bytes when j of them are laid. -/
def upMid (k : Nat) (v : Int) (j : Nat) : List UInt8 := (List.range k).map fun i => if i < j then upByte v i else 0
theorem upMid_length (k : Nat) (v : Int) (j : Nat) : (upMid k v j).length = k := by simp [upMid]
theorem upMid_zero (k : Nat) (v : Int) : upMid k v 0 = List.replicate k 0 := by
  unfold upMid
  apply List.ext_getElem
  · simp
  · intro i h1 h2; simp
theorem upMid_full (k : Nat) (v : Int) : upMid k v k = (List.range k).map (upByte v) := by
  unfold upMid
  apply List.map_congr_left
  intro i hi
  rw [if_pos (List.mem_range.1 hi)]
theorem upMid_succ (k : Nat) (v : Int) (j : Nat) : (upMid k v j).set j (upByte v j) = upMid k v (j + 1) := by
  unfold upMid
  apply List.ext_getElem
  · simp
  · intro i h1 h2
    simp only [List.getElem_set, List.getElem_map, List.getElem_range]
    by_cases h : j = i
    · subst h; simp
    · rw [if_neg h]
      by_cases h3 : i < j
      · rw [if_pos h3, if_pos (by omega)]
      · rw [if_neg h3, if_neg (by omega)]
theorem wrap_up (v : Int) (j : Nat) : wrap64 (v + (j : Int)) % 256 = ((upByte v j).toNat : Int) := by
  rw [upByte_nat]
  unfold wrap64
  omega

end Go.Proofs.Ytmafcmfafcjokaa
