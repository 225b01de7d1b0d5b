/- The document's pixel of samples: the samples widened, one after the other. -/
import Derived.Test.YtfibffcmbnlomaaSbG
import Derived.Deep.RegionWith
import Derived.BigRegion
set_option maxRecDepth 100000
set_option linter.unusedVariables false
namespace Go.Proofs.Ytfibffcmbnlomaa
set_option maxRecDepth 100000
open Go Go.RowKit
/-- A sample's two bytes with 16 bits. -/
def wB (D : Nat) (x : Int) : ByteArray := strL (twoB (wideA x (D : Int)))
theorem wideA_lt (x : Int) (d : Int) : wideA x d < 65536 := by
  unfold wideA
  by_cases h : depB d = true
  · rw [if_pos h]
    obtain ⟨D, rfl, hdep, _, _⟩ := depB_nat h
    have h1 : (x % 2 ^ (D : Int).toNat).toNat ≤ 2 ^ D - 1 := by
      have e : (D : Int).toNat = D := rfl
      rw [e]
      have hp : 0 < 2 ^ D := Nat.pow_pos (by decide)
      have h2 : x % ((2 ^ D : Nat) : Int) < ((2 ^ D : Nat) : Int) := Int.emod_lt_of_pos _ (by omega)
      have h3 : 0 ≤ x % ((2 ^ D : Nat) : Int) := Int.emod_nonneg _ (by omega)
      have e2 : ((2 ^ D : Nat) : Int) = (2 : Int) ^ D := by simp
      rw [← e2]
      omega
    have := wideN_le hdep h1
    exact Nat.lt_of_le_of_lt this (by decide)
  · rw [if_neg h]; decide
/-- Whether samples are of a depth. -/
def inR (D : Nat) (l : List Int) : Bool := l.all fun x => decide (0 ≤ x ∧ x < ((2 ^ D : Nat) : Int))
theorem take_nextZ {l : List Int} {i : Nat} {x : Int} (h : l[i]? = some x) : l.take (i + 1) = l.take i ++ [x] := by
  rw [List.take_succ_eq_append_getElem (List.getElem?_eq_some_iff.1 h).1]
  congr 1
  rw [(List.getElem?_eq_some_iff.1 h).2]
end Go.Proofs.Ytfibffcmbnlomaa
