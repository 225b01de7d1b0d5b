/- Plain mathematics of layer 11, further: a row of samples while it is laid, bit by bit. -/
import Derived.Test.YtgemmidkfeebfaaDoorSaM
import Derived.Test.YtgemmidkfeebfaaDoorFiM
set_option linter.unusedVariables false
namespace Go.Proofs.YtgemmidkfeebfaaDoor
set_option maxRecDepth 100000
open Go
theorem valN_zero (n : Nat) : valN (fun _ => 0) n = 0 := by
  induction n with
  | zero => rfl
  | succ n ih => show 2 * valN (fun _ => 0) n + 0 = 0; rw [ih]
/-- A byte of which the first bits are laid. -/
def partB (D : Nat) (l : List Nat) (k j : Nat) : Nat := valN (fun b => if 8 * j + b < k then packBit D l (8 * j + b) else 0) 8
/-- A row of which the first bits are laid. -/
def partT (D : Nat) (l : List Nat) (k : Nat) : List UInt8 := (List.range ((l.length * D + 7) / 8)).map fun j => UInt8.ofNat (partB D l k j)
theorem partT_length (D : Nat) (l : List Nat) (k : Nat) : (partT D l k).length = (l.length * D + 7) / 8 := by unfold partT; rw [List.length_map, List.length_range]
theorem partT_at (D : Nat) (l : List Nat) (k : Nat) {j : Nat} (hj : j < (l.length * D + 7) / 8) : (partT D l k).getD j 0 = UInt8.ofNat (partB D l k j) := by
  unfold partT
  rw [List.getD_eq_getElem?_getD, List.getElem?_map, List.getElem?_range hj]
  rfl
theorem partB_lt (D : Nat) (l : List Nat) (k j : Nat) : partB D l k j < 256 := by
  unfold partB
  refine valN_lt (n := 8) fun b _ => ?_
  split
  · exact packBit_lt _ _ _
  · decide
theorem partT_zero (D : Nat) (l : List Nat) : partT D l 0 = List.replicate ((l.length * D + 7) / 8) 0 := by
  refine ext_getD (by rw [partT_length, List.length_replicate]) fun j hj => ?_
  rw [partT_length] at hj
  rw [partT_at _ _ _ hj, getD_zeros]
  have e : partB D l 0 j = 0 := by
    unfold partB
    rw [valN_congr (g := fun _ => 0) (fun b _ => if_neg (by omega)), valN_zero]
  rw [e]
  rfl
theorem partT_all (D : Nat) (l : List Nat) : partT D l (l.length * D) = packT D l := by
  have e : ∀ j, partB D l (l.length * D) j = valN (fun b => packBit D l (8 * j + b)) 8 := fun j => by
    unfold partB
    refine valN_congr fun b _ => ?_
    by_cases h : 8 * j + b < l.length * D
    · rw [if_pos h]
    · rw [if_neg h]; unfold packBit; rw [if_neg h]
  unfold partT packT
  simp only [e]
theorem partB_other {D : Nat} {l : List Nat} {k j : Nat} (h : j ≠ k / 8) : partB D l (k + 1) j = partB D l k j := by
  unfold partB
  refine valN_congr fun b hb => ?_
  by_cases h1 : 8 * j + b < k
  · rw [if_pos h1, if_pos (by omega)]
  · rw [if_neg h1, if_neg (by omega)]
/-- The bits behind the first ones are noughts. -/
theorem partB_form (D : Nat) (l : List Nat) (k : Nat) : partB D l k (k / 8) = valN (fun b => packBit D l (8 * (k / 8) + b)) (k % 8) * 2 ^ (8 - k % 8) := by
  have hm : k % 8 < 8 := Nat.mod_lt _ (by decide)
  have h8 := valN_tail (f := fun b => if 8 * (k / 8) + b < k then packBit D l (8 * (k / 8) + b) else 0) (m := k % 8) (8 - k % 8) (fun b h1 h2 => if_neg (by omega))
  rw [show k % 8 + (8 - k % 8) = 8 by omega] at h8
  unfold partB
  rw [h8]
  congr 1
  refine valN_congr fun b hb => if_pos (by omega)
theorem partB_next (D : Nat) (l : List Nat) (k : Nat) : partB D l (k + 1) (k / 8) = partB D l k (k / 8) + packBit D l k * 2 ^ (7 - k % 8) := by
  have hm : k % 8 < 8 := Nat.mod_lt _ (by decide)
  rw [partB_form]
  have h8 := valN_tail (f := fun b => if 8 * (k / 8) + b < k + 1 then packBit D l (8 * (k / 8) + b) else 0) (m := k % 8 + 1) (7 - k % 8) (fun b h1 h2 => if_neg (by omega))
  rw [show k % 8 + 1 + (7 - k % 8) = 8 by omega] at h8
  unfold partB
  rw [h8]
  have e1 : valN (fun b => if 8 * (k / 8) + b < k + 1 then packBit D l (8 * (k / 8) + b) else 0) (k % 8 + 1) = 2 * valN (fun b => packBit D l (8 * (k / 8) + b)) (k % 8) + packBit D l k := by
    show 2 * valN _ (k % 8) + (if 8 * (k / 8) + k % 8 < k + 1 then packBit D l (8 * (k / 8) + k % 8) else 0) = _
    rw [valN_congr (g := fun b => packBit D l (8 * (k / 8) + b)) (fun b hb => if_pos (by omega)), Nat.div_add_mod, if_pos (by omega)]
  rw [e1, show 8 - k % 8 = (7 - k % 8) + 1 by omega, Nat.pow_succ, Nat.add_mul]
  congr 1
  rw [Nat.mul_comm 2, Nat.mul_assoc, Nat.mul_comm 2]
/-- The bit laid is an 'or'. -/
theorem partB_or (D : Nat) (l : List Nat) (k : Nat) : partB D l k (k / 8) ||| packBit D l k * 2 ^ (7 - k % 8) = partB D l (k + 1) (k / 8) := by
  have hm : k % 8 < 8 := Nat.mod_lt _ (by decide)
  have hb : packBit D l k * 2 ^ (7 - k % 8) < 2 ^ (8 - k % 8) := by
    have h1 := packBit_lt D l k
    have h2 : 0 < 2 ^ (7 - k % 8) := Nat.pow_pos (by decide)
    rw [show 8 - k % 8 = (7 - k % 8) + 1 by omega, Nat.pow_succ]
    have h3 : packBit D l k * 2 ^ (7 - k % 8) ≤ 1 * 2 ^ (7 - k % 8) := Nat.mul_le_mul_right _ (by omega)
    omega
  rw [partB_next, partB_form, Nat.mul_comm (valN _ _), ← Nat.two_pow_add_eq_or_of_lt hb]
theorem partT_next {D : Nat} {l : List Nat} {k : Nat} (hk : k < l.length * D) : (partT D l k).set (k / 8) (UInt8.ofNat (partB D l (k + 1) (k / 8))) = partT D l (k + 1) := by
  have hj : k / 8 < (l.length * D + 7) / 8 := by omega
  refine ext_getD (by rw [List.length_set, partT_length, partT_length]) fun j h => ?_
  rw [List.length_set, partT_length] at h
  rw [partT_at _ _ _ h]
  by_cases e : j = k / 8
  · subst e
    rw [getD_lt (by rw [List.length_set, partT_length]; exact h), List.getElem_set_self]
  · rw [List.getD_eq_getElem?_getD, List.getElem?_set_ne (by omega), ← List.getD_eq_getElem?_getD, partT_at _ _ _ h, partB_other e]
/-- The low bits of a number that may be below nought. -/
def lowN (x : Int) : Nat := (x % 65536).toNat
theorem lowN_bit (x : Int) {e : Nat} (he : e ≤ 15) : x / 2 ^ e % 2 = ((bitN (lowN x) e : Nat) : Int) := by
  unfold bitN lowN
  have h : ∀ e, e ≤ 15 → x / 2 ^ e % 2 = (x % 65536) / 2 ^ e % 2 := by
    intro e he
    match e, he with
    | 0, _ => omega
    | 1, _ => omega
    | 2, _ => omega
    | 3, _ => omega
    | 4, _ => omega
    | 5, _ => omega
    | 6, _ => omega
    | 7, _ => omega
    | 8, _ => omega
    | 9, _ => omega
    | 10, _ => omega
    | 11, _ => omega
    | 12, _ => omega
    | 13, _ => omega
    | 14, _ => omega
    | 15, _ => omega
  rw [h e he]
  obtain ⟨m, hm⟩ : ∃ m : Nat, x % 65536 = (m : Int) := ⟨(x % 65536).toNat, by omega⟩
  rw [hm]
  simp
theorem packBit_of {D : Nat} {l : List Nat} {i b : Nat} (hi : i < l.length) (hb : b < D) : packBit D l (i * D + b) = bitN (l.getD i 0) (D - 1 - b) := by
  have hlt : i * D + b < l.length * D := by
    have : (i + 1) * D ≤ l.length * D := Nat.mul_le_mul_right _ hi
    rw [Nat.succ_mul] at this
    omega
  unfold packBit
  rw [if_pos hlt]
  have e1 : (i * D + b) / D = i := by rw [Nat.mul_comm, Nat.mul_add_div (by omega), Nat.div_eq_of_lt hb, Nat.add_zero]
  have e2 : (i * D + b) % D = b := by rw [Nat.mul_comm, Nat.mul_add_mod, Nat.mod_eq_of_lt hb]
  rw [e1, e2]
end Go.Proofs.YtgemmidkfeebfaaDoor
