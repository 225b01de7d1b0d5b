/- Plain mathematics of layer 11: samples in a row's bits, and samples of 16 bits. -/
import Derived.Test.YtgemmidkfeebfaaDoorWA
set_option linter.unusedVariables false
namespace Go.Proofs.YtgemmidkfeebfaaDoor
set_option maxRecDepth 100000
open Go

/-- A bit of a number. -/
def bitN (v b : Nat) : Nat := v / 2 ^ b % 2
/-- The number of bits, the highest one first. -/
def valN (f : Nat → Nat) : Nat → Nat
  | 0 => 0
  | n + 1 => 2 * valN f n + f n
theorem bitN_lt (v b : Nat) : bitN v b < 2 := Nat.mod_lt _ (by decide)
theorem valN_lt {f : Nat → Nat} {n : Nat} (h : ∀ b, b < n → f b < 2) : valN f n < 2 ^ n := by
  induction n with
  | zero => exact Nat.one_pos
  | succ n ih =>
    have a := ih fun b hb => h b (by omega)
    have b := h n (by omega)
    show 2 * valN f n + f n < 2 ^ (n + 1)
    rw [Nat.pow_succ]; omega
theorem valN_congr {f g : Nat → Nat} {n : Nat} (h : ∀ b, b < n → f b = g b) : valN f n = valN g n := by
  induction n with
  | zero => rfl
  | succ n ih => show 2 * valN f n + f n = 2 * valN g n + g n; rw [ih fun b hb => h b (by omega), h n (by omega)]
/-- The bits of a number of bits are these. -/
theorem bitN_val {f : Nat → Nat} : ∀ {n : Nat}, (∀ b, b < n → f b < 2) → ∀ b, b < n → bitN (valN f n) (n - 1 - b) = f b := by
  intro n
  induction n with
  | zero => intro _ b hb; exact absurd hb (Nat.not_lt_zero _)
  | succ n ih =>
    intro h b hb
    by_cases hn : b = n
    · subst hn
      have := h b (by omega)
      unfold bitN
      show (2 * valN f b + f b) / 2 ^ (b + 1 - 1 - b) % 2 = f b
      rw [show b + 1 - 1 - b = 0 by omega, Nat.pow_zero, Nat.div_one]; omega
    · have hl := h n (by omega)
      have hi := ih (fun b hb => h b (by omega)) b (by omega)
      unfold bitN at hi ⊢
      show (2 * valN f n + f n) / 2 ^ (n + 1 - 1 - b) % 2 = f b
      rw [show n + 1 - 1 - b = (n - 1 - b) + 1 by omega, Nat.pow_succ, Nat.mul_comm (2 ^ (n - 1 - b)) 2, ← Nat.div_div_eq_div_mul,
        show (2 * valN f n + f n) / 2 = valN f n by omega, hi]
/-- The number of a number's low bits. -/
theorem valN_bits (v : Nat) : ∀ n, valN (fun b => bitN v (n - 1 - b)) n = v % 2 ^ n := by
  have key : ∀ n m, valN (fun b => bitN v (m + n - 1 - b)) n = v / 2 ^ m % 2 ^ n := by
    intro n
    induction n with
    | zero => intro m; rw [Nat.pow_zero, Nat.mod_one]; rfl
    | succ n ih =>
      intro m
      have h := ih (m + 1)
      show 2 * valN (fun b => bitN v (m + (n + 1) - 1 - b)) n + bitN v (m + (n + 1) - 1 - n) = _
      rw [valN_congr (g := fun b => bitN v (m + 1 + n - 1 - b)) (fun b _ => by show bitN v (m + (n + 1) - 1 - b) = bitN v (m + 1 + n - 1 - b); rw [show m + (n + 1) - 1 - b = m + 1 + n - 1 - b by omega]), h]
      unfold bitN
      rw [show m + (n + 1) - 1 - n = m by omega, Nat.pow_succ 2 m, ← Nat.div_div_eq_div_mul, Nat.pow_succ 2 n, Nat.mul_comm (2 ^ n) 2, Nat.mod_mul]
      omega
  intro n
  have := key n 0
  rw [Nat.pow_zero, Nat.div_one] at this
  rw [← this]
  exact valN_congr fun b _ => by show bitN v (n - 1 - b) = bitN v (0 + n - 1 - b); rw [Nat.zero_add]
theorem valN_tail {f : Nat → Nat} {m : Nat} : ∀ k, (∀ b, m ≤ b → b < m + k → f b = 0) → valN f (m + k) = valN f m * 2 ^ k := by
  intro k
  induction k with
  | zero => intro _; rw [Nat.pow_zero, Nat.mul_one]; rfl
  | succ k ih =>
    intro h
    show 2 * valN f (m + k) + f (m + k) = _
    rw [ih (fun b h1 h2 => h b h1 (by omega)), h (m + k) (by omega) (by omega), Nat.pow_succ, Nat.add_zero, ← Nat.mul_assoc, Nat.mul_comm 2, Nat.mul_right_comm, Nat.mul_assoc _ (2 ^ k) 2, ← Nat.mul_assoc]
/-- A bit of a row. -/
def rowBit (row : List UInt8) (k : Nat) : Nat := bitN (row.getD (k / 8) 0).toNat (7 - k % 8)
/-- A sample of a row. -/
def sampleN (row : List UInt8) (depth i : Nat) : Nat := valN (fun b => rowBit row (i * depth + b)) depth
def unpackT (row : List UInt8) (depth n : Nat) : List Nat := (List.range n).map (sampleN row depth)
/-- A bit of samples. -/
def packBit (depth : Nat) (l : List Nat) (k : Nat) : Nat := if k < l.length * depth then bitN (l.getD (k / depth) 0) (depth - 1 - k % depth) else 0
/-- The row of samples. -/
def packT (depth : Nat) (l : List Nat) : List UInt8 := (List.range ((l.length * depth + 7) / 8)).map fun j => UInt8.ofNat (valN (fun b => packBit depth l (8 * j + b)) 8)
theorem packT_length (depth : Nat) (l : List Nat) : (packT depth l).length = (l.length * depth + 7) / 8 := by unfold packT; rw [List.length_map, List.length_range]
theorem packBit_lt (depth : Nat) (l : List Nat) (k : Nat) : packBit depth l k < 2 := by
  unfold packBit
  by_cases h : k < l.length * depth
  · rw [if_pos h]; exact bitN_lt _ _
  · rw [if_neg h]; decide
theorem packT_at (depth : Nat) (l : List Nat) {j : Nat} (hj : j < (l.length * depth + 7) / 8) : ((packT depth l).getD j 0).toNat = valN (fun b => packBit depth l (8 * j + b)) 8 := by
  unfold packT
  rw [List.getD_eq_getElem?_getD, List.getElem?_map, List.getElem?_range hj]
  show (UInt8.ofNat (valN (fun b => packBit depth l (8 * j + b)) 8)).toNat = _
  rw [UInt8.toNat_ofNat']
  exact Nat.mod_eq_of_lt (valN_lt fun b _ => packBit_lt _ _ _)
/-- The bits of a row of samples are those of the samples. -/
theorem rowBit_pack (depth : Nat) (l : List Nat) {k : Nat} (hk : k / 8 < (l.length * depth + 7) / 8) : rowBit (packT depth l) k = packBit depth l k := by
  unfold rowBit
  rw [packT_at _ _ hk]
  have h := bitN_val (f := fun b => packBit depth l (8 * (k / 8) + b)) (n := 8) (fun b _ => packBit_lt _ _ _) (k % 8) (Nat.mod_lt _ (by decide))
  rw [show 7 - k % 8 = 8 - 1 - k % 8 from rfl, h]
  show packBit depth l (8 * (k / 8) + k % 8) = _
  rw [Nat.div_add_mod]
theorem sample_pack {depth : Nat} (hd : 1 ≤ depth) (l : List Nat) {i : Nat} (hi : i < l.length) : sampleN (packT depth l) depth i = l.getD i 0 % 2 ^ depth := by
  unfold sampleN
  rw [← valN_bits]
  refine valN_congr fun b hb => ?_
  have hlt : i * depth + b < l.length * depth := by
    have : (i + 1) * depth ≤ l.length * depth := Nat.mul_le_mul_right _ hi
    rw [Nat.succ_mul] at this
    omega
  rw [rowBit_pack _ _ (by omega)]
  unfold packBit
  rw [if_pos hlt]
  have e1 : (i * depth + b) / depth = i := by rw [Nat.mul_comm, Nat.mul_add_div (by omega), Nat.div_eq_of_lt hb, Nat.add_zero]
  have e2 : (i * depth + b) % depth = b := by rw [Nat.mul_comm, Nat.mul_add_mod, Nat.mod_eq_of_lt hb]
  rw [e1, e2]
/-- The samples of a row of samples are these, as far as their depth goes. -/
theorem unpack_pack {depth : Nat} (hd : 1 ≤ depth) (l : List Nat) : unpackT (packT depth l) depth l.length = l.map (· % 2 ^ depth) := by
  unfold unpackT
  apply List.ext_getElem
  · rw [List.length_map, List.length_map, List.length_range]
  · intro i h1 h2
    rw [List.length_map, List.length_range] at h1
    rw [List.getElem_map, List.getElem_map, List.getElem_range, sample_pack hd l h1, List.getD_eq_getElem?_getD, List.getElem?_eq_getElem h1]
    rfl
/-- The bits behind the last sample are noughts. -/
theorem pack_rest {depth : Nat} (l : List Nat) (h : l.length * depth % 8 ≠ 0) :
    ((packT depth l).getD ((packT depth l).length - 1) 0).toNat % 2 ^ (8 - l.length * depth % 8) = 0 := by
  rw [packT_length, packT_at _ _ (by omega)]
  have e : 8 = l.length * depth % 8 + (8 - l.length * depth % 8) := by omega
  have h8 := valN_tail (f := fun b => packBit depth l (8 * ((l.length * depth + 7) / 8 - 1) + b)) (m := l.length * depth % 8) (8 - l.length * depth % 8) (by
    intro b h1 h2
    show packBit depth l _ = 0
    unfold packBit
    rw [if_neg (by omega)])
  rw [← e] at h8
  rw [h8, Nat.mul_mod_left]

/-! Samples of 16 bits. -/
def isDepth (d : Nat) : Prop := d = 1 ∨ d = 2 ∨ d = 4 ∨ d = 8 ∨ d = 16
def wideN (v depth : Nat) : Nat := v * 65535 / (2 ^ depth - 1)
theorem wideN_is {depth : Nat} (hd : isDepth depth) (v : Nat) : wideN v depth = v * (65535 / (2 ^ depth - 1)) ∧ 1 ≤ 65535 / (2 ^ depth - 1) := by
  unfold wideN
  rcases hd with rfl | rfl | rfl | rfl | rfl
  · exact ⟨by show v * 65535 / 1 = v * 65535; omega, by decide⟩
  · exact ⟨by show v * 65535 / 3 = v * 21845; omega, by decide⟩
  · exact ⟨by show v * 65535 / 15 = v * 4369; omega, by decide⟩
  · exact ⟨by show v * 65535 / 255 = v * 257; omega, by decide⟩
  · exact ⟨by show v * 65535 / 65535 = v * 1; omega, by decide⟩
theorem wideN_lt {depth : Nat} (hd : isDepth depth) (a b : Nat) : wideN a depth < wideN b depth ↔ a < b := by
  obtain ⟨h1, h2⟩ := wideN_is hd a
  obtain ⟨h3, _⟩ := wideN_is hd b
  rw [h1, h3]
  exact Nat.mul_lt_mul_right (by omega)
theorem wideN_eq {depth : Nat} (hd : isDepth depth) (a b : Nat) : wideN a depth = wideN b depth ↔ a = b := by
  constructor
  · intro h
    rcases Nat.lt_trichotomy a b with h1 | h1 | h1
    · have := (wideN_lt hd a b).2 h1; omega
    · exact h1
    · have := (wideN_lt hd b a).2 h1; omega
  · intro h; rw [h]
theorem wideN_most {depth : Nat} (hd : isDepth depth) : wideN (2 ^ depth - 1) depth = 65535 := by
  rcases hd with rfl | rfl | rfl | rfl | rfl <;> decide
theorem wideN_le {depth : Nat} (hd : isDepth depth) {v : Nat} (h : v ≤ 2 ^ depth - 1) : wideN v depth ≤ 65535 := by
  rw [← wideN_most hd]
  obtain ⟨h1, _⟩ := wideN_is hd v
  obtain ⟨h3, _⟩ := wideN_is hd (2 ^ depth - 1)
  rw [h1, h3]
  exact Nat.mul_le_mul_right _ h
end Go.Proofs.YtgemmidkfeebfaaDoor
