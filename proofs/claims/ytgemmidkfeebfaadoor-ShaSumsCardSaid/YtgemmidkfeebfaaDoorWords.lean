/- Plain laws on the bits of words: what and, or, xor and the shifts make of numbers that are not too great. -/
import Derived.Laws.BitsAllLaws
import Derived.Laws.BitsLemmas
namespace Go.Proofs.YtgemmidkfeebfaaDoor
set_option maxRecDepth 100000
open Go

theorem wraps_i64 (n : Int) (h₀ : 0 ≤ n) (h₁ : n < 2 ^ 63) : IntKind.i64.wrap n = n := by rw [IntKind.wrap_i64]; omega
theorem ofInt_i64 (a : Nat) (ha : a < 9223372036854775808) : (BitVec.ofInt 64 (a : Int)).toNat = a := by
  rw [BitVec.ofInt_natCast, BitVec.toNat_ofNat]; exact Nat.mod_eq_of_lt (by omega)
theorem i64_xor (a b : Nat) (ha : a < 9223372036854775808) (hb : b < 9223372036854775808) : bits .xor .i64 (a : Int) (b : Int) = ((a ^^^ b : Nat) : Int) := by
  have hx : a ^^^ b < 2 ^ 63 := Nat.xor_lt_two_pow (by omega) (by omega)
  show IntKind.i64.wrap ((BitVec.ofInt 64 (a : Int) ^^^ BitVec.ofInt 64 (b : Int)).toNat : Int) = _
  rw [BitVec.toNat_xor, ofInt_i64 a ha, ofInt_i64 b hb]
  exact wraps_i64 _ (by omega) (by omega)
theorem i64_or (a b : Nat) (ha : a < 9223372036854775808) (hb : b < 9223372036854775808) : bits .or .i64 (a : Int) (b : Int) = ((a ||| b : Nat) : Int) := by
  have hx : a ||| b < 2 ^ 63 := Nat.or_lt_two_pow (by omega) (by omega)
  show IntKind.i64.wrap ((BitVec.ofInt 64 (a : Int) ||| BitVec.ofInt 64 (b : Int)).toNat : Int) = _
  rw [BitVec.toNat_or, ofInt_i64 a ha, ofInt_i64 b hb]
  exact wraps_i64 _ (by omega) (by omega)
/-- A mask of n ones keeps the remainder, of whatever number. -/
theorem i64_mask (v : Int) (n : Nat) (hn : n ≤ 62) : bits .and .i64 v (2 ^ n - 1) = v % 2 ^ n := by
  have hp : 2 ^ n ≤ 2 ^ 62 := Nat.pow_le_pow_right (by decide) hn
  have hpos : 0 < 2 ^ n := Nat.two_pow_pos n
  have e : ((2 : Int) ^ n - 1) = ((2 ^ n - 1 : Nat) : Int) := by rw [Int.natCast_sub hpos]; simp
  have g1 : (BitVec.ofInt 64 v).toNat = (v % 18446744073709551616).toNat := by rw [BitVec.toNat_ofInt]; rfl
  have hm : (v % 18446744073709551616).toNat % 2 ^ n < 2 ^ n := Nat.mod_lt _ hpos
  have hd : ((2 : Int) ^ n) ∣ 18446744073709551616 := by
    have h : 2 ^ n ∣ (18446744073709551616 : Nat) := (by decide : (18446744073709551616 : Nat) = 2 ^ 64) ▸ Nat.pow_dvd_pow 2 (by omega)
    have := Int.natCast_dvd_natCast.2 h
    simpa using this
  have hc : (((v % 18446744073709551616).toNat % 2 ^ n : Nat) : Int) = v % 2 ^ n := by
    rw [Int.natCast_emod, Int.toNat_of_nonneg (Int.emod_nonneg _ (by decide))]
    have e2 : ((2 ^ n : Nat) : Int) = (2 : Int) ^ n := by simp
    rw [e2, Int.emod_emod_of_dvd _ hd]
  show IntKind.i64.wrap ((BitVec.ofInt 64 v &&& BitVec.ofInt 64 (2 ^ n - 1)).toNat : Int) = _
  rw [e, BitVec.toNat_and, ofInt_i64 _ (by omega), g1, Nat.and_two_pow_sub_one_eq_mod, ← hc]
  have hlast : (v % 18446744073709551616).toNat % 2 ^ n < 9223372036854775808 := by omega
  exact wraps_i64 _ (by omega) (by omega)
/-- A number whose low bits are none, and a smaller one: or is the sum. -/
theorem i64_join (x y i : Nat) (hx : x < 9223372036854775808) (hy : y < 2 ^ i) (hd : x % 2 ^ i = 0) (hi : i ≤ 62) : bits .or .i64 (y : Int) (x : Int) = ((y + x : Nat) : Int) := by
  have hp : 2 ^ i ≤ 2 ^ 62 := Nat.pow_le_pow_right (by decide) hi
  rw [i64_or _ _ (by omega) hx, Nat.or_comm, nat_join i x y hd hy, Nat.add_comm]
theorem xor_lt_u8 (a : UInt8) : a.toNat < 256 := a.toNat_lt
end Go.Proofs.YtgemmidkfeebfaaDoor
