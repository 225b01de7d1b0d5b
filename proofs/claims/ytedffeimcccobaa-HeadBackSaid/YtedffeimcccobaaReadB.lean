/- The contracts of the readers' Bytes. -/
import Derived.Test.YtedffeimcccobaaReader
import Derived.Lib.Strings
namespace Go.Proofs.Ytedffeimcccobaa
set_option maxRecDepth 100000
open Go Go.RowKit

/-- What a reader's Bytes does: the bytes and the error, and where it stands then. -/
def bytesErr (s : ByteArray) (p : Nat) (n : Int) : Int := if n < 0 then 1 else if (s.size - (p + 7) / 8 : Nat) < n then 3 else 0
def bytesVal (s : ByteArray) (p : Nat) (n : Int) : ByteArray := if bytesErr s p n = 0 then ⟨((s.data.toList.drop ((p + 7) / 8)).take n.toNat).toArray⟩ else ⟨#[]⟩
def bytesGo (s : ByteArray) (p : Nat) (n : Int) : Nat := if n < 0 then p else if bytesErr s p n = 0 then 8 * ((p + 7) / 8 + n.toNat) else 8 * ((p + 7) / 8)

theorem extract_eq (s : ByteArray) (a m : Nat) : s.extract a (a + m) = ⟨((s.data.toList.drop a).take m).toArray⟩ := by
  have h : (s.extract a (a + m)).data.toList = (s.data.toList.drop a).take m := by
    rw [Lib.extract_data]; congr 1; omega
  rw [← h]

theorem lay_byte (l : List UInt8) (j : Nat) (hj : j ≤ 3) (h : j < l.length) :
    Go.bits .or .i64 ((num (l.take j) : Nat) : Int) (wrap64 (wrap64 (l[j].toNat : Int) * 2 ^ (8 * j))) = ((num (l.take (j + 1)) : Nat) : Int) := by
  have hlt := l[j].toNat_lt
  have hn := num_lt (l.take j)
  rw [List.length_take, Nat.min_eq_left (by omega)] at hn
  rw [List.take_succ_eq_append_getElem h, num_snoc, List.length_take, Nat.min_eq_left (by omega), p256]
  rw [p256] at hn
  generalize num (l.take j) = y at *
  generalize l[j].toNat = z at *
  have hp : 2 ^ (8 * j) ≤ 2 ^ 24 := Nat.pow_le_pow_right (by decide) (by omega)
  have ez : wrap64 ((z : Nat) : Int) = ((z : Nat) : Int) := IntWalk.wrap64_in _ ⟨by omega, by omega⟩
  have hzj : z * 2 ^ (8 * j) ≤ 255 * 2 ^ 24 := Nat.mul_le_mul (by omega) hp
  have ew : wrap64 ((z * 2 ^ (8 * j) : Nat) : Int) = ((z * 2 ^ (8 * j) : Nat) : Int) := IntWalk.wrap64_in _ ⟨by omega, by omega⟩
  rw [ez, int_pow, ew, Nat.mul_comm (2 ^ (8 * j)) z]
  exact i64_join _ _ (8 * j) (by omega) hn (Nat.mul_mod_left z _) (by omega)

theorem mask_word (m : Nat) (hm : m ≤ 24) : wrap64 (wrap64 (2 ^ m) - 1) = 2 ^ m - 1 := by
  have hp : 2 ^ m ≤ 2 ^ 24 := Nat.pow_le_pow_right (by decide) hm
  have hpos := Nat.two_pow_pos m
  have e : ((2 : Int) ^ m) = ((2 ^ m : Nat) : Int) := by simp
  rw [e]
  generalize 2 ^ m = q at *
  have h1 : wrap64 (q : Int) = (q : Int) := IntWalk.wrap64_in _ ⟨by omega, by omega⟩
  have h2 : wrap64 ((q : Int) - 1) = (q : Int) - 1 := IntWalk.wrap64_in _ ⟨by omega, by omega⟩
  rw [h1, h2]
theorem take_bits (s : ByteArray) (p m : Nat) (hm : m ≤ 24) :
    Go.bits .and .i64 (((num ((s.data.toList.drop (p / 8)).take ((p % 8 + m + 7) / 8)) : Nat) : Int) / 2 ^ (p % 8)) (wrap64 (wrap64 (2 ^ m) - 1)) = ((bitsAt (num s.data.toList) p m : Nat) : Int) := by
  rw [mask_word m hm, i64_mask _ m (by omega), ← bitsAt_left s.data.toList p m ((p % 8 + m + 7) / 8) (by omega)]
  unfold bitsAt
  simp
end Go.Proofs.Ytedffeimcccobaa
