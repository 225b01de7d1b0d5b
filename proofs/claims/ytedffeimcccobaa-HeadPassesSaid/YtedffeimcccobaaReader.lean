/- The contracts of the readers of bits. -/
import Derived.Test.YtedffeimcccobaaCrc
import Derived.Test.YtedffeimcccobaaStream
import Derived.Test.YtedffeimcccobaaMem
import Derived.WalkKit
import Derived.WalkSpells
import Derived.WalkLawsBesides
import Derived.Lib.Hide
import Derived.Outline
import Derived.Laws.IdiomStrings
import Derived.Deep.QuietTactic
import Derived.BigQuiet
import Derived.RegionTactic
namespace Go.Proofs.Ytedffeimcccobaa
set_option maxRecDepth 100000
open Go Go.RowKit

/-- What a reader's Bits does: the number and the error, and where it stands then. -/
def bitsErr (s : ByteArray) (p : Nat) (n : Int) : Int := if n < 0 ∨ 24 < n then 1 else if (8 * s.size - p : Nat) < n then 3 else 0
def bitsVal (s : ByteArray) (p : Nat) (n : Int) : Nat := if bitsErr s p n = 0 then bitsAt (num s.data.toList) p n.toNat else 0
def bitsGo (s : ByteArray) (p : Nat) (n : Int) : Nat := if bitsErr s p n = 0 then p + n.toNat else p

theorem byte_at (s : ByteArray) (i : Nat) (h : i < s.size) : s[i] = s.data.toList[i]'(by simpa using h) := rfl
theorem int_pow (z j : Nat) : ((z : Nat) : Int) * 2 ^ j = ((z * 2 ^ j : Nat) : Int) := by simp
theorem lay_bit' (y z j : Nat) (hj : j < 24) (hz : z < 2) (hy : y < 2 ^ j) :
    Go.bits .or .i64 (y : Int) (wrap64 (wrap64 (z : Int) * 2 ^ j)) = ((y + z * 2 ^ j : Nat) : Int) := by
  have hp : 2 ^ j ≤ 2 ^ 24 := Nat.pow_le_pow_right (by decide) (by omega)
  have ez : wrap64 ((z : Nat) : Int) = ((z : Nat) : Int) := IntWalk.wrap64_in _ ⟨by omega, by omega⟩
  have hzj : z * 2 ^ j ≤ 1 * 2 ^ 24 := Nat.mul_le_mul (by omega) hp
  have ew : wrap64 ((z * 2 ^ j : Nat) : Int) = ((z * 2 ^ j : Nat) : Int) := IntWalk.wrap64_in _ ⟨by omega, by omega⟩
  rw [ez, int_pow, ew]
  exact i64_join _ _ j (by omega) hy (Nat.mul_mod_left z (2 ^ j)) (by omega)
theorem lay_bit (s : ByteArray) (p j : Nat) (hj : j < 24) (h : (p + j) / 8 < s.size) :
    Go.bits .or .i64 ((bitsAt (num s.data.toList) p j : Nat) : Int) (wrap64 (wrap64 (Go.bits .and .u8 (((s[(p + j) / 8]'h).toNat : Int) / 2 ^ ((p + j) % 8)) 1) * 2 ^ j)) = ((bitsAt (num s.data.toList) p (j + 1) : Nat) : Int) := by
  have hb := bit_of_byte s.data.toList (p + j) (by simpa using h)
  rw [← byte_at s _ h] at hb
  have hlt := (s[(p + j) / 8]'h).toNat_lt
  generalize (s[(p + j) / 8]'h).toNat = x at *
  have e1 : ((x : Int) / 2 ^ ((p + j) % 8)) = ((x / 2 ^ ((p + j) % 8) : Nat) : Int) := by simp
  have h1 : x / 2 ^ ((p + j) % 8) < 256 := Nat.lt_of_le_of_lt (Nat.div_le_self _ _) (by omega)
  have e2 := u8_and_nat (x / 2 ^ ((p + j) % 8)) 1 h1 (by decide)
  rw [nat_mask1, hb] at e2
  have hz := bitsAt_lt (num s.data.toList) (p + j) 1
  have hy := bitsAt_lt (num s.data.toList) p j
  rw [e1, bitsAt_succ]
  generalize bitsAt (num s.data.toList) (p + j) 1 = z at *
  generalize bitsAt (num s.data.toList) p j = y at *
  have e3 : Go.bits .and .u8 ((x / 2 ^ ((p + j) % 8) : Nat) : Int) 1 = (z : Int) := e2
  rw [e3]
  exact lay_bit' y z j hj hz hy

end Go.Proofs.Ytedffeimcccobaa

