/- Plain arithmetic behind the statements on package bits: the cyclic sum and the other sum, on lists of bytes and natural numbers. -/
import Derived.Laws.BitsAllLaws
namespace Go.Proofs.Ytfibffcmbnlomaa
set_option maxRecDepth 100000
open Go

/-- One bit of the cyclic sum. -/
def crcBit (c : Nat) : Nat := if c % 2 = 1 then (c / 2) ^^^ 3988292384 else c / 2
/-- So many bits of it. -/
def crcBits : Nat → Nat → Nat
  | 0, c => c
  | n + 1, c => crcBit (crcBits n c)
/-- One byte of it. -/
def crcByte (c : Nat) (b : UInt8) : Nat := crcBits 8 (c ^^^ b.toNat)
def crcRaw (l : List UInt8) : Nat := l.foldl crcByte 4294967295
def crcSum (l : List UInt8) : Nat := crcRaw l ^^^ 4294967295

theorem xor_lt32 {a b : Nat} (ha : a < 4294967296) (hb : b < 4294967296) : a ^^^ b < 4294967296 :=
  Nat.xor_lt_two_pow (n := 32) (by omega) (by omega)
theorem crcBit_lt {c : Nat} (h : c < 4294967296) : crcBit c < 4294967296 := by
  unfold crcBit
  split
  · exact xor_lt32 (by omega) (by decide)
  · omega
theorem crcBits_lt {c : Nat} (n : Nat) (h : c < 4294967296) : crcBits n c < 4294967296 := by
  induction n with
  | zero => exact h
  | succ n ih => exact crcBit_lt ih
theorem crcByte_lt {c : Nat} (b : UInt8) (h : c < 4294967296) : crcByte c b < 4294967296 :=
  crcBits_lt 8 (xor_lt32 h (by have := b.toNat_lt; omega))
theorem crcFold_lt (l : List UInt8) : ∀ c : Nat, c < 4294967296 → l.foldl crcByte c < 4294967296 := by
  induction l with
  | nil => intro c h; exact h
  | cons b l ih => intro c h; exact ih _ (crcByte_lt b h)
theorem crcRaw_lt (l : List UInt8) : crcRaw l < 4294967296 := crcFold_lt l _ (by decide)
theorem crcSum_lt (l : List UInt8) : crcSum l < 4294967296 := xor_lt32 (crcRaw_lt l) (by decide)
theorem crcRaw_snoc (l : List UInt8) (b : UInt8) : crcRaw (l ++ [b]) = crcByte (crcRaw l) b := by
  unfold crcRaw; rw [List.foldl_append]; rfl

/-- The other sum: its two halves. -/
def adA (l : List UInt8) : Nat := l.foldl (fun a b => (a + b.toNat) % 65521) 1
def adP (l : List UInt8) : Nat × Nat := l.foldl (fun p b => ((p.1 + b.toNat) % 65521, (p.2 + (p.1 + b.toNat) % 65521) % 65521)) (1, 0)
def adSum (l : List UInt8) : Nat := 65536 * (adP l).2 + (adP l).1
theorem adP_snoc (l : List UInt8) (b : UInt8) : adP (l ++ [b]) = (((adP l).1 + b.toNat) % 65521, ((adP l).2 + ((adP l).1 + b.toNat) % 65521) % 65521) := by
  unfold adP; rw [List.foldl_append]; rfl
theorem adP_lt' (l : List UInt8) : ∀ p : Nat × Nat, p.1 < 65521 → p.2 < 65521 →
    (l.foldl (fun p b => ((p.1 + b.toNat) % 65521, (p.2 + (p.1 + b.toNat) % 65521) % 65521)) p).1 < 65521 ∧ (l.foldl (fun (p : Nat × Nat) (b : UInt8) => ((p.1 + b.toNat) % 65521, (p.2 + (p.1 + b.toNat) % 65521) % 65521)) p).2 < 65521 := by
  induction l with
  | nil => intro p h1 h2; exact ⟨h1, h2⟩
  | cons b l ih => intro p _ _; exact ih _ (Nat.mod_lt _ (by decide)) (Nat.mod_lt _ (by decide))
theorem adP_lt (l : List UInt8) : (adP l).1 < 65521 ∧ (adP l).2 < 65521 := adP_lt' l _ (by decide) (by decide)

theorem take_snoc (s : ByteArray) (k : Nat) (h : k < s.size) : s.data.toList.take (k + 1) = s.data.toList.take k ++ [s[k]] := by
  rw [List.take_succ_eq_append_getElem (by simpa using h)]; rfl
theorem take_all (s : ByteArray) : s.data.toList.take s.size = s.data.toList := List.take_of_length_le (Nat.le_of_eq (Array.length_toList.trans rfl))
end Go.Proofs.Ytfibffcmbnlomaa
