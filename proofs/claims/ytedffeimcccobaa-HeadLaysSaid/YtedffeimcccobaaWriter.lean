/- The contracts of the writers of bits. -/
import Derived.Test.YtedffeimcccobaaReadC
import Derived.Deep.RegionLaw
import Derived.Deep.AppendLies
import Derived.Deep.CutRange
import Derived.BigRegion
import Derived.OwnWalk
import Derived.OneCell
namespace Go.Proofs.Ytedffeimcccobaa
set_option maxRecDepth 100000
open Go Go.RowKit

/-- Bytes as cells. -/
def cellsOf (l : List UInt8) : List Value := l.map fun x => .int .u8 (x.toNat : Int)
theorem cellsOf_length (l : List UInt8) : (cellsOf l).length = l.length := by simp [cellsOf]
theorem cellsOf_snoc (l : List UInt8) (x : UInt8) : cellsOf (l ++ [x]) = cellsOf l ++ [.int .u8 (x.toNat : Int)] := by simp [cellsOf]
theorem info_u8 : (Try.prog.info? 5).map (fun i => (i.zero, i.size, i.bytes)) = some (some (.int .u8 0), 1, 1) := by kernel_rfl

/-- What has been laid by Bits(v, n). -/
def layN (N : Nat) (n : Int) : Nat := if n < 0 ∨ 24 < n then N else N + n.toNat
def layX (X N : Nat) (v n : Int) : Nat := if n < 0 ∨ 24 < n then X else X + (v % 2 ^ n.toNat).toNat * 2 ^ N

theorem lay_part (v : Int) (part m u : Nat) (hm : m ≤ 24) (hu : u ≤ 7) (hp : part < 2 ^ u) :
    Go.bits .or .i64 (part : Int) (wrap64 (Go.bits .and .i64 v (wrap64 (wrap64 (2 ^ m) - 1)) * 2 ^ u)) = ((part + (v % 2 ^ m).toNat * 2 ^ u : Nat) : Int) := by
  rw [mask_word m hm, i64_mask v m (by omega)]
  have hpos : (0 : Int) < 2 ^ m := by
    have := Nat.two_pow_pos m
    have e : ((2 : Int) ^ m) = ((2 ^ m : Nat) : Int) := by simp
    omega
  have h0 := Int.emod_nonneg v (show (2 : Int) ^ m ≠ 0 by omega)
  have h1 := Int.emod_lt_of_pos v hpos
  have hm2 : 2 ^ m ≤ 2 ^ 24 := Nat.pow_le_pow_right (by decide) hm
  have e : ((2 : Int) ^ m) = ((2 ^ m : Nat) : Int) := by simp
  have hz : (v % 2 ^ m).toNat < 2 ^ m := by omega
  have ez : v % 2 ^ m = (((v % 2 ^ m).toNat : Nat) : Int) := by omega
  generalize (v % 2 ^ m).toNat = z at *
  rw [ez, int_pow]
  have hu2 : 2 ^ u ≤ 2 ^ 7 := Nat.pow_le_pow_right (by decide) hu
  have hzu : z * 2 ^ u ≤ 2 ^ 24 * 2 ^ 7 := Nat.mul_le_mul (by omega) hu2
  have ew : wrap64 ((z * 2 ^ u : Nat) : Int) = ((z * 2 ^ u : Nat) : Int) := IntWalk.wrap64_in _ ⟨by omega, by omega⟩
  rw [ew]
  exact i64_join _ _ u (by omega) hp (Nat.mul_mod_left z _) (by omega)

theorem own_ne {w : World} {base b n size : Nat} {e t : TypeId} {v : Value} {xs : List Value} {cs : Array Value} (h : w.ownsRow base e size v n xs) (hb : Is w b t cs) (hne : e ≠ t) : v.ownBlock ≠ some b := by
  rcases h.2 with ⟨rfl, _⟩ | ⟨g, cap, cur, rfl, _, hh, _⟩
  · simp [Value.ownBlock]
  · intro he
    have he' : g = b := by simpa [Value.ownBlock] using he
    subst he'
    exact Is.ne (w := w) (t := e) hh hb hne rfl

theorem part_lt (v : Int) (part m u V : Nat) (hV : (v % 2 ^ m).toNat = V) (hp : part < 2 ^ u) : part + V * 2 ^ u < 2 ^ (u + m) := by
  have e : ((2 : Int) ^ m) = ((2 ^ m : Nat) : Int) := by simp
  have hpos := Nat.two_pow_pos m
  have h1 := Int.emod_lt_of_pos v (show (0 : Int) < 2 ^ m by omega)
  have hz : V + 1 ≤ 2 ^ m := by omega
  have := Nat.mul_le_mul_right (2 ^ u) hz
  rw [Nat.pow_add, Nat.mul_comm (2 ^ u)]
  rw [Nat.add_mul] at this
  omega
theorem num_step (L : List UInt8) (q : Nat) : num (L ++ [UInt8.ofNat q]) + 256 ^ (L.length + 1) * (q / 256) = num L + 256 ^ L.length * q := by
  have h : (UInt8.ofNat q).toNat = q % 256 := UInt8.toNat_ofNat'
  rw [num_snoc, h, Nat.pow_succ, Nat.add_assoc, Nat.mul_assoc, ← Nat.mul_add]
  congr 2
  omega
end Go.Proofs.Ytedffeimcccobaa
