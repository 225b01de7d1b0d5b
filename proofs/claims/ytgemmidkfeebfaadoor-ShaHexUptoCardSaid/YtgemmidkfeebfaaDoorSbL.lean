/- The program's row of samples: plain mathematics of its bits. -/
import Derived.Test.YtgemmidkfeebfaaDoorSbO
set_option maxRecDepth 100000
set_option linter.unusedVariables false
namespace Go.Proofs.YtgemmidkfeebfaaDoor
set_option maxRecDepth 100000
open Go Go.RowKit
theorem or_mod (B : Int) (E v : Nat) (hE : E = 1 ∨ E = 2 ∨ E = 4 ∨ E = 8 ∨ E = 16) (hv : v < 2 ^ E) : (bits .or .i64 (IntKind.i64.wrap (B * 2 ^ E)) (v : Int)) % 16777216 = (B * 2 ^ E + (v : Int)) % 16777216 := by
  have hv2 : v < 65536 := Nat.lt_of_lt_of_le hv (Nat.pow_le_pow_right (n := 2) (by decide) (show E ≤ 16 by omega))
  obtain ⟨x, hx⟩ : ∃ x, x = B * 2 ^ E := ⟨_, rfl⟩
  obtain ⟨p, hp⟩ : ∃ p : Nat, p = (x % 18446744073709551616).toNat := ⟨_, rfl⟩
  have hpi : (p : Int) = x % 18446744073709551616 := by omega
  have hpl : p < 18446744073709551616 := by omega
  have hdiv : ∃ a, p = 2 ^ E * a := by
    rcases hE with rfl | rfl | rfl | rfl | rfl
    · exact ⟨p / 2, by omega⟩
    · exact ⟨p / 4, by omega⟩
    · exact ⟨p / 16, by omega⟩
    · exact ⟨p / 256, by omega⟩
    · exact ⟨p / 65536, by omega⟩
  have g1 : (BitVec.ofInt 64 (IntKind.i64.wrap x)).toNat = p := by
    have g : (BitVec.ofInt 64 (IntKind.i64.wrap x)).toNat = (IntKind.i64.wrap x % 18446744073709551616).toNat := by rw [BitVec.toNat_ofInt]; rfl
    rw [g, IntKind.wrap_i64, hp]
    clear g hp hpi hpl hdiv hx hv hv2
    omega
  have g2 : (BitVec.ofInt 64 (v : Int)).toNat = v := ofInt_i64 v (by omega)
  obtain ⟨a, ha⟩ := hdiv
  have hor : p ||| v = p + v := by rw [ha, ← Nat.two_pow_add_eq_or_of_lt hv]
  rw [← hx]
  show (IntKind.i64.wrap ((BitVec.ofInt 64 (IntKind.i64.wrap x) ||| BitVec.ofInt 64 (v : Int)).toNat : Int)) % 16777216 = _
  rw [BitVec.toNat_or, g1, g2, hor, IntKind.wrap_i64]
  clear g1 g2 ha hor hx hv hp
  omega
/-- The low bits of what is laid so far, one sample further. -/
theorem bits_next {B : Int} {x E v : Nat} (hE : E = 1 ∨ E = 2 ∨ E = 4 ∨ E = 8 ∨ E = 16) (hB : B % 16777216 = ((x % 16777216 : Nat) : Int)) (hv : v < 2 ^ E) :
    (bits .or .i64 (IntKind.i64.wrap (B * 2 ^ E)) (v : Int)) % 16777216 = (((x * 2 ^ E + v) % 16777216 : Nat) : Int) := by
  rw [or_mod B E v hE hv]
  clear hv
  rcases hE with rfl | rfl | rfl | rfl | rfl
  · show (B * 2 + (v : Int)) % 16777216 = (((x * 2 + v) % 16777216 : Nat) : Int); omega
  · show (B * 4 + (v : Int)) % 16777216 = (((x * 4 + v) % 16777216 : Nat) : Int); omega
  · show (B * 16 + (v : Int)) % 16777216 = (((x * 16 + v) % 16777216 : Nat) : Int); omega
  · show (B * 256 + (v : Int)) % 16777216 = (((x * 256 + v) % 16777216 : Nat) : Int); omega
  · show (B * 65536 + (v : Int)) % 16777216 = (((x * 65536 + v) % 16777216 : Nat) : Int); omega
theorem bits_byteS {B : Int} {x c : Nat} (hB : B % 16777216 = ((x % 16777216 : Nat) : Int)) (hc : c ≤ 15) : IntKind.u8.wrap (B / 2 ^ c) = ((x / 2 ^ c % 256 : Nat) : Int) := by
  rw [IntKind.wrap_u8]
  match c, hc with
  | 0, _ => omega
  | 1, _ => omega
  | 2, _ => omega
  | 3, _ => omega
  | 4, _ => omega
  | 5, _ => omega
  | 6, _ => omega
  | 7, _ => omega
  | 8, _ => omega
  | 9, _ => omega
  | 10, _ => omega
  | 11, _ => omega
  | 12, _ => omega
  | 13, _ => omega
  | 14, _ => omega
  | 15, _ => omega
theorem bits_last {B : Int} {x c : Nat} (hB : B % 16777216 = ((x % 16777216 : Nat) : Int)) (hc : c ≤ 7) : IntKind.u8.wrap (IntKind.i64.wrap (B * 2 ^ c)) = ((x * 2 ^ c % 256 : Nat) : Int) := by
  rw [IntKind.wrap_u8, IntKind.wrap_i64]
  match c, hc with
  | 0, _ => omega
  | 1, _ => omega
  | 2, _ => omega
  | 3, _ => omega
  | 4, _ => omega
  | 5, _ => omega
  | 6, _ => omega
  | 7, _ => omega
/-- The number of the first bits of samples. -/
def bitsX (D : Nat) (l : List Nat) (k : Nat) : Nat := valN (packBit D l) k
theorem bitsX_next {D : Nat} {l : List Nat} {i : Nat} (hi : i < l.length) : bitsX D l ((i + 1) * D) = bitsX D l (i * D) * 2 ^ D + l.getD i 0 % 2 ^ D := by
  unfold bitsX
  rw [Nat.succ_mul, valN_add]
  congr 1
  rw [← valN_bits]
  exact valN_congr fun b hb => packBit_of hi hb
/-- A byte of a row of samples. -/
def byteX (D : Nat) (l : List Nat) (j : Nat) : Nat := valN (fun b => packBit D l (8 * j + b)) 8
theorem byteX_lt (D : Nat) (l : List Nat) (j : Nat) : byteX D l j < 256 := valN_lt (n := 8) fun b _ => packBit_lt _ _ _
theorem bitsX_byte (D : Nat) (l : List Nat) (j : Nat) : bitsX D l (8 * j + 8) = bitsX D l (8 * j) * 256 + byteX D l j := valN_add _ _ 8
theorem bitsX_at {D : Nat} {l : List Nat} {j c k : Nat} (hk : 8 * j + 8 + c = k) : bitsX D l k / 2 ^ c % 256 = byteX D l j := by
  have h : bitsX D l k = bitsX D l (8 * j + 8) * 2 ^ c + valN (fun b => packBit D l (8 * j + 8 + b)) c := by rw [← hk]; exact valN_add _ _ c
  have hl : valN (fun b => packBit D l (8 * j + 8 + b)) c < 2 ^ c := valN_lt fun b _ => packBit_lt _ _ _
  rw [h, Nat.mul_comm, Nat.mul_add_div (Nat.pow_pos (by decide)), Nat.div_eq_of_lt hl, bitsX_byte]
  have := byteX_lt D l j
  omega
theorem bitsX_end {D : Nat} {l : List Nat} {j c k e : Nat} (hk : 8 * j + c = k) (hkl : k = l.length * D) (hc : c + e = 8) : bitsX D l k * 2 ^ e % 256 = byteX D l j := by
  have h : bitsX D l (k + e) = bitsX D l k * 2 ^ e := valN_tail e fun b h1 h2 => by unfold packBit; rw [if_neg (by omega)]
  rw [← h, show k + e = 8 * j + 8 by omega, bitsX_byte]
  have := byteX_lt D l j
  omega
/-- The first bytes of a row of samples. -/
def rowX (D : Nat) (l : List Nat) (j : Nat) : List UInt8 := (List.range j).map fun j => UInt8.ofNat (byteX D l j)
theorem rowX_next (D : Nat) (l : List Nat) (j : Nat) : rowX D l (j + 1) = rowX D l j ++ [UInt8.ofNat (byteX D l j)] := by
  unfold rowX
  rw [List.range_succ, List.map_append]
  rfl
theorem rowX_all (D : Nat) (l : List Nat) : rowX D l ((l.length * D + 7) / 8) = packT D l := rfl
theorem rowX_length (D : Nat) (l : List Nat) (j : Nat) : (rowX D l j).length = j := by unfold rowX; rw [List.length_map, List.length_range]
/-- One byte appended. -/
theorem wpList_append_b {w0 : World} (w : World) {ops : Array Oper} {rest : List Oper} {o : Oper} {a : Act} {Q : Exit → Act → World → Prop} (hgd : o.guard = none) (sl x : Operand)
    (ho : o.op = .call { callee := .builtin .append, args := #[sl, x], argTypes := #[26, 26] })
    (v : Value) (L : List UInt8) (hs : a.eval sl = v) (hO : OwnF w w0.heap.size v L) (hB : But [] w0 w) (y : UInt8) {g : Nat} (hx : a.eval x = .slice (some ⟨g, 0, none⟩) 1 1) (hI : Is w g 5 #[.int .u8 (y.toNat : Int)]) (hbound : L.length < 140737488355328)
    (h : ∀ A c w', Hid (OwnF w' w0.heap.size (.slice A (L.length + 1) c) (L ++ [y])) → Hid (But [] w0 w') → wpList Tryd.prog ops Q rest (a.put o.dst (.slice A (L.length + 1) c)) w') : wpList Tryd.prog ops Q (o :: rest) a w := by
  obtain ⟨i0, hi0, hz0, hz1, hz2⟩ := info_parts info_u8F
  refine wpList_append_own_at w hgd sl x 26 ho w0.heap.size 5 i0 _ 1 1 Tryd.underlying26 hi0 hz0 hz1 hz2 rfl (by decide) v L.length (cellsF L) hs hO ⟨g, 0, none⟩ 1 1 [.int .u8 (y.toNat : Int)] hx rfl (news_is hI) (by simp [Value.oneCell']) (by unfold maxLen; omega) (by omega) hB.size ?_
  intro v' w' hown hgrow _ hat
  have hO2 : OwnF w' w0.heap.size v' (L ++ [y]) := by
    unfold OwnF
    rw [List.length_append, cellsF_append]
    exact hown
  obtain ⟨A, c, rfl⟩ := hO2.shape
  have key := h A c w'
  rw [List.length_append] at hO2 ⊢
  exact key (Lib.hid hO2) (Lib.hid (hB.grown hgrow (fun k e => .inr (hO.lt k e))))
theorem lowN_low {x : Int} {E : Nat} (hE : E = 1 ∨ E = 2 ∨ E = 4 ∨ E = 8 ∨ E = 16) : x % 2 ^ E = ((lowN x % 2 ^ E : Nat) : Int) := by
  unfold lowN
  rcases hE with rfl | rfl | rfl | rfl | rfl
  · show x % 2 = (((x % 65536).toNat % 2 : Nat) : Int); omega
  · show x % 4 = (((x % 65536).toNat % 4 : Nat) : Int); omega
  · show x % 16 = (((x % 65536).toNat % 16 : Nat) : Int); omega
  · show x % 256 = (((x % 65536).toNat % 256 : Nat) : Int); omega
  · show x % 65536 = (((x % 65536).toNat % 65536 : Nat) : Int); omega
end Go.Proofs.YtgemmidkfeebfaaDoor
