/- Several texts in one: SbO, SbL, RoundW, RegZ, SbI (what PixelImages, PixelRows, PixelSame reach of them). -/
import Derived.Test.YtfiedoejdikcgaaDoorQ01
import Derived.Test.YtfiedoejdikcgaaDoorQ02
import Derived.Test.YtfiedoejdikcgaaDoorQ03
import Derived.Below
import Derived.BigQuiet
import Derived.BigRegion
import Derived.Deep.AppendLies
import Derived.Deep.CutBlock
import Derived.Deep.CutRange
import Derived.Deep.DeepCutAuto
import Derived.Deep.Draws
import Derived.Deep.QuietTactic
import Derived.Deep.RegionLaw
import Derived.Deep.RegionWith
import Derived.Handy
import Derived.Laws.BitsAllLaws
import Derived.Laws.BitsLemmas
import Derived.Laws.BytesArg
import Derived.Laws.IdiomStrings
import Derived.Laws.MakeOwn
import Derived.Laws.OwnMore
import Derived.Laws.Rows
import Derived.Lib.Hide
import Derived.Maps.AppendAt
import Derived.OrdersHeld
import Derived.OrdersIn
import Derived.Outline
import Derived.OwnWalk
import Derived.OwnWalkIn
import Derived.RangeFuncCalls
import Derived.RegionTactic
import Derived.TacticsInMore
import Derived.Test.YtfiedoejdikcgaaDoorChecked
import Derived.WalkKit
set_option maxRecDepth 100000
set_option linter.unusedVariables false
set_option maxRecDepth 100000
set_option linter.unusedVariables false
namespace Go.Proofs.YtfiedoejdikcgaaDoor
set_option maxRecDepth 100000
open Go Go.RowKit
set_option maxHeartbeats 1000000 in
theorem punpack_bad (w : World) {s : ByteArray} {d n : Int} (h : depB d = false ∨ n < 0 ∨ 4096 < n) :
    Calls Tryd.prog 64 #[.string s, .int .i64 d, .int .i64 n] w (GotN w (unpackA s d n)) := by
  have HR : Hid (unpackA s d n = ([], 1)) := Lib.hid (by unfold unpackA; rw [if_pos h])
  rw [HR.out]
  have HD := Lib.hid fun W => pisdepth_any W d
  cases hd : depB d with
  | false =>
    rw [hd] at HD
    clear hd h
    go_enter Tryd.func64, Tryd.ntmps64
    go_wp2_with fail
    refine (HD.out _).mono ?_
    rintro e w1 ⟨rfl, rfl⟩
    go_wp2
    go_ret2
    exact ⟨none, 0, rfl, Nums.nil _ _, Nat.le_refl _, But.refl [] _⟩
  | true =>
    rw [hd] at HD h
    by_cases h1 : n < 0
    · clear hd h
      go_enter Tryd.func64, Tryd.ntmps64
      go_wp2_with fail
      refine (HD.out _).mono ?_
      rintro e w1 ⟨rfl, rfl⟩
      go_wp2
      go_ret2
      exact ⟨none, 0, rfl, Nums.nil _ _, Nat.le_refl _, But.refl [] _⟩
    · have h2 : 4096 < n := by rcases h with h | h | h; exact absurd h (by decide); exact absurd h h1; exact h
      clear hd h
      go_enter Tryd.func64, Tryd.ntmps64
      go_wp2_with fail
      refine (HD.out _).mono ?_
      rintro e w1 ⟨rfl, rfl⟩
      go_wp2
      go_ret2
      exact ⟨none, 0, rfl, Nums.nil _ _, Nat.le_refl _, But.refl [] _⟩
set_option maxHeartbeats 2000000 in
theorem punpack_any (w : World) {s : ByteArray} {d n : Int} (hs : s.size ≤ 140737488351232) :
    Calls Tryd.prog 64 #[.string s, .int .i64 d, .int .i64 n] w (GotN w (unpackA s d n)) := by
  by_cases hb : depB d = false ∨ n < 0 ∨ 4096 < n
  · exact punpack_bad w hb
  have hd : depB d = true := by cases h : depB d; exact absurd (Or.inl h) hb; rfl
  obtain ⟨D, rfl, hdep, hD1, hD16⟩ := depB_nat hd
  obtain ⟨N, rfl⟩ : ∃ N : Nat, n = (N : Int) := ⟨n.toNat, by omega⟩
  have hN : N ≤ 4096 := by omega
  have HD := Lib.hid fun W => pisdepth_any W D
  rw [hd] at HD
  obtain ⟨t, ht⟩ : ∃ t, t = N * D := ⟨_, rfl⟩
  have e0 : (N : Int) * (D : Int) = (t : Int) := by rw [ht, Int.natCast_mul]
  have e0' : (D : Int) * (N : Int) = (t : Int) := by rw [Int.mul_comm]; exact e0
  have ht2 : t ≤ 65536 := by rw [ht]; show _ ≤ 4096 * 16; exact Nat.mul_le_mul hN hD16
  have q1 : decide ((N : Int) < 0) = false := decide_eq_false (by omega)
  have q2 : decide ((4096 : Int) < (N : Int)) = false := decide_eq_false (by omega)
  obtain ⟨T, hT⟩ : ∃ T, T = (t + 7) / 8 := ⟨_, rfl⟩
  have g1 : ((t : Int) + 7).tdiv 8 = (T : Int) := by rw [Int.tdiv_eq_ediv_of_nonneg (by omega)]; omega
  have g2 : ((t : Int) + 7) / 8 = (T : Int) := by omega
  by_cases hsh : s.size < T
  · have HR : Hid (unpackA s (D : Int) (N : Int) = ([], 30)) := Lib.hid (by unfold unpackA; rw [if_neg hb, e0, if_pos (by omega)])
    rw [HR.out]
    clear hb hd hdep ht hT e0
    go_enter Tryd.func64, Tryd.ntmps64
    go_wp2_with fail
    refine (HD.out _).mono ?_
    rintro e w1 ⟨rfl, rfl⟩
    go_wp2
    go_ret2
    exact ⟨none, 0, rfl, Nums.nil _ _, Nat.le_refl _, But.refl [] _⟩
  have HR : Hid (unpackA s (D : Int) (N : Int) = (unpackT s.data.toList D N, 0)) := Lib.hid (by unfold unpackA; rw [if_neg hb, e0, if_neg (by omega)]; rfl)
  rw [HR.out]
  have HS : Hid (∀ (W : World) (i : Nat), i < N → Calls Tryd.prog 72 #[.string s, .int .i64 D, .int .i64 i] W fun e w' => e = .returned (.int .i64 (sampleN s.data.toList D i : Nat)) ∧ But [] W w') := Lib.hid fun W i hi =>
    psampleAt_any W hdep (by have : (i + 1) * D ≤ N * D := Nat.mul_le_mul_right _ hi; omega) hs
  have HNX := Lib.hid (unpackT_next s.data.toList D)
  have HLEN := Lib.hid (unpackT_length s.data.toList D)
  obtain ⟨U, hU⟩ : ∃ U : Nat → List Nat, U = unpackT s.data.toList D := ⟨_, rfl⟩
  obtain ⟨V, hV⟩ : ∃ V : Nat → Nat, V = sampleN s.data.toList D := ⟨_, rfl⟩
  rw [← hU] at HNX HLEN
  rw [← hV] at HNX HS
  rw [← hU]
  have HU0 : Hid (U 0 = []) := Lib.hid (by rw [hU]; rfl)
  have kz := run_zeroZ w hN
  have hz : Is (zeroZ w N) w.heap.size 3 (rowZ [] N) := Is.fresh w _ _
  have hzb : But [] w (zeroZ w N) := (But.refl [] w).alloc _
  obtain ⟨w5, hw5⟩ : ∃ x, x = zeroZ w N := ⟨_, rfl⟩
  rw [← hw5] at kz hz hzb
  obtain ⟨g, hg⟩ : ∃ g, g = w.heap.size := ⟨_, rfl⟩
  rw [← hg] at kz hz
  have HG := Lib.hid hg
  have HI0 : Hid (Is w5 g 3 (rowZ (U 0) N)) := Lib.hid (by rw [HU0.out]; exact hz)
  have HB0 := Lib.hid hzb
  clear hb hd hdep ht hT e0 hU hV hw5 hg hz hzb
  go_enter Tryd.func64, Tryd.ntmps64
  go_wp2_with fail
  refine (HD.out _).mono ?_
  rintro e w1 ⟨rfl, rfl⟩
  go_wp2_with fail
  go_loopw [33] (fun iv wr => ∃ i : Nat, i ≤ N ∧ iv = .int .i64 i ∧ Hid (Is wr g 3 (rowZ (U i) N)) ∧ Hid (But [] w wr)) (fun iv _ => N - (intOf iv).toNat)
  case atStart => exact ⟨0, Nat.zero_le _, rfl, HI0, HB0⟩
  case round =>
    clear HI0 HB0 kz
    obtain ⟨i, hi, rfl, HI, HB⟩ := hrel
    by_cases hlt : i < N
    · obtain ⟨x, hx⟩ : ∃ x, x = V i := ⟨_, rfl⟩
      have HX : Hid (U (i + 1) = U i ++ [x]) := Lib.hid (by rw [hx]; exact HNX.out i)
      have HS1 : Hid (∀ W, Calls Tryd.prog 72 #[.string s, .int .i64 D, .int .i64 i] W fun e w' => e = .returned (.int .i64 (x : Nat)) ∧ But [] W w') := Lib.hid fun W => by rw [hx]; exact HS.out W i hlt
      clear hx
      go_wp2_with fail
      refine (HS1.out _).mono ?_
      rintro e w2 ⟨rfl, hB2⟩
      have hI2 := HI.out.but hB2 (by simp)
      obtain ⟨v0, hv0⟩ := rowZ_some (L := U i) (n := N) (i := i) (by rw [HLEN.out]; exact hi) hlt
      have hc := hI2.cell i
      rw [hv0] at hc
      have hf := hI2.free i
      have i0 : (0 : Int) ≤ (i : Int) := by omega
      have i1 : (i : Int) < (N : Int) := by omega
      have HI3 : Hid (Is (w2.setCell ⟨g, i, none⟩ (.int .i64 (x : Nat))) g 3 (rowZ (U (i + 1)) N)) := Lib.hid (by
        have h := hI2.put i (.int .i64 (x : Nat))
        have h2 := rowZ_put (L := U i) (n := N) x (by rw [HLEN.out]; exact hlt)
        rw [HLEN.out] at h2
        rw [h2, ← HX.out] at h
        exact h)
      have HB3 : Hid (But [] w (w2.setCell ⟨g, i, none⟩ (.int .i64 (x : Nat)))) := Lib.hid ((HB.out.trans hB2).setCell (p := ⟨g, i, none⟩) (.inr (by rw [HG.out]; exact Nat.le_refl _)) _)
      clear hI2 hv0 hB2
      go_wp2
      go_roundw
      case rel => exact ⟨i + 1, by omega, by go_num, HI3, HB3⟩
      case measure => simp [intOf] <;> omega
    · obtain rfl : i = N := by omega
      have HL := Lib.hid (HLEN.out i)
      go_wp2
      go_ret2
      have h := HI.out
      have hn : Nums wr (some ⟨g, 0, none⟩) (U i).length (U i) := Nums.row (by rw [HL.out]; exact h)
      exact ⟨some ⟨g, 0, none⟩, i, by rw [HL.out]; rfl, hn, Nat.le_of_eq HL.out, HB.out⟩
end Go.Proofs.YtfiedoejdikcgaaDoor
set_option maxRecDepth 100000
set_option linter.unusedVariables false
namespace Go.Proofs.YtfiedoejdikcgaaDoor
set_option maxRecDepth 100000
open Go Go.RowKit
theorem or_mod (B : Int) (E v : Nat) (hE : E = 1 ∨ E = 2 ∨ E = 4 ∨ E = 8 ∨ E = 16) (hv : v < 2 ^ E) : (bits .or .i64 (IntKind.i64.wrap (B * 2 ^ E)) (v : Int)) % 16777216 = (B * 2 ^ E + (v : Int)) % 16777216 := by
  have hv2 : v < 65536 := Nat.lt_of_lt_of_le hv (Nat.pow_le_pow_right (n := 2) (by decide) (show E ≤ 16 by omega))
  obtain ⟨x, hx⟩ : ∃ x, x = B * 2 ^ E := ⟨_, rfl⟩
  obtain ⟨p, hp⟩ : ∃ p : Nat, p = (x % 18446744073709551616).toNat := ⟨_, rfl⟩
  have hpi : (p : Int) = x % 18446744073709551616 := by omega
  have hpl : p < 18446744073709551616 := by omega
  have hdiv : ∃ a, p = 2 ^ E * a := by
    rcases hE with rfl | rfl | rfl | rfl | rfl
    · exact ⟨p / 2, by omega⟩
    · exact ⟨p / 4, by omega⟩
    · exact ⟨p / 16, by omega⟩
    · exact ⟨p / 256, by omega⟩
    · exact ⟨p / 65536, by omega⟩
  have g1 : (BitVec.ofInt 64 (IntKind.i64.wrap x)).toNat = p := by
    have g : (BitVec.ofInt 64 (IntKind.i64.wrap x)).toNat = (IntKind.i64.wrap x % 18446744073709551616).toNat := by rw [BitVec.toNat_ofInt]; rfl
    rw [g, IntKind.wrap_i64, hp]
    clear g hp hpi hpl hdiv hx hv hv2
    omega
  have g2 : (BitVec.ofInt 64 (v : Int)).toNat = v := ofInt_i64 v (by omega)
  obtain ⟨a, ha⟩ := hdiv
  have hor : p ||| v = p + v := by rw [ha, ← Nat.two_pow_add_eq_or_of_lt hv]
  rw [← hx]
  show (IntKind.i64.wrap ((BitVec.ofInt 64 (IntKind.i64.wrap x) ||| BitVec.ofInt 64 (v : Int)).toNat : Int)) % 16777216 = _
  rw [BitVec.toNat_or, g1, g2, hor, IntKind.wrap_i64]
  clear g1 g2 ha hor hx hv hp
  omega
/-- The low bits of what is laid so far, one sample further. -/
theorem bits_next {B : Int} {x E v : Nat} (hE : E = 1 ∨ E = 2 ∨ E = 4 ∨ E = 8 ∨ E = 16) (hB : B % 16777216 = ((x % 16777216 : Nat) : Int)) (hv : v < 2 ^ E) :
    (bits .or .i64 (IntKind.i64.wrap (B * 2 ^ E)) (v : Int)) % 16777216 = (((x * 2 ^ E + v) % 16777216 : Nat) : Int) := by
  rw [or_mod B E v hE hv]
  clear hv
  rcases hE with rfl | rfl | rfl | rfl | rfl
  · show (B * 2 + (v : Int)) % 16777216 = (((x * 2 + v) % 16777216 : Nat) : Int); omega
  · show (B * 4 + (v : Int)) % 16777216 = (((x * 4 + v) % 16777216 : Nat) : Int); omega
  · show (B * 16 + (v : Int)) % 16777216 = (((x * 16 + v) % 16777216 : Nat) : Int); omega
  · show (B * 256 + (v : Int)) % 16777216 = (((x * 256 + v) % 16777216 : Nat) : Int); omega
  · show (B * 65536 + (v : Int)) % 16777216 = (((x * 65536 + v) % 16777216 : Nat) : Int); omega
theorem bits_byte {B : Int} {x c : Nat} (hB : B % 16777216 = ((x % 16777216 : Nat) : Int)) (hc : c ≤ 15) : IntKind.u8.wrap (B / 2 ^ c) = ((x / 2 ^ c % 256 : Nat) : Int) := by
  rw [IntKind.wrap_u8]
  match c, hc with
  | 0, _ => omega
  | 1, _ => omega
  | 2, _ => omega
  | 3, _ => omega
  | 4, _ => omega
  | 5, _ => omega
  | 6, _ => omega
  | 7, _ => omega
  | 8, _ => omega
  | 9, _ => omega
  | 10, _ => omega
  | 11, _ => omega
  | 12, _ => omega
  | 13, _ => omega
  | 14, _ => omega
  | 15, _ => omega
theorem bits_last {B : Int} {x c : Nat} (hB : B % 16777216 = ((x % 16777216 : Nat) : Int)) (hc : c ≤ 7) : IntKind.u8.wrap (IntKind.i64.wrap (B * 2 ^ c)) = ((x * 2 ^ c % 256 : Nat) : Int) := by
  rw [IntKind.wrap_u8, IntKind.wrap_i64]
  match c, hc with
  | 0, _ => omega
  | 1, _ => omega
  | 2, _ => omega
  | 3, _ => omega
  | 4, _ => omega
  | 5, _ => omega
  | 6, _ => omega
  | 7, _ => omega
/-- The number of the first bits of samples. -/
def bitsX (D : Nat) (l : List Nat) (k : Nat) : Nat := valN (packBit D l) k
theorem bitsX_next {D : Nat} {l : List Nat} {i : Nat} (hi : i < l.length) : bitsX D l ((i + 1) * D) = bitsX D l (i * D) * 2 ^ D + l.getD i 0 % 2 ^ D := by
  unfold bitsX
  rw [Nat.succ_mul, valN_add]
  congr 1
  rw [← valN_bits]
  exact valN_congr fun b hb => packBit_of hi hb
/-- A byte of a row of samples. -/
def byteX (D : Nat) (l : List Nat) (j : Nat) : Nat := valN (fun b => packBit D l (8 * j + b)) 8
theorem byteX_lt (D : Nat) (l : List Nat) (j : Nat) : byteX D l j < 256 := valN_lt (n := 8) fun b _ => packBit_lt _ _ _
theorem bitsX_byte (D : Nat) (l : List Nat) (j : Nat) : bitsX D l (8 * j + 8) = bitsX D l (8 * j) * 256 + byteX D l j := valN_add _ _ 8
theorem bitsX_at {D : Nat} {l : List Nat} {j c k : Nat} (hk : 8 * j + 8 + c = k) : bitsX D l k / 2 ^ c % 256 = byteX D l j := by
  have h : bitsX D l k = bitsX D l (8 * j + 8) * 2 ^ c + valN (fun b => packBit D l (8 * j + 8 + b)) c := by rw [← hk]; exact valN_add _ _ c
  have hl : valN (fun b => packBit D l (8 * j + 8 + b)) c < 2 ^ c := valN_lt fun b _ => packBit_lt _ _ _
  rw [h, Nat.mul_comm, Nat.mul_add_div (Nat.pow_pos (by decide)), Nat.div_eq_of_lt hl, bitsX_byte]
  have := byteX_lt D l j
  omega
theorem bitsX_end {D : Nat} {l : List Nat} {j c k e : Nat} (hk : 8 * j + c = k) (hkl : k = l.length * D) (hc : c + e = 8) : bitsX D l k * 2 ^ e % 256 = byteX D l j := by
  have h : bitsX D l (k + e) = bitsX D l k * 2 ^ e := valN_tail e fun b h1 h2 => by unfold packBit; rw [if_neg (by omega)]
  rw [← h, show k + e = 8 * j + 8 by omega, bitsX_byte]
  have := byteX_lt D l j
  omega
/-- The first bytes of a row of samples. -/
def rowX (D : Nat) (l : List Nat) (j : Nat) : List UInt8 := (List.range j).map fun j => UInt8.ofNat (byteX D l j)
theorem rowX_next (D : Nat) (l : List Nat) (j : Nat) : rowX D l (j + 1) = rowX D l j ++ [UInt8.ofNat (byteX D l j)] := by
  unfold rowX
  rw [List.range_succ, List.map_append]
  rfl
theorem rowX_all (D : Nat) (l : List Nat) : rowX D l ((l.length * D + 7) / 8) = packT D l := rfl
theorem rowX_length (D : Nat) (l : List Nat) (j : Nat) : (rowX D l j).length = j := by unfold rowX; rw [List.length_map, List.length_range]
/-- One byte appended. -/
theorem wpList_append_b {w0 : World} (w : World) {ops : Array Oper} {rest : List Oper} {o : Oper} {a : Act} {Q : Exit → Act → World → Prop} (hgd : o.guard = none) (sl x : Operand)
    (ho : o.op = .call { callee := .builtin .append, args := #[sl, x], argTypes := #[45, 45] })
    (v : Value) (L : List UInt8) (hs : a.eval sl = v) (hO : OwnF w w0.heap.size v L) (hB : But [] w0 w) (y : UInt8) {g : Nat} (hx : a.eval x = .slice (some ⟨g, 0, none⟩) 1 1) (hI : Is w g 5 #[.int .u8 (y.toNat : Int)]) (hbound : L.length < 140737488355328)
    (h : ∀ A c w', Hid (OwnF w' w0.heap.size (.slice A (L.length + 1) c) (L ++ [y])) → Hid (But [] w0 w') → wpList Tryd.prog ops Q rest (a.put o.dst (.slice A (L.length + 1) c)) w') : wpList Tryd.prog ops Q (o :: rest) a w := by
  obtain ⟨i0, hi0, hz0, hz1, hz2⟩ := info_parts info_u8F
  refine wpList_append_own_at w hgd sl x 45 ho w0.heap.size 5 i0 _ 1 1 Tryd.underlying45 hi0 hz0 hz1 hz2 rfl (by decide) v L.length (cellsF L) hs hO ⟨g, 0, none⟩ 1 1 [.int .u8 (y.toNat : Int)] hx rfl (news_is hI) (by simp [Value.oneCell']) (by unfold maxLen; omega) (by omega) hB.size ?_
  intro v' w' hown hgrow _ hat
  have hO2 : OwnF w' w0.heap.size v' (L ++ [y]) := by
    unfold OwnF
    rw [List.length_append, cellsF_append]
    exact hown
  obtain ⟨A, c, rfl⟩ := hO2.shape
  have key := h A c w'
  rw [List.length_append] at hO2 ⊢
  exact key (Lib.hid hO2) (Lib.hid (hB.grown hgrow (fun k e => .inr (hO.lt k e))))
theorem lowN_low {x : Int} {E : Nat} (hE : E = 1 ∨ E = 2 ∨ E = 4 ∨ E = 8 ∨ E = 16) : x % 2 ^ E = ((lowN x % 2 ^ E : Nat) : Int) := by
  unfold lowN
  rcases hE with rfl | rfl | rfl | rfl | rfl
  · show x % 2 = (((x % 65536).toNat % 2 : Nat) : Int); omega
  · show x % 4 = (((x % 65536).toNat % 4 : Nat) : Int); omega
  · show x % 16 = (((x % 65536).toNat % 16 : Nat) : Int); omega
  · show x % 256 = (((x % 65536).toNat % 256 : Nat) : Int); omega
  · show x % 65536 = (((x % 65536).toNat % 65536 : Nat) : Int); omega
end Go.Proofs.YtfiedoejdikcgaaDoor
set_option linter.unusedVariables false
namespace Go.Proofs.YtfiedoejdikcgaaDoor
set_option maxRecDepth 100000
open Go
section
variable {P : Program} {ops : Array Oper} {Q : Exit → Act → World → Prop}
theorem rows_wideR {n l : Nat} {row : String} {args : Array Value} {w : World} {R : Value → World → Prop} (h : Rows P row args w R) : RowsIn (Fence.wide.inRound l) n P row args w R := fun c cs _ =>
  let ⟨v, w', r, s⟩ := h c cs
  ⟨v, w', r, (stepsIn_wide (P := P)).2 s⟩
theorem wpOpIn_round {n l i : Nat} {K : Act → World → Prop} {a : Act} {w : World} (hnd : ∀ (i : Nat) (o : Oper), ops[i]? = some o → ∀ c, o.op ≠ Op.defer c) (hlo : ¬ LetsOut Q) (h : wpOp P ops Q i K a w) : wpOpIn (Fence.wide.inRound l) n P ops Q i K a w := by
  unfold wpOp at h
  unfold wpOpIn
  cases ho : ops[i]? with
  | none => rw [ho] at h; exact h
  | some o =>
    rw [ho] at h
    dsimp only at h ⊢
    by_cases hw : Region.wanted o (yielded ops a.tmps) = true
    · rw [if_pos hw] at h ⊢
      rcases h with h | h
      · unfold Oper.wp at h
        unfold Oper.wpIn
        refine ⟨fun f _ => trivial, ?_⟩
        rw [Oper.semAt_plain _ _ _ (hnd i o ho)]
        generalize (execOp a.eval o).run P w = r at *
        cases r with
        | ok x w' =>
          cases x <;> simp only [Oper.upon, Oper.uponIn] at h ⊢
          case value u => exact h
          case skip => exact h
          case defer d => exact h
          case enter f args => exact ⟨fun hd => (by cases hd), CallsIn.inRound l (callsIn_wide.2 h)⟩
          case row r args => exact ⟨fun hd => (by cases hd), rows_wideR h⟩
        | halt x w' =>
          cases x <;> simp only [Oper.upon, Oper.uponIn] at h ⊢
          exact h
      · exact absurd h.2 hlo
    · rw [if_neg hw] at h ⊢
      exact ⟨fun f _ => trivial, h⟩
theorem wpAnyIn_round {n l : Nat} {md : Region.Mode} (hnd : ∀ (i : Nat) (o : Oper), ops[i]? = some o → ∀ c, o.op ≠ Op.defer c) (hlo : ¬ LetsOut Q) : ∀ (f : Nat) (listed : Array Bool) (a : Act) (w : World), wpAny P md ops Q f listed a w → wpAnyIn (Fence.wide.inRound l) n P md ops Q f listed a w
  | 0, _, _, _, h => h
  | f + 1, listed, a, w, h => ⟨h.1, fun i hi => wpOpIn_round hnd hlo (wpOp_mono (fun a' w' h' => wpAnyIn_round hnd hlo f _ a' w' h') (h.2 i hi))⟩
end
end Go.Proofs.YtfiedoejdikcgaaDoor
set_option linter.unusedVariables false
namespace Go.Proofs.YtfiedoejdikcgaaDoor
set_option maxRecDepth 100000
open Go
section
variable {P : Program} {ops : Array Oper} {Q : Exit → Act → World → Prop} {md : Region.Mode} {S : World → Prop} {R : World → World → Prop} {z : Nat}
def wpZ (P : Program) (md : Region.Mode) (ops : Array Oper) (Q : Exit → Act → World → Prop) (S : World → Prop) (R : World → World → Prop) (z : Nat) : Nat → Array Bool → Act → World → Prop
  | 0, listed, a, w => Region.ready md ops listed = [] ∧ ∀ w1, R w w1 → S w1 → Q .normal a w1
  | f + 1, listed, a, w => ∀ w1, R w w1 → S w1 → (Region.ready md ops listed = [] → Q .normal a w1) ∧
      ∀ i ∈ Region.ready md ops listed, wpOp P ops Q i (fun a' w' => if i = z then wpAny P md ops Q f (listed.setIfInBounds i true) a' w' else S w' ∧ wpZ P md ops Q S R z f (listed.setIfInBounds i true) a' w') a w1
theorem wpZ_mono (htr : ∀ x y z, R x y → R y z → R x z) : ∀ {f : Nat} {listed : Array Bool} {a : Act} {w w' : World}, wpZ P md ops Q S R z f listed a w → R w w' → wpZ P md ops Q S R z f listed a w'
  | 0, _, _, _, _, h, hr => ⟨h.1, fun w1 h1 h2 => h.2 w1 (htr _ _ _ hr h1) h2⟩
  | _ + 1, _, _, _, _, h, hr => fun w1 h1 h2 => h w1 (htr _ _ _ hr h1) h2
theorem wpAny_of_z (hrefl : ∀ w, R w w) : ∀ (f : Nat) (listed : Array Bool) (a : Act) (w : World), S w → wpZ P md ops Q S R z f listed a w → wpAny P md ops Q f listed a w
  | 0, _, _, w, hS, h => ⟨h.1, h.2 w (hrefl w) hS⟩
  | f + 1, _, _, w, hS, h => ⟨(h w (hrefl w) hS).1, fun i hi => wpOp_mono (fun a' w' h' => by
      by_cases e : i = z
      · rw [if_pos e] at h'; exact h'
      · rw [if_neg e] at h'; exact wpAny_of_z hrefl f _ a' w' h'.1 h'.2) ((h w (hrefl w) hS).2 i hi)⟩
theorem wpZ_first (hrefl : ∀ w, R w w) (htr : ∀ x y z, R x y → R y z → R x z) {i : Nat} {oi oz : Oper} {v : Value} (hi : ops[i]? = some oi) (hz : ops[z]? = some oz) (haz : ∃ e ∈ oz.after, Region.binds md e = true ∧ e.on = i) (hiz : i ≠ z)
    (hsel : ∀ (j : Nat) (o : Oper) cs b, ops[j]? = some o → o.op ≠ .select cs b)
    (hQ : ∀ c a w, Q (.panic c) (a.put oi.dst v) w → Q (.panic c) a w) :
    ∀ (f : Nat) (listed : Array Bool) (a : Act) (w : World),
      (∀ j oj, ops[j]? = some oj → j ≠ i → listed.getD j true = false → (∀ e ∈ oj.after, Region.binds md e = true → e.on ≠ i) → oi.apart ops oj = true) →
      i ∈ Region.ready md ops listed → YieldsR P ops S R oi v a →
      wpZ P md ops Q S R z f (listed.setIfInBounds i true) (a.put oi.dst v) w → wpZ P md ops Q S R z (f + 1) listed a w := by
  intro f
  induction f with
  | zero =>
    intro listed a w _ hr hy H w1 hR hS
    refine ⟨fun h => (by rw [h] at hr; cases hr), fun j hj => ?_⟩
    by_cases hji : j = i
    · subst hji
      refine hy.wpOp hi hrefl hS fun w2 h1 h2 => ?_
      rw [if_neg hiz]
      exact ⟨h1, wpZ_mono htr H (htr _ _ _ hR h2)⟩
    · have := ready_mono hj hji
      rw [H.1] at this
      cases this
  | succ f ih =>
    intro listed a w hfree hr hy H w1 hR hS
    refine ⟨fun h => (by rw [h] at hr; cases hr), fun j hj => ?_⟩
    by_cases hji : j = i
    · subst hji
      refine hy.wpOp hi hrefl hS fun w2 h1 h2 => ?_
      rw [if_neg hiz]
      exact ⟨h1, wpZ_mono htr H (htr _ _ _ hR h2)⟩
    · have h1 := (H w1 hR hS).2 j (ready_mono hj hji)
      obtain ⟨hjun, oj, hoj, hall⟩ := mem_ready.1 hj
      have hnot : ∀ e ∈ oj.after, Region.binds md e = true → e.on ≠ i := fun e he hb heq => by
        have h2 := hall e he hb
        have h0 := (mem_ready.1 hr).1
        rw [heq] at h2
        rcases Nat.lt_or_ge i listed.size with h' | h'
        · simp [h'] at h0 h2; rw [h0] at h2; cases h2
        · simp [Array.getElem?_eq_none h'] at h2
      have hjz : j ≠ z := fun e => by
        rw [e, hz] at hoj
        cases hoj
        obtain ⟨x, hx, hb, hon⟩ := haz
        exact hnot x hx hb hon
      simp only [if_neg hjz] at h1
      have hap := hfree j oj hoj hji hjun hnot
      obtain ⟨_, _, h3⟩ := Oper.apart_spec hap
      have triv : YieldsIf P ops (fun _ => False) oi v a := by
        rcases hy with ⟨hw, _⟩ | ⟨hw, hv⟩
        · exact .inl ⟨hw, fun _ h => h.elim⟩
        · exact .inr ⟨hw, hv⟩
      have keep : ∀ (b : Act), YieldsR P ops S R oi v b → ∀ u, YieldsR P ops S R oi v (b.put oj.dst u) := fun b hb u =>
        hb.of_same (execOp_put oi (fun cs c => hsel i oi cs c hi) b oj.dst u h3) (wanted_put oi b oj.dst u h3)
      have h2 := wpOp_putIf hoj hap (fun cs b => hsel i oi cs b hi) (fun cs b => hsel j oj cs b hoj) hQ triv h1
      have h4 := wpOp_tag hoj (YieldsR P ops S R oi v) (fun u => keep a hy u) (fun d u => keep { a with defers := d :: a.defers } (hy.of_same rfl rfl) u) h2
      have hfree' : ∀ k ok, ops[k]? = some ok → k ≠ i → (listed.setIfInBounds j true).getD k true = false →
          (∀ e ∈ ok.after, Region.binds md e = true → e.on ≠ i) → oi.apart ops ok = true := fun k ok hk hki hun hno => by
        refine hfree k ok hk hki ?_ hno
        by_cases hjk : j = k
        · subst hjk; exact hjun
        · rw [getD_set_ne true hjk] at hun; exact hun
      refine wpOp_mono (fun a' w' h5 => ?_) h4
      rw [if_neg hjz]
      refine ⟨h5.2.2.1, ih (listed.setIfInBounds j true) a' w' hfree' (ready_mono hr (Ne.symm hji)) h5.1 ?_⟩
      rw [Array.setIfInBounds_comm _ _ hji]
      exact h5.2.2.2
/-- Whether an operation waits for another. -/
def waits (md : Region.Mode) (ops : Array Oper) (z i : Nat) : Bool := match ops[z]? with
  | some o => o.after.toList.any fun e => Region.binds md e && (e.on == i)
  | none => false
/-- One operation first. -/
theorem wpZ_take (hrefl : ∀ w, R w w) (htr : ∀ x y z, R x y → R y z → R x z) {i : Nat} {oi : Oper} {v : Value} {f : Nat} {listed : Array Bool} {a : Act} {w : World} (hi : ops[i]? = some oi)
    (hz : waits md ops z i = true) (hiz : i ≠ z) (hs : Region.noSelect ops = true) (hf : Region.free md ops listed i = true) (hr : (Region.ready md ops listed).contains i = true)
    (hQ : ∀ c a w, Q (.panic c) (a.put oi.dst v) w → Q (.panic c) a w) (hy : YieldsR P ops S R oi v a)
    (h : wpZ P md ops Q S R z f (listed.setIfInBounds i true) (a.put oi.dst v) w) : wpZ P md ops Q S R z (f + 1) listed a w := by
  unfold waits at hz
  cases ho : ops[z]? with
  | none => rw [ho] at hz; cases hz
  | some oz =>
    rw [ho] at hz
    obtain ⟨e, he, hb⟩ := List.any_eq_true.1 hz
    rw [Bool.and_eq_true] at hb
    exact wpZ_first hrefl htr hi ho ⟨e, by simpa using he, hb.1, by simpa using hb.2⟩ hiz (Region.noSelect_spec hs) hQ f listed a w (Region.free_spec hi hf) (by simpa using hr) hy h
/-- z, the only one that is left. -/
theorem wpZ_last {oz : Oper} {listed : Array Bool} {a : Act} {w : World} (hz : ops[z]? = some oz) (hr : Region.ready md ops listed = [z]) (hr2 : Region.ready md ops (listed.setIfInBounds z true) = [])
    (h : ∀ w1, R w w1 → S w1 → ∀ K' : Act → World → Prop, (∀ a' w', Q .normal a' w' → K' a' w') →
      if Region.wanted oz (yielded ops a.tmps) = true then Oper.wp P oz a w1 K' Q else K' (a.put oz.dst undef) w1) : wpZ P md ops Q S R z 1 listed a w := by
  intro w1 hR hS
  refine ⟨fun h0 => (by rw [hr] at h0; cases h0), fun j hj => ?_⟩
  rw [hr] at hj
  have hji : j = z := by simpa using hj
  subst hji
  exact wpOp_step hz (fun K' hK => h w1 hR hS K' fun a' w' hq => hK a' w' (by rw [if_pos rfl]; exact ⟨hr2, hq⟩))
/-- The region within a round, by this law. -/
theorem region_round_z {F : Fence} (hF : F = Fence.wide) (hrefl : ∀ w, R w w) {n l id : Nat} {a : Act} {w : World} (hm : P.follows .mixedOrders = true) (hnd : ops.toList.all (fun o => match o.op with | .defer _ => false | _ => true) = true) (hlo : ¬ LetsOut Q)
    (hS : S { w with drawn := w.drawn + 1 }) (h : wpZ P .any ops Q S R z ops.size (Array.replicate ops.size false) a { w with drawn := w.drawn + 1 }) : (Code.region id ops true).wpIn (F.inRound l) n P Q a w := by
  subst hF
  refine wpIn_region_any hm (wpAnyIn_round (fun i o ho c e => ?_) hlo _ _ _ _ (wpAny_of_z hrefl _ _ _ _ hS h))
  have hmem : o ∈ ops.toList := List.mem_of_getElem? (show ops.toList[i]? = some o by rw [Array.getElem?_toList]; exact ho)
  have := List.all_eq_true.1 hnd o hmem
  rw [e] at this
  cases this
end
end Go.Proofs.YtfiedoejdikcgaaDoor
set_option maxRecDepth 100000
set_option linter.unusedVariables false
namespace Go.Proofs.YtfiedoejdikcgaaDoor
set_option maxRecDepth 100000
open Go Go.RowKit
/-- A pixel of four numbers. -/
def px4 (a b c d : Nat) : ByteArray := strL (twoB a ++ twoB b ++ twoB c ++ twoB d)
theorem byte16 (l : List Nat) (i : Nat) (hi : i < l.length) (hx : l.getD i 0 < 65536) : byteX 16 l (2 * i) = l.getD i 0 / 256 ∧ byteX 16 l (2 * i + 1) = l.getD i 0 % 256 := by
  have h1 : byteX 16 l (2 * i) = l.getD i 0 / 2 ^ 8 % 2 ^ 8 := by
    rw [← valN_mid]
    unfold byteX
    refine valN_congr fun b hb => ?_
    rw [show 8 * (2 * i) + b = i * 16 + b by omega, packBit_of hi (by omega), show 16 - 1 - b = 8 + 8 - 1 - b by omega]
  have h2 : byteX 16 l (2 * i + 1) = l.getD i 0 / 2 ^ 0 % 2 ^ 8 := by
    rw [← valN_mid]
    unfold byteX
    refine valN_congr fun b hb => ?_
    rw [show 8 * (2 * i + 1) + b = i * 16 + (8 + b) by omega, packBit_of hi (by omega), show 16 - 1 - (8 + b) = 0 + 8 - 1 - b by omega]
  rw [h1, h2]
  omega
theorem pack16_px {a b c d : Nat} (ha : a < 65536) (hb : b < 65536) (hc : c < 65536) (hd : d < 65536) : strL (packT 16 [a, b, c, d]) = px4 a b c d := by
  unfold px4
  congr 1
  obtain ⟨a1, a2⟩ := byte16 [a, b, c, d] 0 (by simp) ha
  obtain ⟨b1, b2⟩ := byte16 [a, b, c, d] 1 (by simp) hb
  obtain ⟨c1, c2⟩ := byte16 [a, b, c, d] 2 (by simp) hc
  obtain ⟨d1, d2⟩ := byte16 [a, b, c, d] 3 (by simp) hd
  have e : packT 16 [a, b, c, d] = [UInt8.ofNat (byteX 16 [a, b, c, d] 0), UInt8.ofNat (byteX 16 [a, b, c, d] 1), UInt8.ofNat (byteX 16 [a, b, c, d] 2), UInt8.ofNat (byteX 16 [a, b, c, d] 3), UInt8.ofNat (byteX 16 [a, b, c, d] 4), UInt8.ofNat (byteX 16 [a, b, c, d] 5), UInt8.ofNat (byteX 16 [a, b, c, d] 6), UInt8.ofNat (byteX 16 [a, b, c, d] 7)] := by
    rw [← rowX_all, show ([a, b, c, d].length * 16 + 7) / 8 = 8 by simp]
    rfl
  have m : ∀ x : Nat, UInt8.ofNat (x % 256) = UInt8.ofNat x := fun x => by
    apply UInt8.toNat_inj.1
    rw [UInt8.toNat_ofNat', UInt8.toNat_ofNat']
    omega
  rw [e, show byteX 16 [a, b, c, d] 0 = a / 256 from a1, show byteX 16 [a, b, c, d] 1 = a % 256 from a2, show byteX 16 [a, b, c, d] 2 = b / 256 from b1, show byteX 16 [a, b, c, d] 3 = b % 256 from b2,
    show byteX 16 [a, b, c, d] 4 = c / 256 from c1, show byteX 16 [a, b, c, d] 5 = c % 256 from c2, show byteX 16 [a, b, c, d] 6 = d / 256 from d1, show byteX 16 [a, b, c, d] 7 = d % 256 from d2, m, m, m, m]
  rfl
theorem wideA_8 {v : Nat} (hv : v < 256) : wideA (v : Int) 8 = 257 * v := by
  have h := wideA_yes (v := (v : Int)) (D := 8) (by decide)
  rw [show ((8 : Nat) : Int) = 8 from rfl] at h
  rw [h]
  show ((v : Int) % 256).toNat * 65535 / 255 = 257 * v
  omega
/-- How much is seen of a colour. -/
def alphaA (D : Nat) (tr : ByteArray) (has : Bool) (l : List Int) : Nat := if sameS D tr has l = true then 0 else 65535
/-- How much is seen of a place of a palette. -/
def alphaP (tr : ByteArray) (has : Bool) (k : Nat) : Nat := if has = true ∧ k < tr.size then 257 * (tr.data.toList.getD k 0).toNat else 65535
/-- The pixel of samples that may be. -/
def pixA (D : Nat) (c : Int) (pal tr : ByteArray) (has : Bool) (l : List Int) : ByteArray × Int :=
  if c = 0 then (px4 (wideA (l.getD 0 0) D) (wideA (l.getD 0 0) D) (wideA (l.getD 0 0) D) (alphaA D tr has l), 0) else
  if c = 2 then (px4 (wideA (l.getD 0 0) D) (wideA (l.getD 1 0) D) (wideA (l.getD 2 0) D) (alphaA D tr has l), 0) else
  if c = 4 then (px4 (wideA (l.getD 0 0) D) (wideA (l.getD 0 0) D) (wideA (l.getD 0 0) D) (wideA (l.getD 1 0) D), 0) else
  if c = 6 then (px4 (wideA (l.getD 0 0) D) (wideA (l.getD 1 0) D) (wideA (l.getD 2 0) D) (wideA (l.getD 3 0) D), 0) else
  if pal.size < 3 * (l.getD 0 0).toNat + 3 then (⟨#[]⟩, 29) else
  (px4 (257 * (pal.data.toList.getD (3 * (l.getD 0 0).toNat) 0).toNat) (257 * (pal.data.toList.getD (3 * (l.getD 0 0).toNat + 1) 0).toNat) (257 * (pal.data.toList.getD (3 * (l.getD 0 0).toNat + 2) 0).toNat) (alphaP tr has (l.getD 0 0).toNat), 0)
/-- The pixel of samples, of whatever arguments. -/
def pixelA (d c : Int) (pal tr : ByteArray) (has : Bool) (l : List Int) : ByteArray × Int :=
  if samplesI c ≠ (l.length : Int) ∨ l.length = 0 ∨ depB d = false ∨ inR d.toNat l = false then (⟨#[]⟩, 1) else pixA d.toNat c pal tr has l
theorem pixelA_bad {d c : Int} {pal tr : ByteArray} {has : Bool} {l : List Int} (h : samplesI c ≠ (l.length : Int) ∨ l.length = 0 ∨ depB d = false ∨ inR d.toNat l = false) : pixelA d c pal tr has l = (⟨#[]⟩, 1) := by unfold pixelA; rw [if_pos h]
theorem pixelA_ok {D : Nat} {c : Int} {pal tr : ByteArray} {has : Bool} {l : List Int} {n : Nat} (hl : l.length = n) (h1 : samplesI c = (n : Int)) (h2 : 0 < n) (h3 : depB (D : Int) = true) (h4 : inR D l = true) : pixelA D c pal tr has l = pixA D c pal tr has l := by
  unfold pixelA
  rw [if_neg (by
    rintro (h | h | h | h)
    · exact h (by rw [hl]; exact h1)
    · omega
    · rw [h3] at h; cases h
    · rw [show (D : Int).toNat = D from rfl, h4] at h; cases h)]
  rfl
theorem inR_no {D : Nat} {l : List Int} {i : Nat} {x : Int} (h : l[i]? = some x) (hx : x < 0 ∨ ((2 ^ D : Nat) : Int) ≤ x) : inR D l = false := by
  unfold inR
  rw [List.all_eq_false]
  exact ⟨x, List.mem_of_getElem? h, by rw [decide_eq_false (by omega)]; decide⟩
theorem inR_yes {D : Nat} {l : List Int} (h : ∀ (i : Nat) (x : Int), l[i]? = some x → 0 ≤ x ∧ x < ((2 ^ D : Nat) : Int)) : inR D l = true := by
  unfold inR
  rw [List.all_eq_true]
  intro x hx
  obtain ⟨i, hi, e⟩ := List.mem_iff_getElem.1 hx
  exact decide_eq_true (h i x (by rw [List.getElem?_eq_getElem hi, e]))
theorem inR_at {D : Nat} {l : List Int} (h : inR D l = true) {i : Nat} {x : Int} (hx : l[i]? = some x) : 0 ≤ x ∧ x < ((2 ^ D : Nat) : Int) := by
  unfold inR at h
  rw [List.all_eq_true] at h
  exact of_decide_eq_true (h x (List.mem_of_getElem? hx))
theorem samplesI_cases {c : Int} {n : Nat} (h : samplesI c = (n : Int)) (h2 : 0 < n) : c = 0 ∧ n = 1 ∨ c = 2 ∧ n = 3 ∨ c = 3 ∧ n = 1 ∨ c = 4 ∧ n = 2 ∨ c = 6 ∧ n = 4 := by
  unfold samplesI at h
  split at h
  · omega
  split at h
  · omega
  split at h
  · omega
  split at h
  · omega
  · omega
theorem getD_of {l : List Int} {i : Nat} {x : Int} (h : l[i]? = some x) : l.getD i 0 = x := by rw [List.getD_eq_getElem?_getD, h]; rfl
end Go.Proofs.YtfiedoejdikcgaaDoor
