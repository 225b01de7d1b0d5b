/- The program's padding, and the words of a state as bytes. -/
import Derived.Test.YtgemmidkfeebfaaDoorHaF
import Derived.Test.YtgemmidkfeebfaaDoorRpB
set_option maxRecDepth 100000
set_option linter.unusedVariables false
namespace Go.Proofs.YtgemmidkfeebfaaDoor
set_option maxRecDepth 100000
open Go Go.RowKit
/-- What stands behind so many bytes. -/
def padS (n : Nat) : List UInt8 := 128 :: (List.replicate (padN n) 0 ++ eightL (8 * n))
theorem fillT_pad (l : List UInt8) : fillT l = l ++ padS l.length := rfl
theorem padS_length (n : Nat) : (padS n).length = padN n + 9 := by
  unfold padS eightL
  simp only [List.length_append, List.length_cons, List.length_replicate, fourL_length]
theorem padN_lt (n : Nat) : padN n ≤ 63 := by unfold padN; omega
set_option maxHeartbeats 1000000 in
theorem ppadding_any (w : World) {n : Nat} (hn : n ≤ 100000000) :
    Calls Tryd.prog 13 #[.int .i64 n] w fun e w' => e = .returned (.string (strL (padS n))) ∧ But [] w w' := by
  obtain ⟨p, hp⟩ : ∃ p, p = padN n := ⟨_, rfl⟩
  have hp63 : p ≤ 63 := by rw [hp]; exact padN_lt n
  have HRp := Lib.hid fun W => repeat_any W hp63
  rw [← zero_str] at HRp
  obtain ⟨z, hz⟩ : ∃ z, z = 8 * n := ⟨_, rfl⟩
  have HN0 := Lib.hid fun W => pnumW_any W (n := 0) (by decide)
  have HNz := Lib.hid fun W => pnumW_any W (n := z) (by omega)
  obtain ⟨u, hu⟩ : ∃ u, u = (n + 9) % 64 := ⟨_, rfl⟩
  have a1 : (n : Int) + 1 = ((n + 1 : Nat) : Int) := by omega
  obtain ⟨n1, hn1⟩ : ∃ z, z = n + 1 := ⟨_, rfl⟩
  obtain ⟨n9, hn9⟩ : ∃ z, z = n1 + 8 := ⟨_, rfl⟩
  obtain ⟨t, ht⟩ : ∃ t, t = 64 - u := ⟨_, rfl⟩
  have e1 : (n : Int) + 1 = (n1 : Int) := by omega
  have e2 : (n1 : Int) + 8 = (n9 : Int) := by omega
  have e3 : (n9 : Int) % 64 = (u : Int) := by omega
  have e4 : (n9 : Int).tmod 64 = (u : Int) := by rw [Int.tmod_eq_emod_of_nonneg (by omega)]; omega
  have e5 : (64 : Int) - (u : Int) = (t : Int) := by omega
  have ep : t % 64 = p := by rw [hp]; unfold padN; omega
  have e6 : (t : Int) % 64 = (p : Int) := by omega
  have e7 : (t : Int).tmod 64 = (p : Int) := by rw [Int.tmod_eq_emod_of_nonneg (by omega)]; omega
  have w1 := wrapI_in (show n1 < 1000000000000000 by omega)
  have w2 := wrapI_in (show n9 < 1000000000000000 by omega)
  have w3 := wrapI_in (show u < 1000000000000000 by omega)
  have w4 := wrapI_in (show t < 1000000000000000 by omega)
  have w5 := wrapI_in (show p < 1000000000000000 by omega)
  have g1 : (8 : Int) * (n : Int) = (z : Int) := by omega
  have g2 : IntKind.u64.wrap (n : Int) = (n : Int) := by simp [IntKind.wrap_u64]; omega
  have g3 : IntKind.u64.wrap (z : Int) = (z : Int) := by simp [IntKind.wrap_u64]; omega
  have g4 : (z : Int) / 4294967296 = 0 := by omega
  have g5 : IntKind.u32.wrap (z : Int) = (z : Int) := wrapW_in (by omega)
  obtain ⟨Z, hZ⟩ : ∃ Z, Z = strL (List.replicate p (0 : UInt8)) := ⟨_, rfl⟩
  obtain ⟨A, hA⟩ : ∃ A, A = strL (fourL 0) := ⟨_, rfl⟩
  obtain ⟨B, hB⟩ : ∃ A, A = strL (fourL z) := ⟨_, rfl⟩
  have hzs : Z.size ≤ 63 := by rw [hZ, strL_size, List.length_replicate]; exact hp63
  have has : A.size ≤ 4 := by rw [hA, strL_size]; exact Nat.le_refl _
  have hbs : B.size ≤ 4 := by rw [hB, strL_size]; exact Nat.le_refl _
  have HR : Hid (((⟨#[128]⟩ : ByteArray) ++ Z) ++ A ++ B = strL (padS n)) := Lib.hid (by
    rw [hZ, hA, hB, show (⟨#[128]⟩ : ByteArray) = strL [128] from rfl, ← strL_append, ← strL_append, ← strL_append]
    congr 1
    unfold padS eightL
    rw [← hp, ← hz, show z / 4294967296 = 0 by omega]
    simp only [List.append_assoc, List.cons_append, List.nil_append])
  rw [← hZ] at HRp
  rw [← hA] at HN0
  rw [← hB] at HNz
  have kd : (9223372036854775807 < 1 + Z.size) = False := by simp; omega
  have ke : (9223372036854775807 < 1 + Z.size + A.size) = False := by simp; omega
  have kf : (9223372036854775807 < 1 + Z.size + A.size + B.size) = False := by simp; omega
  clear a1 hp hp63 hz hu hn1 hn9 ht ep hZ hA hB hzs has hbs
  go_enter Tryd.func13, Tryd.ntmps13
  go_wp2_with fail
  refine (HRp.out _).mono ?_
  rintro e W1 ⟨rfl, hB1⟩
  have HB1 := Lib.hid hB1
  clear hB1
  go_wp2_with fail
  refine (HN0.out _).mono ?_
  rintro e W2 ⟨rfl, hB2⟩
  have HB2 := Lib.hid (HB1.out.trans hB2)
  clear hB2 HB1
  go_wp2_with fail
  refine (HNz.out _).mono ?_
  rintro e W3 ⟨rfl, hB3⟩
  have HB3 := Lib.hid (HB2.out.trans hB3)
  clear hB3 HB2
  go_wp2
  go_ret
  exact ⟨congrArg (fun z => Ending.returned (.string z)) HR.out, HB3.out⟩
/-- The first so many words as bytes. -/
def outK (h : List Nat) (k : Nat) : List UInt8 := (List.range k).flatMap fun i => fourL (h.getD i 0)
theorem outK_next (h : List Nat) (k : Nat) : outK h (k + 1) = outK h k ++ fourL (h.getD k 0) := by
  unfold outK
  rw [List.range_succ, List.flatMap_append, List.flatMap_singleton]
theorem outK_all (h : List Nat) : outK h 8 = outS h := rfl
theorem outK_length (h : List Nat) : ∀ k, (outK h k).length = 4 * k
  | 0 => rfl
  | k + 1 => by rw [outK_next, List.length_append, outK_length h k, fourL_length]; omega
theorem idx8 (a b c d e f g h : Nat) : ∀ (k : Nat), k < 8 → ∀ W : World, (Instr.index 30 (.agg #[.int .u32 (a : Int), .int .u32 (b : Int), .int .u32 (c : Int), .int .u32 (d : Int), .int .u32 (e : Int), .int .u32 (f : Int), .int .u32 (g : Int), .int .u32 (h : Int)]) (.int .i64 k)).run Tryd.prog W = .ok (.int .u32 ([a, b, c, d, e, f, g, h].getD k 0 : Nat)) W
  | 0, _, W => by kernel_rfl
  | 1, _, W => by kernel_rfl
  | 2, _, W => by kernel_rfl
  | 3, _, W => by kernel_rfl
  | 4, _, W => by kernel_rfl
  | 5, _, W => by kernel_rfl
  | 6, _, W => by kernel_rfl
  | 7, _, W => by kernel_rfl
  | n + 8, h, _ => by omega
set_option maxHeartbeats 1000000 in
theorem ptext_any (w : World) {v : List Nat} (hv : v.length = 8) (hs : Small v) :
    Calls Tryd.prog 14 #[.agg (rowW v 8)] w fun e w' => e = .returned (.string (strL (outS v))) ∧ But [] w w' := by
  obtain ⟨a0, b0, c0, d0, e0, f0, g0, h0, rfl⟩ := list8 hv
  obtain ⟨V, hV⟩ : ∃ V, V = [a0, b0, c0, d0, e0, f0, g0, h0] := ⟨_, rfl⟩
  have HX := Lib.hid (idx8 a0 b0 c0 d0 e0 f0 g0 h0)
  have HI0 := Lib.hid (Is.fresh w 30 #[.int .u32 a0, .int .u32 b0, .int .u32 c0, .int .u32 d0, .int .u32 e0, .int .u32 f0, .int .u32 g0, .int .u32 h0])
  have HB0 := Lib.hid ((But.refl [] w).alloc (.cells #[.int .u32 a0, .int .u32 b0, .int .u32 c0, .int .u32 d0, .int .u32 e0, .int .u32 f0, .int .u32 g0, .int .u32 h0] 30))
  have HS := Lib.hid hs
  have HO0 : Hid (strL [] = strL (outK V 0)) := Lib.hid rfl
  rw [rowW8]
  obtain ⟨G, hG⟩ : ∃ G : Array Value, G = #[.int .u32 a0, .int .u32 b0, .int .u32 c0, .int .u32 d0, .int .u32 e0, .int .u32 f0, .int .u32 g0, .int .u32 h0] := ⟨_, rfl⟩
  rw [← hV] at HX HS ⊢
  rw [← hG] at HX HI0 HB0 ⊢
  have hGs : G.size = 8 := by rw [hG]; rfl
  clear hV hG hs hv
  go_enter Tryd.func14, Tryd.ntmps14
  go_wp2_with (refine wpList_load_is 30 rfl _ rfl rfl (by rw [hGs]; exact agg8) HI0.out ?_)
  go_loopw [3, 5, 7] (fun tv _ kv wr => ∃ k : Nat, k ≤ 8 ∧ kv = .int .i64 k ∧ tv = .string (strL (outK V k)) ∧ Hid (But [] w wr)) (fun _ _ kv _ => 8 - (intOf kv).toNat)
  case atStart => exact ⟨0, Nat.zero_le _, rfl, rfl, HB0⟩
  case round =>
    clear HB0
    obtain ⟨k, hk, rfl, rfl, HB⟩ := hrel
    by_cases hlt : k < 8
    · have kx := HX.out k hlt
      obtain ⟨n, hn⟩ : ∃ n, n = V.getD k 0 := ⟨_, rfl⟩
      simp only [← hn] at kx
      have HNu := Lib.hid fun W => pnumW_any W (n := n) (by rw [hn]; exact HS.out k)
      obtain ⟨Y, hY⟩ : ∃ Y, Y = strL (fourL n) := ⟨_, rfl⟩
      obtain ⟨X, hX⟩ : ∃ X, X = strL (outK V k) := ⟨_, rfl⟩
      have hxs : X.size ≤ 32 := by rw [hX, strL_size, outK_length]; omega
      have hys : Y.size ≤ 4 := by rw [hY, strL_size]; exact Nat.le_refl _
      have HNX : Hid (X ++ Y = strL (outK V (k + 1))) := Lib.hid (by rw [hX, hY, ← strL_append, outK_next, hn])
      rw [← hY] at HNu
      rw [← hX]
      have kd : (9223372036854775807 < X.size + Y.size) = False := by simp; omega
      clear hn hY hX hxs hys
      go_wp2_with fail
      refine (HNu.out _).mono ?_
      rintro e W1 ⟨rfl, hB1⟩
      have HB1 := Lib.hid (HB.out.trans hB1)
      clear hB1 HB
      go_wp2
      go_roundw
      case rel => exact ⟨k + 1, by omega, by go_num, congrArg Value.string HNX.out, HB1⟩
      case measure => simp [intOf] <;> omega
    · have h8 : k = 8 := by omega
      rw [h8]
      go_wp2
      go_ret
      exact ⟨rfl, HB.out⟩
end Go.Proofs.YtgemmidkfeebfaaDoor
