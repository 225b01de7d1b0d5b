/- Words of 32 bits, layer 14: turned, as bytes, out of bytes. -/
import Derived.Test.YtgemmidkfeebfaaDoorWA
import Derived.Test.YtgemmidkfeebfaaDoorSbL
import Derived.BigQuiet
set_option maxRecDepth 100000
set_option linter.unusedVariables false
namespace Go.Proofs.YtgemmidkfeebfaaDoor
set_option maxRecDepth 100000
open Go Go.RowKit
theorem wrapW (x : Nat) : IntKind.u32.wrap (x : Int) = ((x % 4294967296 : Nat) : Int) := by rw [IntKind.wrap_u32]; omega
theorem wrapW_in {x : Nat} (h : x < 4294967296) : IntKind.u32.wrap (x : Int) = (x : Int) := by rw [IntKind.wrap_u32]; omega
theorem rotT_or {x n : Nat} (hx : x < 4294967296) : rotT x n = (x / 2 ^ n) ||| (x * 2 ^ (32 - n) % 4294967296) := by
  unfold rotT
  rw [Nat.shiftRight_eq_div_pow, Nat.shiftLeft_eq, show (4294967296 : Nat) = 2 ^ 32 from rfl, Nat.or_mod_two_pow, Nat.mod_eq_of_lt]
  exact Nat.lt_of_le_of_lt (Nat.div_le_self _ _) hx
theorem protr_any (w : World) {x n : Nat} (hx : x < 4294967296) (hn : n ≤ 31) :
    Calls Tryd.prog 22 #[.int .u32 x, .int .i64 n] w fun e w' => e = .returned (.int .u32 (rotT x n : Nat)) ∧ ∃ q, w' = w.drewN q := by
  obtain ⟨m, hm⟩ : ∃ m, m = 32 - n := ⟨_, rfl⟩
  obtain ⟨a, ha⟩ : ∃ a, a = x / 2 ^ n := ⟨_, rfl⟩
  obtain ⟨p, hp⟩ : ∃ p, p = x * 2 ^ m := ⟨_, rfl⟩
  obtain ⟨b, hb⟩ : ∃ b, b = p % 4294967296 := ⟨_, rfl⟩
  have hal : a < 4294967296 := by rw [ha]; exact Nat.lt_of_le_of_lt (Nat.div_le_self _ _) hx
  have hbl : b < 4294967296 := by rw [hb]; exact Nat.mod_lt _ (by decide)
  have HR : Hid (bits .or .u32 (a : Int) (b : Int) = ((rotT x n : Nat) : Int)) := Lib.hid (by rw [u32_or_nat a b hal hbl, rotT_or hx, ← hm, ← ha, ← hp, ← hb])
  have f1 : (x : Int) / 2 ^ n = (a : Int) := by rw [ha]; simp
  have f2 : (x : Int) * 2 ^ m = (p : Int) := by rw [hp]; simp
  have f3 : IntKind.u32.wrap (p : Int) = (b : Int) := by rw [wrapW, hb]
  have f4 : IntKind.u32.wrap (a : Int) = (a : Int) := wrapW_in hal
  have f5 : (32 : Int) - (n : Int) = (m : Int) := by omega
  have f6 : IntKind.i64.wrap (m : Int) = (m : Int) := wrapI_in (by omega)
  clear hm ha hp hb
  go_enter Tryd.func22, Tryd.ntmps22
  go_wp2
  go_quiet (fail)
  go_wp2
  go_ret
  exact ⟨congrArg (fun z => Ending.returned (.int .u32 z)) HR.out, nq, rfl⟩
theorem eturned_any (w : World) {x n : Nat} (hx : x < 4294967296) (hn : n ≤ 31) (hn1 : 1 ≤ n) :
    Calls Tryd.prog 17 #[.int .i64 x, .int .i64 n] w fun e w' => e = .returned (.int .i64 (rotT x n : Nat)) ∧ ∃ q, w' = w.drewN q := by
  obtain ⟨m, hm⟩ : ∃ m, m = 32 - n := ⟨_, rfl⟩
  obtain ⟨a, ha⟩ : ∃ a, a = x / 2 ^ n := ⟨_, rfl⟩
  obtain ⟨p, hp⟩ : ∃ p, p = x * 2 ^ m := ⟨_, rfl⟩
  obtain ⟨o, ho⟩ : ∃ o, o = a ||| p := ⟨_, rfl⟩
  have hal : a < 4294967296 := by rw [ha]; exact Nat.lt_of_le_of_lt (Nat.div_le_self _ _) hx
  have hpl : p < 9223372036854775808 := by
    have h1 : 2 ^ m ≤ 2 ^ 31 := Nat.pow_le_pow_right (by decide) (by omega)
    have h2 : p ≤ x * 2 ^ 31 := by rw [hp]; exact Nat.mul_le_mul_left _ h1
    omega
  have hol : o < 9223372036854775808 := by rw [ho]; exact Nat.or_lt_two_pow (n := 63) (by omega) hpl
  have HR : Hid (rotT x n = o % 4294967296) := Lib.hid (by
    unfold rotT
    rw [Nat.shiftRight_eq_div_pow, Nat.shiftLeft_eq, ← hm, ← ha, ← hp, ← ho])
  have f1 : (x : Int) / 2 ^ n = (a : Int) := by rw [ha]; simp
  have f2 : (x : Int) * 2 ^ m = (p : Int) := by rw [hp]; simp
  have f3 : bits .or .i64 (a : Int) (p : Int) = (o : Int) := by rw [ho]; exact i64_or a p (by omega) hpl
  have f5 : (32 : Int) - (n : Int) = (m : Int) := by omega
  have f6 : IntKind.i64.wrap (m : Int) = (m : Int) := wrapI_in (by omega)
  have f7 : IntKind.i64.wrap (p : Int) = (p : Int) := wraps_i64 _ (by omega) (by omega)
  have f4 : IntKind.i64.wrap (a : Int) = (a : Int) := wraps_i64 _ (by omega) (by omega)
  have g1 : (o : Int) % 4294967296 = ((o % 4294967296 : Nat) : Int) := by omega
  have g2 : (o : Int).tmod 4294967296 = ((o % 4294967296 : Nat) : Int) := by rw [Int.tmod_eq_emod_of_nonneg (by omega)]; omega
  rw [HR.out]
  obtain ⟨r, hr⟩ : ∃ r, r = o % 4294967296 := ⟨_, rfl⟩
  have f8 : IntKind.i64.wrap (r : Int) = (r : Int) := wraps_i64 _ (by omega) (by omega)
  rw [← hr] at g1 g2 ⊢
  clear hm ha hp ho hr HR
  go_enter Tryd.func17, Tryd.ntmps17
  go_wp2
  go_quiet (fail)
  go_wp2
  go_ret
  exact ⟨rfl, nq, rfl⟩
theorem pnumW_any (w : World) {n : Nat} (hn : n < 4294967296) :
    Calls Tryd.prog 21 #[.int .u32 n] w fun e w' => e = .returned (.string (strL (fourL n))) ∧ But [] w w' := by
  obtain ⟨a, ha⟩ : ∃ a, a = n / 16777216 % 256 := ⟨_, rfl⟩
  obtain ⟨b, hb⟩ : ∃ a, a = n / 65536 % 256 := ⟨_, rfl⟩
  obtain ⟨c, hc⟩ : ∃ a, a = n / 256 % 256 := ⟨_, rfl⟩
  obtain ⟨d, hd⟩ : ∃ a, a = n % 256 := ⟨_, rfl⟩
  have b1 : IntKind.u8.wrap ((n : Int) / 16777216) = (a : Int) := by simp [IntKind.wrap_u8]; omega
  have b2 : IntKind.u8.wrap ((n : Int) / 65536) = (b : Int) := by simp [IntKind.wrap_u8]; omega
  have b3 : IntKind.u8.wrap ((n : Int) / 256) = (c : Int) := by simp [IntKind.wrap_u8]; omega
  have b4 : IntKind.u8.wrap (n : Int) = (d : Int) := by simp [IntKind.wrap_u8]; omega
  have kc := fun W : World => conv_fourZ W ha hb hc hd
  have HB := Lib.hid ((But.refl [] w).alloc (.cells #[.int .u8 a, .int .u8 b, .int .u8 c, .int .u8 d] 5))
  clear ha hb hc hd
  go_enter Tryd.func21, Tryd.ntmps21
  go_wp2
  go_ret
  exact ⟨rfl, HB.out⟩
theorem or_numW (x y i : Nat) (hi : i ≤ 31) (hx : x % 2 ^ i = 0) (hx1 : x < 4294967296) (hy : y < 2 ^ i) : Go.bits .or .u32 (x : Int) (y : Int) = ((x + y : Nat) : Int) := by
  have hp : 2 ^ i ≤ 2 ^ 31 := Nat.pow_le_pow_right (by decide) hi
  rw [u32_or_nat _ _ hx1 (by omega), nat_join i x y hx hy]
theorem pvalueW_any (w : World) {s : List UInt8} (hs : s.length = 4) :
    Calls Tryd.prog 23 #[.string (strL s)] w fun e w' => e = .returned (.int .u32 (ofL s : Nat)) ∧ ∃ q, w' = w.drewN q := by
  match s, hs with
  | [p, q, r, t], _ =>
    have k0 : ∀ W, (Instr.index 9 (.string (strL [p, q, r, t])) (.int .i64 0)).run Tryd.prog W = .ok (.int .u8 (p.toNat : Nat)) W := fun W => byteR_run (s := strL [p, q, r, t]) (k := 0) (by rw [strL_size]; simp) W
    have k1 : ∀ W, (Instr.index 9 (.string (strL [p, q, r, t])) (.int .i64 1)).run Tryd.prog W = .ok (.int .u8 (q.toNat : Nat)) W := fun W => byteR_run (s := strL [p, q, r, t]) (k := 1) (by rw [strL_size]; simp) W
    have k2 : ∀ W, (Instr.index 9 (.string (strL [p, q, r, t])) (.int .i64 2)).run Tryd.prog W = .ok (.int .u8 (r.toNat : Nat)) W := fun W => byteR_run (s := strL [p, q, r, t]) (k := 2) (by rw [strL_size]; simp) W
    have k3 : ∀ W, (Instr.index 9 (.string (strL [p, q, r, t])) (.int .i64 3)).run Tryd.prog W = .ok (.int .u8 (t.toNat : Nat)) W := fun W => byteR_run (s := strL [p, q, r, t]) (k := 3) (by rw [strL_size]; simp) W
    have hof : ofL [p, q, r, t] = 256 * (256 * (256 * (256 * 0 + p.toNat) + q.toNat) + r.toNat) + t.toNat := rfl
    have l0 := p.toNat_lt; have l1 := q.toNat_lt; have l2 := r.toNat_lt; have l3 := t.toNat_lt
    obtain ⟨S, hS⟩ : ∃ S, S = strL [p, q, r, t] := ⟨_, rfl⟩
    obtain ⟨n, hn⟩ : ∃ n, n = ofL [p, q, r, t] := ⟨_, rfl⟩
    rw [← hn] at hof ⊢
    rw [← hS]
    simp only [← hS] at k0 k1 k2 k3
    obtain ⟨a, ha⟩ : ∃ a, a = p.toNat := ⟨_, rfl⟩
    obtain ⟨b, hb⟩ : ∃ a, a = q.toNat := ⟨_, rfl⟩
    obtain ⟨c, hc⟩ : ∃ a, a = r.toNat := ⟨_, rfl⟩
    obtain ⟨d, hd⟩ : ∃ a, a = t.toNat := ⟨_, rfl⟩
    rw [← ha] at l0 hof
    rw [← hb] at l1 hof
    rw [← hc] at l2 hof
    rw [← hd] at l3 hof
    simp only [← ha] at k0
    simp only [← hb] at k1
    simp only [← hc] at k2
    simp only [← hd] at k3
    clear hS hn ha hb hc hd
    have HN := Lib.hid (show Go.bits .or .u32 (Go.bits .or .u32 (Go.bits .or .u32 ((a : Int) * 16777216) ((b : Int) * 65536)) ((c : Int) * 256)) (d : Int) = (n : Int) by
      have o1 := or_numW (a * 16777216) (b * 65536) 24 (by decide) (by omega) (by omega) (by omega)
      have o2 := or_numW (a * 16777216 + b * 65536) (c * 256) 16 (by decide) (by omega) (by omega) (by omega)
      have o3 := or_numW (a * 16777216 + b * 65536 + c * 256) d 8 (by decide) (by omega) (by omega) (by omega)
      rw [show (a : Int) * 16777216 = ((a * 16777216 : Nat) : Int) by omega, show (b : Int) * 65536 = ((b * 65536 : Nat) : Int) by omega, show (c : Int) * 256 = ((c * 256 : Nat) : Int) by omega, o1, o2, o3, hof]
      omega)
    clear hof
    have u1 : IntKind.u32.wrap (a : Int) = (a : Int) := wrapW_in (by omega)
    have u2 : IntKind.u32.wrap (b : Int) = (b : Int) := wrapW_in (by omega)
    have u3 : IntKind.u32.wrap (c : Int) = (c : Int) := wrapW_in (by omega)
    have u4 : IntKind.u32.wrap (d : Int) = (d : Int) := wrapW_in (by omega)
    have v1 : IntKind.u32.wrap ((a : Int) * 16777216) = (a : Int) * 16777216 := by rw [IntKind.wrap_u32]; omega
    have v2 : IntKind.u32.wrap ((b : Int) * 65536) = (b : Int) * 65536 := by rw [IntKind.wrap_u32]; omega
    have v3 : IntKind.u32.wrap ((c : Int) * 256) = (c : Int) * 256 := by rw [IntKind.wrap_u32]; omega
    go_enter Tryd.func23, Tryd.ntmps23
    go_wp2
    go_quiet (fail)
    go_wp2
    go_ret
    exact ⟨congrArg (fun z => Ending.returned (.int .u32 z)) HN.out, nq, rfl⟩
end Go.Proofs.YtgemmidkfeebfaaDoor
