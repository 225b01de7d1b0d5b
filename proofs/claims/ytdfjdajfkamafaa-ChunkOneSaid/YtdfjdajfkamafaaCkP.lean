/- The program's numbers of four bytes, letters and types. -/
import Derived.Test.YtdfjdajfkamafaaCkD
set_option maxRecDepth 100000
set_option linter.unusedVariables false
namespace Go.Proofs.Ytdfjdajfkamafaa
set_option maxRecDepth 100000
open Go Go.RowKit
theorem pnum_any (w : World) {n : Nat} (hn : n < 4611686018427387904) :
    Calls Try.prog 24 #[.int .i64 (n : Int)] w fun e w' => e = .returned (.string (strL (fourL n))) ∧ But [] w w' := by
  obtain ⟨a, ha⟩ : ∃ a, a = n / 16777216 % 256 := ⟨_, rfl⟩
  obtain ⟨b, hb⟩ : ∃ a, a = n / 65536 % 256 := ⟨_, rfl⟩
  obtain ⟨c, hc⟩ : ∃ a, a = n / 256 % 256 := ⟨_, rfl⟩
  obtain ⟨d, hd⟩ : ∃ a, a = n % 256 := ⟨_, rfl⟩
  have b1 : IntKind.u8.wrap ((n : Int) / 16777216) = (a : Int) := by simp [IntKind.wrap_u8]; omega
  have b2 : IntKind.u8.wrap ((n : Int) / 65536) = (b : Int) := by simp [IntKind.wrap_u8]; omega
  have b3 : IntKind.u8.wrap ((n : Int) / 256) = (c : Int) := by simp [IntKind.wrap_u8]; omega
  have b4 : IntKind.u8.wrap (n : Int) = (d : Int) := by simp [IntKind.wrap_u8]; omega
  have kc := fun W : World => conv_fourZ W ha hb hc hd
  have HB := Lib.hid ((But.refl [] w).alloc (.cells #[.int .u8 a, .int .u8 b, .int .u8 c, .int .u8 d] 5))
  clear ha hb hc hd
  go_enter Try.func24, Try.ntmps24
  go_wp2
  go_ret
  exact ⟨rfl, HB.out⟩
theorem or_num (x y i : Nat) (hi : i ≤ 62) (hx : x % 2 ^ i = 0) (hx1 : x < 9223372036854775808) (hy : y < 2 ^ i) : Go.bits .or .i64 (x : Int) (y : Int) = ((x + y : Nat) : Int) := by
  have hp : 2 ^ i ≤ 2 ^ 62 := Nat.pow_le_pow_right (by decide) hi
  rw [i64_or _ _ hx1 (by omega), nat_join i x y hx hy]
theorem pvalue_any (w : World) {s : List UInt8} (hs : s.length = 4) :
    Calls Try.prog 30 #[.string (strL s)] w fun e w' => e = .returned (.int .i64 (ofL s)) ∧ ∃ q, w' = w.drewN q := by
  match s, hs with
  | [p, q, r, t], _ =>
    have k0 : ∀ W, (Instr.index 9 (.string (strL [p, q, r, t])) (.int .i64 0)).run Try.prog W = .ok (.int .u8 (p.toNat : Nat)) W := fun W => byteC_run (s := strL [p, q, r, t]) (k := 0) (by rw [strL_size]; simp) W
    have k1 : ∀ W, (Instr.index 9 (.string (strL [p, q, r, t])) (.int .i64 1)).run Try.prog W = .ok (.int .u8 (q.toNat : Nat)) W := fun W => byteC_run (s := strL [p, q, r, t]) (k := 1) (by rw [strL_size]; simp) W
    have k2 : ∀ W, (Instr.index 9 (.string (strL [p, q, r, t])) (.int .i64 2)).run Try.prog W = .ok (.int .u8 (r.toNat : Nat)) W := fun W => byteC_run (s := strL [p, q, r, t]) (k := 2) (by rw [strL_size]; simp) W
    have k3 : ∀ W, (Instr.index 9 (.string (strL [p, q, r, t])) (.int .i64 3)).run Try.prog W = .ok (.int .u8 (t.toNat : Nat)) W := fun W => byteC_run (s := strL [p, q, r, t]) (k := 3) (by rw [strL_size]; simp) W
    have hof : ofL [p, q, r, t] = 256 * (256 * (256 * (256 * 0 + p.toNat) + q.toNat) + r.toNat) + t.toNat := rfl
    have l0 := p.toNat_lt; have l1 := q.toNat_lt; have l2 := r.toNat_lt; have l3 := t.toNat_lt
    obtain ⟨S, hS⟩ : ∃ S, S = strL [p, q, r, t] := ⟨_, rfl⟩
    obtain ⟨n, hn⟩ : ∃ n, n = ofL [p, q, r, t] := ⟨_, rfl⟩
    rw [← hn] at hof ⊢
    rw [← hS]
    simp only [← hS] at k0 k1 k2 k3
    obtain ⟨a, ha⟩ : ∃ a, a = p.toNat := ⟨_, rfl⟩
    obtain ⟨b, hb⟩ : ∃ a, a = q.toNat := ⟨_, rfl⟩
    obtain ⟨c, hc⟩ : ∃ a, a = r.toNat := ⟨_, rfl⟩
    obtain ⟨d, hd⟩ : ∃ a, a = t.toNat := ⟨_, rfl⟩
    rw [← ha] at l0 hof
    rw [← hb] at l1 hof
    rw [← hc] at l2 hof
    rw [← hd] at l3 hof
    simp only [← ha] at k0
    simp only [← hb] at k1
    simp only [← hc] at k2
    simp only [← hd] at k3
    clear hS hn ha hb hc hd
    have HN := Lib.hid (show Go.bits .or .i64 (Go.bits .or .i64 (Go.bits .or .i64 ((a : Int) * 16777216) ((b : Int) * 65536)) ((c : Int) * 256)) (d : Int) = (n : Int) by
      have o1 := or_num (a * 16777216) (b * 65536) 24 (by decide) (by omega) (by omega) (by omega)
      have o2 := or_num (a * 16777216 + b * 65536) (c * 256) 16 (by decide) (by omega) (by omega) (by omega)
      have o3 := or_num (a * 16777216 + b * 65536 + c * 256) d 8 (by decide) (by omega) (by omega) (by omega)
      rw [show (a : Int) * 16777216 = ((a * 16777216 : Nat) : Int) by omega, show (b : Int) * 65536 = ((b * 65536 : Nat) : Int) by omega, show (c : Int) * 256 = ((c * 256 : Nat) : Int) by omega, o1, o2, o3, hof]
      omega)
    clear hof
    go_enter Try.func30, Try.ntmps30
    go_wp2
    go_quiet (fail)
    go_wp2
    go_ret
    exact ⟨congrArg (fun z => Ending.returned (.int .i64 z)) HN.out, nq, rfl⟩
theorem pupper_any (w : World) {x : Nat} (hx : x < 256) :
    Calls Try.prog 28 #[.int .u8 (x : Int)] w fun e w' => e = .returned (.bool (decide (65 ≤ x ∧ x ≤ 90))) ∧ w = w' := by
  by_cases h1 : 65 ≤ x
  · by_cases h2 : x ≤ 90
    · have HN := Lib.hid (decide_eq_true (⟨h1, h2⟩ : 65 ≤ x ∧ x ≤ 90))
      have d1 : decide ((65 : Int) ≤ (x : Int)) = true := by simp; omega
      have d2 : decide ((x : Int) ≤ 90) = true := by simp; omega
      go_enter Try.func28, Try.ntmps28
      go_wp2
      go_ret
      exact ⟨by rw [HN.out]; rfl, rfl⟩
    · have HN := Lib.hid (decide_eq_false (fun h : 65 ≤ x ∧ x ≤ 90 => h2 h.2))
      have d1 : decide ((65 : Int) ≤ (x : Int)) = true := by simp; omega
      have d2 : decide ((x : Int) ≤ 90) = false := by simp; omega
      go_enter Try.func28, Try.ntmps28
      go_wp2
      go_ret
      exact ⟨by rw [HN.out]; rfl, rfl⟩
  · have HN := Lib.hid (decide_eq_false (fun h : 65 ≤ x ∧ x ≤ 90 => h1 h.1))
    have d1 : decide ((65 : Int) ≤ (x : Int)) = false := by simp; omega
    go_enter Try.func28, Try.ntmps28
    go_wp2
    go_ret
    exact ⟨by rw [HN.out]; rfl, rfl⟩
theorem plower_any (w : World) {x : Nat} (hx : x < 256) :
    Calls Try.prog 33 #[.int .u8 (x : Int)] w fun e w' => e = .returned (.bool (decide (97 ≤ x ∧ x ≤ 122))) ∧ w = w' := by
  by_cases h1 : 97 ≤ x
  · by_cases h2 : x ≤ 122
    · have HN := Lib.hid (decide_eq_true (⟨h1, h2⟩ : 97 ≤ x ∧ x ≤ 122))
      have d1 : decide ((97 : Int) ≤ (x : Int)) = true := by simp; omega
      have d2 : decide ((x : Int) ≤ 122) = true := by simp; omega
      go_enter Try.func33, Try.ntmps33
      go_wp2
      go_ret
      exact ⟨by rw [HN.out]; rfl, rfl⟩
    · have HN := Lib.hid (decide_eq_false (fun h : 97 ≤ x ∧ x ≤ 122 => h2 h.2))
      have d1 : decide ((97 : Int) ≤ (x : Int)) = true := by simp; omega
      have d2 : decide ((x : Int) ≤ 122) = false := by simp; omega
      go_enter Try.func33, Try.ntmps33
      go_wp2
      go_ret
      exact ⟨by rw [HN.out]; rfl, rfl⟩
  · have HN := Lib.hid (decide_eq_false (fun h : 97 ≤ x ∧ x ≤ 122 => h1 h.1))
    have d1 : decide ((97 : Int) ≤ (x : Int)) = false := by simp; omega
    go_enter Try.func33, Try.ntmps33
    go_wp2
    go_ret
    exact ⟨by rw [HN.out]; rfl, rfl⟩
end Go.Proofs.Ytdfjdajfkamafaa
