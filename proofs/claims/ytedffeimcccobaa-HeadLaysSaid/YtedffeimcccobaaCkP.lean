/- The program's numbers of four bytes, letters and types. -/
import Derived.Test.YtedffeimcccobaaCkD
set_option maxRecDepth 100000
set_option linter.unusedVariables false
namespace Go.Proofs.Ytedffeimcccobaa
set_option maxRecDepth 100000
open Go Go.RowKit
theorem or_num (x y i : Nat) (hi : i ≤ 62) (hx : x % 2 ^ i = 0) (hx1 : x < 9223372036854775808) (hy : y < 2 ^ i) : Go.bits .or .i64 (x : Int) (y : Int) = ((x + y : Nat) : Int) := by
  have hp : 2 ^ i ≤ 2 ^ 62 := Nat.pow_le_pow_right (by decide) hi
  rw [i64_or _ _ hx1 (by omega), nat_join i x y hx hy]
theorem pupper_any (w : World) {x : Nat} (hx : x < 256) :
    Calls Try.prog 44 #[.int .u8 (x : Int)] w fun e w' => e = .returned (.bool (decide (65 ≤ x ∧ x ≤ 90))) ∧ w = w' := by
  by_cases h1 : 65 ≤ x
  · by_cases h2 : x ≤ 90
    · have HN := Lib.hid (decide_eq_true (⟨h1, h2⟩ : 65 ≤ x ∧ x ≤ 90))
      have d1 : decide ((65 : Int) ≤ (x : Int)) = true := by simp; omega
      have d2 : decide ((x : Int) ≤ 90) = true := by simp; omega
      go_enter Try.func44, Try.ntmps44
      go_wp2
      go_ret
      exact ⟨by rw [HN.out]; rfl, rfl⟩
    · have HN := Lib.hid (decide_eq_false (fun h : 65 ≤ x ∧ x ≤ 90 => h2 h.2))
      have d1 : decide ((65 : Int) ≤ (x : Int)) = true := by simp; omega
      have d2 : decide ((x : Int) ≤ 90) = false := by simp; omega
      go_enter Try.func44, Try.ntmps44
      go_wp2
      go_ret
      exact ⟨by rw [HN.out]; rfl, rfl⟩
  · have HN := Lib.hid (decide_eq_false (fun h : 65 ≤ x ∧ x ≤ 90 => h1 h.1))
    have d1 : decide ((65 : Int) ≤ (x : Int)) = false := by simp; omega
    go_enter Try.func44, Try.ntmps44
    go_wp2
    go_ret
    exact ⟨by rw [HN.out]; rfl, rfl⟩
end Go.Proofs.Ytedffeimcccobaa
