/- The program's depths, its masks, and a sample with 16 bits. -/
import Derived.Test.YtfibffcmbnlomaaSbA
set_option maxRecDepth 100000
set_option linter.unusedVariables false
namespace Go.Proofs.Ytfibffcmbnlomaa
set_option maxRecDepth 100000
open Go Go.RowKit
theorem pisdepth_any (w : World) (d : Int) : Calls Try.prog 21 #[.int .i64 d] w fun e w' => e = .returned (.bool (depB d)) ∧ w = w' := by
  obtain ⟨r, hr⟩ : ∃ r, r = depB d := ⟨_, rfl⟩
  rw [← hr]
  have HR := Lib.hid hr
  clear hr
  go_enter Try.func21, Try.ntmps21
  go_wp2
  all_goals
    go_ret
    refine ⟨?_, rfl⟩
    rw [HR.out]
    unfold depB
    clear HR
    simp_all
theorem pgreatest_any (w : World) {D : Nat} (hD : D ≤ 16) : Calls Try.prog 25 #[.int .i64 D] w fun e w' => e = .returned (.int .i64 (2 ^ D - 1)) ∧ w = w' := by
  obtain ⟨M, hM⟩ : ∃ M, M = 2 ^ D := ⟨_, rfl⟩
  have hM1 : 1 ≤ M := by rw [hM]; exact Nat.pow_pos (by decide)
  have hM2 : M ≤ 65536 := by rw [hM]; exact Nat.pow_le_pow_right (by decide) hD
  have p1 : (2 : Int) ^ D = (M : Int) := by rw [hM]; simp
  rw [p1]
  have t7 : IntKind.i64.wrap (M : Int) = (M : Int) := by rw [IntKind.wrap_i64]; omega
  clear hM
  go_enter Try.func25, Try.ntmps25
  go_wp2
  go_ret
  exact ⟨rfl, rfl⟩
theorem plow_any (w : World) (v : Int) {D : Nat} (hD : D ≤ 16) : Calls Try.prog 24 #[.int .i64 v, .int .i64 D] w fun e w' => e = .returned (.int .i64 (v % 2 ^ D)) ∧ w = w' := by
  have HG := Lib.hid fun W => pgreatest_any W hD
  have e1 := i64_mask v D (by omega)
  obtain ⟨r, hr⟩ : ∃ r, r = v % 2 ^ D := ⟨_, rfl⟩
  obtain ⟨m, hm⟩ : ∃ r : Int, r = 2 ^ D - 1 := ⟨_, rfl⟩
  rw [← hm] at HG e1
  rw [← hr] at e1 ⊢
  clear hr hm
  go_enter Try.func24, Try.ntmps24
  go_wp2_with fail
  refine (HG.out _).mono ?_
  rintro e w1 ⟨rfl, rfl⟩
  go_wp2
  go_ret
  exact ⟨rfl, rfl⟩
theorem wideA_yes {v : Int} {D : Nat} (h : depB (D : Int) = true) : wideA v D = (v % 2 ^ D).toNat * 65535 / (2 ^ D - 1) := by
  unfold wideA wideN; rw [if_pos h]; rfl
theorem swide_any (w : World) (v d : Int) : Calls Try.prog 17 #[.int .i64 v, .int .i64 d] w fun e w' => e = .returned (.int .i64 (wideA v d : Nat)) ∧ w = w' := by
  by_cases h : depB d = true
  · obtain ⟨D, rfl, hdep, hD1, hD16⟩ := depB_nat h
    have HD := Lib.hid fun W => pisdepth_any W D
    rw [h] at HD
    have HL := Lib.hid fun W => plow_any W v hD16
    have HG := Lib.hid fun W => pgreatest_any W hD16
    obtain ⟨M, hM⟩ : ∃ M, M = 2 ^ D := ⟨_, rfl⟩
    have hM1 : 2 ≤ M := by rw [hM]; exact Nat.pow_le_pow_right (n := 2) (by decide) hD1
    have hM2 : M ≤ 65536 := by rw [hM]; exact Nat.pow_le_pow_right (by decide) hD16
    have p1 : (2 : Int) ^ D = (M : Int) := by rw [hM]; simp
    rw [p1] at HL HG
    obtain ⟨G, hG⟩ : ∃ G : Nat, G = M - 1 := ⟨_, rfl⟩
    have eG : (M : Int) - 1 = (G : Int) := by omega
    rw [eG] at HG
    obtain ⟨m, hm⟩ : ∃ m : Nat, m = (v % M).toNat := ⟨_, rfl⟩
    have hvm : v % (M : Int) = (m : Int) := by
      have := Int.emod_nonneg v (show (M : Int) ≠ 0 by omega)
      omega
    have hml : m < M := by
      have := Int.emod_lt_of_pos v (show (0 : Int) < M by omega)
      omega
    rw [hvm] at HL
    obtain ⟨x, hx⟩ : ∃ x, x = m * 65535 := ⟨_, rfl⟩
    obtain ⟨q, hq⟩ : ∃ q, q = x / G := ⟨_, rfl⟩
    have e1 : (m : Int) * 65535 = (x : Int) := by omega
    have e2 : (x : Int).tdiv (G : Int) = (q : Int) := by rw [Int.tdiv_eq_ediv_of_nonneg (by omega), hq]; simp
    have e3 : (x : Int) / (G : Int) = (q : Int) := by rw [hq]; simp
    have hql : q ≤ x := by rw [hq]; exact Nat.div_le_self _ _
    have hxl : x < 4294967296 := by omega
    have t1 : IntKind.i64.wrap (x : Int) = (x : Int) := by rw [IntKind.wrap_i64]; omega
    have t2 : IntKind.i64.wrap (q : Int) = (q : Int) := by rw [IntKind.wrap_i64]; omega
    have nG : ((G : Int) == 0) = false := by simp; omega
    have nG1 : ¬ (G : Int) = 0 := by omega
    have nG2 : ¬ G = 0 := by omega
    have HR : Hid (wideA v D = q) := Lib.hid (by rw [wideA_yes h, p1, hvm, hq, hx, hG, hM]; rfl)
    rw [HR.out]
    clear h hdep hM hG hm hx hq p1 eG hvm
    go_enter Try.func17, Try.ntmps17
    go_wp2_with (first | (refine (HD.out _).mono ?_; rintro e wz ⟨rfl, rfl⟩) | (refine (HL.out _).mono ?_; rintro e wz ⟨rfl, rfl⟩) | (refine (HG.out _).mono ?_; rintro e wz ⟨rfl, rfl⟩))
    go_ret
    exact ⟨rfl, rfl⟩
  · have hf : depB d = false := by simpa using h
    have HD := Lib.hid fun W => pisdepth_any W d
    rw [hf] at HD
    have HR := Lib.hid (wideA_no (v := v) hf)
    rw [HR.out]
    clear h hf
    go_enter Try.func17, Try.ntmps17
    go_wp2_with fail
    refine (HD.out _).mono ?_
    rintro e w1 ⟨rfl, rfl⟩
    go_wp2
    go_ret
    exact ⟨rfl, rfl⟩
end Go.Proofs.Ytfibffcmbnlomaa
