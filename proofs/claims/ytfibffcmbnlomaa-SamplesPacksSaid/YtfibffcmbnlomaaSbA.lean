/- The document's depths, and a sample with 16 bits. -/
import Derived.Test.YtfibffcmbnlomaaSaM
import Derived.Test.YtfibffcmbnlomaaWords
import Derived.Test.YtfibffcmbnlomaaHdA
import Derived.WalkKit
import Derived.Handy
set_option maxRecDepth 100000
set_option linter.unusedVariables false
namespace Go.Proofs.Ytfibffcmbnlomaa
set_option maxRecDepth 100000
open Go Go.RowKit
/-- Whether a number is a depth. -/
def depB (d : Int) : Bool := decide (d = 1 ∨ d = 2 ∨ d = 4 ∨ d = 8 ∨ d = 16)
theorem depB_nat {d : Int} (h : depB d = true) : ∃ D : Nat, d = (D : Int) ∧ isDepth D ∧ 1 ≤ D ∧ D ≤ 16 := by
  have h2 := of_decide_eq_true h
  refine ⟨d.toNat, by omega, ?_, by omega, by omega⟩
  unfold isDepth
  omega
theorem edepth_any (w : World) (d : Int) : Calls Try.prog 23 #[.int .i64 d] w fun e w' => e = .returned (.bool (depB d)) ∧ w = w' := by
  obtain ⟨r, hr⟩ : ∃ r, r = depB d := ⟨_, rfl⟩
  rw [← hr]
  have HR := Lib.hid hr
  clear hr
  go_enter Try.func23, Try.ntmps23
  go_wp2
  all_goals
    go_ret
    refine ⟨?_, rfl⟩
    rw [HR.out]
    unfold depB
    clear HR
    by_cases h16 : d = 16 <;> simp_all
/-- A sample of a depth with 16 bits, of whatever numbers. -/
def wideA (v d : Int) : Nat := if depB d = true then wideN (v % 2 ^ d.toNat).toNat d.toNat else 0
theorem wideA_no {v d : Int} (h : depB d = false) : wideA v d = 0 := by unfold wideA; rw [if_neg (by rw [h]; decide)]
theorem ewide_1 (w : World) (v : Int) (hv : -9223372036854775808 ≤ v ∧ v ≤ 9223372036854775807) : Calls Try.prog 18 #[.int .i64 v, .int .i64 1] w fun e w' => e = .returned (.int .i64 (wideA v 1 : Nat)) ∧ w = w' := by
  have HD := Lib.hid fun W => edepth_any W 1
  rw [show depB 1 = true by decide] at HD
  obtain ⟨m, hm⟩ : ∃ m, m = (v % 2).toNat := ⟨_, rfl⟩
  have hmi : (m : Int) = v % 2 := by omega
  have hml : m ≤ 1 := by omega
  have e1 : bits .and .i64 v 1 = (m : Int) := by
    have h := i64_mask v 1 (by decide)
    rw [hmi]
    exact h
  have HR : Hid (wideA v 1 = m * 65535 / 1) := Lib.hid (by unfold wideA wideN; rw [if_pos (by decide), hm]; rfl)
  obtain ⟨v1, v2⟩ := hv
  clear hm hmi
  go_enter Try.func18, Try.ntmps18
  go_wp2_with fail
  refine (HD.out _).mono ?_
  rintro e w1 ⟨rfl, rfl⟩
  go_wp2
  go_ret
  refine ⟨?_, rfl⟩
  rw [HR.out]
  refine congrArg (fun x => Ending.returned (.int .i64 x)) ?_
  first | omega | (rw [Int.tdiv_eq_ediv_of_nonneg (by omega)]; omega)
theorem ewide_2 (w : World) (v : Int) (hv : -9223372036854775808 ≤ v ∧ v ≤ 9223372036854775807) : Calls Try.prog 18 #[.int .i64 v, .int .i64 2] w fun e w' => e = .returned (.int .i64 (wideA v 2 : Nat)) ∧ w = w' := by
  have HD := Lib.hid fun W => edepth_any W 2
  rw [show depB 2 = true by decide] at HD
  obtain ⟨m, hm⟩ : ∃ m, m = (v % 4).toNat := ⟨_, rfl⟩
  have hmi : (m : Int) = v % 4 := by omega
  have hml : m ≤ 3 := by omega
  have e1 : bits .and .i64 v 3 = (m : Int) := by
    have h := i64_mask v 2 (by decide)
    rw [hmi]
    exact h
  have HR : Hid (wideA v 2 = m * 65535 / 3) := Lib.hid (by unfold wideA wideN; rw [if_pos (by decide), hm]; rfl)
  obtain ⟨v1, v2⟩ := hv
  clear hm hmi
  go_enter Try.func18, Try.ntmps18
  go_wp2_with fail
  refine (HD.out _).mono ?_
  rintro e w1 ⟨rfl, rfl⟩
  go_wp2
  go_ret
  refine ⟨?_, rfl⟩
  rw [HR.out]
  refine congrArg (fun x => Ending.returned (.int .i64 x)) ?_
  first | omega | (rw [Int.tdiv_eq_ediv_of_nonneg (by omega)]; omega)
theorem ewide_4 (w : World) (v : Int) (hv : -9223372036854775808 ≤ v ∧ v ≤ 9223372036854775807) : Calls Try.prog 18 #[.int .i64 v, .int .i64 4] w fun e w' => e = .returned (.int .i64 (wideA v 4 : Nat)) ∧ w = w' := by
  have HD := Lib.hid fun W => edepth_any W 4
  rw [show depB 4 = true by decide] at HD
  obtain ⟨m, hm⟩ : ∃ m, m = (v % 16).toNat := ⟨_, rfl⟩
  have hmi : (m : Int) = v % 16 := by omega
  have hml : m ≤ 15 := by omega
  have e1 : bits .and .i64 v 15 = (m : Int) := by
    have h := i64_mask v 4 (by decide)
    rw [hmi]
    exact h
  have HR : Hid (wideA v 4 = m * 65535 / 15) := Lib.hid (by unfold wideA wideN; rw [if_pos (by decide), hm]; rfl)
  obtain ⟨v1, v2⟩ := hv
  clear hm hmi
  go_enter Try.func18, Try.ntmps18
  go_wp2_with fail
  refine (HD.out _).mono ?_
  rintro e w1 ⟨rfl, rfl⟩
  go_wp2
  go_ret
  refine ⟨?_, rfl⟩
  rw [HR.out]
  refine congrArg (fun x => Ending.returned (.int .i64 x)) ?_
  first | omega | (rw [Int.tdiv_eq_ediv_of_nonneg (by omega)]; omega)
theorem ewide_8 (w : World) (v : Int) (hv : -9223372036854775808 ≤ v ∧ v ≤ 9223372036854775807) : Calls Try.prog 18 #[.int .i64 v, .int .i64 8] w fun e w' => e = .returned (.int .i64 (wideA v 8 : Nat)) ∧ w = w' := by
  have HD := Lib.hid fun W => edepth_any W 8
  rw [show depB 8 = true by decide] at HD
  obtain ⟨m, hm⟩ : ∃ m, m = (v % 256).toNat := ⟨_, rfl⟩
  have hmi : (m : Int) = v % 256 := by omega
  have hml : m ≤ 255 := by omega
  have e1 : bits .and .i64 v 255 = (m : Int) := by
    have h := i64_mask v 8 (by decide)
    rw [hmi]
    exact h
  have HR : Hid (wideA v 8 = m * 65535 / 255) := Lib.hid (by unfold wideA wideN; rw [if_pos (by decide), hm]; rfl)
  obtain ⟨v1, v2⟩ := hv
  clear hm hmi
  go_enter Try.func18, Try.ntmps18
  go_wp2_with fail
  refine (HD.out _).mono ?_
  rintro e w1 ⟨rfl, rfl⟩
  go_wp2
  go_ret
  refine ⟨?_, rfl⟩
  rw [HR.out]
  refine congrArg (fun x => Ending.returned (.int .i64 x)) ?_
  first | omega | (rw [Int.tdiv_eq_ediv_of_nonneg (by omega)]; omega)
theorem ewide_16 (w : World) (v : Int) (hv : -9223372036854775808 ≤ v ∧ v ≤ 9223372036854775807) : Calls Try.prog 18 #[.int .i64 v, .int .i64 16] w fun e w' => e = .returned (.int .i64 (wideA v 16 : Nat)) ∧ w = w' := by
  have HD := Lib.hid fun W => edepth_any W 16
  rw [show depB 16 = true by decide] at HD
  obtain ⟨m, hm⟩ : ∃ m, m = (v % 65536).toNat := ⟨_, rfl⟩
  have hmi : (m : Int) = v % 65536 := by omega
  have hml : m ≤ 65535 := by omega
  have e1 : bits .and .i64 v 65535 = (m : Int) := by
    have h := i64_mask v 16 (by decide)
    rw [hmi]
    exact h
  have HR : Hid (wideA v 16 = m * 65535 / 65535) := Lib.hid (by unfold wideA wideN; rw [if_pos (by decide), hm]; rfl)
  obtain ⟨v1, v2⟩ := hv
  clear hm hmi
  go_enter Try.func18, Try.ntmps18
  go_wp2_with fail
  refine (HD.out _).mono ?_
  rintro e w1 ⟨rfl, rfl⟩
  go_wp2
  go_ret
  refine ⟨?_, rfl⟩
  rw [HR.out]
  refine congrArg (fun x => Ending.returned (.int .i64 x)) ?_
  first | omega | (rw [Int.tdiv_eq_ediv_of_nonneg (by omega)]; omega)
theorem ewide_any (w : World) (v d : Int) (hv : -9223372036854775808 ≤ v ∧ v ≤ 9223372036854775807) : Calls Try.prog 18 #[.int .i64 v, .int .i64 d] w fun e w' => e = .returned (.int .i64 (wideA v d : Nat)) ∧ w = w' := by
  by_cases h : depB d = true
  · have h2 := of_decide_eq_true h
    rcases h2 with rfl | rfl | rfl | rfl | rfl
    · exact ewide_1 w v hv
    · exact ewide_2 w v hv
    · exact ewide_4 w v hv
    · exact ewide_8 w v hv
    · exact ewide_16 w v hv
  · have hf : depB d = false := by simpa using h
    have HD := Lib.hid fun W => edepth_any W d
    rw [hf] at HD
    have HR := Lib.hid (wideA_no (v := v) hf)
    rw [HR.out]
    clear h hf
    go_enter Try.func18, Try.ntmps18
    go_wp2_with fail
    refine (HD.out _).mono ?_
    rintro e w1 ⟨rfl, rfl⟩
    go_wp2
    go_ret
    exact ⟨rfl, rfl⟩
end Go.Proofs.Ytfibffcmbnlomaa
