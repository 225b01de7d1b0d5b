/- The program's test of a type, and which types must be known. -/
import Derived.Test.YtedffeimcccobaaCkP
import Derived.Test.YtedffeimcccobaaCkB
import Derived.Test.YtedffeimcccobaaHeM
set_option maxRecDepth 100000
set_option linter.unusedVariables false
namespace Go.Proofs.Ytedffeimcccobaa
set_option maxRecDepth 100000
open Go Go.RowKit
theorem critT_at {l : List UInt8} (h : 0 < l.length) : critT l = decide (65 ≤ (l[0]).toNat ∧ (l[0]).toNat ≤ 90) := by
  match l, h with
  | b :: _, _ => rfl
theorem pcrit_any (w : World) {s : ByteArray} (hs : s.size ≤ 140737488351232) : Calls Try.prog 38 #[.string s] w fun e w' => e = .returned (.bool (critT s.data.toList)) ∧ w = w' := by
  have hl : s.data.toList.length = s.size := by simp
  by_cases h0 : s.size = 0
  · have HN := Lib.hid (show critT s.data.toList = false by rw [show s.data.toList = [] from List.eq_nil_of_length_eq_zero (by omega)]; rfl)
    have dn : s.toList = [] := by
      rw [ByteArray.toList_eq]
      exact List.eq_nil_of_length_eq_zero (by omega)
    clear hl hs h0
    go_enter Try.func38, Try.ntmps38
    go_wp2
    go_ret
    exact ⟨by rw [HN.out]; rfl, rfl⟩
  · have hpos : 0 < s.size := by omega
    have k0 : ∀ W, (Instr.index 9 (.string s) (.int .i64 0)).run Try.prog W = .ok (.int .u8 ((s.data.toList[0]'(by rw [hl]; exact hpos)).toNat : Nat)) W := fun W => byteC_run (k := 0) hpos W
    have hcr := critT_at (l := s.data.toList) (by rw [hl]; exact hpos)
    have dm : ¬ s.toList = [] := by
      rw [ByteArray.toList_eq]
      exact fun e => by rw [e] at hl; simp at hl; omega
    have dn : s.toList.isEmpty = false := by simpa using dm
    have hb8 := (s.data.toList[0]'(by rw [hl]; exact hpos)).toNat_lt
    obtain ⟨x, hx⟩ : ∃ x, x = (s.data.toList[0]'(by rw [hl]; exact hpos)).toNat := ⟨_, rfl⟩
    rw [← hx] at hcr hb8
    simp only [← hx] at k0
    have HCR := Lib.hid hcr
    have HU := Lib.hid (fun v => pupper_any v (x := x) hb8)
    obtain ⟨u, hu⟩ : ∃ u, u = decide (65 ≤ x ∧ x ≤ 90) := ⟨_, rfl⟩
    rw [← hu] at HCR HU
    clear hx hcr hl hs hu
    go_enter Try.func38, Try.ntmps38
    go_wp2_with (go_at_call 44; refine (HU.out _).mono ?_; rintro e w1 ⟨rfl, rfl⟩)
    go_ret
    exact ⟨by rw [HCR.out]; rfl, rfl⟩
end Go.Proofs.Ytedffeimcccobaa
