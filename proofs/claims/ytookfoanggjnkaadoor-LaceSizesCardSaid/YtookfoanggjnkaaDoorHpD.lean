/- Which heads may be, by the program. -/
import Derived.Test.YtookfoanggjnkaaDoorHpA
import Derived.Deep.DeepCutAuto
import Derived.Deep.CutRange
import Derived.Deep.CutBlock
set_option maxRecDepth 100000
set_option linter.unusedVariables false
namespace Go.Proofs.YtookfoanggjnkaaDoor
set_option maxRecDepth 100000
open Go Go.RowKit
set_option maxHeartbeats 1000000 in
theorem pright_h (w : World) (a b d c l : Int) : Calls Tryd.prog 21 #[.agg #[.int .i64 a, .int .i64 b, .int .i64 d, .int .i64 c, .int .i64 l]] w fun e w' => e = .returned (.int .i64 (rightH a b d c l)) ∧ But [] w w' := by
  obtain ⟨r, hr⟩ : ∃ r, r = rightH a b d c l := ⟨_, rfl⟩
  rw [← hr]
  have HR := Lib.hid hr
  have hI := Is.fresh w 23 #[.int .i64 a, .int .i64 b, .int .i64 d, .int .i64 c, .int .i64 l]
  have HB := Lib.hid ((But.refl [] w).alloc (.cells #[.int .i64 a, .int .i64 b, .int .i64 d, .int .i64 c, .int .i64 l] 23))
  obtain ⟨F, hF⟩ : ∃ F : Int → Bool, ∀ n, F n = decide (1 ≤ n ∧ n ≤ 2147483647) := ⟨fun n => decide (1 ≤ n ∧ n ≤ 2147483647), fun _ => rfl⟩
  have HS : Hid (∀ (W : World) n, Calls Tryd.prog 26 #[.int .i64 n] W fun e w' => e = .returned (.bool (F n)) ∧ W = w') := Lib.hid fun W n => by rw [hF]; exact pside_any W n
  have HF := Lib.hid hF
  clear hF
  have HD := Lib.hid fun W => pdepth_any W c d
  obtain ⟨g, hg⟩ : ∃ g, g = depthOk d c := ⟨_, rfl⟩
  rw [← hg] at HD
  have HG := Lib.hid hg
  have HI := Lib.hid hI
  clear hr hI hg
  have hbad : a < 1 ∨ 2147483647 < a ∨ b < 1 ∨ 2147483647 < b ∨ g = false ∨ (l ≠ 0 ∧ l ≠ 1) → r = 24 := fun h => by
    rw [HR.out]
    unfold rightH
    rw [if_pos (by rw [← HG.out]; exact h)]
  have HBAD := Lib.hid hbad
  clear hbad
  by_cases h1 : 1 ≤ a ∧ a ≤ 2147483647
  rotate_left
  · have HE := Lib.hid (HBAD.out (by omega))
    have fa : F a = false := by rw [HF.out]; exact decide_eq_false h1
    clear h1
    have c0 := HI.out.cell 0
    go_enter Tryd.func21, Tryd.ntmps21
    go_wp2_with (go_at_call 26; refine (HS.out _ _).mono ?_; rintro e w1 ⟨rfl, hw⟩; subst hw)
    go_ret
    exact ⟨by rw [HE.out]; rfl, HB.out⟩
  have fa : F a = true := by rw [HF.out]; exact decide_eq_true h1
  by_cases h2 : 1 ≤ b ∧ b ≤ 2147483647
  rotate_left
  · have HE := Lib.hid (HBAD.out (by omega))
    have fb : F b = false := by rw [HF.out]; exact decide_eq_false h2
    clear h1 h2
    have c0 := HI.out.cell 0
    have c1 := HI.out.cell 1
    go_enter Tryd.func21, Tryd.ntmps21
    go_wp2_with (go_at_call 26; refine (HS.out _ _).mono ?_; rintro e w1 ⟨rfl, hw⟩; subst hw)
    go_ret
    exact ⟨by rw [HE.out]; rfl, HB.out⟩
  have fb : F b = true := by rw [HF.out]; exact decide_eq_true h2
  have H12 := Lib.hid (And.intro h1 h2)
  clear h1 h2
  cases g
  · have HE := Lib.hid (HBAD.out (by simp))
    have c0 := HI.out.cell 0
    have c1 := HI.out.cell 1
    have c2 := HI.out.cell 2
    have c3 := HI.out.cell 3
    go_enter Tryd.func21, Tryd.ntmps21
    go_wp2_with (first | (go_at_call 26; refine (HS.out _ _).mono ?_; rintro e w1 ⟨rfl, hw⟩; subst hw) | (go_at_call 27; refine (HD.out _).mono ?_; rintro e w2 ⟨rfl, hB⟩; have HB2 := Lib.hid hB; clear hB))
    go_ret
    exact ⟨by rw [HE.out]; rfl, HB.out.trans HB2.out⟩
  have c0 := HI.out.cell 0
  have c1 := HI.out.cell 1
  have c2 := HI.out.cell 2
  have c3 := HI.out.cell 3
  go_enter Tryd.func21, Tryd.ntmps21
  go_upto_region 4 with (first | (go_at_call 26; refine (HS.out _ _).mono ?_; rintro e w1 ⟨rfl, hw⟩; subst hw) | (go_at_call 27; refine (HD.out _).mono ?_; rintro e w2 ⟨rfl, hB⟩; have HB2 := Lib.hid hB; clear hB))
  have HI2 := Lib.hid (HI.out.but HB2.out (by simp))
  have HB3 := Lib.hid (HB.out.trans HB2.out)
  obtain ⟨w3, hw3⟩ : ∃ w3, w3 = w2 := ⟨_, rfl⟩
  rw [← hw3] at HI2 HB3
  rw [← hw3]
  clear HB2 hw3 HI HB c0 c1 c2 c3
  have q0 := HI2.out.cell 0
  have q1 := HI2.out.cell 1
  have q4 := HI2.out.cell 4
  have p0 : ((l = 0) = True ∧ (l != 0) = false) ∨ ((l = 0) = False ∧ (l != 0) = true) := by by_cases h : l = 0 <;> simp [h]
  have p1 : ((l = 1) = True ∧ (l != 1) = false) ∨ ((l = 1) = False ∧ (l != 1) = true) := by by_cases h : l = 1 <;> simp [h]
  by_cases hl : l ≠ 0 ∧ l ≠ 1
  · have HE := Lib.hid (HBAD.out (by omega))
    rcases p0 with ⟨p0, r0⟩ | ⟨p0, r0⟩
    · exact absurd (of_eq_true p0) hl.1
    rcases p1 with ⟨p1, r1⟩ | ⟨p1, r1⟩
    · exact absurd (of_eq_true p1) hl.2
    clear hl
    go_wp2
    go_ret
    exact ⟨by rw [HE.out]; rfl, HB3.out⟩
  have HRE : Hid (r = if 1024 < a ∨ 1024 < b ∨ 4096 < a * b then 5 else 0) := Lib.hid (by
    rw [HR.out]
    unfold rightH
    have := H12.out
    rw [← HG.out, if_neg (by rintro (h | h | h | h | h | h) <;> first | omega | cases h | exact hl h)])
  have e0 : ((l = 0) = True ∧ (l != 0) = false) ∨ ((l = 1) = True ∧ (l != 1) = false) ∧ (l = 0) = False ∧ (l != 0) = true := by
    rcases p0 with p0 | p0
    · exact .inl p0
    rcases p1 with p1 | p1
    · exact .inr ⟨p1, p0⟩
    · exact absurd ⟨of_eq_false p0.1, of_eq_false p1.1⟩ hl
  clear p0 p1 hl HR
  have hab := H12.out
  obtain ⟨⟨a1, a2⟩, b1, b2⟩ := hab
  by_cases h1 : 1024 < a
  · have HE := Lib.hid (show r = 5 by rw [HRE.out, if_pos (Or.inl h1)])
    rcases e0 with ⟨p0, r0⟩ | ⟨⟨p1, r1⟩, p0, r0⟩
    all_goals
      go_wp2
      go_ret
      exact ⟨by rw [HE.out]; rfl, HB3.out⟩
  by_cases h2 : 1024 < b
  · have HE := Lib.hid (show r = 5 by rw [HRE.out, if_pos (Or.inr (Or.inl h2))])
    rcases e0 with ⟨p0, r0⟩ | ⟨⟨p1, r1⟩, p0, r0⟩
    all_goals
      go_wp2
      go_ret
      exact ⟨by rw [HE.out]; rfl, HB3.out⟩
  obtain ⟨m, hm⟩ : ∃ m, m = a * b := ⟨_, rfl⟩
  have m1 : 0 ≤ m := by rw [hm]; exact Int.mul_nonneg (by omega) (by omega)
  have m2 : m ≤ 1048576 := by rw [hm]; exact Int.le_trans (Int.mul_le_mul (by omega : a ≤ 1024) (by omega : b ≤ 1024) (by omega) (by omega)) (by omega)
  have hm' := hm.symm
  have HM := Lib.hid hm
  clear hm
  by_cases h3 : 4096 < m
  · have HE := Lib.hid (show r = 5 by rw [HRE.out, if_pos (Or.inr (Or.inr (by rw [← HM.out]; exact h3)))])
    rcases e0 with ⟨p0, r0⟩ | ⟨⟨p1, r1⟩, p0, r0⟩
    all_goals
      go_wp2
      go_ret
      exact ⟨by rw [HE.out]; rfl, HB3.out⟩
  · have HE := Lib.hid (show r = 0 by rw [HRE.out, if_neg (by rw [← HM.out]; omega)])
    rcases e0 with ⟨p0, r0⟩ | ⟨⟨p1, r1⟩, p0, r0⟩
    all_goals
      go_wp2
      go_ret
      exact ⟨by rw [HE.out]; rfl, HB3.out⟩
end Go.Proofs.YtookfoanggjnkaaDoor
