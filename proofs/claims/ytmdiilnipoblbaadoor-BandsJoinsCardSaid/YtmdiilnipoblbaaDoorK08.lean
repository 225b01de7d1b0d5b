/- Several texts in one: HdA, BaA (what BandsCuts, BandsJoins, BandsManifest, BandsReads reach of them). -/
import Derived.Test.YtmdiilnipoblbaaDoorK01
import Derived.Below
import Derived.BigQuiet
import Derived.BigRegion
import Derived.Deep.AppendLies
import Derived.Deep.Cut
import Derived.Deep.CutBlock
import Derived.Deep.CutRange
import Derived.Deep.DeepCutAuto
import Derived.Deep.Draws
import Derived.Deep.QuietTactic
import Derived.Deep.RegionLaw
import Derived.Deep.RegionWith
import Derived.Handy
import Derived.Laws.BitsAllLaws
import Derived.Laws.BitsLemmas
import Derived.Laws.BytesArg
import Derived.Laws.IdiomStrings
import Derived.Laws.MakeOwn
import Derived.Laws.OwnMore
import Derived.Laws.Rows
import Derived.Laws.StructEq
import Derived.Lib.BufferWrite
import Derived.Lib.Hide
import Derived.Maps.AppendAt
import Derived.OrdersHeld
import Derived.OrdersIn
import Derived.Outline
import Derived.OwnWalk
import Derived.OwnWalkIn
import Derived.RangeFuncCalls
import Derived.RegionTactic
import Derived.TacticsInMore
import Derived.Test.YtmdiilnipoblbaaDoorChecked
import Derived.WalkKit
set_option maxRecDepth 100000
set_option linter.unusedVariables false
set_option maxRecDepth 100000
set_option linter.unusedVariables false
namespace Go.Proofs.YtmdiilnipoblbaaDoor
set_option maxRecDepth 100000
open Go Go.RowKit
set_option maxHeartbeats 4000000 in
theorem eright_h (w : World) (a b d c l : Int) : Calls Tryd.prog 35 #[.agg #[.int .i64 a, .int .i64 b, .int .i64 d, .int .i64 c, .int .i64 l]] w fun e w' => e = .returned (.int .i64 (rightH a b d c l)) ∧ But [] w w' := by
  obtain ⟨r, hr⟩ : ∃ r, r = rightH a b d c l := ⟨_, rfl⟩
  rw [← hr]
  have HR := Lib.hid hr
  have hI := Is.fresh w 55 #[.int .i64 a, .int .i64 b, .int .i64 d, .int .i64 c, .int .i64 l]
  have HB := Lib.hid ((But.refl [] w).alloc (.cells #[.int .i64 a, .int .i64 b, .int .i64 d, .int .i64 c, .int .i64 l] 55))
  have HI := Lib.hid hI
  clear hr hI
  go_enter Tryd.func35, Tryd.ntmps35
  go_upto_region 2 with (fail)
  go_cut [4] (fun v wx => v = .bool (decide (d = 1 ∨ d = 2 ∨ d = 4)) ∧ Hid (But [] w wx) ∧ Hid (Is wx w.heap.size 55 #[.int .i64 a, .int .i64 b, .int .i64 d, .int .i64 c, .int .i64 l]))
  case first =>
    have p1 : (d = 1) = True ∨ (d = 1) = False := by by_cases h : d = 1 <;> simp [h]
    have p2 : (d = 2) = True ∨ (d = 2) = False := by by_cases h : d = 2 <;> simp [h]
    have p4 : (d = 4) = True ∨ (d = 4) = False := by by_cases h : d = 4 <;> simp [h]
    rcases p1 with p1 | p1
    · go_wp2
      go_meet
      exact ⟨by simp [p1], HB, HI⟩
    rcases p2 with p2 | p2
    · go_wp2
      go_meet
      exact ⟨by simp [p2], HB, HI⟩
    rcases p4 with p4 | p4
    · go_wp2
      go_meet
      exact ⟨by simp [p4], HB, HI⟩
    · go_wp2
      go_meet
      exact ⟨by simp [p1, p2, p4], HB, HI⟩
  case rest =>
  obtain ⟨hv, HB1, HI⟩ := hcut
  obtain ⟨sm, hs⟩ : ∃ q, q = decide (d = 1 ∨ d = 2 ∨ d = 4) := ⟨_, rfl⟩
  rw [← hs] at hv
  subst hv
  have HS := Lib.hid hs
  clear hs HB
  obtain ⟨w1, rfl⟩ : ∃ w1 : World, w1 = wc := ⟨_, rfl⟩
  have q0 : w1.cell? ⟨w.heap.size, 0, none⟩ = some (.int .i64 a) := HI.out.cell 0
  have q1 : w1.cell? ⟨w.heap.size, 1, none⟩ = some (.int .i64 b) := HI.out.cell 1
  have q3 : w1.cell? ⟨w.heap.size, 3, none⟩ = some (.int .i64 c) := HI.out.cell 3
  have q4 : w1.cell? ⟨w.heap.size, 4, none⟩ = some (.int .i64 l) := HI.out.cell 4
  go_upto_block 0 with (fail)
  go_cut [5] (fun v wx => v = .bool (depthOk d c) ∧ wx = w1)
  case first =>
    have P : ∀ x y : Int, ((x = y) = True ∧ (x == y) = true) ∨ ((x = y) = False ∧ (x == y) = false) := fun x y => by by_cases h : x = y <;> simp [h]
    have PP := Lib.hid P
    have p8 := P d 8
    have p16 := P d 16
    clear P
    have hg : depthOk d c = decide (c = 0 ∧ (decide (d = 1 ∨ d = 2 ∨ d = 4) = true ∨ d = 8 ∨ d = 16) ∨ c = 3 ∧ (decide (d = 1 ∨ d = 2 ∨ d = 4) = true ∨ d = 8) ∨ (c = 2 ∨ c = 4 ∨ c = 6) ∧ (d = 8 ∨ d = 16)) := by
      unfold depthOk
      simp only [decide_eq_true_eq]
      exact decide_eq_decide.mpr (by simp only [or_assoc])
    rw [← HS.out] at hg
    have HG := Lib.hid hg
    clear hg
    rcases PP.out c 0 with ⟨p0, r0⟩ | ⟨p0, r0⟩
    · rcases p8 with ⟨p8, r8⟩ | ⟨p8, r8⟩ <;> rcases p16 with ⟨p16, r16⟩ | ⟨p16, r16⟩ <;> cases sm
      all_goals
        go_wp2
        go_meet
        refine ⟨?_, rfl⟩
        rw [HG.out]
        simp [p0, p8, p16]
    rcases PP.out c 3 with ⟨p3, r3⟩ | ⟨p3, r3⟩
    · rcases p8 with ⟨p8, r8⟩ | ⟨p8, r8⟩ <;> cases sm
      all_goals
        go_wp2
        go_meet
        refine ⟨?_, rfl⟩
        rw [HG.out]
        simp [p0, p3, p8]
        try (have e3 : c = 3 := of_eq_true p3; omega)
    rcases PP.out c 2 with ⟨p2, r2⟩ | ⟨p2, r2⟩
    · rcases p8 with ⟨p8, r8⟩ | ⟨p8, r8⟩ <;> rcases p16 with ⟨p16, r16⟩ | ⟨p16, r16⟩
      all_goals
        go_wp2
        go_meet
        refine ⟨?_, rfl⟩
        rw [HG.out]
        simp [p0, p3, p2, p8, p16]
    rcases PP.out c 4 with ⟨p4, r4⟩ | ⟨p4, r4⟩
    · rcases p8 with ⟨p8, r8⟩ | ⟨p8, r8⟩ <;> rcases p16 with ⟨p16, r16⟩ | ⟨p16, r16⟩
      all_goals
        go_wp2
        go_meet
        refine ⟨?_, rfl⟩
        rw [HG.out]
        simp [p0, p3, p2, p4, p8, p16]
    rcases PP.out c 6 with ⟨p6, r6⟩ | ⟨p6, r6⟩
    · rcases p8 with ⟨p8, r8⟩ | ⟨p8, r8⟩ <;> rcases p16 with ⟨p16, r16⟩ | ⟨p16, r16⟩
      all_goals
        go_wp2
        go_meet
        refine ⟨?_, rfl⟩
        rw [HG.out]
        simp [p0, p3, p2, p4, p6, p8, p16]
    · go_wp2
      go_meet
      refine ⟨?_, rfl⟩
      rw [HG.out]
      simp [p0, p3, p2, p4, p6]
  case rest =>
  obtain ⟨hv, rfl⟩ := hcut
  obtain ⟨g, hg⟩ : ∃ q, q = depthOk d c := ⟨_, rfl⟩
  rw [← hg] at hv
  subst hv
  have HG := Lib.hid hg
  clear hg
  go_upto_region 13 with (fail)
  go_cut [79] (fun v wx => v = .bool (decide (a < 1 ∨ 2147483647 < a ∨ b < 1 ∨ 2147483647 < b ∨ g = false ∨ (l ≠ 0 ∧ l ≠ 1))) ∧ wx = wc)
  case first =>
    have p0 : (l = 0) = True ∨ (l = 0) = False := by by_cases h : l = 0 <;> simp [h]
    have p1 : (l = 1) = True ∨ (l = 1) = False := by by_cases h : l = 1 <;> simp [h]
    by_cases h1 : a < 1
    · go_wp2
      go_meet
      exact ⟨by simp [h1], rfl⟩
    by_cases h2 : 2147483647 < a
    · go_wp2
      go_meet
      exact ⟨by simp [h2], rfl⟩
    by_cases h3 : b < 1
    · go_wp2
      go_meet
      exact ⟨by simp [h3], rfl⟩
    by_cases h4 : 2147483647 < b
    · go_wp2
      go_meet
      exact ⟨by simp [h4], rfl⟩
    cases g
    · go_wp2
      go_meet
      exact ⟨by simp, rfl⟩
    rcases p0 with p0 | p0
    · go_wp2
      go_meet
      exact ⟨congrArg Value.bool (decide_eq_false (by have e0 : l = 0 := of_eq_true p0; simp; omega)).symm, rfl⟩
    rcases p1 with p1 | p1
    · go_wp2
      go_meet
      exact ⟨congrArg Value.bool (Eq.trans (show (l != 0 && l != 1) = false by have e1 : l = 1 := of_eq_true p1; rw [e1]; rfl) (decide_eq_false (by have e1 : l = 1 := of_eq_true p1; intro h; rcases h with h | h | h | h | h | h; all_goals first | omega | cases h)).symm), rfl⟩
    · go_wp2
      go_meet
      exact ⟨by simp [p0, p1], rfl⟩
  case rest =>
  obtain ⟨hv, rfl⟩ := hcut
  by_cases hb : a < 1 ∨ 2147483647 < a ∨ b < 1 ∨ 2147483647 < b ∨ g = false ∨ (l ≠ 0 ∧ l ≠ 1)
  · rw [decide_eq_true hb] at hv
    subst hv
    have HBAD := Lib.hid hb
    clear hb
    go_wp2
    go_ret
    refine ⟨?_, HB1.out⟩
    rw [HR.out]
    unfold rightH
    rw [if_pos (by rw [← HG.out]; exact HBAD.out)]
    rfl
  · rw [decide_eq_false hb] at hv
    subst hv
    have HBAD := Lib.hid hb
    have a1 : 1 ≤ a := by omega
    have b1 : 1 ≤ b := by omega
    have HRE : Hid (r = if 1024 < a ∨ 1024 < b ∨ 4096 < a * b then 5 else 0) := Lib.hid (by
      rw [HR.out]
      unfold rightH
      rw [if_neg (by rw [← HG.out]; exact HBAD.out)])
    clear hb HR
    by_cases h1 : 1024 < a
    · go_wp2
      go_ret
      exact ⟨by rw [HRE.out, if_pos (Or.inl h1)]; rfl, HB1.out⟩
    by_cases h2 : 1024 < b
    · go_wp2
      go_ret
      exact ⟨by rw [HRE.out, if_pos (Or.inr (Or.inl h2))]; rfl, HB1.out⟩
    obtain ⟨m, hm⟩ : ∃ m, m = a * b := ⟨_, rfl⟩
    have m1 : 0 ≤ m := by rw [hm]; exact Int.mul_nonneg (by omega) (by omega)
    have m2 : m ≤ 1048576 := by rw [hm]; exact Int.le_trans (Int.mul_le_mul (by omega : a ≤ 1024) (by omega : b ≤ 1024) (by omega) (by omega)) (by omega)
    have hm' := hm.symm
    have HM := Lib.hid hm
    clear hm
    by_cases h3 : 4096 < m
    · go_wp2
      go_ret
      exact ⟨by rw [HRE.out, if_pos (Or.inr (Or.inr (by rw [← HM.out]; exact h3)))]; rfl, HB1.out⟩
    · go_wp2
      go_ret
      exact ⟨by rw [HRE.out, if_neg (by rw [← HM.out]; omega)]; rfl, HB1.out⟩
end Go.Proofs.YtmdiilnipoblbaaDoor
set_option maxRecDepth 100000
set_option linter.unusedVariables false
namespace Go.Proofs.YtmdiilnipoblbaaDoor
set_option maxRecDepth 100000
open Go Go.RowKit
set_option maxHeartbeats 1000000 in
theorem emanyB_any (w : World) {h : Nat} (hh : h ≤ 4294967296) : Calls Tryd.prog 26 #[.int .i64 h] w fun e w' => e = .returned (.int .i64 (manyB h : Nat)) ∧ w' = w := by
  obtain ⟨a, ha⟩ : ∃ a, a = h + 8 := ⟨_, rfl⟩
  obtain ⟨b, hb⟩ : ∃ a, a = h + 7 := ⟨_, rfl⟩
  obtain ⟨m, hm⟩ : ∃ m, m = manyB h := ⟨_, rfl⟩
  have hm2 : m = b / 8 := by rw [hm, hb]; rfl
  rw [← hm]
  have e1 : (h : Int) + 8 = (a : Int) := by omega
  have e2 : (a : Int) - 1 = (b : Int) := by omega
  have e3 : (b : Int) / 8 = (m : Int) := by omega
  have e4 : (b : Int).tdiv 8 = (m : Int) := by rw [Int.tdiv_eq_ediv_of_nonneg (by omega)]; omega
  have v1 := wrapI_in (show a < 1000000000000000 by omega)
  have v2 := wrapI_in (show b < 1000000000000000 by omega)
  have v3 := wrapI_in (show m < 1000000000000000 by omega)
  clear ha hb hm hm2
  go_enter Tryd.func26, Tryd.ntmps26
  go_wp2
  go_ret
  exact ⟨rfl, rfl⟩
end Go.Proofs.YtmdiilnipoblbaaDoor
