/- Several texts in one: HdA, PxA, PxL, PyG (what PixelChecks reach of them). -/
import Derived.Test.YtfiedoejdikcgaaDoorK02
import Derived.Test.YtfiedoejdikcgaaDoorK03
import Derived.Test.YtfiedoejdikcgaaDoorK05
import Derived.Test.YtfiedoejdikcgaaDoorK06
import Derived.Test.YtfiedoejdikcgaaDoorK07
import Derived.Test.YtfiedoejdikcgaaDoorK08
import Derived.Test.YtfiedoejdikcgaaDoorK10
import Derived.Test.YtfiedoejdikcgaaDoorK11
import Derived.Test.YtfiedoejdikcgaaDoorK19
import Derived.Below
import Derived.BigQuiet
import Derived.BigRegion
import Derived.Deep.AppendLies
import Derived.Deep.CutBlock
import Derived.Deep.CutRange
import Derived.Deep.DeepCutAuto
import Derived.Deep.Draws
import Derived.Deep.QuietTactic
import Derived.Deep.RegionLaw
import Derived.Deep.RegionWith
import Derived.Deep.Slices
import Derived.Handy
import Derived.Laws.BitsAllLaws
import Derived.Laws.BitsLemmas
import Derived.Laws.BytesArg
import Derived.Laws.Externs
import Derived.Laws.IdiomStrings
import Derived.Laws.MakeOwn
import Derived.Laws.OwnMore
import Derived.Laws.Rows
import Derived.Laws.StructEq
import Derived.Lib.AppendStr
import Derived.Lib.BufferWrite
import Derived.Lib.Hide
import Derived.Lib.UnsafeStr
import Derived.LoopIn
import Derived.LoopNIn
import Derived.Maps.AppendAt
import Derived.OpenShut
import Derived.OrdersHeld
import Derived.OrdersIn
import Derived.Outline
import Derived.OwnWalk
import Derived.OwnWalkIn
import Derived.ProofKit
import Derived.RangeFuncBound
import Derived.RangeFuncCalls
import Derived.RangeFuncLeaves
import Derived.RangeFuncNested
import Derived.RegionTactic
import Derived.Shelf.Abstract
import Derived.Shelf.LaysM
import Derived.Shelf.RegionOpen
import Derived.Shelf.Small.Wraps
import Derived.Shelf.Strconv.Clone
import Derived.Shelf.Strings.Builder1
import Derived.Shelf.Strings.BuilderF
import Derived.Shelf.Strings.Prefix
import Derived.Sort.CutIn
import Derived.TacticsInMore
import Derived.Test.YtfiedoejdikcgaaDoorChecked
import Derived.WalkKit
set_option maxRecDepth 100000
set_option linter.unusedVariables false
set_option maxRecDepth 100000
set_option linter.unusedVariables false
namespace Go.Proofs.YtfiedoejdikcgaaDoor
set_option maxRecDepth 100000
open Go Go.RowKit
set_option maxHeartbeats 4000000 in
theorem eright_h (w : World) (a b d c l : Int) : Calls Tryd.prog 15 #[.agg #[.int .i64 a, .int .i64 b, .int .i64 d, .int .i64 c, .int .i64 l]] w fun e w' => e = .returned (.int .i64 (rightH a b d c l)) ∧ But [] w w' := by
  obtain ⟨r, hr⟩ : ∃ r, r = rightH a b d c l := ⟨_, rfl⟩
  rw [← hr]
  have HR := Lib.hid hr
  have hI := Is.fresh w 29 #[.int .i64 a, .int .i64 b, .int .i64 d, .int .i64 c, .int .i64 l]
  have HB := Lib.hid ((But.refl [] w).alloc (.cells #[.int .i64 a, .int .i64 b, .int .i64 d, .int .i64 c, .int .i64 l] 29))
  have HI := Lib.hid hI
  clear hr hI
  go_enter Tryd.func15, Tryd.ntmps15
  go_upto_region 2 with (fail)
  go_cut [4] (fun v wx => v = .bool (decide (d = 1 ∨ d = 2 ∨ d = 4)) ∧ Hid (But [] w wx) ∧ Hid (Is wx w.heap.size 29 #[.int .i64 a, .int .i64 b, .int .i64 d, .int .i64 c, .int .i64 l]))
  case first =>
    have p1 : (d = 1) = True ∨ (d = 1) = False := by by_cases h : d = 1 <;> simp [h]
    have p2 : (d = 2) = True ∨ (d = 2) = False := by by_cases h : d = 2 <;> simp [h]
    have p4 : (d = 4) = True ∨ (d = 4) = False := by by_cases h : d = 4 <;> simp [h]
    rcases p1 with p1 | p1
    · go_wp2
      go_meet
      exact ⟨by simp [p1], HB, HI⟩
    rcases p2 with p2 | p2
    · go_wp2
      go_meet
      exact ⟨by simp [p2], HB, HI⟩
    rcases p4 with p4 | p4
    · go_wp2
      go_meet
      exact ⟨by simp [p4], HB, HI⟩
    · go_wp2
      go_meet
      exact ⟨by simp [p1, p2, p4], HB, HI⟩
  case rest =>
  obtain ⟨hv, HB1, HI⟩ := hcut
  obtain ⟨sm, hs⟩ : ∃ q, q = decide (d = 1 ∨ d = 2 ∨ d = 4) := ⟨_, rfl⟩
  rw [← hs] at hv
  subst hv
  have HS := Lib.hid hs
  clear hs HB
  obtain ⟨w1, rfl⟩ : ∃ w1 : World, w1 = wc := ⟨_, rfl⟩
  have q0 : w1.cell? ⟨w.heap.size, 0, none⟩ = some (.int .i64 a) := HI.out.cell 0
  have q1 : w1.cell? ⟨w.heap.size, 1, none⟩ = some (.int .i64 b) := HI.out.cell 1
  have q3 : w1.cell? ⟨w.heap.size, 3, none⟩ = some (.int .i64 c) := HI.out.cell 3
  have q4 : w1.cell? ⟨w.heap.size, 4, none⟩ = some (.int .i64 l) := HI.out.cell 4
  go_upto_block 0 with (fail)
  go_cut [5] (fun v wx => v = .bool (depthOk d c) ∧ wx = w1)
  case first =>
    have P : ∀ x y : Int, ((x = y) = True ∧ (x == y) = true) ∨ ((x = y) = False ∧ (x == y) = false) := fun x y => by by_cases h : x = y <;> simp [h]
    have PP := Lib.hid P
    have p8 := P d 8
    have p16 := P d 16
    clear P
    have hg : depthOk d c = decide (c = 0 ∧ (decide (d = 1 ∨ d = 2 ∨ d = 4) = true ∨ d = 8 ∨ d = 16) ∨ c = 3 ∧ (decide (d = 1 ∨ d = 2 ∨ d = 4) = true ∨ d = 8) ∨ (c = 2 ∨ c = 4 ∨ c = 6) ∧ (d = 8 ∨ d = 16)) := by
      unfold depthOk
      simp only [decide_eq_true_eq]
      exact decide_eq_decide.mpr (by simp only [or_assoc])
    rw [← HS.out] at hg
    have HG := Lib.hid hg
    clear hg
    rcases PP.out c 0 with ⟨p0, r0⟩ | ⟨p0, r0⟩
    · rcases p8 with ⟨p8, r8⟩ | ⟨p8, r8⟩ <;> rcases p16 with ⟨p16, r16⟩ | ⟨p16, r16⟩ <;> cases sm
      all_goals
        go_wp2
        go_meet
        refine ⟨?_, rfl⟩
        rw [HG.out]
        simp [p0, p8, p16]
    rcases PP.out c 3 with ⟨p3, r3⟩ | ⟨p3, r3⟩
    · rcases p8 with ⟨p8, r8⟩ | ⟨p8, r8⟩ <;> cases sm
      all_goals
        go_wp2
        go_meet
        refine ⟨?_, rfl⟩
        rw [HG.out]
        simp [p0, p3, p8]
        try (have e3 : c = 3 := of_eq_true p3; omega)
    rcases PP.out c 2 with ⟨p2, r2⟩ | ⟨p2, r2⟩
    · rcases p8 with ⟨p8, r8⟩ | ⟨p8, r8⟩ <;> rcases p16 with ⟨p16, r16⟩ | ⟨p16, r16⟩
      all_goals
        go_wp2
        go_meet
        refine ⟨?_, rfl⟩
        rw [HG.out]
        simp [p0, p3, p2, p8, p16]
    rcases PP.out c 4 with ⟨p4, r4⟩ | ⟨p4, r4⟩
    · rcases p8 with ⟨p8, r8⟩ | ⟨p8, r8⟩ <;> rcases p16 with ⟨p16, r16⟩ | ⟨p16, r16⟩
      all_goals
        go_wp2
        go_meet
        refine ⟨?_, rfl⟩
        rw [HG.out]
        simp [p0, p3, p2, p4, p8, p16]
    rcases PP.out c 6 with ⟨p6, r6⟩ | ⟨p6, r6⟩
    · rcases p8 with ⟨p8, r8⟩ | ⟨p8, r8⟩ <;> rcases p16 with ⟨p16, r16⟩ | ⟨p16, r16⟩
      all_goals
        go_wp2
        go_meet
        refine ⟨?_, rfl⟩
        rw [HG.out]
        simp [p0, p3, p2, p4, p6, p8, p16]
    · go_wp2
      go_meet
      refine ⟨?_, rfl⟩
      rw [HG.out]
      simp [p0, p3, p2, p4, p6]
  case rest =>
  obtain ⟨hv, rfl⟩ := hcut
  obtain ⟨g, hg⟩ : ∃ q, q = depthOk d c := ⟨_, rfl⟩
  rw [← hg] at hv
  subst hv
  have HG := Lib.hid hg
  clear hg
  go_upto_region 13 with (fail)
  go_cut [79] (fun v wx => v = .bool (decide (a < 1 ∨ 2147483647 < a ∨ b < 1 ∨ 2147483647 < b ∨ g = false ∨ (l ≠ 0 ∧ l ≠ 1))) ∧ wx = wc)
  case first =>
    have p0 : (l = 0) = True ∨ (l = 0) = False := by by_cases h : l = 0 <;> simp [h]
    have p1 : (l = 1) = True ∨ (l = 1) = False := by by_cases h : l = 1 <;> simp [h]
    by_cases h1 : a < 1
    · go_wp2
      go_meet
      exact ⟨by simp [h1], rfl⟩
    by_cases h2 : 2147483647 < a
    · go_wp2
      go_meet
      exact ⟨by simp [h2], rfl⟩
    by_cases h3 : b < 1
    · go_wp2
      go_meet
      exact ⟨by simp [h3], rfl⟩
    by_cases h4 : 2147483647 < b
    · go_wp2
      go_meet
      exact ⟨by simp [h4], rfl⟩
    cases g
    · go_wp2
      go_meet
      exact ⟨by simp, rfl⟩
    rcases p0 with p0 | p0
    · go_wp2
      go_meet
      exact ⟨congrArg Value.bool (decide_eq_false (by have e0 : l = 0 := of_eq_true p0; simp; omega)).symm, rfl⟩
    rcases p1 with p1 | p1
    · go_wp2
      go_meet
      exact ⟨congrArg Value.bool (Eq.trans (show (l != 0 && l != 1) = false by have e1 : l = 1 := of_eq_true p1; rw [e1]; rfl) (decide_eq_false (by have e1 : l = 1 := of_eq_true p1; intro h; rcases h with h | h | h | h | h | h; all_goals first | omega | cases h)).symm), rfl⟩
    · go_wp2
      go_meet
      exact ⟨by simp [p0, p1], rfl⟩
  case rest =>
  obtain ⟨hv, rfl⟩ := hcut
  by_cases hb : a < 1 ∨ 2147483647 < a ∨ b < 1 ∨ 2147483647 < b ∨ g = false ∨ (l ≠ 0 ∧ l ≠ 1)
  · rw [decide_eq_true hb] at hv
    subst hv
    have HBAD := Lib.hid hb
    clear hb
    go_wp2
    go_ret
    refine ⟨?_, HB1.out⟩
    rw [HR.out]
    unfold rightH
    rw [if_pos (by rw [← HG.out]; exact HBAD.out)]
    rfl
  · rw [decide_eq_false hb] at hv
    subst hv
    have HBAD := Lib.hid hb
    have a1 : 1 ≤ a := by omega
    have b1 : 1 ≤ b := by omega
    have HRE : Hid (r = if 1024 < a ∨ 1024 < b ∨ 4096 < a * b then 5 else 0) := Lib.hid (by
      rw [HR.out]
      unfold rightH
      rw [if_neg (by rw [← HG.out]; exact HBAD.out)])
    clear hb HR
    by_cases h1 : 1024 < a
    · go_wp2
      go_ret
      exact ⟨by rw [HRE.out, if_pos (Or.inl h1)]; rfl, HB1.out⟩
    by_cases h2 : 1024 < b
    · go_wp2
      go_ret
      exact ⟨by rw [HRE.out, if_pos (Or.inr (Or.inl h2))]; rfl, HB1.out⟩
    obtain ⟨m, hm⟩ : ∃ m, m = a * b := ⟨_, rfl⟩
    have m1 : 0 ≤ m := by rw [hm]; exact Int.mul_nonneg (by omega) (by omega)
    have m2 : m ≤ 1048576 := by rw [hm]; exact Int.le_trans (Int.mul_le_mul (by omega : a ≤ 1024) (by omega : b ≤ 1024) (by omega) (by omega)) (by omega)
    have hm' := hm.symm
    have HM := Lib.hid hm
    clear hm
    by_cases h3 : 4096 < m
    · go_wp2
      go_ret
      exact ⟨by rw [HRE.out, if_pos (Or.inr (Or.inr (by rw [← HM.out]; exact h3)))]; rfl, HB1.out⟩
    · go_wp2
      go_ret
      exact ⟨by rw [HRE.out, if_neg (by rw [← HM.out]; omega)]; rfl, HB1.out⟩
end Go.Proofs.YtfiedoejdikcgaaDoor
set_option maxRecDepth 100000
set_option linter.unusedVariables false
namespace Go.Proofs.YtfiedoejdikcgaaDoor
set_option maxRecDepth 100000
open Go Go.RowKit
set_option maxHeartbeats 1000000 in
theorem echeck_any (w : World) {a b : Int} {pix : ByteArray} (hp : pix.size ≤ 140737488351232) :
    Calls Tryd.prog 9 #[.agg #[.int .i64 a, .int .i64 b, .string pix]] w fun e w' => e = .returned (.int .i64 (checkA a b pix)) ∧ But [] w w' := by
  have HB := Lib.hid ((But.refl [] w).alloc (.cells #[.int .i64 a, .int .i64 b, .string pix] 23))
  have hI := Is.fresh w 23 #[.int .i64 a, .int .i64 b, .string pix]
  obtain ⟨r, hr⟩ : ∃ r, r = rightH a b 16 6 0 := ⟨_, rfl⟩
  have HE : Hid (∀ W, Calls Tryd.prog 15 #[.agg #[.int .i64 a, .int .i64 b, .int .i64 16, .int .i64 6, .int .i64 0]] W fun e w' => e = .returned (.int .i64 r) ∧ But [] W w') := Lib.hid fun W => by rw [hr]; exact eright_h W a b 16 6 0
  have HC : Hid (∀ v, But [] (w.alloc (.cells #[.int .i64 a, .int .i64 b, .string pix] 23)) v → v.cell? ⟨w.heap.size, 0, none⟩ = some (.int .i64 a) ∧ v.cell? ⟨w.heap.size, 1, none⟩ = some (.int .i64 b) ∧ v.cell? ⟨w.heap.size, 2, none⟩ = some (.string pix) ∧ w.heap.size < v.heap.size) := Lib.hid fun v hv => by
    have hh := hI.but hv (by simp)
    exact ⟨hh.cell 0, hh.cell 1, hh.cell 2, hh.lt⟩
  obtain ⟨c0, c1, c2, hgl⟩ := HC.out _ (But.refl [] _)
  by_cases h0 : r = 0
  · have hright := hr.symm.trans h0
    obtain ⟨W, H, D, C, R⟩ := right_form hright
    obtain ⟨x, hx⟩ : ∃ x, x = 8 * (W * H) := ⟨_, rfl⟩
    have hxl : x ≤ 32768 := by have := R.area; omega
    obtain ⟨y, hy⟩ : ∃ y, y = 8 * W := ⟨_, rfl⟩
    have e1 : 8 * a = (y : Int) := by rw [R.wa, hy]; omega
    have e2 : (y : Int) * b = (x : Int) := by
      rw [R.hb, hy, hx, ← Int.natCast_mul, Nat.mul_assoc]
    have e3 : 8 * a * b = (x : Int) := by rw [e1, e2]
    have t1 := wrapI_in (show y < 1000000000000000 by have := R.w2; omega)
    have t2 := wrapI_in (show x < 1000000000000000 by omega)
    subst h0
    by_cases hs : pix.size = x
    · have HR : Hid (checkA a b pix = 0) := Lib.hid (by unfold checkA; rw [if_neg (by rw [← hr]; decide), e3, if_neg (by rw [hs]; exact fun h => h rfl)])
      rw [HR.out]
      have q1 : ((x : Int) != (x : Int)) = false := by simp
      clear hI hr hright R hx hy e3
      go_enter Tryd.func9, Tryd.ntmps9
      go_wp2_with fail
      refine (HE.out _).mono ?_
      rintro e w1 ⟨rfl, hB⟩
      have HB1 := Lib.hid hB
      clear hB c0 c1 c2 hgl
      obtain ⟨c0, c1, c2, hgl⟩ := HC.out _ HB1.out
      go_wp2
      go_ret
      exact ⟨rfl, HB.out.trans HB1.out⟩
    · have HR : Hid (checkA a b pix = 24) := Lib.hid (by unfold checkA; rw [if_neg (by rw [← hr]; decide), e3, if_pos (by omega)])
      rw [HR.out]
      have q1 : ((pix.size : Int) != (x : Int)) = true := by simp; omega
      have q2 : ¬ (pix.size : Int) = (x : Int) := by omega
      clear hI hr hright R hx hy e3
      go_enter Tryd.func9, Tryd.ntmps9
      go_wp2_with fail
      refine (HE.out _).mono ?_
      rintro e w1 ⟨rfl, hB⟩
      have HB1 := Lib.hid hB
      clear hB c0 c1 c2 hgl
      obtain ⟨c0, c1, c2, hgl⟩ := HC.out _ HB1.out
      go_wp2
      go_ret
      exact ⟨rfl, HB.out.trans HB1.out⟩
  · have HR : Hid (checkA a b pix = r) := Lib.hid (by unfold checkA; rw [← hr, if_pos h0])
    rw [HR.out]
    have q1 : (r != 0) = true := by simpa using h0
    clear hI hr
    go_enter Tryd.func9, Tryd.ntmps9
    go_wp2_with fail
    refine (HE.out _).mono ?_
    rintro e w1 ⟨rfl, hB⟩
    have HB1 := Lib.hid hB
    clear hB
    go_wp2
    go_ret
    exact ⟨rfl, HB.out.trans HB1.out⟩
end Go.Proofs.YtfiedoejdikcgaaDoor
set_option maxRecDepth 100000
set_option linter.unusedVariables false
namespace Go.Proofs.YtfiedoejdikcgaaDoor
set_option maxRecDepth 100000
open Go Go.RowKit
def CkC (G : World → Prop) : Prop := ∀ (v : World) (a b : Int) (pix : ByteArray), G v → pix.size ≤ 140737488351232 → Calls Tryd.prog 8 #[.agg #[.int .i64 a, .int .i64 b, .string pix]] v fun e w' => e = .returned (.int .i64 (checkA a b pix)) ∧ But [] v w'
def CkE : Prop := ∀ (v : World) (a b : Int) (pix : ByteArray), pix.size ≤ 140737488351232 → Calls Tryd.prog 9 #[.agg #[.int .i64 a, .int .i64 b, .string pix]] v fun e w' => e = .returned (.int .i64 (checkA a b pix)) ∧ But [] v w'
attribute [local irreducible] checkA imageA rowsA
set_option maxHeartbeats 1000000 in
theorem pixelChecks_walk {G : World → Prop} (hL : Lasts G) (haw : Awk12 G) (hc : CkC G) (he : CkE) {a b : Int} {pix : ByteArray} {w : World} (hp : pix.size ≤ 140737488351232) (hG : G w) :
    Calls Tryd.prog 3 #[.agg #[.int .i64 a, .int .i64 b, .string pix]] w fun e w' => e = .returned (.bool true) ∧ Below w.heap.size w w' := by
  obtain ⟨b0, hb0⟩ : ∃ g, g = w.heap.size := ⟨_, rfl⟩
  obtain ⟨w1, hw1⟩ : ∃ X, X = w.alloc (.cells #[.int .i64 a, .int .i64 b, .string pix] 23) := ⟨_, rfl⟩
  have hI : Is w1 b0 23 #[.int .i64 a, .int .i64 b, .string pix] := by rw [hw1, hb0]; exact Is.fresh _ _ _
  have hB : But [] w w1 := by rw [hw1]; exact (But.refl [] w).alloc _
  have HB := Lib.hid hB
  have HI := Lib.hid hI
  have HG : Hid (∀ v, But [] w1 v → G v) := Lib.hid fun v hv => hL _ _ (hL _ _ hG hB) hv
  obtain ⟨r, hr⟩ : ∃ r, r = checkA a b pix := ⟨_, rfl⟩
  have HP : Hid (∀ v, But [] w1 v → Calls Tryd.prog 8 #[.agg #[.int .i64 a, .int .i64 b, .string pix]] v fun e w' => e = .returned (.int .i64 r) ∧ But [] v w') := Lib.hid fun v hv => by rw [hr]; exact hc v a b pix (HG.out v hv) hp
  have HE : Hid (∀ v, Calls Tryd.prog 9 #[.agg #[.int .i64 a, .int .i64 b, .string pix]] v fun e w' => e = .returned (.int .i64 r) ∧ But [] v w') := Lib.hid fun v => by rw [hr]; exact he v a b pix hp
  have HA := Lib.hid haw
  clear hr haw hc he
  have c0 := HI.out.cell 0
  clear hI hB hG
  go_enter Tryd.func3, Tryd.ntmps3
  go_upto_region 1 with (fail)
  rw [← hw1, ← hb0]
  clear c0 hw1 hb0
  refine wp_region_m (S := fun v => But [] w1 v) (R := fun v v' => But [] v v') (fun w => But.refl [] w) (by kernel_rfl) ((But.refl [] w1).drew) ?_
  refine wpM_take (fun w => But.refl [] w) (fun x y z h k => h.trans k) (i := 0) (v := .agg #[.int .i64 a, .int .i64 b, .string pix]) rfl (by kernel_rfl) (by kernel_rfl) (by kernel_rfl) (fun _ _ _ h => h) (YieldsR.read (fun w => But.refl [] w) ?_ fun w hS => ?_) ?_
  · go_simp
  · have c0 := (HI.out.but hS (by simp)).cell 0; have c1 := (HI.out.but hS (by simp)).cell 1; have c2 := (HI.out.but hS (by simp)).cell 2; have hgl := (HI.out.but hS (by simp)).lt; go_simp
  refine wpM_take (fun w => But.refl [] w) (fun x y z h k => h.trans k) (i := 1) (v := .int .i64 r) rfl (by kernel_rfl) (by kernel_rfl) (by kernel_rfl) (fun _ _ _ h => h) (.inl ⟨?_, fun w hS => .inr ⟨_, _, ?_, (HP.out w hS).mono ?_⟩⟩) ?_
  · go_simp
  · go_simp
  · rintro e wy ⟨rfl, hB⟩; exact ⟨rfl, hS.trans hB, hB⟩
  refine wpM_take (fun w => But.refl [] w) (fun x y z h k => h.trans k) (i := 2) (v := .agg #[.int .i64 a, .int .i64 b, .string pix]) rfl (by kernel_rfl) (by kernel_rfl) (by kernel_rfl) (fun _ _ _ h => h) (YieldsR.read (fun w => But.refl [] w) ?_ fun w hS => ?_) ?_
  · go_simp
  · have c0 := (HI.out.but hS (by simp)).cell 0; have c1 := (HI.out.but hS (by simp)).cell 1; have c2 := (HI.out.but hS (by simp)).cell 2; have hgl := (HI.out.but hS (by simp)).lt; go_simp
  refine wpM_take (fun w => But.refl [] w) (fun x y z h k => h.trans k) (i := 3) (v := .int .i64 r) rfl (by kernel_rfl) (by kernel_rfl) (by kernel_rfl) (fun _ _ _ h => h) (.inl ⟨?_, fun w hS => .inr ⟨_, _, ?_, (HE.out w).mono ?_⟩⟩) ?_
  · go_simp
  · go_simp
  · rintro e wy ⟨rfl, hB⟩; exact ⟨rfl, hS.trans hB, hB⟩
  refine wpM_take (fun w => But.refl [] w) (fun x y z h k => h.trans k) (i := 4) (v := .bool true) rfl (by kernel_rfl) (by kernel_rfl) (by kernel_rfl) (fun _ _ _ h => h) (YieldsR.read (fun w => But.refl [] w) ?_ fun w hS => ?_) ?_
  · go_simp
  · go_simp
  refine wpM_take (fun w => But.refl [] w) (fun x y z h k => h.trans k) (i := 5) (v := .bool true) rfl (by kernel_rfl) (by kernel_rfl) (by kernel_rfl) (fun _ _ _ h => h) (YieldsR.read (fun w => But.refl [] w) ?_ fun w hS => ?_) ?_
  · go_simp
  · go_simp
  refine wpM_take (fun w => But.refl [] w) (fun x y z h k => h.trans k) (i := 6) (v := .bool true) rfl (by kernel_rfl) (by kernel_rfl) (by kernel_rfl) (fun _ _ _ h => h) (.inl ⟨?_, fun w hS => .inr ⟨_, _, ?_, (HA.out w (HG.out w hS)).mono ?_⟩⟩) ?_
  · go_simp
  · go_simp
  · rintro e wy ⟨rfl, hB⟩; exact ⟨rfl, hS.trans hB, hB⟩
  refine wpM_take (fun w => But.refl [] w) (fun x y z h k => h.trans k) (i := 7) (v := .bool true) rfl (by kernel_rfl) (by kernel_rfl) (by kernel_rfl) (fun _ _ _ h => h) (YieldsR.read (fun w => But.refl [] w) ?_ fun w hS => ?_) ?_
  · go_simp
  · go_simp
  refine wpM_take (fun w => But.refl [] w) (fun x y z h k => h.trans k) (i := 8) (v := .bool true) rfl (by kernel_rfl) (by kernel_rfl) (by kernel_rfl) (fun _ _ _ h => h) (YieldsR.read (fun w => But.refl [] w) ?_ fun w hS => ?_) ?_
  · go_simp
  · go_simp
  refine ⟨by kernel_rfl, fun w9 hR9 hS9 => ?_⟩
  have HB9 := Lib.hid (HB.out.trans hS9)
  clear hR9 hS9
  go_simp
  go_wp2
  go_ret
  exact ⟨rfl, HB9.out.belowP⟩
end Go.Proofs.YtfiedoejdikcgaaDoor
set_option maxRecDepth 100000
set_option linter.unusedVariables false
namespace Go.Proofs.YtfiedoejdikcgaaDoor
set_option maxRecDepth 100000
open Go Go.RowKit
theorem ckCP : CkC GP := fun v _ _ _ _ hp => pcheck12_any v hp
theorem ckEP : CkE := fun v _ _ _ hp => echeck_any v hp
end Go.Proofs.YtfiedoejdikcgaaDoor
