/- Several texts in one: HpD, LcO, Range, RangeB (what PixelImages, PixelRows, PixelSame reach of them). -/
import Derived.Test.YtfiedoejdikcgaaDoorQ01
import Derived.Test.YtfiedoejdikcgaaDoorQ02
import Derived.Test.YtfiedoejdikcgaaDoorQ03
import Derived.Test.YtfiedoejdikcgaaDoorQ05
import Derived.Test.YtfiedoejdikcgaaDoorQ06
import Derived.Test.YtfiedoejdikcgaaDoorQ07
import Derived.Below
import Derived.BigQuiet
import Derived.BigRegion
import Derived.Deep.AppendLies
import Derived.Deep.CutBlock
import Derived.Deep.CutRange
import Derived.Deep.DeepCutAuto
import Derived.Deep.Draws
import Derived.Deep.QuietTactic
import Derived.Deep.RegionLaw
import Derived.Deep.RegionWith
import Derived.Handy
import Derived.Laws.BitsAllLaws
import Derived.Laws.BitsLemmas
import Derived.Laws.OwnMore
import Derived.Laws.Rows
import Derived.Laws.StructEq
import Derived.Lib.Hide
import Derived.LoopIn
import Derived.LoopNIn
import Derived.Maps.AppendAt
import Derived.OrdersHeld
import Derived.Outline
import Derived.OwnWalk
import Derived.OwnWalkIn
import Derived.RangeFuncBound
import Derived.RangeFuncCalls
import Derived.RangeFuncLeaves
import Derived.RangeFuncNested
import Derived.RegionTactic
import Derived.Shelf.Abstract
import Derived.Shelf.RegionOpen
import Derived.TacticsInMore
import Derived.Test.YtfiedoejdikcgaaDoorChecked
import Derived.WalkKit
set_option maxRecDepth 100000
set_option linter.unusedVariables false
set_option maxRecDepth 100000
set_option linter.unusedVariables false
namespace Go.Proofs.YtfiedoejdikcgaaDoor
set_option maxRecDepth 100000
open Go Go.RowKit
set_option maxHeartbeats 1000000 in
theorem pright_h (w : World) (a b d c l : Int) : Calls Tryd.prog 18 #[.agg #[.int .i64 a, .int .i64 b, .int .i64 d, .int .i64 c, .int .i64 l]] w fun e w' => e = .returned (.int .i64 (rightH a b d c l)) ∧ But [] w w' := by
  obtain ⟨r, hr⟩ : ∃ r, r = rightH a b d c l := ⟨_, rfl⟩
  rw [← hr]
  have HR := Lib.hid hr
  have hI := Is.fresh w 29 #[.int .i64 a, .int .i64 b, .int .i64 d, .int .i64 c, .int .i64 l]
  have HB := Lib.hid ((But.refl [] w).alloc (.cells #[.int .i64 a, .int .i64 b, .int .i64 d, .int .i64 c, .int .i64 l] 29))
  obtain ⟨F, hF⟩ : ∃ F : Int → Bool, ∀ n, F n = decide (1 ≤ n ∧ n ≤ 2147483647) := ⟨fun n => decide (1 ≤ n ∧ n ≤ 2147483647), fun _ => rfl⟩
  have HS : Hid (∀ (W : World) n, Calls Tryd.prog 39 #[.int .i64 n] W fun e w' => e = .returned (.bool (F n)) ∧ W = w') := Lib.hid fun W n => by rw [hF]; exact pside_any W n
  have HF := Lib.hid hF
  clear hF
  have HD := Lib.hid fun W => pdepth_any W c d
  obtain ⟨g, hg⟩ : ∃ g, g = depthOk d c := ⟨_, rfl⟩
  rw [← hg] at HD
  have HG := Lib.hid hg
  have HI := Lib.hid hI
  clear hr hI hg
  have hbad : a < 1 ∨ 2147483647 < a ∨ b < 1 ∨ 2147483647 < b ∨ g = false ∨ (l ≠ 0 ∧ l ≠ 1) → r = 24 := fun h => by
    rw [HR.out]
    unfold rightH
    rw [if_pos (by rw [← HG.out]; exact h)]
  have HBAD := Lib.hid hbad
  clear hbad
  by_cases h1 : 1 ≤ a ∧ a ≤ 2147483647
  rotate_left
  · have HE := Lib.hid (HBAD.out (by omega))
    have fa : F a = false := by rw [HF.out]; exact decide_eq_false h1
    clear h1
    have c0 := HI.out.cell 0
    go_enter Tryd.func18, Tryd.ntmps18
    go_wp2_with (go_at_call 39; refine (HS.out _ _).mono ?_; rintro e w1 ⟨rfl, hw⟩; subst hw)
    go_ret
    exact ⟨by rw [HE.out]; rfl, HB.out⟩
  have fa : F a = true := by rw [HF.out]; exact decide_eq_true h1
  by_cases h2 : 1 ≤ b ∧ b ≤ 2147483647
  rotate_left
  · have HE := Lib.hid (HBAD.out (by omega))
    have fb : F b = false := by rw [HF.out]; exact decide_eq_false h2
    clear h1 h2
    have c0 := HI.out.cell 0
    have c1 := HI.out.cell 1
    go_enter Tryd.func18, Tryd.ntmps18
    go_wp2_with (go_at_call 39; refine (HS.out _ _).mono ?_; rintro e w1 ⟨rfl, hw⟩; subst hw)
    go_ret
    exact ⟨by rw [HE.out]; rfl, HB.out⟩
  have fb : F b = true := by rw [HF.out]; exact decide_eq_true h2
  have H12 := Lib.hid (And.intro h1 h2)
  clear h1 h2
  cases g
  · have HE := Lib.hid (HBAD.out (by simp))
    have c0 := HI.out.cell 0
    have c1 := HI.out.cell 1
    have c2 := HI.out.cell 2
    have c3 := HI.out.cell 3
    go_enter Tryd.func18, Tryd.ntmps18
    go_wp2_with (first | (go_at_call 39; refine (HS.out _ _).mono ?_; rintro e w1 ⟨rfl, hw⟩; subst hw) | (go_at_call 40; refine (HD.out _).mono ?_; rintro e w2 ⟨rfl, hB⟩; have HB2 := Lib.hid hB; clear hB))
    go_ret
    exact ⟨by rw [HE.out]; rfl, HB.out.trans HB2.out⟩
  have c0 := HI.out.cell 0
  have c1 := HI.out.cell 1
  have c2 := HI.out.cell 2
  have c3 := HI.out.cell 3
  go_enter Tryd.func18, Tryd.ntmps18
  go_upto_region 4 with (first | (go_at_call 39; refine (HS.out _ _).mono ?_; rintro e w1 ⟨rfl, hw⟩; subst hw) | (go_at_call 40; refine (HD.out _).mono ?_; rintro e w2 ⟨rfl, hB⟩; have HB2 := Lib.hid hB; clear hB))
  have HI2 := Lib.hid (HI.out.but HB2.out (by simp))
  have HB3 := Lib.hid (HB.out.trans HB2.out)
  obtain ⟨w3, hw3⟩ : ∃ w3, w3 = w2 := ⟨_, rfl⟩
  rw [← hw3] at HI2 HB3
  rw [← hw3]
  clear HB2 hw3 HI HB c0 c1 c2 c3
  have q0 := HI2.out.cell 0
  have q1 := HI2.out.cell 1
  have q4 := HI2.out.cell 4
  have p0 : ((l = 0) = True ∧ (l != 0) = false) ∨ ((l = 0) = False ∧ (l != 0) = true) := by by_cases h : l = 0 <;> simp [h]
  have p1 : ((l = 1) = True ∧ (l != 1) = false) ∨ ((l = 1) = False ∧ (l != 1) = true) := by by_cases h : l = 1 <;> simp [h]
  by_cases hl : l ≠ 0 ∧ l ≠ 1
  · have HE := Lib.hid (HBAD.out (by omega))
    rcases p0 with ⟨p0, r0⟩ | ⟨p0, r0⟩
    · exact absurd (of_eq_true p0) hl.1
    rcases p1 with ⟨p1, r1⟩ | ⟨p1, r1⟩
    · exact absurd (of_eq_true p1) hl.2
    clear hl
    go_wp2
    go_ret
    exact ⟨by rw [HE.out]; rfl, HB3.out⟩
  have HRE : Hid (r = if 1024 < a ∨ 1024 < b ∨ 4096 < a * b then 5 else 0) := Lib.hid (by
    rw [HR.out]
    unfold rightH
    have := H12.out
    rw [← HG.out, if_neg (by rintro (h | h | h | h | h | h) <;> first | omega | cases h | exact hl h)])
  have e0 : ((l = 0) = True ∧ (l != 0) = false) ∨ ((l = 1) = True ∧ (l != 1) = false) ∧ (l = 0) = False ∧ (l != 0) = true := by
    rcases p0 with p0 | p0
    · exact .inl p0
    rcases p1 with p1 | p1
    · exact .inr ⟨p1, p0⟩
    · exact absurd ⟨of_eq_false p0.1, of_eq_false p1.1⟩ hl
  clear p0 p1 hl HR
  have hab := H12.out
  obtain ⟨⟨a1, a2⟩, b1, b2⟩ := hab
  by_cases h1 : 1024 < a
  · have HE := Lib.hid (show r = 5 by rw [HRE.out, if_pos (Or.inl h1)])
    rcases e0 with ⟨p0, r0⟩ | ⟨⟨p1, r1⟩, p0, r0⟩
    all_goals
      go_wp2
      go_ret
      exact ⟨by rw [HE.out]; rfl, HB3.out⟩
  by_cases h2 : 1024 < b
  · have HE := Lib.hid (show r = 5 by rw [HRE.out, if_pos (Or.inr (Or.inl h2))])
    rcases e0 with ⟨p0, r0⟩ | ⟨⟨p1, r1⟩, p0, r0⟩
    all_goals
      go_wp2
      go_ret
      exact ⟨by rw [HE.out]; rfl, HB3.out⟩
  obtain ⟨m, hm⟩ : ∃ m, m = a * b := ⟨_, rfl⟩
  have m1 : 0 ≤ m := by rw [hm]; exact Int.mul_nonneg (by omega) (by omega)
  have m2 : m ≤ 1048576 := by rw [hm]; exact Int.le_trans (Int.mul_le_mul (by omega : a ≤ 1024) (by omega : b ≤ 1024) (by omega) (by omega)) (by omega)
  have hm' := hm.symm
  have HM := Lib.hid hm
  clear hm
  by_cases h3 : 4096 < m
  · have HE := Lib.hid (show r = 5 by rw [HRE.out, if_pos (Or.inr (Or.inr (by rw [← HM.out]; exact h3)))])
    rcases e0 with ⟨p0, r0⟩ | ⟨⟨p1, r1⟩, p0, r0⟩
    all_goals
      go_wp2
      go_ret
      exact ⟨by rw [HE.out]; rfl, HB3.out⟩
  · have HE := Lib.hid (show r = 0 by rw [HRE.out, if_neg (by rw [← HM.out]; omega)])
    rcases e0 with ⟨p0, r0⟩ | ⟨⟨p1, r1⟩, p0, r0⟩
    all_goals
      go_wp2
      go_ret
      exact ⟨by rw [HE.out]; rfl, HB3.out⟩
end Go.Proofs.YtfiedoejdikcgaaDoor
set_option maxRecDepth 100000
set_option linter.unusedVariables false
namespace Go.Proofs.YtfiedoejdikcgaaDoor
set_option maxRecDepth 100000
open Go Go.RowKit
set_option maxHeartbeats 1000000 in
theorem pcount_any (w : World) {n first step : Nat} (hn : n ≤ 100000) (hf : first < step) (h2 : step ≤ 100) :
    Calls Tryd.prog 70 #[.int .i64 n, .int .i64 first, .int .i64 step] w fun e w' => e = .returned (.int .i64 (manyL n first step : Nat)) ∧ w = w' := by
  obtain ⟨m, hm⟩ : ∃ m, m = manyL n first step := ⟨_, rfl⟩
  rw [← hm]
  have h0 : 0 ≤ (n : Int) - (first : Int) + (step : Int) - 1 := by omega
  have e0 : ((n : Int) - (first : Int) + (step : Int) - 1).tdiv (step : Int) = (m : Int) := by
    rw [Int.tdiv_eq_ediv_of_nonneg h0, hm]
    unfold manyL
    by_cases h : first ≤ n
    · rw [show (n : Int) - (first : Int) + (step : Int) - 1 = ((n - first + step - 1 : Nat) : Int) by omega]
      rfl
    · rw [Int.ediv_eq_zero_of_lt h0 (by omega), show n - first + step - 1 = step - 1 by omega, Nat.div_eq_of_lt (by omega)]
      rfl
  have e1 : ((n : Int) - (first : Int) + (step : Int) - 1) / (step : Int) = (m : Int) := by rw [← Int.tdiv_eq_ediv_of_nonneg h0]; exact e0
  have hm2 : m ≤ 100000 := by rw [hm]; exact Nat.le_trans (manyL_le _ _ _ (by omega)) hn
  have s0 : step ≠ 0 := by omega
  have s1 : (step : Int) ≠ 0 := by omega
  clear hm
  go_enter Tryd.func70, Tryd.ntmps70
  go_wp2
  go_ret
  exact ⟨rfl, rfl⟩
/-- The answer, read. -/
theorem pass_ret {w V : World} {b0 : Nat} {tmps : Array Value} {x y dx dy mW mH : Nat} (hI : Is V b0 52 #[.int .i64 x, .int .i64 y, .int .i64 dx, .int .i64 dy, .int .i64 mW, .int .i64 mH]) (hB : But [] w V) (ht : tmps[4]? = some (.pointer (some ⟨b0, 0, none⟩))) :
    bodyPost Tryd.prog Tryd.f61 (fun e w' => e = .returned (p6Val (x, y, dx, dy, mW, mH)) ∧ But [] w w') Exit.ret { tmps := tmps, defers := [] } V := by
  have e0 := hI.cell 0
  have e1 := hI.cell 1
  have e2 := hI.cell 2
  have e3 := hI.cell 3
  have e4 := hI.cell 4
  have e5 := hI.cell 5
  refine bodyPost_ret (v := p6Val (x, y, dx, dy, mW, mH)) ?_ rfl ⟨rfl, hB⟩
  simp [results, Tryd.results61, go_sem, e0, e1, e2, e3, e4, e5, ht, p6Val]
/-- What the copies of a place and of a head hold, whatever is drawn. -/
def PaS (w : World) (g : Nat) (x y dx dy : Nat) (a b d c l : Int) (v : World) : Prop :=
  Is v g 98 #[.int .i64 x, .int .i64 y, .int .i64 dx, .int .i64 dy] ∧ Is v (g + 1) 29 #[.int .i64 a, .int .i64 b, .int .i64 d, .int .i64 c, .int .i64 l] ∧ But [] w v
theorem PaS.but {w v v' : World} {g x y dx dy : Nat} {a b d c l : Int} (h : PaS w g x y dx dy a b d c l v) (k : But [] v v') : PaS w g x y dx dy a b d c l v' := ⟨h.1.but k (by simp), h.2.1.but k (by simp), h.2.2.trans k⟩
theorem PaS.put {w v : World} {g x y dx dy : Nat} {a b d c l : Int} (h : PaS w g x y dx dy a b d c l v) (hg : w.heap.size ≤ g + 1 + 1) (i : Nat) (u : Value) : PaS w g x y dx dy a b d c l (v.setCell ⟨g + 1 + 1, i, none⟩ u) :=
  ⟨h.1.far (by show g ≠ g + 1 + 1; omega) u, h.2.1.far (by show g + 1 ≠ g + 1 + 1; omega) u, h.2.2.setCell (.inr hg) u⟩
set_option maxHeartbeats 1000000 in
theorem ppassAt_any (w : World) {x y dx dy W H : Nat} {d c l : Int} (hx : x < dx) (hy : y < dy) (h1 : dx ≤ 8) (h2 : dy ≤ 8) (hW : W ≤ 1024) (hH : H ≤ 1024) :
    Calls Tryd.prog 61 #[.agg #[.int .i64 x, .int .i64 y, .int .i64 dx, .int .i64 dy], .agg #[.int .i64 W, .int .i64 H, .int .i64 d, .int .i64 c, .int .i64 l]] w fun e w' => e = .returned (p6Val (x, y, dx, dy, manyL W x dx, manyL H y dy)) ∧ But [] w w' := by
  obtain ⟨mW, hmW⟩ : ∃ m, m = manyL W x dx := ⟨_, rfl⟩
  obtain ⟨mH, hmH⟩ : ∃ m, m = manyL H y dy := ⟨_, rfl⟩
  have HM1 : Hid (∀ v, Calls Tryd.prog 70 #[.int .i64 W, .int .i64 x, .int .i64 dx] v fun e w' => e = .returned (.int .i64 (mW : Nat)) ∧ v = w') := Lib.hid fun v => by rw [hmW]; exact pcount_any v (by omega) hx (by omega)
  have HM2 : Hid (∀ v, Calls Tryd.prog 70 #[.int .i64 H, .int .i64 y, .int .i64 dy] v fun e w' => e = .returned (.int .i64 (mH : Nat)) ∧ v = w') := Lib.hid fun v => by rw [hmH]; exact pcount_any v (by omega) hy (by omega)
  rw [← hmW, ← hmH]
  have hB := (((But.refl [] w).alloc (.cells #[.int .i64 x, .int .i64 y, .int .i64 dx, .int .i64 dy] 98)).alloc (.cells #[.int .i64 W, .int .i64 H, .int .i64 d, .int .i64 c, .int .i64 l] 29)).alloc (.cells #[.int .i64 0, .int .i64 0, .int .i64 0, .int .i64 0, .int .i64 0, .int .i64 0] 52)
  obtain ⟨b0, hb0⟩ : ∃ g, g = w.heap.size := ⟨_, rfl⟩
  have i0 := ((Is.fresh w 98 #[.int .i64 x, .int .i64 y, .int .i64 dx, .int .i64 dy]).alloc (.cells #[.int .i64 W, .int .i64 H, .int .i64 d, .int .i64 c, .int .i64 l] 29)).alloc (.cells #[.int .i64 0, .int .i64 0, .int .i64 0, .int .i64 0, .int .i64 0, .int .i64 0] 52)
  have i1 := (Is.fresh (w.alloc (.cells #[.int .i64 x, .int .i64 y, .int .i64 dx, .int .i64 dy] 98)) 29 #[.int .i64 W, .int .i64 H, .int .i64 d, .int .i64 c, .int .i64 l]).alloc (.cells #[.int .i64 0, .int .i64 0, .int .i64 0, .int .i64 0, .int .i64 0, .int .i64 0] 52)
  have i2 := Is.fresh ((w.alloc (.cells #[.int .i64 x, .int .i64 y, .int .i64 dx, .int .i64 dy] 98)).alloc (.cells #[.int .i64 W, .int .i64 H, .int .i64 d, .int .i64 c, .int .i64 l] 29)) 52 #[.int .i64 0, .int .i64 0, .int .i64 0, .int .i64 0, .int .i64 0, .int .i64 0]
  rw [World.size_alloc] at i1 i2
  rw [World.size_alloc] at i2
  rw [← hb0] at i0 i1 i2
  have hbw : w.heap.size ≤ b0 + 1 + 1 := by omega
  clear hmW hmH hx hy h1 h2 hW hH
  go_enter Tryd.func61, Tryd.ntmps61
  go_upto_region 1 with (fail)
  rw [← hb0]
  obtain ⟨w3, hw3⟩ : ∃ X, X = (((w.alloc (.cells #[.int .i64 x, .int .i64 y, .int .i64 dx, .int .i64 dy] 98)).alloc (.cells #[.int .i64 W, .int .i64 H, .int .i64 d, .int .i64 c, .int .i64 l] 29)).alloc (.cells #[.int .i64 0, .int .i64 0, .int .i64 0, .int .i64 0, .int .i64 0, .int .i64 0] 52)) := ⟨_, rfl⟩
  rw [← hw3] at hB i0 i1 i2 ⊢
  have HJ := Lib.hid i2
  have HBW := Lib.hid hbw
  have HS : Hid (PaS w b0 x y dx dy W H d c l w3) := Lib.hid ⟨i0, i1, hB⟩
  clear i0 i1 i2 hB hbw hw3 hb0
  refine wp_region_m (S := PaS w b0 x y dx dy W H d c l) (R := fun v v' => But [] v v') (fun w => But.refl [] w) (by kernel_rfl) (HS.out.but ((But.refl [] _).drew)) ?_
  refine wpM_take (fun w => But.refl [] w) (fun x y z h k => h.trans k) (i := 0) (v := .pointer (some ⟨b0, 0, none⟩)) rfl (by kernel_rfl) (by kernel_rfl) (by kernel_rfl) (fun _ _ _ h => h) (YieldsR.read (fun w => But.refl [] w) ?_ fun w hS => ?_) ?_
  · go_simp
  · go_simp
  refine wpM_take (fun w => But.refl [] w) (fun x y z h k => h.trans k) (i := 1) (v := .int .i64 (x : Nat)) rfl (by kernel_rfl) (by kernel_rfl) (by kernel_rfl) (fun _ _ _ h => h) (YieldsR.read (fun w => But.refl [] w) ?_ fun w hS => ?_) ?_
  · go_simp
  · have z0 := hS.1.cell 0; have z1 := hS.1.cell 1; have z2 := hS.1.cell 2; have z3 := hS.1.cell 3; go_simp
  refine wpM_take (fun w => But.refl [] w) (fun x y z h k => h.trans k) (i := 2) (v := .pointer (some ⟨b0, 1, none⟩)) rfl (by kernel_rfl) (by kernel_rfl) (by kernel_rfl) (fun _ _ _ h => h) (YieldsR.read (fun w => But.refl [] w) ?_ fun w hS => ?_) ?_
  · go_simp
  · go_simp
  refine wpM_take (fun w => But.refl [] w) (fun x y z h k => h.trans k) (i := 3) (v := .int .i64 (y : Nat)) rfl (by kernel_rfl) (by kernel_rfl) (by kernel_rfl) (fun _ _ _ h => h) (YieldsR.read (fun w => But.refl [] w) ?_ fun w hS => ?_) ?_
  · go_simp
  · have z0 := hS.1.cell 0; have z1 := hS.1.cell 1; have z2 := hS.1.cell 2; have z3 := hS.1.cell 3; go_simp
  refine wpM_take (fun w => But.refl [] w) (fun x y z h k => h.trans k) (i := 4) (v := .pointer (some ⟨b0, 2, none⟩)) rfl (by kernel_rfl) (by kernel_rfl) (by kernel_rfl) (fun _ _ _ h => h) (YieldsR.read (fun w => But.refl [] w) ?_ fun w hS => ?_) ?_
  · go_simp
  · go_simp
  refine wpM_take (fun w => But.refl [] w) (fun x y z h k => h.trans k) (i := 5) (v := .int .i64 (dx : Nat)) rfl (by kernel_rfl) (by kernel_rfl) (by kernel_rfl) (fun _ _ _ h => h) (YieldsR.read (fun w => But.refl [] w) ?_ fun w hS => ?_) ?_
  · go_simp
  · have z0 := hS.1.cell 0; have z1 := hS.1.cell 1; have z2 := hS.1.cell 2; have z3 := hS.1.cell 3; go_simp
  refine wpM_take (fun w => But.refl [] w) (fun x y z h k => h.trans k) (i := 6) (v := .pointer (some ⟨b0, 3, none⟩)) rfl (by kernel_rfl) (by kernel_rfl) (by kernel_rfl) (fun _ _ _ h => h) (YieldsR.read (fun w => But.refl [] w) ?_ fun w hS => ?_) ?_
  · go_simp
  · go_simp
  refine wpM_take (fun w => But.refl [] w) (fun x y z h k => h.trans k) (i := 7) (v := .int .i64 (dy : Nat)) rfl (by kernel_rfl) (by kernel_rfl) (by kernel_rfl) (fun _ _ _ h => h) (YieldsR.read (fun w => But.refl [] w) ?_ fun w hS => ?_) ?_
  · go_simp
  · have z0 := hS.1.cell 0; have z1 := hS.1.cell 1; have z2 := hS.1.cell 2; have z3 := hS.1.cell 3; go_simp
  refine wpM_take (fun w => But.refl [] w) (fun x y z h k => h.trans k) (i := 8) (v := .pointer (some ⟨b0 + 1, 0, none⟩)) rfl (by kernel_rfl) (by kernel_rfl) (by kernel_rfl) (fun _ _ _ h => h) (YieldsR.read (fun w => But.refl [] w) ?_ fun w hS => ?_) ?_
  · go_simp
  · go_simp
  refine wpM_take (fun w => But.refl [] w) (fun x y z h k => h.trans k) (i := 9) (v := .int .i64 (W : Nat)) rfl (by kernel_rfl) (by kernel_rfl) (by kernel_rfl) (fun _ _ _ h => h) (YieldsR.read (fun w => But.refl [] w) ?_ fun w hS => ?_) ?_
  · go_simp
  · have z0 := hS.2.1.cell 0; have z1 := hS.2.1.cell 1; go_simp
  refine wpM_take (fun w => But.refl [] w) (fun x y z h k => h.trans k) (i := 10) (v := .pointer (some ⟨b0, 0, none⟩)) rfl (by kernel_rfl) (by kernel_rfl) (by kernel_rfl) (fun _ _ _ h => h) (YieldsR.read (fun w => But.refl [] w) ?_ fun w hS => ?_) ?_
  · go_simp
  · go_simp
  refine wpM_take (fun w => But.refl [] w) (fun x y z h k => h.trans k) (i := 11) (v := .int .i64 (x : Nat)) rfl (by kernel_rfl) (by kernel_rfl) (by kernel_rfl) (fun _ _ _ h => h) (YieldsR.read (fun w => But.refl [] w) ?_ fun w hS => ?_) ?_
  · go_simp
  · have z0 := hS.1.cell 0; have z1 := hS.1.cell 1; have z2 := hS.1.cell 2; have z3 := hS.1.cell 3; go_simp
  refine wpM_take (fun w => But.refl [] w) (fun x y z h k => h.trans k) (i := 12) (v := .pointer (some ⟨b0, 2, none⟩)) rfl (by kernel_rfl) (by kernel_rfl) (by kernel_rfl) (fun _ _ _ h => h) (YieldsR.read (fun w => But.refl [] w) ?_ fun w hS => ?_) ?_
  · go_simp
  · go_simp
  refine wpM_take (fun w => But.refl [] w) (fun x y z h k => h.trans k) (i := 13) (v := .int .i64 (dx : Nat)) rfl (by kernel_rfl) (by kernel_rfl) (by kernel_rfl) (fun _ _ _ h => h) (YieldsR.read (fun w => But.refl [] w) ?_ fun w hS => ?_) ?_
  · go_simp
  · have z0 := hS.1.cell 0; have z1 := hS.1.cell 1; have z2 := hS.1.cell 2; have z3 := hS.1.cell 3; go_simp
  refine wpM_take (fun w => But.refl [] w) (fun x y z h k => h.trans k) (i := 14) (v := .int .i64 (mW : Nat)) rfl (by kernel_rfl) (by kernel_rfl) (by kernel_rfl) (fun _ _ _ h => h) (.inl ⟨?_, fun w hS => .inr ⟨_, _, ?_, (HM1.out w).mono ?_⟩⟩) ?_
  · go_simp
  · go_simp
  · rintro e wy ⟨rfl, rfl⟩; exact ⟨rfl, hS, But.refl [] _⟩
  refine wpM_take (fun w => But.refl [] w) (fun x y z h k => h.trans k) (i := 15) (v := .pointer (some ⟨b0 + 1, 1, none⟩)) rfl (by kernel_rfl) (by kernel_rfl) (by kernel_rfl) (fun _ _ _ h => h) (YieldsR.read (fun w => But.refl [] w) ?_ fun w hS => ?_) ?_
  · go_simp
  · go_simp
  refine wpM_take (fun w => But.refl [] w) (fun x y z h k => h.trans k) (i := 16) (v := .int .i64 (H : Nat)) rfl (by kernel_rfl) (by kernel_rfl) (by kernel_rfl) (fun _ _ _ h => h) (YieldsR.read (fun w => But.refl [] w) ?_ fun w hS => ?_) ?_
  · go_simp
  · have z0 := hS.2.1.cell 0; have z1 := hS.2.1.cell 1; go_simp
  refine wpM_take (fun w => But.refl [] w) (fun x y z h k => h.trans k) (i := 17) (v := .pointer (some ⟨b0, 1, none⟩)) rfl (by kernel_rfl) (by kernel_rfl) (by kernel_rfl) (fun _ _ _ h => h) (YieldsR.read (fun w => But.refl [] w) ?_ fun w hS => ?_) ?_
  · go_simp
  · go_simp
  refine wpM_take (fun w => But.refl [] w) (fun x y z h k => h.trans k) (i := 18) (v := .int .i64 (y : Nat)) rfl (by kernel_rfl) (by kernel_rfl) (by kernel_rfl) (fun _ _ _ h => h) (YieldsR.read (fun w => But.refl [] w) ?_ fun w hS => ?_) ?_
  · go_simp
  · have z0 := hS.1.cell 0; have z1 := hS.1.cell 1; have z2 := hS.1.cell 2; have z3 := hS.1.cell 3; go_simp
  refine wpM_take (fun w => But.refl [] w) (fun x y z h k => h.trans k) (i := 19) (v := .pointer (some ⟨b0, 3, none⟩)) rfl (by kernel_rfl) (by kernel_rfl) (by kernel_rfl) (fun _ _ _ h => h) (YieldsR.read (fun w => But.refl [] w) ?_ fun w hS => ?_) ?_
  · go_simp
  · go_simp
  refine wpM_take (fun w => But.refl [] w) (fun x y z h k => h.trans k) (i := 20) (v := .int .i64 (dy : Nat)) rfl (by kernel_rfl) (by kernel_rfl) (by kernel_rfl) (fun _ _ _ h => h) (YieldsR.read (fun w => But.refl [] w) ?_ fun w hS => ?_) ?_
  · go_simp
  · have z0 := hS.1.cell 0; have z1 := hS.1.cell 1; have z2 := hS.1.cell 2; have z3 := hS.1.cell 3; go_simp
  refine wpM_take (fun w => But.refl [] w) (fun x y z h k => h.trans k) (i := 21) (v := .int .i64 (mH : Nat)) rfl (by kernel_rfl) (by kernel_rfl) (by kernel_rfl) (fun _ _ _ h => h) (.inl ⟨?_, fun w hS => .inr ⟨_, _, ?_, (HM2.out w).mono ?_⟩⟩) ?_
  · go_simp
  · go_simp
  · rintro e wy ⟨rfl, rfl⟩; exact ⟨rfl, hS, But.refl [] _⟩
  refine wpM_take (fun w => But.refl [] w) (fun x y z h k => h.trans k) (i := 22) (v := .agg #[.int .i64 (x : Nat), .int .i64 (y : Nat), .int .i64 (dx : Nat), .int .i64 (dy : Nat), .int .i64 (mW : Nat), .int .i64 (mH : Nat)]) rfl (by kernel_rfl) (by kernel_rfl) (by kernel_rfl) (fun _ _ _ h => h) (YieldsR.read (fun w => But.refl [] w) ?_ fun w hS => ?_) ?_
  · go_simp
  · go_simp
  refine wpM_one (i := 23) rfl (by kernel_rfl) fun w6 hR6 hS6 K' hK => ?_
  have j2 := HJ.out.but (((But.refl [] _).drew).trans hR6) (by simp)
  have t0 := j2.free 0
  have t1 := j2.free 1
  have t2 := j2.free 2
  have t3 := j2.free 3
  have t4 := j2.free 4
  have t5 := j2.free 5
  have s0 := j2.cell 0
  have s1 := j2.cell 1
  have s2 := j2.cell 2
  have s3 := j2.cell 3
  have s4 := j2.cell 4
  have s5 := j2.cell 5
  clear hR6
  have HJ2 := Lib.hid j2
  have HS6 := Lib.hid hS6
  clear j2 hS6 HS HJ
  go_simp
  refine hK _ _ ⟨(((((HS6.out.put HBW.out 0 _).put HBW.out 1 _).put HBW.out 2 _).put HBW.out 3 _).put HBW.out 4 _).put HBW.out 5 _, ?_⟩
  clear hK K' s0 s1 s2 s3 s4 s5 t0 t1 t2 t3 t4 t5
  refine ⟨by kernel_rfl, fun w9 hR9 hS9 => ?_⟩
  have j9 : Is w9 (b0 + 1 + 1) 52 #[.int .i64 x, .int .i64 y, .int .i64 dx, .int .i64 dy, .int .i64 mW, .int .i64 mH] := Is.but ((((((HJ2.out.put 0 (.int .i64 x)).put 1 (.int .i64 y)).put 2 (.int .i64 dx)).put 3 (.int .i64 dy)).put 4 (.int .i64 mW)).put 5 (.int .i64 mH)) hR9 (by simp)
  clear hR9
  have hB9 := hS9.2.2
  have HJ9 := Lib.hid j9
  have HB9 := Lib.hid hB9
  clear hS9 j9 hB9 HJ2 HS6
  go_simp
  go_wp2
  exact pass_ret HJ9.out HB9.out rfl
set_option maxHeartbeats 1000000 in
theorem lrow_any (w : World) (a b d c l n : Int) :
    Calls Tryd.prog 59 #[.agg #[.int .i64 a, .int .i64 b, .int .i64 d, .int .i64 c, .int .i64 l], .int .i64 n] w fun e w' => e = .returned (.int .i64 (rowA a b d c l n : Nat)) ∧ But [] w w' := by
  have hE := fun v => pright_h v a b d c l
  obtain ⟨er, her⟩ : ∃ x, x = rightH a b d c l := ⟨_, rfl⟩
  have HER := Lib.hid her
  simp only [← her] at hE
  have HE := Lib.hid hE
  have hI := Is.fresh w 29 #[.int .i64 a, .int .i64 b, .int .i64 d, .int .i64 c, .int .i64 l]
  have HA := Lib.hid ((But.refl [] w).alloc (.cells #[.int .i64 a, .int .i64 b, .int .i64 d, .int .i64 c, .int .i64 l] 29))
  have c0 := hI.cell 0
  have c1 := hI.cell 1
  have c2 := hI.cell 2
  have c3 := hI.cell 3
  have c4 := hI.cell 4
  have HI := Lib.hid hI
  clear hE hI
  by_cases h0 : er = 0
  · subst h0
    by_cases h1 : n < 1
    · have HR := Lib.hid (rowA_bad (a := a) (b := b) (d := d) (c := c) (l := l) (n := n) (.inr (.inl h1)))
      rw [HR.out]
      clear her
      go_enter Tryd.func59, Tryd.ntmps59
      go_wp2_with fail
      refine (HE.out _).mono ?_
      rintro e w1 ⟨rfl, hB⟩
      have HB := Lib.hid (HA.out.trans hB)
      clear hB
      go_wp2
      go_ret
      exact ⟨rfl, HB.out⟩
    · by_cases h2 : 1024 < n
      · have HR := Lib.hid (rowA_bad (a := a) (b := b) (d := d) (c := c) (l := l) (n := n) (.inr (.inr h2)))
        rw [HR.out]
        clear her
        go_enter Tryd.func59, Tryd.ntmps59
        go_wp2_with fail
        refine (HE.out _).mono ?_
        rintro e w1 ⟨rfl, hB⟩
        have HB := Lib.hid (HA.out.trans hB)
        clear hB
        go_wp2
        go_ret
        exact ⟨rfl, HB.out⟩
      · obtain ⟨D, S, hd, hs, hD, hS, hm, _⟩ := depth_nat (rightH_ok her.symm).2.2.2.2
        obtain ⟨P, rfl⟩ : ∃ P : Nat, n = (P : Int) := ⟨n.toNat, by omega⟩
        have hr := rowA_ok her.symm hd hs (n := P) (by omega) (by omega)
        obtain ⟨q, hq⟩ : ∃ q, q = D * S := ⟨_, rfl⟩
        rw [← hq] at hr hm
        obtain ⟨r, hr2⟩ : ∃ r, r = q * P := ⟨_, rfl⟩
        rw [← hr2] at hr
        have hr3 : r ≤ 65536 := by rw [hr2]; show _ ≤ 64 * 1024; exact Nat.mul_le_mul hm (by omega)
        have e1 : (D : Int) * (S : Int) = (q : Int) := by rw [hq, Int.natCast_mul]
        have e2 : (q : Int) * (P : Int) = (r : Int) := by rw [hr2, Int.natCast_mul]
        subst hd
        have HSM : Hid (∀ v, Calls Tryd.prog 63 #[.int .i64 c] v fun e w' => e = .returned (.int .i64 (S : Int)) ∧ v = w') := Lib.hid fun v => by rw [← hs]; exact psamples_any v c
        have HR := Lib.hid hr
        rw [HR.out]
        obtain ⟨x, hx⟩ : ∃ x, x = (r + 7) / 8 := ⟨_, rfl⟩
        have f1 : ((r : Int) + 7).tdiv 8 = (x : Int) := by rw [Int.tdiv_eq_ediv_of_nonneg (by omega)]; omega
        have f2 : ((r : Int) + 7) / 8 = (x : Int) := by omega
        have v1 : IntKind.i64.wrap (q : Int) = (q : Int) := by rw [IntKind.wrap_i64]; omega
        have v2 : IntKind.i64.wrap (r : Int) = (r : Int) := by rw [IntKind.wrap_i64]; omega
        rw [← hx]
        clear hx
        obtain ⟨D1, D2⟩ := hD
        obtain ⟨S1, S2⟩ := hS
        clear her hr hs hq hr2
        go_enter Tryd.func59, Tryd.ntmps59
        go_wp2_with fail
        refine (HE.out _).mono ?_
        rintro e w1 ⟨rfl, hB⟩
        have HB := Lib.hid (HA.out.trans hB)
        have hI1 := HI.out.but hB (by simp)
        have c2 := hI1.cell 2
        have c3 := hI1.cell 3
        have k2 := (hI1.drew).cell 2
        have k3 := (hI1.drew).cell 3
        have hlt := hI1.lt
        clear hB hI1
        go_upto_region 3 with (fail)
        go_region_with (refine (HSM.out _).mono ?_; rintro e w6 ⟨rfl, rfl⟩)
        all_goals go_wp2
        all_goals go_ret
        all_goals refine ⟨?_, HB.out.drew⟩
        all_goals go_simp
  · have h1 : er = 5 ∨ er = 24 := by rcases rightH_cases a b d c l with h | h | h <;> simp_all
    have HR := Lib.hid (rowA_bad (a := a) (b := b) (d := d) (c := c) (l := l) (n := n) (.inl (by rw [← her]; exact h0)))
    rw [HR.out]
    clear her h0 HER
    rcases h1 with rfl | rfl
    · go_enter Tryd.func59, Tryd.ntmps59
      go_wp2_with fail
      refine (HE.out _).mono ?_
      rintro e w1 ⟨rfl, hB⟩
      have HB := Lib.hid (HA.out.trans hB)
      clear hB
      go_wp2
      go_ret
      exact ⟨rfl, HB.out⟩
    · go_enter Tryd.func59, Tryd.ntmps59
      go_wp2_with fail
      refine (HE.out _).mono ?_
      rintro e w1 ⟨rfl, hB⟩
      have HB := Lib.hid (HA.out.trans hB)
      clear hB
      go_wp2
      go_ret
      exact ⟨rfl, HB.out⟩
end Go.Proofs.YtfiedoejdikcgaaDoor
namespace Go.Proofs.YtfiedoejdikcgaaDoor
set_option maxRecDepth 100000
open Go Go.RowKit Go.Shelf
/-- The body of a round goes on. -/
def goesOn (Kp : World → World → Prop) (I : Nat → World → Prop) (k : Nat) (W : World) : Exit → Act → World → Prop
  | .normal, _, W' => KeepsOthers W W' ∧ Kp W W' ∧ I k W'
  | _, _, _ => False
theorem below_putObj {D : Nat} {W : World} {l : Nat} {o : Obj} (o' : Obj) (h : W.heap[l]? = some o) (hD : D ≤ l) : Below D W (W.putObj l o') :=
  (Below.refl D W).grown (grownBy_putObj' W l o') (by have := (Array.getElem?_eq_some_iff.1 h).1; omega) (fun k e => by cases e; exact hD)

end Go.Proofs.YtfiedoejdikcgaaDoor
set_option linter.unusedVariables false
namespace Go.Proofs.YtfiedoejdikcgaaDoor
set_option maxRecDepth 100000
open Go Go.RowKit Go.Shelf
/-- The function calls what it is handed for round 0, 1, .. up to N; between two calls it counts on nothing but Kp, and makes memory. -/
def RoundsB (F : Fence) (m : Nat) (P : Program) (gf : Nat) (lb : Array Value) (encs : Nat → Array Value) (Kp : World → World → Prop) (N : Nat) (w : World) : Prop :=
  ∀ (l : Nat) (J : Nat → World → Prop) (W : World), Below w.heap.size w W → (∀ k W1 W2, J k W1 → But [] W1 W2 → J k W2) →
    (∀ k W1, J k W1 → k < N → YieldAt F (m - 1) P l (encs k) W1 fun e W' => e = .returned (.bool true) ∧ J (k + 1) W' ∧ Kp W1 W') → J 0 W →
    CallsIn F m P gf (#[.func (.yield l) #[] #[]] ++ lb) W fun e W' => (∃ v, e = .returned v) ∧ J N W'
theorem but_putObj {W : World} {l : Nat} {S : List Nat} (o : Obj) (h : l ∈ S) : But S W (W.putObj l o) := (But.refl S W).grown (grownBy_putObj' W l o) (fun g e => by cases e; exact .inl h)

theorem range_rounds_b {F : Fence} {n : Nat} {P : Program} {g : Operand} {ps : Array Tmp} {assign body : Code} {Q : Exit → Act → World → Prop} {a : Act} {w : World}
    (hro : F.round = none) (h1 : 1 ≤ n) {gf : Nat} {lb : Array Value} (hg : a.eval g = .func (.func gf) #[] lb) (hF : F.fn gf) (eg : ∀ args w, (callFunc gf args).run P w = .ok (.enter gf args) w)
    {encs : Nat → Array Value} {Kp : World → World → Prop} {N : Nat} (hseq : RoundsB F (n - 1) P gf lb encs Kp N w)
    (hKt : ∀ {A B C : World}, Kp A B → Kp B C → Kp A C) (hKb : ∀ {A B : World}, Below w.heap.size A B → Kp A B) (hps : ∀ k, (encs k).size = ps.size)
    (I : Nat → World → Prop) (hI : ∀ k W W', I k W → But [w.heap.size, w.heap.size + 1] W W' → I k W') (h0 : I 0 w) (a₁ : Nat → Nat → Act) (t : TypeId) (cs : Nat → Array Value)
    (hassign : ∀ (l k : Nat) (W : World) (K : Act → World → Prop), k < N → K (a₁ k W.heap.size) (W.alloc (.cells (cs k) t)) →
      assign.wpIn (F.inRound l) (n - 1 - 1) P (Exit.then K (fun _ _ _ => False)) { tmps := (ps.zip (encs k)).foldl (fun t (p, v) => t.setIfInBounds p v) a.tmps, defers := [] } W)
    (hbody : ∀ (l k b : Nat) (W : World), I k W → k < N → w.heap.size + 2 ≤ b → Is W b t (cs k) → w.heap.size + 2 ≤ W.heap.size → body.wpIn (F.inRound l) (n - 1 - 1) P (goesOn Kp I (k + 1) W) (a₁ k b) W)
    (hdone : ∀ W : World, I N W → w.heap.size < W.heap.size → W.heap[w.heap.size]? = some (.deferred (some [])) → Q .normal { a with defers := { target := .collected w.heap.size, args := #[] } :: a.defers } W) :
    (Code.rangeFunc g ps assign body).wpIn F n P Q a w := by
  refine wpIn_rangeFunc fun fn hfn => ?_
  rw [hro]
  obtain ⟨D, hD⟩ : ∃ D, D = w.heap.size := ⟨_, rfl⟩
  obtain ⟨rc, hrc⟩ : ∃ rc : _ → Loop, rc = fun st => { state := st, pending := none, fn, tmps := a.tmps, params := ps, assign, body, defers := D } := ⟨_, rfl⟩
  have hb1 : Below w.heap.size w ((w.alloc (.deferred (some []))).alloc (.loop (rc .ready))) := ((Below.refl _ w).alloc (Nat.le_refl _) _).alloc (by simp) _
  have hb2 : But [] w ((w.alloc (.deferred (some []))).alloc (.loop (rc .ready))) := ((But.refl [] w).alloc _).alloc _
  have hl1 : ((w.alloc (.deferred (some []))).alloc (.loop (rc .ready))).heap[D + 1]? = some (.loop (rc .ready)) := by
    have h := World.alloc_heap_new (w.alloc (.deferred (some []))) (.loop (rc .ready))
    rw [World.size_alloc, ← hD] at h
    exact h
  have hk1 : ((w.alloc (.deferred (some []))).alloc (.loop (rc .ready))).heap[D]? = some (.deferred (some [])) := by
    rw [Below.heap_alloc _ _ _ (by simp [hD]), hD]; exact World.alloc_heap_new w _
  have he : (Instr.enterLoop fn a.tmps ps assign body none).run P w = .ok (D + 1, [{ target := .collected D, args := #[] }]) ((w.alloc (.deferred (some []))).alloc (.loop (rc .ready))) := by
    rw [hrc, hD]; exact run_enterLoop_outer fn a.tmps ps assign body
  generalize (w.alloc (.deferred (some []))).alloc (.loop (rc .ready)) = W1 at *
  refine ⟨D + 1, _, W1, { target := .fn (.func gf) lb, args := #[.func (.yield (D + 1)) #[] #[]] }, W1, gf, #[.func (.yield (D + 1)) #[] #[]] ++ lb, W1, he, by simp only [resolve, hg]; simp [go_sem], fun f' hf' => ?_, by simp [invoke, go_sem, eg], fun _ => h1, ?_⟩
  · simp [Target.leads] at hf'; subst hf'; exact hF
  refine (hseq (D + 1) (fun k W => I k W ∧ W.heap[D + 1]? = some (.loop (rc .ready)) ∧ W.heap[D]? = some (.deferred (some []))) W1 hb1 ?_ ?_ ⟨hI 0 w W1 h0 (hb2.more (by simp)), hl1, hk1⟩).mono ?_
  · rintro k A B ⟨hi, hl, hk⟩ hB
    exact ⟨hI k A B hi (hB.more (by simp)), (hB.block _ (Array.getElem?_eq_some_iff.1 hl).1 (by simp)).trans hl, (hB.block _ (Array.getElem?_eq_some_iff.1 hk).1 (by simp)).trans hk⟩
  · rintro k W ⟨hi, hl, hk⟩ hkN
    have hlt : D + 1 < W.heap.size := (Array.getElem?_eq_some_iff.1 hl).1
    have hy := run_yield (P := P) (args := encs k) hl (by rw [hrc]; exact hps k)
    rw [hrc] at hy
    have hWa : But [] W (W.alloc (.cells (cs k) t)) := (But.refl [] W).alloc _
    have hla : (W.alloc (.cells (cs k) t)).heap[D + 1]? = some (.loop (rc .ready)) := (hWa.block _ hlt (by simp)).trans hl
    have hka : (W.alloc (.cells (cs k) t)).heap[D]? = some (.deferred (some [])) := (hWa.block _ (by omega) (by simp)).trans hk
    have hia := hI k W _ hi (hWa.more (by simp))
    have hna : Is (W.alloc (.cells (cs k) t)) W.heap.size t (cs k) := Is.fresh W t (cs k)
    have hba : Below w.heap.size W (W.alloc (.cells (cs k) t)) := (Below.refl _ W).alloc (by omega) _
    have hlta : D + 1 < (W.alloc (.cells (cs k) t)).heap.size := by rw [World.size_alloc]; omega
    refine ⟨fn, _, assign, body, hy, roundIn_of_wpIn hfn (hassign _ k W _ hkN ⟨_, run_beginRound hla (by rw [hrc]), ?_⟩)⟩
    obtain ⟨b, hb⟩ : ∃ b, b = W.heap.size := ⟨_, rfl⟩
    rw [← hb] at hna ⊢
    generalize W.alloc (.cells (cs k) t) = V at *
    have hbb : Below w.heap.size V (V.putObj (D + 1) (.loop { rc .ready with state := .busy })) := below_putObj _ hla (by omega)
    have hbB : But [D, D + 1] V (V.putObj (D + 1) (.loop { rc .ready with state := .busy })) := but_putObj _ (by simp)
    have hl2 : (V.putObj (D + 1) (.loop { rc .ready with state := .busy })).heap[D + 1]? = some (.loop { rc .ready with state := .busy }) := World.putObj_heap_same hlta
    have hk2 : (V.putObj (D + 1) (.loop { rc .ready with state := .busy })).heap[D]? = some (.deferred (some [])) := (World.putObj_heap_other (by omega)).trans hka
    have hsz : w.heap.size + 2 ≤ (V.putObj (D + 1) (.loop { rc .ready with state := .busy })).heap.size := by have := hbB.size; omega
    refine wpIn_mono (hbody _ k b _ (hI _ _ _ hia (by rw [← hD]; exact hbB)) hkN (by omega) (hna.but hbB (by simp; omega)) hsz) ?_
    rintro e a3 W3 hp
    cases e with
    | normal =>
      obtain ⟨hk3, hkp3, hi3⟩ := hp
      have hl3 := hk3.same _ _ hl2 rfl
      have hk3' := hk3.same _ _ hk2 rfl
      have hbe : Below w.heap.size W3 (W3.putObj (D + 1) (.loop (rc .ready))) := below_putObj _ hl3 (by omega)
      have hbE : But [D, D + 1] W3 (W3.putObj (D + 1) (.loop (rc .ready))) := but_putObj _ (by simp)
      refine ⟨.bool true, W3.putObj (D + 1) (.loop (rc .ready)), ?_, rfl, ⟨hI _ _ _ hi3 (by rw [← hD]; exact hbE), World.putObj_heap_same (Array.getElem?_eq_some_iff.1 hl3).1, (World.putObj_heap_other (by omega)).trans hk3'⟩, hKt (hKt (hKt (hKb hba) (hKb hbb)) hkp3) (hKb hbe)⟩
      have hr := run_endRound (P := P) none hl3
      rw [hrc] at hr ⊢
      exact hr
    | ret => exact hp.elim
    | exit id => exact hp.elim
    | goto t => exact hp.elim
    | panic ch => exact hp.elim
    | outgrown => exact hp.elim
  · rintro e W2 ⟨⟨v, rfl⟩, hi, hl, hk⟩
    have hlt : D + 1 < W2.heap.size := (Array.getElem?_eq_some_iff.1 hl).1
    have hr := run_endLoop (P := P) hl (by rw [hrc]; simp)
    rw [hrc] at hr
    have hbX : But [D, D + 1] W2 (W2.putObj (D + 1) (.loop { rc .ready with state := .exhausted })) := but_putObj _ (by simp)
    refine ⟨none, _, hr, ?_⟩
    have := hdone _ (hI _ _ _ hi (by rw [hD] at hbX; exact hbX)) (by simp; omega) (by rw [← hD]; exact (World.putObj_heap_other (by omega)).trans hk)
    rw [hrc, ← hD] at this
    exact this
end Go.Proofs.YtfiedoejdikcgaaDoor
