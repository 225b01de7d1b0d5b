/- Joined: HpM, HpN, HpO, HpS, HpR. -/
import Derived.Test.YtedffeimcccobaaHpK
import Derived.Test.YtedffeimcccobaaRegN
import Derived.Deep.CutRange
import Derived.Deep.CutBlock
import Derived.Test.YtedffeimcccobaaCkF
import Derived.Test.YtedffeimcccobaaHdF
import Derived.Test.YtedffeimcccobaaHeM
set_option maxRecDepth 100000
set_option linter.unusedVariables false
/- The walks of the statements on samples, on which heads may be, and on a head's chunk. -/
namespace Go.Proofs.Ytedffeimcccobaa
set_option maxRecDepth 100000
open Go Go.RowKit
/-- The chapter's examples come out. -/
def Awk : Prop := ∀ v : World, Calls Try.prog 13 #[] v fun e w' => e = .returned (.bool true) ∧ But [] v w'
theorem Awk.use (h : Awk) (v : World) : Calls Try.prog 13 #[] v fun e w' => e = .returned (.bool true) ∧ But [] v w' := h v
/-- The head that is handed in lies in a block of its own. -/
def HdS (w : World) (g : Nat) (a b d c l : Int) (v : World) : Prop := Is v g 23 #[.int .i64 a, .int .i64 b, .int .i64 d, .int .i64 c, .int .i64 l] ∧ But [] w v
theorem HdS.but {w v v' : World} {g : Nat} {a b d c l : Int} (h : HdS w g a b d c l v) (k : But [] v v') : HdS w g a b d c l v' := ⟨h.1.but k (by simp), h.2.trans k⟩
theorem headSamples_walk (haw : Awk) {c : Int} (hc : (Lit.int .i64 c).wf = true) {w : World} :
    Calls Try.prog 8 #[.int .i64 c] w fun e w' => e = .returned (.bool true) ∧ Below w.heap.size w w' := by
  have HA := Lib.hid haw
  clear hc haw
  by_cases h0 : c = 0
  · subst h0
    have HQ := Lib.hid (psamples_any w 0)
    rw [show samplesI 0 = 1 by decide] at HQ
    go_enter Try.func8, Try.ntmps8
    go_wp2_with fail
    refine HQ.out.mono ?_
    rintro e w1 ⟨rfl, rfl⟩
    go_wp2_with fail
    refine (HA.out.use _).mono ?_
    rintro e w2 ⟨rfl, hB⟩
    have HB := Lib.hid hB
    clear hB
    go_wp2
    go_ret
    exact ⟨rfl, HB.out.belowC⟩
  by_cases h3 : c = 3
  · subst h3
    have HQ := Lib.hid (psamples_any w 3)
    rw [show samplesI 3 = 1 by decide] at HQ
    go_enter Try.func8, Try.ntmps8
    go_wp2_with fail
    refine HQ.out.mono ?_
    rintro e w1 ⟨rfl, rfl⟩
    go_wp2_with fail
    refine (HA.out.use _).mono ?_
    rintro e w2 ⟨rfl, hB⟩
    have HB := Lib.hid hB
    clear hB
    go_wp2
    go_ret
    exact ⟨rfl, HB.out.belowC⟩
  by_cases h2 : c = 2
  · subst h2
    have HQ := Lib.hid (psamples_any w 2)
    rw [show samplesI 2 = 3 by decide] at HQ
    go_enter Try.func8, Try.ntmps8
    go_wp2_with fail
    refine HQ.out.mono ?_
    rintro e w1 ⟨rfl, rfl⟩
    go_wp2_with fail
    refine (HA.out.use _).mono ?_
    rintro e w2 ⟨rfl, hB⟩
    have HB := Lib.hid hB
    clear hB
    go_wp2
    go_ret
    exact ⟨rfl, HB.out.belowC⟩
  by_cases h4 : c = 4
  · subst h4
    have HQ := Lib.hid (psamples_any w 4)
    rw [show samplesI 4 = 2 by decide] at HQ
    go_enter Try.func8, Try.ntmps8
    go_wp2_with fail
    refine HQ.out.mono ?_
    rintro e w1 ⟨rfl, rfl⟩
    go_wp2_with fail
    refine (HA.out.use _).mono ?_
    rintro e w2 ⟨rfl, hB⟩
    have HB := Lib.hid hB
    clear hB
    go_wp2
    go_ret
    exact ⟨rfl, HB.out.belowC⟩
  by_cases h6 : c = 6
  · subst h6
    have HQ := Lib.hid (psamples_any w 6)
    rw [show samplesI 6 = 4 by decide] at HQ
    go_enter Try.func8, Try.ntmps8
    go_wp2_with fail
    refine HQ.out.mono ?_
    rintro e w1 ⟨rfl, rfl⟩
    go_wp2_with fail
    refine (HA.out.use _).mono ?_
    rintro e w2 ⟨rfl, hB⟩
    have HB := Lib.hid hB
    clear hB
    go_wp2
    go_ret
    exact ⟨rfl, HB.out.belowC⟩
  have HQ := Lib.hid (psamples_any w c)
  rw [show samplesI c = 0 by unfold samplesI; rw [if_neg (by omega), if_neg h4, if_neg h2, if_neg h6]] at HQ
  have d0 : (c == 0) = false := by simpa using h0
  have e0 : decide (c = 0) = false := decide_eq_false h0
  have d3 : (c == 3) = false := by simpa using h3
  have e3 : decide (c = 3) = false := decide_eq_false h3
  have d2 : (c == 2) = false := by simpa using h2
  have e2 : decide (c = 2) = false := decide_eq_false h2
  have d4 : (c == 4) = false := by simpa using h4
  have e4 : decide (c = 4) = false := decide_eq_false h4
  have d6 : (c == 6) = false := by simpa using h6
  have e6 : decide (c = 6) = false := decide_eq_false h6
  go_enter Try.func8, Try.ntmps8
  go_wp2_with fail
  refine HQ.out.mono ?_
  rintro e w1 ⟨rfl, rfl⟩
  go_wp2_with fail
  refine (HA.out.use _).mono ?_
  rintro e w2 ⟨rfl, hB⟩
  have HB := Lib.hid hB
  clear hB
  go_wp2
  go_ret
  exact ⟨rfl, HB.out.belowC⟩
theorem headRight_walk (haw : Awk) {a b d c l k : Int} (hk : (Lit.int .i64 k).wf = true) {w : World} :
    Calls Try.prog 3 #[.agg #[.int .i64 a, .int .i64 b, .int .i64 d, .int .i64 c, .int .i64 l], .int .i64 k] w fun e w' => e = .returned (.bool true) ∧ Below w.heap.size w w' := by
  have hP := fun v => pright_h v a b d c l
  have hE := fun v => eright_h v a b d c l
  have hQ := fun v => psamples_any v k
  have hF := fun v => esamples_any v k
  obtain ⟨er, her⟩ : ∃ x, x = rightH a b d c l := ⟨_, rfl⟩
  obtain ⟨sm, hsm⟩ : ∃ x, x = samplesI k := ⟨_, rfl⟩
  simp only [← her] at hP hE
  simp only [← hsm] at hQ hF
  have HA := Lib.hid haw
  have HP := Lib.hid hP
  have HE := Lib.hid hE
  have HQ := Lib.hid hQ
  have HF := Lib.hid hF
  have HS0 : Hid (HdS w w.heap.size a b d c l (w.alloc (.cells #[.int .i64 a, .int .i64 b, .int .i64 d, .int .i64 c, .int .i64 l] 23))) := Lib.hid ⟨Is.fresh _ _ _, (But.refl [] w).alloc _⟩
  clear hk haw hP hE hQ hF her hsm
  go_enter Try.func3, Try.ntmps3
  go_upto_region 1 with (fail)
  refine wp_region_m (S := HdS w w.heap.size a b d c l) (R := fun v v' => But [] v v') (fun w => But.refl [] w) (by kernel_rfl) (HS0.out.but ((But.refl [] _).drew)) ?_
  refine wpM_take (fun w => But.refl [] w) (fun x y z h k => h.trans k) (i := 0) (v := .agg #[.int .i64 a, .int .i64 b, .int .i64 d, .int .i64 c, .int .i64 l]) rfl (by kernel_rfl) (by kernel_rfl) (by kernel_rfl) (fun _ _ _ h => h) (YieldsR.read (fun w => But.refl [] w) ?_ fun w hS => ?_) ?_
  · go_simp
  · have c0 := hS.1.cell 0; have c1 := hS.1.cell 1; have c2 := hS.1.cell 2; have c3 := hS.1.cell 3; have c4 := hS.1.cell 4; go_simp
  dsimp only [Act.put, List.getElem_toArray, List.getElem_cons_zero, List.getElem_cons_succ, List.setIfInBounds_toArray, List.set_cons_zero, List.set_cons_succ]
  refine wpM_take (fun w => But.refl [] w) (fun x y z h k => h.trans k) (i := 1) (v := .int .i64 er) rfl (by kernel_rfl) (by kernel_rfl) (by kernel_rfl) (fun _ _ _ h => h) (.inl ⟨?_, fun w hS => .inr ⟨_, _, ?_, (HP.out w).mono ?_⟩⟩) ?_
  · go_simp
  · go_simp
  · rintro e wy ⟨rfl, hB⟩; exact ⟨rfl, hS.but hB, hB⟩
  refine wpM_take (fun w => But.refl [] w) (fun x y z h k => h.trans k) (i := 2) (v := .agg #[.int .i64 a, .int .i64 b, .int .i64 d, .int .i64 c, .int .i64 l]) rfl (by kernel_rfl) (by kernel_rfl) (by kernel_rfl) (fun _ _ _ h => h) (YieldsR.read (fun w => But.refl [] w) ?_ fun w hS => ?_) ?_
  · go_simp
  · have c0 := hS.1.cell 0; have c1 := hS.1.cell 1; have c2 := hS.1.cell 2; have c3 := hS.1.cell 3; have c4 := hS.1.cell 4; go_simp
  dsimp only [Act.put, List.getElem_toArray, List.getElem_cons_zero, List.getElem_cons_succ, List.setIfInBounds_toArray, List.set_cons_zero, List.set_cons_succ]
  refine wpM_take (fun w => But.refl [] w) (fun x y z h k => h.trans k) (i := 3) (v := .int .i64 er) rfl (by kernel_rfl) (by kernel_rfl) (by kernel_rfl) (fun _ _ _ h => h) (.inl ⟨?_, fun w hS => .inr ⟨_, _, ?_, (HE.out w).mono ?_⟩⟩) ?_
  · go_simp
  · go_simp
  · rintro e wy ⟨rfl, hB⟩; exact ⟨rfl, hS.but hB, hB⟩
  refine wpM_take (fun w => But.refl [] w) (fun x y z h k => h.trans k) (i := 4) (v := .bool true) rfl (by kernel_rfl) (by kernel_rfl) (by kernel_rfl) (fun _ _ _ h => h) (YieldsR.read (fun w => But.refl [] w) ?_ fun w hS => ?_) ?_
  · go_simp
  · go_simp
  dsimp only [Act.put, List.getElem_toArray, List.getElem_cons_zero, List.getElem_cons_succ, List.setIfInBounds_toArray, List.set_cons_zero, List.set_cons_succ]
  refine wpM_take (fun w => But.refl [] w) (fun x y z h k => h.trans k) (i := 5) (v := .bool true) rfl (by kernel_rfl) (by kernel_rfl) (by kernel_rfl) (fun _ _ _ h => h) (YieldsR.read (fun w => But.refl [] w) ?_ fun w hS => ?_) ?_
  · go_simp
  · go_simp
  dsimp only [Act.put, List.getElem_toArray, List.getElem_cons_zero, List.getElem_cons_succ, List.setIfInBounds_toArray, List.set_cons_zero, List.set_cons_succ]
  refine wpM_take (fun w => But.refl [] w) (fun x y z h k => h.trans k) (i := 6) (v := .int .i64 k) rfl (by kernel_rfl) (by kernel_rfl) (by kernel_rfl) (fun _ _ _ h => h) (YieldsR.read (fun w => But.refl [] w) ?_ fun w hS => ?_) ?_
  · go_simp
  · go_simp
  dsimp only [Act.put, List.getElem_toArray, List.getElem_cons_zero, List.getElem_cons_succ, List.setIfInBounds_toArray, List.set_cons_zero, List.set_cons_succ]
  refine wpM_take (fun w => But.refl [] w) (fun x y z h k => h.trans k) (i := 7) (v := .int .i64 sm) rfl (by kernel_rfl) (by kernel_rfl) (by kernel_rfl) (fun _ _ _ h => h) (.inl ⟨?_, fun w hS => .inr ⟨_, _, ?_, (HQ.out w).mono ?_⟩⟩) ?_
  · go_simp
  · go_simp
  · rintro e wy ⟨rfl, rfl⟩; exact ⟨rfl, hS, But.refl [] _⟩
  refine wpM_take (fun w => But.refl [] w) (fun x y z h k => h.trans k) (i := 8) (v := .int .i64 k) rfl (by kernel_rfl) (by kernel_rfl) (by kernel_rfl) (fun _ _ _ h => h) (YieldsR.read (fun w => But.refl [] w) ?_ fun w hS => ?_) ?_
  · go_simp
  · go_simp
  dsimp only [Act.put, List.getElem_toArray, List.getElem_cons_zero, List.getElem_cons_succ, List.setIfInBounds_toArray, List.set_cons_zero, List.set_cons_succ]
  refine wpM_take (fun w => But.refl [] w) (fun x y z h k => h.trans k) (i := 9) (v := .int .i64 sm) rfl (by kernel_rfl) (by kernel_rfl) (by kernel_rfl) (fun _ _ _ h => h) (.inl ⟨?_, fun w hS => .inr ⟨_, _, ?_, (HF.out w).mono ?_⟩⟩) ?_
  · go_simp
  · go_simp
  · rintro e wy ⟨rfl, rfl⟩; exact ⟨rfl, hS, But.refl [] _⟩
  refine wpM_take (fun w => But.refl [] w) (fun x y z h k => h.trans k) (i := 10) (v := .bool true) rfl (by kernel_rfl) (by kernel_rfl) (by kernel_rfl) (fun _ _ _ h => h) (YieldsR.read (fun w => But.refl [] w) ?_ fun w hS => ?_) ?_
  · go_simp
  · go_simp
  dsimp only [Act.put, List.getElem_toArray, List.getElem_cons_zero, List.getElem_cons_succ, List.setIfInBounds_toArray, List.set_cons_zero, List.set_cons_succ]
  refine wpM_take (fun w => But.refl [] w) (fun x y z h k => h.trans k) (i := 11) (v := .bool true) rfl (by kernel_rfl) (by kernel_rfl) (by kernel_rfl) (fun _ _ _ h => h) (YieldsR.read (fun w => But.refl [] w) ?_ fun w hS => ?_) ?_
  · go_simp
  · go_simp
  dsimp only [Act.put, List.getElem_toArray, List.getElem_cons_zero, List.getElem_cons_succ, List.setIfInBounds_toArray, List.set_cons_zero, List.set_cons_succ]
  refine wpM_take (fun w => But.refl [] w) (fun x y z h k => h.trans k) (i := 12) (v := .bool true) rfl (by kernel_rfl) (by kernel_rfl) (by kernel_rfl) (fun _ _ _ h => h) (YieldsR.read (fun w => But.refl [] w) ?_ fun w hS => ?_) ?_
  · go_simp
  · go_simp
  dsimp only [Act.put, List.getElem_toArray, List.getElem_cons_zero, List.getElem_cons_succ, List.setIfInBounds_toArray, List.set_cons_zero, List.set_cons_succ]
  refine wpM_take (fun w => But.refl [] w) (fun x y z h k => h.trans k) (i := 13) (v := .bool true) rfl (by kernel_rfl) (by kernel_rfl) (by kernel_rfl) (fun _ _ _ h => h) (.inl ⟨?_, fun w hS => .inr ⟨_, _, ?_, (HA.out.use w).mono ?_⟩⟩) ?_
  · go_simp
  · go_simp
  · rintro e wy ⟨rfl, hB⟩; exact ⟨rfl, hS.but hB, hB⟩
  refine wpM_take (fun w => But.refl [] w) (fun x y z h k => h.trans k) (i := 14) (v := .bool true) rfl (by kernel_rfl) (by kernel_rfl) (by kernel_rfl) (fun _ _ _ h => h) (YieldsR.read (fun w => But.refl [] w) ?_ fun w hS => ?_) ?_
  · go_simp
  · go_simp
  dsimp only [Act.put, List.getElem_toArray, List.getElem_cons_zero, List.getElem_cons_succ, List.setIfInBounds_toArray, List.set_cons_zero, List.set_cons_succ]
  refine wpM_take (fun w => But.refl [] w) (fun x y z h k => h.trans k) (i := 15) (v := .bool true) rfl (by kernel_rfl) (by kernel_rfl) (by kernel_rfl) (fun _ _ _ h => h) (YieldsR.read (fun w => But.refl [] w) ?_ fun w hS => ?_) ?_
  · go_simp
  · go_simp
  dsimp only [Act.put, List.getElem_toArray, List.getElem_cons_zero, List.getElem_cons_succ, List.setIfInBounds_toArray, List.set_cons_zero, List.set_cons_succ]
  refine ⟨by kernel_rfl, fun w9 hR9 hS9 => ?_⟩
  clear hR9
  have HS9 := Lib.hid hS9
  clear hS9 HS0
  go_simp
  go_wp2
  go_ret
  exact ⟨rfl, HS9.out.2.belowC⟩
attribute [local irreducible] strL
set_option maxHeartbeats 4000000 in
theorem headLays_walk (haw : Awk) {a b d c l : Int} {w : World} :
    Calls Try.prog 4 #[.agg #[.int .i64 a, .int .i64 b, .int .i64 d, .int .i64 c, .int .i64 l]] w fun e w' => e = .returned (.bool true) ∧ Below w.heap.size w w' := by
  have hP := fun v => play_head v a b d c l
  have hE := fun v => elay_any v a b d c l
  unfold ckVal at hP hE
  obtain ⟨x, hx⟩ : ∃ x, x = strL (layI a b d c l).1 := ⟨_, rfl⟩
  obtain ⟨y, hy⟩ : ∃ x, x = strL (layI a b d c l).2 := ⟨_, rfl⟩
  simp only [← hx, ← hy] at hP hE
  have HA := Lib.hid haw
  have HP := Lib.hid hP
  have HE := Lib.hid hE
  have HS0 : Hid (HdS w w.heap.size a b d c l (w.alloc (.cells #[.int .i64 a, .int .i64 b, .int .i64 d, .int .i64 c, .int .i64 l] 23))) := Lib.hid ⟨Is.fresh _ _ _, (But.refl [] w).alloc _⟩
  clear haw hP hE hx hy
  go_enter Try.func4, Try.ntmps4
  go_upto_region 1 with (fail)
  refine wp_region_m (S := HdS w w.heap.size a b d c l) (R := fun v v' => But [] v v') (fun w => But.refl [] w) (by kernel_rfl) (HS0.out.but ((But.refl [] _).drew)) ?_
  refine wpM_take (fun w => But.refl [] w) (fun x y z h k => h.trans k) (i := 0) (v := .agg #[.int .i64 a, .int .i64 b, .int .i64 d, .int .i64 c, .int .i64 l]) rfl (by kernel_rfl) (by kernel_rfl) (by kernel_rfl) (fun _ _ _ h => h) (YieldsR.read (fun w => But.refl [] w) ?_ fun w hS => ?_) ?_
  · go_simp
  · have c0 := hS.1.cell 0; have c1 := hS.1.cell 1; have c2 := hS.1.cell 2; have c3 := hS.1.cell 3; have c4 := hS.1.cell 4; go_simp
  dsimp only [Act.put, List.getElem_toArray, List.getElem_cons_zero, List.getElem_cons_succ, List.setIfInBounds_toArray, List.set_cons_zero, List.set_cons_succ]
  refine wpM_take (fun w => But.refl [] w) (fun x y z h k => h.trans k) (i := 1) (v := .agg #[.string x, .string y]) rfl (by kernel_rfl) (by kernel_rfl) (by kernel_rfl) (fun _ _ _ h => h) (.inl ⟨?_, fun w hS => .inr ⟨_, _, ?_, (HP.out w).mono ?_⟩⟩) ?_
  · go_simp
  · go_simp
  · rintro e wy ⟨rfl, hB⟩; exact ⟨rfl, hS.but hB, hB⟩
  refine wpM_take (fun w => But.refl [] w) (fun x y z h k => h.trans k) (i := 2) (v := .agg #[.int .i64 a, .int .i64 b, .int .i64 d, .int .i64 c, .int .i64 l]) rfl (by kernel_rfl) (by kernel_rfl) (by kernel_rfl) (fun _ _ _ h => h) (YieldsR.read (fun w => But.refl [] w) ?_ fun w hS => ?_) ?_
  · go_simp
  · have c0 := hS.1.cell 0; have c1 := hS.1.cell 1; have c2 := hS.1.cell 2; have c3 := hS.1.cell 3; have c4 := hS.1.cell 4; go_simp
  dsimp only [Act.put, List.getElem_toArray, List.getElem_cons_zero, List.getElem_cons_succ, List.setIfInBounds_toArray, List.set_cons_zero, List.set_cons_succ]
  refine wpM_take (fun w => But.refl [] w) (fun x y z h k => h.trans k) (i := 3) (v := .agg #[.string x, .string y]) rfl (by kernel_rfl) (by kernel_rfl) (by kernel_rfl) (fun _ _ _ h => h) (.inl ⟨?_, fun w hS => .inr ⟨_, _, ?_, (HE.out w).mono ?_⟩⟩) ?_
  · go_simp
  · go_simp
  · rintro e wy ⟨rfl, hB⟩; exact ⟨rfl, hS.but hB, hB⟩
  refine wpM_take (fun w => But.refl [] w) (fun x y z h k => h.trans k) (i := 4) (v := .bool true) rfl (by kernel_rfl) (by kernel_rfl) (by kernel_rfl) (fun _ _ _ h => h) (YieldsR.read (fun w => But.refl [] w) ?_ fun w hS => ?_) ?_
  · go_simp
  · go_simp
  dsimp only [Act.put, List.getElem_toArray, List.getElem_cons_zero, List.getElem_cons_succ, List.setIfInBounds_toArray, List.set_cons_zero, List.set_cons_succ]
  refine wpM_take (fun w => But.refl [] w) (fun x y z h k => h.trans k) (i := 5) (v := .bool true) rfl (by kernel_rfl) (by kernel_rfl) (by kernel_rfl) (fun _ _ _ h => h) (YieldsR.read (fun w => But.refl [] w) ?_ fun w hS => ?_) ?_
  · go_simp
  · go_simp
  dsimp only [Act.put, List.getElem_toArray, List.getElem_cons_zero, List.getElem_cons_succ, List.setIfInBounds_toArray, List.set_cons_zero, List.set_cons_succ]
  refine wpM_take (fun w => But.refl [] w) (fun x y z h k => h.trans k) (i := 6) (v := .bool true) rfl (by kernel_rfl) (by kernel_rfl) (by kernel_rfl) (fun _ _ _ h => h) (.inl ⟨?_, fun w hS => .inr ⟨_, _, ?_, (HA.out.use w).mono ?_⟩⟩) ?_
  · go_simp
  · go_simp
  · rintro e wy ⟨rfl, hB⟩; exact ⟨rfl, hS.but hB, hB⟩
  refine wpM_take (fun w => But.refl [] w) (fun x y z h k => h.trans k) (i := 7) (v := .bool true) rfl (by kernel_rfl) (by kernel_rfl) (by kernel_rfl) (fun _ _ _ h => h) (YieldsR.read (fun w => But.refl [] w) ?_ fun w hS => ?_) ?_
  · go_simp
  · go_simp
  dsimp only [Act.put, List.getElem_toArray, List.getElem_cons_zero, List.getElem_cons_succ, List.setIfInBounds_toArray, List.set_cons_zero, List.set_cons_succ]
  refine wpM_take (fun w => But.refl [] w) (fun x y z h k => h.trans k) (i := 8) (v := .bool true) rfl (by kernel_rfl) (by kernel_rfl) (by kernel_rfl) (fun _ _ _ h => h) (YieldsR.read (fun w => But.refl [] w) ?_ fun w hS => ?_) ?_
  · go_simp
  · go_simp
  dsimp only [Act.put, List.getElem_toArray, List.getElem_cons_zero, List.getElem_cons_succ, List.setIfInBounds_toArray, List.set_cons_zero, List.set_cons_succ]
  refine ⟨by kernel_rfl, fun w9 hR9 hS9 => ?_⟩
  clear hR9
  have HS9 := Lib.hid hS9
  clear hS9 HS0
  go_simp
  go_wp2
  go_ret
  exact ⟨rfl, HS9.out.2.belowC⟩
end Go.Proofs.Ytedffeimcccobaa
/- A head that is handed in; strings that are handed in. -/
namespace Go.Proofs.Ytedffeimcccobaa
open Go Go.RowKit Go.ChangeShapes Go.WideShapes
theorem cells_intH : Try.prog.cellsOf 3 = 1 := by kernel_rfl
theorem cells_head : Try.prog.cellsOf 23 = 5 := by kernel_rfl
/-- A head that is handed in: five numbers. -/
theorem open_head {H : Type} {enc : TypeId × Value → H} {W : World} {base : Nat} {v : Value} {d : DataW H} {p : List MemPlace} (hv : Value.okWide Try.prog W .any base 23 v)
    (hk : DataW.Trod enc Try.prog W 0 (fun _ => true) true 23 v d p) {ts : List TypeId} {ds : List (DataW H)} (_hsz : (DataW.weightsEach Try.prog ts ds).all (· ≤ reachBytes) = true) {j : Nat} (_ht : ts[j]? = some 23) (_hd : ds[j]? = some d) :
    ∃ a b e c l : Int, v = .agg #[.int .i64 a, .int .i64 b, .int .i64 e, .int .i64 c, .int .i64 l] ∧ ((Lit.int .i64 a).wf = true ∧ (Lit.int .i64 b).wf = true ∧ (Lit.int .i64 e).wf = true ∧ (Lit.int .i64 c).wf = true ∧ (Lit.int .i64 l).wf = true) := by
  obtain ⟨cs, rfl, hcs⟩ := okWide_struct Try.underlying23 hv
  obtain ⟨fuel, hf⟩ := hk
  obtain ⟨ys, n', _, _, hcl, hyl, hfs⟩ := DataW.trod_struct Try.underlying23 hf
  rw [cells_head] at hcl
  obtain ⟨xs, hxs⟩ : ∃ xs, xs = (Value.agg cs).cells.toList := ⟨_, rfl⟩
  rw [← hxs] at hcl hfs
  match xs, hcl with
  | [x0, x1, x2, x3, x4], _ =>
    have g0 := hfs 0 _ rfl
    have g1 := hfs 1 _ rfl
    have g2 := hfs 2 _ rfl
    have g3 := hfs 3 _ rfl
    have g4 := hfs 4 _ rfl
    have hy : ys.length = 5 := hyl
    match ys, hy with
    | [y0, y1, y2, y3, y4], _ =>
      obtain ⟨q0, c0, _, w0⟩ := DataW.trod_int Try.underlying3 (x := y0) g0
      obtain ⟨q1, c1, _, w1⟩ := DataW.trod_int Try.underlying3 (x := y1) g1
      obtain ⟨q2, c2, _, w2⟩ := DataW.trod_int Try.underlying3 (x := y2) g2
      obtain ⟨q3, c3, _, w3⟩ := DataW.trod_int Try.underlying3 (x := y3) g3
      obtain ⟨q4, c4, _, w4⟩ := DataW.trod_int Try.underlying3 (x := y4) g4
      have c0 : ([x0, x1, x2, x3, x4].drop 0).take (Try.prog.cellsOf 3) = [.int .i64 q0] := c0
      have c1 : ([x0, x1, x2, x3, x4].drop 1).take (Try.prog.cellsOf 3) = [.int .i64 q1] := c1
      have c2 : ([x0, x1, x2, x3, x4].drop 2).take (Try.prog.cellsOf 3) = [.int .i64 q2] := c2
      have c3 : ([x0, x1, x2, x3, x4].drop 3).take (Try.prog.cellsOf 3) = [.int .i64 q3] := c3
      have c4 : ([x0, x1, x2, x3, x4].drop 4).take (Try.prog.cellsOf 3) = [.int .i64 q4] := c4
      rw [cells_intH] at c0 c1 c2 c3 c4
      have e0 : x0 = .int .i64 q0 := by simpa using c0
      have e1 : x1 = .int .i64 q1 := by simpa using c1
      have e2 : x2 = .int .i64 q2 := by simpa using c2
      have e3 : x3 = .int .i64 q3 := by simpa using c3
      have e4 : x4 = .int .i64 q4 := by simpa using c4
      refine ⟨q0, q1, q2, q3, q4, ?_, w0, w1, w2, w3, w4⟩
      obtain ⟨l⟩ := cs
      simp only [Value.cells] at hxs
      have e : l = [x0, x1, x2, x3, x4] := by simpa using hxs.symm
      rw [e, e0, e1, e2, e3, e4]
/-- The strings that a slice holds. -/
def Sts (w : World) (A : Option Addr) (n : Nat) (L : List ByteArray) : Prop := L.length = n ∧ (0 < n → ∃ g o, A = some ⟨g, o, none⟩ ∧ g < w.heap.size ∧ ∀ i (hi : i < L.length), w.cell? ⟨g, o + i, none⟩ = some (.string L[i]))
theorem Sts.at {w : World} {A : Option Addr} {n : Nat} {L : List ByteArray} (h : Sts w A n L) {i : Nat} (hi : i < n) :
    ∃ g o c, A = some ⟨g, o, none⟩ ∧ g < w.heap.size ∧ w.cell? ⟨g, o + i, none⟩ = some (.string c) ∧ L[i]? = some c := by
  obtain ⟨g, o, e, hg, hc⟩ := h.2 (by omega)
  have hl : i < L.length := by have := h.1; omega
  exact ⟨g, o, _, e, hg, hc i hl, List.getElem?_eq_getElem hl⟩
/-- A slice of strings that is handed in. -/
def StsArg (w : World) (A : Option Addr) (len : Nat) (L : List ByteArray) : Prop := Sts w A len L ∧ ∀ (i : Nat) (c : ByteArray), L[i]? = some c → c.size ≤ 140737488351232
theorem weights_str {H : Type} {a : List UInt8} : (DataW.lit (.string a) : DataW H).weights Try.prog 9 = [a.length] := by
  simp only [DataW.weights]
theorem open_strs {H : Type} {enc : TypeId × Value → H} {W : World} {base : Nat} {v : Value} {d : DataW H} {p : List MemPlace} (hv : Value.okWide Try.prog W .any base 40 v)
    (hk : DataW.Trod enc Try.prog W 0 (fun _ => true) true 40 v d p) {ts : List TypeId} {ds : List (DataW H)} (hsz : (DataW.weightsEach Try.prog ts ds).all (· ≤ reachBytes) = true) {j : Nat} (ht : ts[j]? = some 40) (hd : ds[j]? = some d) :
    ∃ A len cap L, v = .slice A len cap ∧ StsArg W A len L ∧ len * 16 ≤ 140737488351232 := by
  obtain ⟨a0, len, cap, rfl⟩ := okWide_slice Try.underlying40 hv
  obtain ⟨fuel, hf⟩ := hk
  rcases Deep.open_slice Try.underlying40 hf with ⟨hcs, _⟩ | ⟨a, len', cap', m, n, D, Pl, hcs, hb, hl, hm, hmm, hx, hi⟩
  · simp [Value.cells] at hcs
    obtain ⟨rfl, rfl, rfl⟩ := hcs
    exact ⟨none, 0, 0, [], rfl, ⟨⟨rfl, fun h => absurd h (by omega)⟩, fun i c h => by simp at h⟩, by omega⟩
  · simp [Value.cells] at hcs
    obtain ⟨rfl, rfl, rfl⟩ := hcs
    have hmc : m = cap := by simpa using hmm
    rw [cells_str] at hi
    have hr : reachBytes = 140737488351232 := rfl
    have hde : d = .slice ((List.range len).map D) ((List.range (m - len)).map fun j => D (len + j)) := (Prod.mk.inj hx).1
    have hbound : len * 16 ≤ 140737488351232 := by
      have h := sized_slice hsz (e := 9) ht (by rw [hd, hde]) Try.underlying40
      have hb8 : Try.prog.bytesOf 9 = 16 := by kernel_rfl
      rw [hb8, hr] at h
      simp only [List.length_map, List.length_range] at h
      omega
    have hel : ∀ i, i < len → ∃ q : ByteArray, W.cell? (a.add (i * 1 + 0)) = some (.string q) ∧ q.size ≤ 140737488351232 := by
      intro i hil
      obtain ⟨cs', h1, h2⟩ := hi i (by omega)
      obtain ⟨_, hlen, hat⟩ := World.cells?_some h1
      obtain ⟨x, rfl, hD, _⟩ := DataW.trod_string Try.underlying9 h2
      have hD : D i = .lit (.string x.data.toList) := (Prod.mk.inj hD).1
      have hw : x.data.toList.length ≤ reachBytes := by
        have hmem : D i ∈ (List.range len).map D := List.mem_map.2 ⟨i, List.mem_range.2 hil, rfl⟩
        have h1 := weightsAll_mem (P := Try.prog) (e := 9) hmem x.data.toList.length (by rw [hD, weights_str]; exact List.mem_singleton.2 rfl)
        have h2 : x.data.toList.length ∈ d.weights Try.prog 40 := by
          rw [hde]
          simp only [DataW.weights, Try.underlying40, List.mem_cons, List.mem_append]
          exact Or.inr (Or.inl h1)
        have h3 := List.all_eq_true.1 hsz _ (DataW.weights_mem_each ht hd _ h2)
        simpa using h3
      rw [← Deep.add_add]
      refine ⟨x, by rw [hat 0 (by omega)]; rfl, ?_⟩
      rw [hr, Array.length_toList] at hw; exact hw
    obtain ⟨V, hV⟩ := Deep.choose_lt hel
    refine ⟨some a, len, cap, (List.range len).map V, rfl, ⟨⟨by simp, fun hp => ?_⟩, fun i c h => ?_⟩, hbound⟩
    · obtain ⟨g, o, spot⟩ := a
      have hs : spot = none := by
        have := World.cell?_spot (hV 0 hp).1
        simpa [Addr.add] using this
      subst hs
      have hlt : g < W.heap.size := by
        have := World.block_lt_of_cell? W _ (hV 0 hp).1
        simpa [Addr.add] using this
      refine ⟨g, o, rfl, hlt, fun i hi => ?_⟩
      have hi' : i < len := by simpa using hi
      obtain ⟨c0, _⟩ := hV i hi'
      rw [add_plain] at c0
      simp only [List.getElem_map, List.getElem_range]
      rw [show o + (i * 1 + 0) = o + i by omega] at c0
      exact c0
    · have hil : i < len := by
        have := (List.getElem?_eq_some_iff.1 h).1
        simpa using this
      rw [List.getElem?_map, List.getElem?_range hil] at h
      have e : V i = c := by simpa using h
      rw [← e]
      exact (hV i hil).2
theorem Sts.but {w w' : World} {A : Option Addr} {n : Nat} {L : List ByteArray} (h : Sts w A n L) (hw : But [] w w') : Sts w' A n L := by
  refine ⟨h.1, fun hp => ?_⟩
  obtain ⟨g, o, e, hg, hc⟩ := h.2 hp
  exact ⟨g, o, e, Nat.lt_of_lt_of_le hg hw.size, fun i hi => hw.cell (hc i hi) (by simp)⟩
end Go.Proofs.Ytedffeimcccobaa
/- The walk of the statement on what chunks say of an image. -/
namespace Go.Proofs.Ytedffeimcccobaa
open Go Go.RowKit
theorem own_madeH (w : World) : (w.alloc (.cells #[] 30)).ownsRow w.heap.size 30 2 (.slice (some ⟨w.heap.size, 0, none⟩) 0 0) 0 [] :=
  ⟨rfl, .inr ⟨w.heap.size, 0, #[], rfl, Nat.le_refl _, Is.fresh w 30 #[], Nat.le_refl _, Nat.zero_le _, rfl, rfl⟩⟩
theorem fewE_is {L : List Ck} : fewE L = true ↔ sizeE L ≤ 100000 := by unfold fewE; exact decide_eq_true_iff
/-- Both shapes that are told, the chunks, and their copy. -/
def RdT (w : World) (A A' : Option Addr) (n : Nat) (L : List Ck) (g1 g2 : Nat) (cs : Array Value) (v : World) : Prop := Cks v A n L ∧ Cks v A' n L ∧ Is v g1 36 cs ∧ Is v g2 36 cs ∧ But [] w v
theorem RdT.but {w v v' : World} {A A' : Option Addr} {n : Nat} {L : List Ck} {g1 g2 : Nat} {cs : Array Value} (h : RdT w A A' n L g1 g2 cs v) (k : But [] v v') : RdT w A A' n L g1 g2 cs v' :=
  ⟨h.1.but k, h.2.1.but k, h.2.2.1.but k (by simp), h.2.2.2.1.but k (by simp), h.2.2.2.2.trans k⟩
attribute [local irreducible] strL
set_option maxHeartbeats 2000000 in
theorem headReads_walk (haw : Awk) {A : Option Addr} {len cap : Nat} {L : List Ck} {w : World} (hl : CkArg w A len cap L) :
    Calls Try.prog 5 #[.slice A len cap] w fun e w' => e = .returned (.bool true) ∧ Below w.heap.size w w' := by
  obtain ⟨hT, hlc, hcm, hnil, hsz⟩ := hl
  have HA := Lib.hid haw
  have hfw := pfew_any w (cap := cap) hT (by omega) (fun i c h => (hsz i c h).2)
  by_cases hbig : fewE L = false
  · rw [hbig] at hfw
    have HF := Lib.hid hfw
    clear hT hnil hfw hsz hbig haw
    go_enter Try.func5, Try.ntmps5
    go_wp2_with fail
    refine HF.out.mono ?_
    rintro e w0 ⟨rfl, rfl⟩
    go_wp2_with fail
    refine (HA.out.use _).mono ?_
    rintro e w1 ⟨rfl, hB1⟩
    have HB1 := Lib.hid hB1
    clear hB1
    go_wp2
    go_ret
    exact ⟨rfl, HB1.out.belowC⟩
  · have hfew : fewE L = true := by simpa using hbig
    have hsc := fewE_is.1 hfew
    have hsd := sizeE_data L
    have hLL := hT.1
    have hlen : len ≤ 10000 := by omega
    rw [hfew] at hfw
    have HF := Lib.hid hfw
    obtain ⟨i0, hi0, hz0, hz1, hz2⟩ := info_parts info_ck
    have HLEN := Lib.hid hLL
    have HD := Lib.hid (show dataC L ≤ 100000000 by omega)
    have HNIL := Lib.hid hnil
    have HT := Lib.hid hT
    have HTY := Lib.hid (show ∀ (i : Nat) (k : Ck), L[i]? = some k → k.1.length ≤ 140737488351232 from fun i k h => (hsz i k h).1)
    clear hnil hT hfw hsz hbig hfew hsc hLL hsd haw
    go_enter Try.func5, Try.ntmps5
    go_wp2_with fail
    refine HF.out.mono ?_
    rintro e w0 ⟨rfl, rfl⟩
    have HMADE := Lib.hid (own_madeH w)
    go_upto_region 3 with (fail)
    go_cut [3] from 15 to 17 (fun v w1 => ∃ A' c', v = .slice A' len c' ∧ len ≤ c' ∧ Cks w1 A' len L ∧ But [] w w1)
    case first =>
      by_cases h0 : len = 0
      · subst h0
        have HL0 := Lib.hid (show L = [] from List.eq_nil_of_length_eq_zero HLEN.out)
        go_wp2_with (at_builtin; refine wpList_append_fits_any _ rfl _ _ 33 rfl w.heap.size 30 i0 2 Try.underlying33 hi0 hz1 w.heap.size 0 0 [] rfl HMADE.out A 0 cap [] rfl rfl (fun e => ⟨rfl, HNIL.out e⟩) (fun ad _ j u hu => by simp at hu) (by simp) (by omega) ?_; intro w1 hown hgrow)
        go_meet
        refine ⟨some ⟨w.heap.size, 0, none⟩, 0, rfl, Nat.le_refl _, ?_, ((But.refl [] w).alloc _).grown hgrow (fun g e => by injection e with e; subst e; exact .inr (Nat.le_refl _))⟩
        rw [HL0.out]; exact Cks.nil _ _
      · obtain ⟨g, o, _, rfl, hg, _, _, _⟩ := HT.out.at (show 0 < len by omega)
        have HNW := Lib.hid ((HT.out.but ((But.refl [] w).alloc (.cells #[] 30))).news (by omega))
        go_wp2_with (at_builtin; refine wpList_append_own _ rfl _ _ 33 rfl w.heap.size 30 i0 (.agg #[.string ByteArray.empty, .string ByteArray.empty]) 2 32 Try.underlying33 hi0 hz0 hz1 hz2 rfl (by decide) _ 0 [] rfl HMADE.out ⟨g, o, none⟩ len cap (ckCells L) rfl (by rw [length_ckCells, HLEN.out]) HNW.out ?c2 ?c3 ?c4 ?c5 ?_)
        case c2 =>
          intro u hu
          unfold ckCells at hu
          obtain ⟨x, _, hx⟩ := List.mem_flatMap.1 hu
          simp at hx
          rcases hx with rfl | rfl <;> rfl
        case c3 => unfold maxLen; omega
        case c4 => omega
        case c5 => simp
        intro v' w1 hown hgrow _
        obtain ⟨g4, c4, rfl, hc4⟩ : ∃ g4 c4, v' = .slice (some ⟨g4, 0, none⟩) len c4 ∧ len ≤ c4 := by
          rcases hown.2 with ⟨_, e⟩ | ⟨g4, c4, cur, e, _, _, hle, _⟩
          · omega
          · exact ⟨g4, c4, by simpa using e, by omega⟩
        have hO : OwnC w1 w.heap.size (.slice (some ⟨g4, 0, none⟩) len c4) L := by
          unfold OwnC
          rw [HLEN.out]
          simpa using hown
        obtain ⟨A5, c5, e5, hK5⟩ := hO.open
        injection e5 with e3 e4 e6
        rw [← e3, HLEN.out] at hK5
        have HK5 := Lib.hid hK5
        have HGR := Lib.hid hgrow
        clear hown hgrow hO hK5 e3 e4 e6
        go_wp2
        go_meet
        exact ⟨some ⟨g4, 0, none⟩, c4, rfl, hc4, HK5.out, ((But.refl [] w).alloc _).grown HGR.out (fun g e => by
          have : w.heap.size = g := by simpa [Value.ownBlock] using e
          exact .inr (by omega))⟩
    case rest =>
      obtain ⟨A', c', rfl, hc', hO, hB⟩ := hcut
      obtain ⟨w1, rfl⟩ : ∃ w1 : World, w1 = wc := ⟨_, rfl⟩
      have HB := Lib.hid hB
      have HTO := Lib.hid hO
      have HTL := Lib.hid (HT.out.but hB)
      clear hB hO HMADE HNIL HT
      have hE := fun v h => pread_any v (A := A') (n := len) (cap := c') (L := L) h hc' HD.out (by omega) HTY.out
      have hF := fun v h => eread_any v (A := A) (n := len) (cap := cap) (L := L) h HD.out (by omega)
      unfold GotH shapeV at hE hF
      obtain ⟨R, hR⟩ : ∃ R, R = readT L := ⟨_, rfl⟩
      simp only [← hR] at hE hF
      obtain ⟨x0, h0⟩ : ∃ x, x = R.1.getD 0 0 := ⟨_, rfl⟩
      obtain ⟨x1, h1⟩ : ∃ x, x = R.1.getD 1 0 := ⟨_, rfl⟩
      obtain ⟨x2, h2⟩ : ∃ x, x = R.1.getD 2 0 := ⟨_, rfl⟩
      obtain ⟨x3, h3⟩ : ∃ x, x = R.1.getD 3 0 := ⟨_, rfl⟩
      obtain ⟨x4, h4⟩ : ∃ x, x = R.1.getD 4 0 := ⟨_, rfl⟩
      obtain ⟨x5, h5⟩ : ∃ x, x = strL R.2.1.P := ⟨_, rfl⟩
      obtain ⟨x6, h6⟩ : ∃ x, x = strL R.2.1.T := ⟨_, rfl⟩
      obtain ⟨x7, h7⟩ : ∃ x, x = R.2.1.trans := ⟨_, rfl⟩
      obtain ⟨xd, hd⟩ : ∃ x, x = strL R.2.1.D := ⟨_, rfl⟩
      obtain ⟨xe, he⟩ : ∃ x, x = R.2.2 := ⟨_, rfl⟩
      simp only [← h0, ← h1, ← h2, ← h3, ← h4, ← h5, ← h6, ← h7, ← hd, ← he] at hE hF
      have HE := Lib.hid hE
      have HF2 := Lib.hid hF
      clear hE hF hR h0 h1 h2 h3 h4 h5 h6 h7 hd he HD HTY HF
      go_wp2_with fail
      refine (HE.out w1 HTO.out).mono ?_
      rintro e w2 ⟨rfl, hB⟩
      have hB1 := hB.alloc (.cells #[.int .i64 x0, .int .i64 x1, .int .i64 x2, .int .i64 x3, .int .i64 x4, .string x5, .string x6, .bool x7] 36)
      have HI2 := Lib.hid (Is.fresh w2 36 #[.int .i64 x0, .int .i64 x1, .int .i64 x2, .int .i64 x3, .int .i64 x4, .string x5, .string x6, .bool x7])
      have HB2 := Lib.hid (HB.out.trans hB1)
      have HTO2 := Lib.hid (HTO.out.but hB1)
      have HTL2 := Lib.hid (HTL.out.but hB1)
      clear hB hB1 HE HTO HTL
      go_wp2_with fail
      refine (HF2.out _ HTL2.out).mono ?_
      rintro e w3 ⟨rfl, hB⟩
      have hB1 := hB.alloc (.cells #[.int .i64 x0, .int .i64 x1, .int .i64 x2, .int .i64 x3, .int .i64 x4, .string x5, .string x6, .bool x7] 36)
      have HS := Lib.hid (show RdT w A A' len L w2.heap.size w3.heap.size #[.int .i64 x0, .int .i64 x1, .int .i64 x2, .int .i64 x3, .int .i64 x4, .string x5, .string x6, .bool x7] (w3.alloc (.cells #[.int .i64 x0, .int .i64 x1, .int .i64 x2, .int .i64 x3, .int .i64 x4, .string x5, .string x6, .bool x7] 36)) from ⟨HTL2.out.but hB1, HTO2.out.but hB1, HI2.out.but hB1 (by simp), Is.fresh _ _ _, HB2.out.trans hB1⟩)
      clear hB hB1 HF2 HTO2 HTL2 HB2 HI2
      go_wp2
      obtain ⟨w4, hw4⟩ : ∃ x, x = w3.alloc (.cells #[.int .i64 x0, .int .i64 x1, .int .i64 x2, .int .i64 x3, .int .i64 x4, .string x5, .string x6, .bool x7] 36) := ⟨_, rfl⟩
      obtain ⟨g1, hg1⟩ : ∃ x, x = w2.heap.size := ⟨_, rfl⟩
      obtain ⟨g2, hg2⟩ : ∃ x, x = w3.heap.size := ⟨_, rfl⟩
      rw [← hw4, ← hg1, ← hg2] at HS
      rw [← hw4, ← hg1, ← hg2]
      clear hw4 hg1 hg2
      go_loopw [10] (fun iv wr => ∃ i q : Nat, i ≤ len ∧ iv = .int .i64 i ∧ wr = w4.drewN q) (fun iv _ => len - (intOf iv).toNat)
      case atStart => exact ⟨0, 0, Nat.zero_le _, rfl, rfl⟩
      case round =>
        obtain ⟨i, q, hi, rfl, rfl⟩ := hrel
        by_cases hlt : i < len
        · obtain ⟨gg1, o1, a, rfl, hg1, a0, a1, ha⟩ := HS.out.1.at hlt
          obtain ⟨gg2, o2, b, rfl, hg2, b0, b1, hb⟩ := HS.out.2.1.at hlt
          obtain rfl : a = b := Option.some.inj (ha.symm.trans hb)
          have k0 : (0 : Int) ≤ (i : Int) := by omega
          have k1 : (i : Int) < (len : Int) := by omega
          have hneq : ∀ W, (binOp .neq 30 (.agg #[.string (strL a.1), .string (strL a.2)]) (.agg #[.string (strL a.1), .string (strL a.2)])).run Try.prog W = .ok (.bool false) W := fun W => by rw [ck_neq, decide_eq_true ⟨rfl, rfl⟩]; rfl
          clear ha hb hg1 hg2
          go_wp2
          go_quiet (fail)
          go_wp2
          go_roundw
          case rel => exact ⟨i + 1, q + nq, by omega, by go_num, rfl⟩
          case measure => simp [intOf]; omega
        · obtain rfl : i = len := by omega
          have hS := HS.out.but ((But.refl [] w4).drewN q)
          have i1 := hS.2.2.1
          have i2 := hS.2.2.2.1
          have p0 := i1.cell 0
          have p1 := i1.cell 1
          have p2 := i1.cell 2
          have p3 := i1.cell 3
          have p4 := i1.cell 4
          have p5 := i1.cell 5
          have p6 := i1.cell 6
          have p7 := i1.cell 7
          have q0 := i2.cell 0
          have q1 := i2.cell 1
          have q2 := i2.cell 2
          have q3 := i2.cell 3
          have q4 := i2.cell 4
          have q5 := i2.cell 5
          have q6 := i2.cell 6
          have q7 := i2.cell 7
          have HB := Lib.hid hS.2.2.2.2
          clear hS i1 i2
          go_wp2_with fail
          refine (HA.out.use _).mono ?_
          rintro e w5 ⟨rfl, hB⟩
          have HB5 := Lib.hid (HB.out.trans hB)
          clear hB
          go_wp2
          go_ret
          exact ⟨rfl, HB5.out.belowC⟩
end Go.Proofs.Ytedffeimcccobaa
/- A chunk that need not be known, put into chunks: the plain side. -/
namespace Go.Proofs.Ytedffeimcccobaa
/-- Whether the place behind the first n chunks stands between IDATs. -/
def gapB (L : List Ck) (n : Nat) : Bool := decide (n < L.length) && (decide ((L.getD n ([], [])).1 = tIDAT) && decide ((L.getD (n - 1) ([], [])).1 = tIDAT))
theorem gapB_end {L : List Ck} {n : Nat} (h : ¬ n < L.length) : gapB L n = false := by
  unfold gapB; rw [decide_eq_false h]; rfl
theorem getD_of {L : List Ck} {i : Nat} {k : Ck} (h : L[i]? = some k) : L.getD i ([], []) = k := by
  rw [List.getD_eq_getElem?_getD, h]; rfl
theorem gapB_at {L : List Ck} {n : Nat} {a b : Ck} (ha : L[n]? = some a) (hb : L[n - 1]? = some b) : gapB L n = (decide (a.1 = tIDAT) && decide (b.1 = tIDAT)) := by
  unfold gapB
  rw [getD_of ha, getD_of hb, decide_eq_true (List.getElem?_eq_some_iff.1 ha).1]
  rfl
theorem hp_pass {L : List Ck} {n : Nat} {b : List UInt8} (h1 : 1 ≤ n) (h2 : n ≤ L.length) (hg : gapB L n = false) (he : ∀ (j : Nat) (k : Ck), j < n → L[j]? = some k → k.1 ≠ tIEND) :
    flatR (readT (L.take n ++ (tPASS, b) :: L.drop n)) = flatR (readT L) := by
  match L, h2 with
  | [], h2 => exact absurd h2 (by simp; omega)
  | k :: l, h2 =>
    obtain ⟨p, rfl⟩ : ∃ p, n = p + 1 := ⟨n - 1, by omega⟩
    have hp : p ≤ l.length := by simpa using h2
    rw [List.take_succ_cons, List.drop_succ_cons]
    have h := read_pass (b := b) (k := k) (pre := l.take p) (post := l.drop p) (fun q hq => by
      obtain ⟨j, hj, e⟩ := List.mem_iff_getElem.1 hq
      have hjl : j < l.length := by rw [List.length_take] at hj; omega
      have hjp : j < p := by rw [List.length_take] at hj; omega
      rw [List.getElem_take] at e
      exact he (j + 1) q (by omega) (by rw [List.getElem?_cons_succ, List.getElem?_eq_getElem hjl, e])) (fun p' q e hq r l' e2 hr => by
      have hlen := congrArg List.length e
      rw [List.length_take, List.length_append, List.length_singleton] at hlen
      have hq2 : (k :: l)[p + 1 - 1]? = some q := by
        have : (l.take p)[p - 1]? = some q := by
          rw [e, List.getElem?_append_right (by omega), show p - 1 - p'.length = 0 by omega]; rfl
        rw [List.getElem?_take, if_pos (by omega)] at this
        rw [show p + 1 - 1 = (p - 1) + 1 by omega, List.getElem?_cons_succ]
        exact this
      have hr2 : (k :: l)[p + 1]? = some r := by
        rw [List.getElem?_cons_succ]
        have : (l.drop p)[0]? = some r := by rw [e2]; rfl
        rw [List.getElem?_drop] at this
        exact this
      rw [gapB_at hr2 hq2, decide_eq_true hr, decide_eq_true hq] at hg
      exact absurd hg (by decide))
    rw [List.take_append_drop] at h
    exact h
end Go.Proofs.Ytedffeimcccobaa
/- The walk of the statement on a chunk that need not be known. -/
namespace Go.Proofs.Ytedffeimcccobaa
open Go Go.RowKit
theorem Cks.takeN {w : World} {A : Option Addr} {n k : Nat} {L : List Ck} (h : Cks w A n L) (hk : k ≤ n) : Cks w A k (L.take k) := by
  refine ⟨by rw [List.length_take, h.1]; omega, fun hp => ?_⟩
  obtain ⟨g, o, e, hg, hc⟩ := h.2 (by omega)
  refine ⟨g, o, e, hg, fun i hi => ?_⟩
  have hi2 : i < L.length := by rw [List.length_take] at hi; omega
  rw [List.getElem_take]
  exact hc i hi2
theorem Cks.dropN {w : World} {g o n k : Nat} {L : List Ck} (h : Cks w (some ⟨g, o, none⟩) n L) (hk : k ≤ n) : Cks w (some ⟨g, o + k * 2, none⟩) (n - k) (L.drop k) := by
  refine ⟨by rw [List.length_drop, h.1], fun hp => ?_⟩
  obtain ⟨g', o', e, hg, hc⟩ := h.2 (by omega)
  injection e with e
  injection e with e1 e2
  subst e1 e2
  refine ⟨g, o + k * 2, rfl, hg, fun i hi => ?_⟩
  have hi2 : k + i < L.length := by rw [List.length_drop] at hi; omega
  rw [List.getElem_drop, show o + k * 2 + i * 2 = o + (k + i) * 2 by omega]
  exact hc (k + i) hi2
theorem tPASS_strB : strL tPASS = ⟨#[122, 122, 90, 90]⟩ := rfl
theorem OwnC.openC {w : World} {base : Nat} {v : Value} {L : List Ck} (h : OwnC w base v L) (hp : 0 < L.length) : ∃ g c, v = .slice (some ⟨g, 0, none⟩) L.length c ∧ L.length ≤ c ∧ Cks w (some ⟨g, 0, none⟩) L.length L := by
  obtain ⟨A, c, e, hK⟩ := h.open
  rcases h.2 with ⟨_, e2⟩ | ⟨g, c', _, e2, _, _, hle, _⟩
  · omega
  · rw [e2] at e
    injection e with e3 e4 e5
    subst e3 e5
    exact ⟨g, _, e2, hle, hK⟩
theorem GotH.flat {r r' : List Int × HS × Int} (h : flatR r' = flatR r) {w w' : World} {e : Ending} (k : GotH w r' e w') : GotH w r e w' := by
  unfold GotH shapeV at k ⊢
  have a1 : r'.1 = r.1 := congrArg (fun x => x.1) h
  have a2 : r'.2.2 = r.2.2 := congrArg (fun x => x.2.2) h
  have a3 : r'.2.1.P = r.2.1.P := congrArg (fun x => x.2.1.P) h
  have a4 : r'.2.1.T = r.2.1.T := congrArg (fun x => x.2.1.T) h
  have a5 : r'.2.1.trans = r.2.1.trans := congrArg (fun x => x.2.1.trans) h
  have a6 : r'.2.1.D = r.2.1.D := congrArg (fun x => x.2.1.D) h
  rw [a1, a2, a3, a4, a5, a6] at k
  exact k
theorem dataC_pass {L : List Ck} {n : Nat} {k : Ck} : dataC (L.take n ++ [k] ++ L.drop n) = dataC L + k.2.length := by
  have h := congrArg dataC (List.take_append_drop n L)
  unfold dataC at h ⊢
  simp only [List.map_append, List.sum_append, List.map_cons, List.map_nil, List.sum_cons, List.sum_nil] at h ⊢
  omega
theorem pass_types {L : List Ck} {n : Nat} {d : List UInt8} (h : ∀ (j : Nat) (k : Ck), L[j]? = some k → k.1.length ≤ 140737488351232) :
    ∀ (j : Nat) (k : Ck), (L.take n ++ [(tPASS, d)] ++ L.drop n)[j]? = some k → k.1.length ≤ 140737488351232 := by
  intro j k hk
  have hm := List.mem_of_getElem? hk
  have hL : ∀ k, k ∈ L → k.1.length ≤ 140737488351232 := fun k hk => by
    obtain ⟨j, hj, e⟩ := List.mem_iff_getElem.1 hk
    exact h j k (by rw [List.getElem?_eq_getElem hj, e])
  rcases List.mem_append.1 hm with hm | hm
  · rcases List.mem_append.1 hm with hm | hm
    · exact hL k (List.mem_of_mem_take hm)
    · obtain rfl := List.mem_singleton.1 hm
      show 4 ≤ _; omega
  · exact hL k (List.mem_of_mem_drop hm)
theorem place_any (at0 : Int) {len : Nat} (h0 : 0 < len) (h1 : len ≤ 10000) : ∃ n : Nat, 1 ≤ n ∧ n ≤ len ∧ wrap64 (1 + (wrap64 (at0.tmod (len : Int) + (len : Int))).tmod (len : Int)) = (n : Int) := by
  have a1 := Int.tmod_lt_of_pos at0 (show (0 : Int) < (len : Int) by omega)
  have a2 := Int.lt_tmod_of_pos at0 (show (0 : Int) < (len : Int) by omega)
  have wr : ∀ z : Int, -1000000 ≤ z → z ≤ 1000000 → wrap64 z = z := fun z h2 h3 => by unfold wrap64; omega
  rw [wr (at0.tmod (len : Int) + (len : Int)) (by omega) (by omega)]
  have b1 := Int.tmod_lt_of_pos (at0.tmod (len : Int) + (len : Int)) (show (0 : Int) < (len : Int) by omega)
  have b2 := Int.tmod_nonneg (len : Int) (show 0 ≤ at0.tmod (len : Int) + (len : Int) by omega)
  rw [wr _ (by omega) (by omega)]
  exact ⟨(1 + (at0.tmod (len : Int) + (len : Int)).tmod (len : Int)).toNat, by omega, by omega, by omega⟩
attribute [local irreducible] strL
set_option maxHeartbeats 4000000 in
theorem headPasses_walk (haw : Awk) {A : Option Addr} {len cap : Nat} {L : List Ck} {at0 : Int} {D : ByteArray} {w : World} (hl : CkArg w A len cap L) (hat : (Lit.int .i64 at0).wf = true) (hD : D.size ≤ 140737488351232) :
    Calls Try.prog 7 #[.slice A len cap, .int .i64 at0, .string D] w fun e w' => e = .returned (.bool true) ∧ Below w.heap.size w w' := by
  obtain ⟨hT, hlc, hcm, hnil, hsz⟩ := hl
  have HA := Lib.hid haw
  have hfw := pfew_any w (cap := cap) hT (by omega) (fun i c h => (hsz i c h).2)
  by_cases hbig : fewE L = false
  case pos =>
    rw [hbig] at hfw
    have HF := Lib.hid hfw
    clear hT hnil hfw hsz hbig haw hat
    go_enter Try.func7, Try.ntmps7
    go_wp2_with fail
    refine HF.out.mono ?_
    rintro e w1 ⟨rfl, rfl⟩
    go_wp2_with fail
    refine (HA.out.use _).mono ?_
    rintro e w2 ⟨rfl, hB⟩
    have HB := Lib.hid hB
    clear hB
    go_wp2
    go_ret
    exact ⟨rfl, HB.out.belowC⟩
  have hfew : fewE L = true := by simpa using hbig
  rw [hfew] at hfw
  have HF := Lib.hid hfw
  clear hfw hbig
  by_cases h0 : len = 0
  case pos =>
    subst h0
    clear hT hnil hsz hfew haw hat
    go_enter Try.func7, Try.ntmps7
    go_wp2_with fail
    refine HF.out.mono ?_
    rintro e w1 ⟨rfl, rfl⟩
    go_wp2_with fail
    refine (HA.out.use _).mono ?_
    rintro e w2 ⟨rfl, hB⟩
    have HB := Lib.hid hB
    clear hB
    go_wp2
    go_ret
    exact ⟨rfl, HB.out.belowC⟩
  by_cases h1 : 1000 < D.size
  case pos =>
    have d1 : decide ((len : Int) = 0) = false := by simp; omega
    have d2 : ((len : Int) == 0) = false := by simp; omega
    have d3 : decide ((1000 : Int) < (D.size : Int)) = true := by simp; omega
    clear hT hnil hsz hfew haw hat h1
    go_enter Try.func7, Try.ntmps7
    go_wp2_with fail
    refine HF.out.mono ?_
    rintro e w1 ⟨rfl, rfl⟩
    go_wp2_with fail
    refine (HA.out.use _).mono ?_
    rintro e w2 ⟨rfl, hB⟩
    have HB := Lib.hid hB
    clear hB
    go_wp2
    go_ret
    exact ⟨rfl, HB.out.belowC⟩
  have d1 : decide ((len : Int) = 0) = false := by simp; omega
  have d2 : ((len : Int) == 0) = false := by simp; omega
  have d3 : decide ((1000 : Int) < (D.size : Int)) = false := by simp; omega
  have hsc := fewE_is.1 hfew
  have hsd := sizeE_data L
  have hLL := hT.1
  have hlen : len ≤ 10000 := by omega
  have HLL := Lib.hid hLL
  have HT := Lib.hid hT
  have HDC := Lib.hid (show dataC L ≤ 100000 by omega)
  have HNIL := Lib.hid hnil
  have HSZ := Lib.hid hsz
  have HH0 := Lib.hid h0
  have HLD0 := Lib.hid (show D.data.toList.length ≤ 1000 by rw [show D.data.toList.length = D.size by simp]; omega)
  clear hT hnil hsz hfew haw hsc hsd hLL h1 h0
  go_enter Try.func7, Try.ntmps7
  go_wp2_with fail
  refine HF.out.mono ?_
  rintro e w1 ⟨rfl, rfl⟩
  have dz : ¬ (len : Int) = 0 := by have := HH0.out; omega
  have HPL := Lib.hid (place_any at0 (show 0 < len by have := HH0.out; omega) hlen)
  go_upto_region 3 with (fail)
  go_cut [7] from 30 to 40 (fun v wx => ∃ n p : Nat, v = .int .i64 n ∧ n = p + 1 ∧ n ≤ len ∧ wx = w)
  case first =>
    go_wp2
    go_meet
    obtain ⟨n, h1, h2, h3⟩ := HPL.out
    exact ⟨n, n - 1, by rw [h3], by omega, h2, rfl⟩
  case rest =>
  obtain ⟨n, p, rfl, hnp, hnl, hw1⟩ := hcut
  obtain ⟨w1, rfl⟩ : ∃ W : World, W = wc := ⟨_, rfl⟩
  subst hw1
  clear HPL hat
  have HNP := Lib.hid hnp
  have HNL := Lib.hid hnl
  have e1 : (n : Int) - 1 = (p : Int) := by omega
  have e2 : IntKind.i64.wrap (p : Int) = (p : Int) := IntWalk.i64_in _ (by omega)
  have k0 : (0 : Int) ≤ (n : Int) := by omega
  have k1 : (0 : Int) ≤ (p : Int) := by omega
  have k2 : (p : Int) < (len : Int) := by omega
  have hpl : p < len := by omega
  obtain ⟨g, o, b, rfl, hg, b0, b1, hb⟩ := HT.out.at hpl
  clear hnp
  go_upto_region 4 with (fail)
  go_cut [61] from 41 to 61 (fun v wx => v = .bool (gapB L n) ∧ wx = w1)
  case first =>
    by_cases h1 : n < len
    case neg =>
      have HG := Lib.hid (gapB_end (L := L) (n := n) (by rw [HLL.out]; exact h1))
      clear hnl
      go_wp2
      go_meet
      exact ⟨by rw [HG.out], rfl⟩
    obtain ⟨g', o', a, e, _, a0, a1, ha⟩ := HT.out.at h1
    injection e with e
    injection e with e3 e4
    subst e3 e4
    have hgp := gapB_at ha (show L[n - 1]? = some b by rw [show n - 1 = p by have := HNP.out; omega]; exact hb)
    have k3 : (n : Int) < (len : Int) := by omega
    by_cases hta : a.1 = tIDAT
    case neg =>
      have HG := Lib.hid (show gapB L n = false by rw [hgp, decide_eq_false hta]; rfl)
      have hs := str_ne hta
      have hs1 : ¬ (strL a.1).toList = [73, 68, 65, 84] := hs.1
      have hs2 : ((strL a.1).toList == [73, 68, 65, 84]) = false := hs.2
      obtain ⟨Z, hZ⟩ : ∃ Z, Z = strL a.1 := ⟨_, rfl⟩
      rw [← hZ] at a0 hs1 hs2
      clear hnl hs hZ hgp hta ha
      go_wp2
      go_meet
      exact ⟨by rw [HG.out], rfl⟩
    have hs1 : (strL a.1).toList = [73, 68, 65, 84] := str_eq hta
    obtain ⟨Z, hZ⟩ : ∃ Z, Z = strL a.1 := ⟨_, rfl⟩
    rw [← hZ] at a0 hs1
    by_cases htb : b.1 = tIDAT
    case neg =>
      have HG := Lib.hid (show gapB L n = false by rw [hgp, decide_eq_true hta, decide_eq_false htb]; rfl)
      have hs := str_ne htb
      have ht1 : ¬ (strL b.1).toList = [73, 68, 65, 84] := hs.1
      have ht2 : ((strL b.1).toList == [73, 68, 65, 84]) = false := hs.2
      obtain ⟨Y, hY⟩ : ∃ Z, Z = strL b.1 := ⟨_, rfl⟩
      rw [← hY] at b0 ht1 ht2
      clear hnl hs hZ hY hgp hta ha htb hb
      go_wp2
      go_meet
      exact ⟨by rw [HG.out], rfl⟩
    have HG := Lib.hid (show gapB L n = true by rw [hgp, decide_eq_true hta, decide_eq_true htb]; rfl)
    have ht1 : (strL b.1).toList = [73, 68, 65, 84] := str_eq htb
    obtain ⟨Y, hY⟩ : ∃ Z, Z = strL b.1 := ⟨_, rfl⟩
    rw [← hY] at b0 ht1
    clear hnl hZ hY hgp hta ha htb hb
    go_wp2
    go_meet
    exact ⟨by rw [HG.out], rfl⟩
  case rest =>
  obtain ⟨rfl, hw2⟩ := hcut
  obtain ⟨w2, rfl⟩ : ∃ W : World, W = wc := ⟨_, rfl⟩
  obtain rfl : w1 = w2 := hw2.symm
  cases hgap : gapB L n with
  | true =>
    go_wp2_with fail
    refine (HA.out.use _).mono ?_
    rintro e w2 ⟨rfl, hB⟩
    have HB := Lib.hid hB
    clear hB
    go_wp2
    go_ret
    exact ⟨rfl, HB.out.belowC⟩
  | false =>
  have HGAP := Lib.hid hgap
  clear hgap
  go_wp2
  go_loop [8] (fun iv => ∃ i : Nat, i ≤ p ∧ iv = .int .i64 i ∧ Hid (∀ (j : Nat) (k : Ck), j < i → L[j]? = some k → k.1 ≠ tIEND)) (fun iv => p - (intOf iv).toNat)
  case atStart => exact ⟨0, Nat.zero_le _, rfl, Lib.hid fun j k h => absurd h (by omega)⟩
  case round =>
    obtain ⟨i, hi, rfl, HE⟩ := hrel
    by_cases hlt : i < p
    · obtain ⟨g', o', a, e, _, a0, a1, ha⟩ := HT.out.at (show i < len by omega)
      injection e with e
      injection e with e3 e4
      subst e3 e4
      have k3 : (0 : Int) ≤ (i : Int) := by omega
      have k4 : (i : Int) < (len : Int) := by omega
      by_cases hta : a.1 = tIEND
      · have hs1 : (strL a.1).toList = [73, 69, 78, 68] := str_eq hta
        obtain ⟨Z, hZ⟩ : ∃ Z, Z = strL a.1 := ⟨_, rfl⟩
        rw [← hZ] at a0 hs1
        clear hZ hta ha hb
        go_wp2_with fail
        refine (HA.out.use _).mono ?_
        rintro e w2 ⟨rfl, hB⟩
        have HB := Lib.hid hB
        clear hB
        go_wp2
        go_ret
        exact ⟨rfl, HB.out.belowC⟩
      · have HE2 := Lib.hid (show ∀ (j : Nat) (k : Ck), j < i + 1 → L[j]? = some k → k.1 ≠ tIEND from fun j k hj hk => by
          by_cases h : j < i
          · exact HE.out j k h hk
          · obtain rfl : j = i := by omega
            obtain rfl : a = k := Option.some.inj (ha.symm.trans hk)
            exact hta)
        have hs := str_ne hta
        have hs1 : ¬ (strL a.1).toList = [73, 69, 78, 68] := hs.1
        have hs2 : ((strL a.1).toList == [73, 69, 78, 68]) = false := hs.2
        obtain ⟨Z, hZ⟩ : ∃ Z, Z = strL a.1 := ⟨_, rfl⟩
        rw [← hZ] at a0 hs1 hs2
        clear hs hZ hta ha hb
        go_wp2
        go_round
        case rel => exact ⟨i + 1, by omega, by go_num, HE2⟩
        case measure => simp [intOf]; omega
    · obtain rfl : i = p := by omega
      by_cases htb : b.1 = tIEND
      · have ht1 : (strL b.1).toList = [73, 69, 78, 68] := str_eq htb
        obtain ⟨Y, hY⟩ : ∃ Z, Z = strL b.1 := ⟨_, rfl⟩
        rw [← hY] at b0 ht1
        clear hY htb hb
        go_wp2_with fail
        refine (HA.out.use _).mono ?_
        rintro e w2 ⟨rfl, hB⟩
        have HB := Lib.hid hB
        clear hB
        go_wp2
        go_ret
        exact ⟨rfl, HB.out.belowC⟩
      · have hs := str_ne htb
        have hs1 : ¬ (strL b.1).toList = [73, 69, 78, 68] := hs.1
        have hs2 : ((strL b.1).toList == [73, 69, 78, 68]) = false := hs.2
        have HE2 := Lib.hid (show ∀ (j : Nat) (k : Ck), j < n → L[j]? = some k → k.1 ≠ tIEND from fun j k hj hk => by
          by_cases h : j < i
          · exact HE.out j k h hk
          · obtain rfl : j = i := by have := HNP.out; omega
            obtain rfl : b = k := Option.some.inj (hb.symm.trans hk)
            exact htb)
        obtain ⟨Y, hY⟩ : ∃ Z, Z = strL b.1 := ⟨_, rfl⟩
        rw [← hY] at b0 hs1 hs2
        clear hs hY htb hb HE
        have hnl' := HNL.out
        have HTK := Lib.hid (HT.out.takeN hnl')
        have HNW := Lib.hid ((HT.out.takeN hnl').news (show 0 < n by have := HNP.out; omega))
        have HLT := Lib.hid (show (ckCells (L.take n)).length = n * 2 by rw [length_ckCells, HTK.out.1])
        obtain ⟨K, hK⟩ : ∃ K, K = L.take n := ⟨_, rfl⟩
        rw [← hK] at HTK HNW HLT
        have HKE := Lib.hid hK
        have hn1 : n ≤ 10000 := by omega
        have s1 : decide ((cap : Int) < (n : Int)) = false := by simp; omega
        have s2 : decide (cap < n) = false := by simp; omega
        clear hK hnl'
        obtain ⟨i0, hi0, hz0, hz1, hz2⟩ := info_parts info_ck
        go_wp2_with (at_builtin; refine wpList_append_own _ rfl _ _ 33 rfl w1.heap.size 30 i0 (.agg #[.string ByteArray.empty, .string ByteArray.empty]) 2 32 Try.underlying33 hi0 hz0 hz1 hz2 rfl (by decide) (.slice none 0 0) 0 [] rfl (World.ownsRow_nil _ _ _ _) ⟨g, o, none⟩ n cap (ckCells K) rfl HLT.out HNW.out ?c2 ?c3 ?c4 ?c5 ?_)
        case c2 =>
          intro u hu
          unfold ckCells at hu
          obtain ⟨x, _, hx⟩ := List.mem_flatMap.1 hu
          simp at hx
          rcases hx with rfl | rfl <;> rfl
        case c3 => unfold maxLen; omega
        case c4 => omega
        intro v' w2 hown hgrow _
        have hO2 : OwnC w2 w1.heap.size v' K := by
          unfold OwnC
          rw [HTK.out.1]
          simpa using hown
        have hB2 : But [] w1 w2 := (But.refl [] w1).grown hgrow (fun g e => by simp [Value.ownBlock] at e)
        have HO2 := Lib.hid hO2
        have HB2 := Lib.hid hB2
        have hbs := hB2.size
        have HKL := Lib.hid HTK.out.1
        clear hown hgrow hO2 hB2 HNW
        obtain ⟨A1, cc, rfl, _⟩ := HO2.out.open
        have hKn : K.length ≤ 10000 := by rw [HKL.out]; exact hn1
        go_wp2_with (at_builtin; refine wpList_append_lies _ rfl _ _ _ rfl w1.heap.size 30 i0 (.agg #[.string ByteArray.empty, .string ByteArray.empty]) 2 32 Try.underlying33 hi0 hz0 hz1 hz2 rfl (by omega) (.slice A1 K.length cc) K.length (ckCells K) (by rfl) (World.ownsRow.alloc HO2.out _) ⟨w2.heap.size, 0, none⟩ 1 1 [.string ⟨#[122, 122, 90, 90]⟩, .string D] (by rfl) (by rfl) (World.news_of_block (cs := #[.string ⟨#[122, 122, 90, 90]⟩, .string D]) (t := 30) (fr := (0, 0)) (heap_alloc_new w2 _)) (by simp [Value.oneCell']) (by omega) (by unfold maxLen; omega) (by omega) (by simp; omega) (w2.heap.size + 1) (by simp) ?_)
        intro gg cap2 w3 hown2 hgrow hat2 _
        have hown3 : w3.ownsRow w1.heap.size 30 2 (.slice (some ⟨gg, 0, none⟩) (K.length + 1) cap2) (K.length + 1) (ckCells K ++ [.string (strL tPASS), .string (strL D.data.toList)]) := by
          rw [strL_of, tPASS_strB]; exact hown2
        have hP3 := OwnC.pushed (x := (tPASS, D.data.toList)) HB2.out HO2.out hown3 hgrow
        have HO3 := Lib.hid hP3.1
        have HB3 := Lib.hid hP3.2
        have hbs3 := hP3.2.size
        clear hown2 hown3 hgrow hat2 hP3 HO2 HB2
        go_upto_region 16 with (fail)
        obtain ⟨M, hM⟩ : ∃ M, M = K ++ [(tPASS, D.data.toList)] := ⟨_, rfl⟩
        have hMn : K.length + 1 = M.length := by rw [hM, List.length_append]; rfl
        rw [← hM] at HO3
        rw [hMn] at HO3 ⊢
        have HM := Lib.hid hM
        clear hM
        have hMp : 0 < M.length := by omega
        have hMm : M.length ≤ 10001 := by omega
        have HMP := Lib.hid hMp
        have t1 : decide ((len : Int) < (n : Int)) = false := by have := HNL.out; simp; omega
        have t2 : decide (len < n) = false := by have := HNL.out; simp; omega
        clear hMn hMp
        go_cut [9] from 94 to 98 (fun v wx => ∃ g4 c4, v = .slice (some ⟨g4, 0, none⟩) (M ++ L.drop n).length c4 ∧ (M ++ L.drop n).length ≤ c4 ∧ Hid (Cks wx (some ⟨g4, 0, none⟩) (M ++ L.drop n).length (M ++ L.drop n)) ∧ Hid (But [] w1 wx))
        case first =>
          by_cases hnl : n = len
          · have HDR := Lib.hid (show L.drop n = [] from List.drop_eq_nil_of_le (by rw [HLL.out, hnl]; exact Nat.le_refl _))
            obtain rfl : n = len := hnl
            by_cases hcn : cap = n
            · obtain rfl : cap = n := hcn
              have r0 : cap - cap = 0 := Nat.sub_self cap
              go_wp2_with (at_builtin; refine wpList_append_own _ rfl _ _ 33 rfl w1.heap.size 30 i0 (.agg #[.string ByteArray.empty, .string ByteArray.empty]) 2 32 Try.underlying33 hi0 hz0 hz1 hz2 rfl (by decide) (.slice (some ⟨gg, 0, none⟩) M.length cap2) M.length (ckCells M) rfl HO3.out _ 0 _ [] rfl rfl (fun j u h => by simp at h) (fun u h => by simp at h) ?d3 ?d4 ?d5 ?_)
              case d3 => unfold maxLen; omega
              case d4 => omega
              case d5 => exact hbs3
              intro v' w4 hown hgrow _
              have hO4 : OwnC w4 w1.heap.size v' (M ++ L.drop cap) := by
                rw [HDR.out, List.append_nil]
                unfold OwnC
                simpa using hown
              have hB4 : But [] w1 w4 := HB3.out.grown hgrow (fun g e => .inr (HO3.out.lt g e).1)
              obtain ⟨g4, c4, rfl, hc4, hK4⟩ := hO4.openC (by rw [List.length_append]; have := HMP.out; omega)
              have HK4 := Lib.hid hK4
              have HB4 := Lib.hid hB4
              clear hown hgrow hO4 hB4 hK4
              go_wp2
              go_meet
              exact ⟨g4, c4, rfl, hc4, HK4, HB4⟩
            · have r0 : n - n = 0 := Nat.sub_self n
              have r1 : ¬ n = cap := fun h => hcn h.symm
              go_wp2_with (at_builtin; refine wpList_append_own _ rfl _ _ 33 rfl w1.heap.size 30 i0 (.agg #[.string ByteArray.empty, .string ByteArray.empty]) 2 32 Try.underlying33 hi0 hz0 hz1 hz2 rfl (by decide) (.slice (some ⟨gg, 0, none⟩) M.length cap2) M.length (ckCells M) rfl HO3.out _ 0 _ [] rfl rfl (fun j u h => by simp at h) (fun u h => by simp at h) ?e3 ?e4 ?e5 ?_)
              case e3 => unfold maxLen; omega
              case e4 => omega
              case e5 => exact hbs3
              intro v' w4 hown hgrow _
              have hO4 : OwnC w4 w1.heap.size v' (M ++ L.drop n) := by
                rw [HDR.out, List.append_nil]
                unfold OwnC
                simpa using hown
              have hB4 : But [] w1 w4 := HB3.out.grown hgrow (fun g e => .inr (HO3.out.lt g e).1)
              obtain ⟨g4, c4, rfl, hc4, hK4⟩ := hO4.openC (by rw [List.length_append]; have := HMP.out; omega)
              have HK4 := Lib.hid hK4
              have HB4 := Lib.hid hB4
              clear hown hgrow hO4 hB4 hK4
              go_wp2
              go_meet
              exact ⟨g4, c4, rfl, hc4, HK4, HB4⟩
          · have hlt : n < len := by have := HNL.out; omega
            have r1 : ¬ n = cap := by omega
            have r2 : ¬ cap = n := by omega
            have HDK := Lib.hid (HT.out.but HB3.out |>.dropN HNL.out)
            have HNW := Lib.hid (HDK.out.news (show 0 < len - n by omega))
            have HLD := Lib.hid (show (ckCells (L.drop n)).length = (len - n) * 2 by rw [length_ckCells, HDK.out.1])
            have HLE := Lib.hid (show M.length + (len - n) = (M ++ L.drop n).length by rw [List.length_append, HDK.out.1])
            obtain ⟨q, hq⟩ : ∃ q, q = len - n := ⟨_, rfl⟩
            have hq2 : q ≤ 10000 := by omega
            rw [← hq] at HDK HLD HLE
            go_wp2_with (at_builtin; refine wpList_append_own _ rfl _ _ 33 rfl w1.heap.size 30 i0 (.agg #[.string ByteArray.empty, .string ByteArray.empty]) 2 32 Try.underlying33 hi0 hz0 hz1 hz2 rfl (by decide) (.slice (some ⟨gg, 0, none⟩) M.length cap2) M.length (ckCells M) rfl HO3.out ⟨g, o + n * 2, none⟩ (len - n) (cap - n) (ckCells (L.drop n)) rfl (by rw [← hq]; exact HLD.out) HNW.out ?f2 ?f3 ?f4 ?f5 ?_)
            case f2 =>
              intro u hu
              unfold ckCells at hu
              obtain ⟨x, _, hx⟩ := List.mem_flatMap.1 hu
              simp at hx
              rcases hx with rfl | rfl <;> rfl
            case f3 => unfold maxLen; omega
            case f4 => omega
            case f5 => exact hbs3
            intro v' w4 hown hgrow _
            have hO4 : OwnC w4 w1.heap.size v' (M ++ L.drop n) := by
              unfold OwnC
              rw [← HLE.out, ckCells_append, hq]
              exact hown
            have hB4 : But [] w1 w4 := HB3.out.grown hgrow (fun g e => .inr (HO3.out.lt g e).1)
            obtain ⟨g4, c4, rfl, hc4, hK4⟩ := hO4.openC (by rw [List.length_append]; have := HMP.out; omega)
            have HK4 := Lib.hid hK4
            have HB4 := Lib.hid hB4
            clear hown hgrow hO4 hB4 hK4
            go_wp2
            go_meet
            exact ⟨g4, c4, rfl, hc4, HK4, HB4⟩
        case rest =>
          obtain ⟨g4, c4, rfl, hc4, HK4, HB4⟩ := hcut
          obtain ⟨w4, rfl⟩ : ∃ W : World, W = wc := ⟨_, rfl⟩
          have HFL := Lib.hid (show flatR (readT (M ++ L.drop n)) = flatR (readT L) by
            have h := hp_pass (b := D.data.toList) (show 1 ≤ n by have := HNP.out; omega) (by rw [HLL.out]; exact HNL.out) HGAP.out HE2.out
            rw [HM.out, HKE.out, List.append_assoc]
            exact h)
          have HDM := Lib.hid (show dataC (M ++ L.drop n) ≤ 100000000 by rw [HM.out, HKE.out, dataC_pass]; have := HDC.out; have := HLD0.out; show dataC L + D.data.toList.length ≤ 100000000; omega)
          have HTY := Lib.hid (show ∀ (j : Nat) (k : Ck), (M ++ L.drop n)[j]? = some k → k.1.length ≤ 140737488351232 by
            rw [HM.out, HKE.out]
            exact pass_types (fun j k h => (HSZ.out j k h).1))
          have HML := Lib.hid (show (M ++ L.drop n).length ≤ 100000 by rw [List.length_append, List.length_drop, HLL.out]; omega)
          have hE := fun v h => pread_any v (A := some ⟨g, o, none⟩) (n := len) (cap := cap) (L := L) h hlc (by have := HDC.out; omega) (by omega) (fun j k h => (HSZ.out j k h).1)
          have hF := fun v h => (pread_any v (A := some ⟨g4, 0, none⟩) (n := (M ++ L.drop n).length) (cap := c4) (L := M ++ L.drop n) h hc4 HDM.out (by have := HML.out; omega) HTY.out).mono fun e w' q => GotH.flat HFL.out q
          unfold GotH shapeV at hE hF
          obtain ⟨R, hR⟩ : ∃ R, R = readT L := ⟨_, rfl⟩
          simp only [← hR] at hE hF
          obtain ⟨x0, h0⟩ : ∃ x, x = R.1.getD 0 0 := ⟨_, rfl⟩
          obtain ⟨x1, h1⟩ : ∃ x, x = R.1.getD 1 0 := ⟨_, rfl⟩
          obtain ⟨x2, h2⟩ : ∃ x, x = R.1.getD 2 0 := ⟨_, rfl⟩
          obtain ⟨x3, h3⟩ : ∃ x, x = R.1.getD 3 0 := ⟨_, rfl⟩
          obtain ⟨x4, h4⟩ : ∃ x, x = R.1.getD 4 0 := ⟨_, rfl⟩
          obtain ⟨x5, h5⟩ : ∃ x, x = strL R.2.1.P := ⟨_, rfl⟩
          obtain ⟨x6, h6⟩ : ∃ x, x = strL R.2.1.T := ⟨_, rfl⟩
          obtain ⟨x7, h7⟩ : ∃ x, x = R.2.1.trans := ⟨_, rfl⟩
          obtain ⟨xd, hd⟩ : ∃ x, x = strL R.2.1.D := ⟨_, rfl⟩
          obtain ⟨xe, he⟩ : ∃ x, x = R.2.2 := ⟨_, rfl⟩
          simp only [← h0, ← h1, ← h2, ← h3, ← h4, ← h5, ← h6, ← h7, ← hd, ← he] at hE hF
          have HER := Lib.hid hE
          have HFR := Lib.hid hF
          have HTL := Lib.hid (HT.out.but HB4.out)
          obtain ⟨Q, hQ⟩ : ∃ Q, Q = M ++ L.drop n := ⟨_, rfl⟩
          rw [← hQ] at HFR HK4 ⊢
          clear hE hF hR h0 h1 h2 h3 h4 h5 h6 h7 hd he HDC HTY HF HDM HML HFL HT hQ hc4 HE2 HNP HNL HMP HB3 HO3 HM HKE HTK hs1 hs2 b0 b1
          go_wp2_with fail
          refine (HER.out w4 HTL.out).mono ?_
          rintro e w5 ⟨rfl, hB⟩
          have hB1 := hB.alloc (.cells #[.int .i64 x0, .int .i64 x1, .int .i64 x2, .int .i64 x3, .int .i64 x4, .string x5, .string x6, .bool x7] 36)
          have HI5 := Lib.hid (Is.fresh w5 36 #[.int .i64 x0, .int .i64 x1, .int .i64 x2, .int .i64 x3, .int .i64 x4, .string x5, .string x6, .bool x7])
          have HB5 := Lib.hid (HB4.out.trans hB1)
          have HK5 := Lib.hid (HK4.out.but hB1)
          clear hB hB1 HER HTL HK4 HB4
          go_upto_region 18 with (fail)
          obtain ⟨w6, hw6⟩ : ∃ x, x = w5.alloc (.cells #[.int .i64 x0, .int .i64 x1, .int .i64 x2, .int .i64 x3, .int .i64 x4, .string x5, .string x6, .bool x7] 36) := ⟨_, rfl⟩
          obtain ⟨g5, hg5⟩ : ∃ x, x = w5.heap.size := ⟨_, rfl⟩
          rw [← hw6] at HI5 HB5 HK5 ⊢
          rw [← hg5] at HI5 ⊢
          clear hw6 hg5
          go_wp2_with fail
          refine (HFR.out w6 HK5.out).mono ?_
          rintro e w7 ⟨rfl, hB⟩
          have hB1 := hB.alloc (.cells #[.int .i64 x0, .int .i64 x1, .int .i64 x2, .int .i64 x3, .int .i64 x4, .string x5, .string x6, .bool x7] 36)
          have HI7 := Lib.hid (Is.fresh w7 36 #[.int .i64 x0, .int .i64 x1, .int .i64 x2, .int .i64 x3, .int .i64 x4, .string x5, .string x6, .bool x7])
          have HJ7 := Lib.hid (HI5.out.but hB1 (by simp))
          have HB7 := Lib.hid (HB5.out.trans hB1)
          clear hB hB1 HFR HK5 HI5 HB5
          go_upto_region 19 with (fail)
          obtain ⟨w8, hw8⟩ : ∃ x, x = w7.alloc (.cells #[.int .i64 x0, .int .i64 x1, .int .i64 x2, .int .i64 x3, .int .i64 x4, .string x5, .string x6, .bool x7] 36) := ⟨_, rfl⟩
          obtain ⟨g7, hg7⟩ : ∃ x, x = w7.heap.size := ⟨_, rfl⟩
          rw [← hw8] at HI7 HJ7 HB7 ⊢
          rw [← hg7] at HI7 ⊢
          have i1 := HJ7.out
          have i2 := HI7.out
          have p0 := i1.cell 0
          have q0 := i2.cell 0
          have p1 := i1.cell 1
          have q1 := i2.cell 1
          have p2 := i1.cell 2
          have q2 := i2.cell 2
          have p3 := i1.cell 3
          have q3 := i2.cell 3
          have p4 := i1.cell 4
          have q4 := i2.cell 4
          have p5 := i1.cell 5
          have q5 := i2.cell 5
          have p6 := i1.cell 6
          have q6 := i2.cell 6
          have p7 := i1.cell 7
          have q7 := i2.cell 7
          clear hw8 hg7 i1 i2
          go_wp2_with fail
          refine (HA.out.use _).mono ?_
          rintro e w9 ⟨rfl, hB⟩
          have HB9 := Lib.hid (HB7.out.trans hB)
          clear hB
          go_wp2
          go_ret
          exact ⟨rfl, HB9.out.belowC⟩
end Go.Proofs.Ytedffeimcccobaa
