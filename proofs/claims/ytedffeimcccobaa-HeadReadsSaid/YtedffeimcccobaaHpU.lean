/- Joined: HpM, HpN, HpO. -/
import Derived.Test.YtedffeimcccobaaHpK
import Derived.Test.YtedffeimcccobaaRegN
import Derived.Deep.CutRange
import Derived.Deep.CutBlock
import Derived.Test.YtedffeimcccobaaCkF
import Derived.Test.YtedffeimcccobaaHdF
set_option maxRecDepth 100000
set_option linter.unusedVariables false
/- The walks of the statements on samples, on which heads may be, and on a head's chunk. -/
namespace Go.Proofs.Ytedffeimcccobaa
set_option maxRecDepth 100000
open Go Go.RowKit
/-- The chapter's examples come out. -/
def Awk : Prop := ∀ v : World, Calls Try.prog 13 #[] v fun e w' => e = .returned (.bool true) ∧ But [] v w'
theorem Awk.use (h : Awk) (v : World) : Calls Try.prog 13 #[] v fun e w' => e = .returned (.bool true) ∧ But [] v w' := h v
/-- The head that is handed in lies in a block of its own. -/
def HdS (w : World) (g : Nat) (a b d c l : Int) (v : World) : Prop := Is v g 23 #[.int .i64 a, .int .i64 b, .int .i64 d, .int .i64 c, .int .i64 l] ∧ But [] w v
theorem HdS.but {w v v' : World} {g : Nat} {a b d c l : Int} (h : HdS w g a b d c l v) (k : But [] v v') : HdS w g a b d c l v' := ⟨h.1.but k (by simp), h.2.trans k⟩
theorem headSamples_walk (haw : Awk) {c : Int} (hc : (Lit.int .i64 c).wf = true) {w : World} :
    Calls Try.prog 8 #[.int .i64 c] w fun e w' => e = .returned (.bool true) ∧ Below w.heap.size w w' := by
  have HA := Lib.hid haw
  clear hc haw
  by_cases h0 : c = 0
  · subst h0
    have HQ := Lib.hid (psamples_any w 0)
    rw [show samplesI 0 = 1 by decide] at HQ
    go_enter Try.func8, Try.ntmps8
    go_wp2_with fail
    refine HQ.out.mono ?_
    rintro e w1 ⟨rfl, rfl⟩
    go_wp2_with fail
    refine (HA.out.use _).mono ?_
    rintro e w2 ⟨rfl, hB⟩
    have HB := Lib.hid hB
    clear hB
    go_wp2
    go_ret
    exact ⟨rfl, HB.out.belowC⟩
  by_cases h3 : c = 3
  · subst h3
    have HQ := Lib.hid (psamples_any w 3)
    rw [show samplesI 3 = 1 by decide] at HQ
    go_enter Try.func8, Try.ntmps8
    go_wp2_with fail
    refine HQ.out.mono ?_
    rintro e w1 ⟨rfl, rfl⟩
    go_wp2_with fail
    refine (HA.out.use _).mono ?_
    rintro e w2 ⟨rfl, hB⟩
    have HB := Lib.hid hB
    clear hB
    go_wp2
    go_ret
    exact ⟨rfl, HB.out.belowC⟩
  by_cases h2 : c = 2
  · subst h2
    have HQ := Lib.hid (psamples_any w 2)
    rw [show samplesI 2 = 3 by decide] at HQ
    go_enter Try.func8, Try.ntmps8
    go_wp2_with fail
    refine HQ.out.mono ?_
    rintro e w1 ⟨rfl, rfl⟩
    go_wp2_with fail
    refine (HA.out.use _).mono ?_
    rintro e w2 ⟨rfl, hB⟩
    have HB := Lib.hid hB
    clear hB
    go_wp2
    go_ret
    exact ⟨rfl, HB.out.belowC⟩
  by_cases h4 : c = 4
  · subst h4
    have HQ := Lib.hid (psamples_any w 4)
    rw [show samplesI 4 = 2 by decide] at HQ
    go_enter Try.func8, Try.ntmps8
    go_wp2_with fail
    refine HQ.out.mono ?_
    rintro e w1 ⟨rfl, rfl⟩
    go_wp2_with fail
    refine (HA.out.use _).mono ?_
    rintro e w2 ⟨rfl, hB⟩
    have HB := Lib.hid hB
    clear hB
    go_wp2
    go_ret
    exact ⟨rfl, HB.out.belowC⟩
  by_cases h6 : c = 6
  · subst h6
    have HQ := Lib.hid (psamples_any w 6)
    rw [show samplesI 6 = 4 by decide] at HQ
    go_enter Try.func8, Try.ntmps8
    go_wp2_with fail
    refine HQ.out.mono ?_
    rintro e w1 ⟨rfl, rfl⟩
    go_wp2_with fail
    refine (HA.out.use _).mono ?_
    rintro e w2 ⟨rfl, hB⟩
    have HB := Lib.hid hB
    clear hB
    go_wp2
    go_ret
    exact ⟨rfl, HB.out.belowC⟩
  have HQ := Lib.hid (psamples_any w c)
  rw [show samplesI c = 0 by unfold samplesI; rw [if_neg (by omega), if_neg h4, if_neg h2, if_neg h6]] at HQ
  have d0 : (c == 0) = false := by simpa using h0
  have e0 : decide (c = 0) = false := decide_eq_false h0
  have d3 : (c == 3) = false := by simpa using h3
  have e3 : decide (c = 3) = false := decide_eq_false h3
  have d2 : (c == 2) = false := by simpa using h2
  have e2 : decide (c = 2) = false := decide_eq_false h2
  have d4 : (c == 4) = false := by simpa using h4
  have e4 : decide (c = 4) = false := decide_eq_false h4
  have d6 : (c == 6) = false := by simpa using h6
  have e6 : decide (c = 6) = false := decide_eq_false h6
  go_enter Try.func8, Try.ntmps8
  go_wp2_with fail
  refine HQ.out.mono ?_
  rintro e w1 ⟨rfl, rfl⟩
  go_wp2_with fail
  refine (HA.out.use _).mono ?_
  rintro e w2 ⟨rfl, hB⟩
  have HB := Lib.hid hB
  clear hB
  go_wp2
  go_ret
  exact ⟨rfl, HB.out.belowC⟩
theorem headRight_walk (haw : Awk) {a b d c l k : Int} (hk : (Lit.int .i64 k).wf = true) {w : World} :
    Calls Try.prog 3 #[.agg #[.int .i64 a, .int .i64 b, .int .i64 d, .int .i64 c, .int .i64 l], .int .i64 k] w fun e w' => e = .returned (.bool true) ∧ Below w.heap.size w w' := by
  have hP := fun v => pright_h v a b d c l
  have hE := fun v => eright_h v a b d c l
  have hQ := fun v => psamples_any v k
  have hF := fun v => esamples_any v k
  obtain ⟨er, her⟩ : ∃ x, x = rightH a b d c l := ⟨_, rfl⟩
  obtain ⟨sm, hsm⟩ : ∃ x, x = samplesI k := ⟨_, rfl⟩
  simp only [← her] at hP hE
  simp only [← hsm] at hQ hF
  have HA := Lib.hid haw
  have HP := Lib.hid hP
  have HE := Lib.hid hE
  have HQ := Lib.hid hQ
  have HF := Lib.hid hF
  have HS0 : Hid (HdS w w.heap.size a b d c l (w.alloc (.cells #[.int .i64 a, .int .i64 b, .int .i64 d, .int .i64 c, .int .i64 l] 23))) := Lib.hid ⟨Is.fresh _ _ _, (But.refl [] w).alloc _⟩
  clear hk haw hP hE hQ hF her hsm
  go_enter Try.func3, Try.ntmps3
  go_upto_region 1 with (fail)
  refine wp_region_m (S := HdS w w.heap.size a b d c l) (R := fun v v' => But [] v v') (fun w => But.refl [] w) (by kernel_rfl) (HS0.out.but ((But.refl [] _).drew)) ?_
  refine wpM_take (fun w => But.refl [] w) (fun x y z h k => h.trans k) (i := 0) (v := .agg #[.int .i64 a, .int .i64 b, .int .i64 d, .int .i64 c, .int .i64 l]) rfl (by kernel_rfl) (by kernel_rfl) (by kernel_rfl) (fun _ _ _ h => h) (YieldsR.read (fun w => But.refl [] w) ?_ fun w hS => ?_) ?_
  · go_simp
  · have c0 := hS.1.cell 0; have c1 := hS.1.cell 1; have c2 := hS.1.cell 2; have c3 := hS.1.cell 3; have c4 := hS.1.cell 4; go_simp
  dsimp only [Act.put, List.getElem_toArray, List.getElem_cons_zero, List.getElem_cons_succ, List.setIfInBounds_toArray, List.set_cons_zero, List.set_cons_succ]
  refine wpM_take (fun w => But.refl [] w) (fun x y z h k => h.trans k) (i := 1) (v := .int .i64 er) rfl (by kernel_rfl) (by kernel_rfl) (by kernel_rfl) (fun _ _ _ h => h) (.inl ⟨?_, fun w hS => .inr ⟨_, _, ?_, (HP.out w).mono ?_⟩⟩) ?_
  · go_simp
  · go_simp
  · rintro e wy ⟨rfl, hB⟩; exact ⟨rfl, hS.but hB, hB⟩
  refine wpM_take (fun w => But.refl [] w) (fun x y z h k => h.trans k) (i := 2) (v := .agg #[.int .i64 a, .int .i64 b, .int .i64 d, .int .i64 c, .int .i64 l]) rfl (by kernel_rfl) (by kernel_rfl) (by kernel_rfl) (fun _ _ _ h => h) (YieldsR.read (fun w => But.refl [] w) ?_ fun w hS => ?_) ?_
  · go_simp
  · have c0 := hS.1.cell 0; have c1 := hS.1.cell 1; have c2 := hS.1.cell 2; have c3 := hS.1.cell 3; have c4 := hS.1.cell 4; go_simp
  dsimp only [Act.put, List.getElem_toArray, List.getElem_cons_zero, List.getElem_cons_succ, List.setIfInBounds_toArray, List.set_cons_zero, List.set_cons_succ]
  refine wpM_take (fun w => But.refl [] w) (fun x y z h k => h.trans k) (i := 3) (v := .int .i64 er) rfl (by kernel_rfl) (by kernel_rfl) (by kernel_rfl) (fun _ _ _ h => h) (.inl ⟨?_, fun w hS => .inr ⟨_, _, ?_, (HE.out w).mono ?_⟩⟩) ?_
  · go_simp
  · go_simp
  · rintro e wy ⟨rfl, hB⟩; exact ⟨rfl, hS.but hB, hB⟩
  refine wpM_take (fun w => But.refl [] w) (fun x y z h k => h.trans k) (i := 4) (v := .bool true) rfl (by kernel_rfl) (by kernel_rfl) (by kernel_rfl) (fun _ _ _ h => h) (YieldsR.read (fun w => But.refl [] w) ?_ fun w hS => ?_) ?_
  · go_simp
  · go_simp
  dsimp only [Act.put, List.getElem_toArray, List.getElem_cons_zero, List.getElem_cons_succ, List.setIfInBounds_toArray, List.set_cons_zero, List.set_cons_succ]
  refine wpM_take (fun w => But.refl [] w) (fun x y z h k => h.trans k) (i := 5) (v := .bool true) rfl (by kernel_rfl) (by kernel_rfl) (by kernel_rfl) (fun _ _ _ h => h) (YieldsR.read (fun w => But.refl [] w) ?_ fun w hS => ?_) ?_
  · go_simp
  · go_simp
  dsimp only [Act.put, List.getElem_toArray, List.getElem_cons_zero, List.getElem_cons_succ, List.setIfInBounds_toArray, List.set_cons_zero, List.set_cons_succ]
  refine wpM_take (fun w => But.refl [] w) (fun x y z h k => h.trans k) (i := 6) (v := .int .i64 k) rfl (by kernel_rfl) (by kernel_rfl) (by kernel_rfl) (fun _ _ _ h => h) (YieldsR.read (fun w => But.refl [] w) ?_ fun w hS => ?_) ?_
  · go_simp
  · go_simp
  dsimp only [Act.put, List.getElem_toArray, List.getElem_cons_zero, List.getElem_cons_succ, List.setIfInBounds_toArray, List.set_cons_zero, List.set_cons_succ]
  refine wpM_take (fun w => But.refl [] w) (fun x y z h k => h.trans k) (i := 7) (v := .int .i64 sm) rfl (by kernel_rfl) (by kernel_rfl) (by kernel_rfl) (fun _ _ _ h => h) (.inl ⟨?_, fun w hS => .inr ⟨_, _, ?_, (HQ.out w).mono ?_⟩⟩) ?_
  · go_simp
  · go_simp
  · rintro e wy ⟨rfl, rfl⟩; exact ⟨rfl, hS, But.refl [] _⟩
  refine wpM_take (fun w => But.refl [] w) (fun x y z h k => h.trans k) (i := 8) (v := .int .i64 k) rfl (by kernel_rfl) (by kernel_rfl) (by kernel_rfl) (fun _ _ _ h => h) (YieldsR.read (fun w => But.refl [] w) ?_ fun w hS => ?_) ?_
  · go_simp
  · go_simp
  dsimp only [Act.put, List.getElem_toArray, List.getElem_cons_zero, List.getElem_cons_succ, List.setIfInBounds_toArray, List.set_cons_zero, List.set_cons_succ]
  refine wpM_take (fun w => But.refl [] w) (fun x y z h k => h.trans k) (i := 9) (v := .int .i64 sm) rfl (by kernel_rfl) (by kernel_rfl) (by kernel_rfl) (fun _ _ _ h => h) (.inl ⟨?_, fun w hS => .inr ⟨_, _, ?_, (HF.out w).mono ?_⟩⟩) ?_
  · go_simp
  · go_simp
  · rintro e wy ⟨rfl, rfl⟩; exact ⟨rfl, hS, But.refl [] _⟩
  refine wpM_take (fun w => But.refl [] w) (fun x y z h k => h.trans k) (i := 10) (v := .bool true) rfl (by kernel_rfl) (by kernel_rfl) (by kernel_rfl) (fun _ _ _ h => h) (YieldsR.read (fun w => But.refl [] w) ?_ fun w hS => ?_) ?_
  · go_simp
  · go_simp
  dsimp only [Act.put, List.getElem_toArray, List.getElem_cons_zero, List.getElem_cons_succ, List.setIfInBounds_toArray, List.set_cons_zero, List.set_cons_succ]
  refine wpM_take (fun w => But.refl [] w) (fun x y z h k => h.trans k) (i := 11) (v := .bool true) rfl (by kernel_rfl) (by kernel_rfl) (by kernel_rfl) (fun _ _ _ h => h) (YieldsR.read (fun w => But.refl [] w) ?_ fun w hS => ?_) ?_
  · go_simp
  · go_simp
  dsimp only [Act.put, List.getElem_toArray, List.getElem_cons_zero, List.getElem_cons_succ, List.setIfInBounds_toArray, List.set_cons_zero, List.set_cons_succ]
  refine wpM_take (fun w => But.refl [] w) (fun x y z h k => h.trans k) (i := 12) (v := .bool true) rfl (by kernel_rfl) (by kernel_rfl) (by kernel_rfl) (fun _ _ _ h => h) (YieldsR.read (fun w => But.refl [] w) ?_ fun w hS => ?_) ?_
  · go_simp
  · go_simp
  dsimp only [Act.put, List.getElem_toArray, List.getElem_cons_zero, List.getElem_cons_succ, List.setIfInBounds_toArray, List.set_cons_zero, List.set_cons_succ]
  refine wpM_take (fun w => But.refl [] w) (fun x y z h k => h.trans k) (i := 13) (v := .bool true) rfl (by kernel_rfl) (by kernel_rfl) (by kernel_rfl) (fun _ _ _ h => h) (.inl ⟨?_, fun w hS => .inr ⟨_, _, ?_, (HA.out.use w).mono ?_⟩⟩) ?_
  · go_simp
  · go_simp
  · rintro e wy ⟨rfl, hB⟩; exact ⟨rfl, hS.but hB, hB⟩
  refine wpM_take (fun w => But.refl [] w) (fun x y z h k => h.trans k) (i := 14) (v := .bool true) rfl (by kernel_rfl) (by kernel_rfl) (by kernel_rfl) (fun _ _ _ h => h) (YieldsR.read (fun w => But.refl [] w) ?_ fun w hS => ?_) ?_
  · go_simp
  · go_simp
  dsimp only [Act.put, List.getElem_toArray, List.getElem_cons_zero, List.getElem_cons_succ, List.setIfInBounds_toArray, List.set_cons_zero, List.set_cons_succ]
  refine wpM_take (fun w => But.refl [] w) (fun x y z h k => h.trans k) (i := 15) (v := .bool true) rfl (by kernel_rfl) (by kernel_rfl) (by kernel_rfl) (fun _ _ _ h => h) (YieldsR.read (fun w => But.refl [] w) ?_ fun w hS => ?_) ?_
  · go_simp
  · go_simp
  dsimp only [Act.put, List.getElem_toArray, List.getElem_cons_zero, List.getElem_cons_succ, List.setIfInBounds_toArray, List.set_cons_zero, List.set_cons_succ]
  refine ⟨by kernel_rfl, fun w9 hR9 hS9 => ?_⟩
  clear hR9
  have HS9 := Lib.hid hS9
  clear hS9 HS0
  go_simp
  go_wp2
  go_ret
  exact ⟨rfl, HS9.out.2.belowC⟩
attribute [local irreducible] strL
set_option maxHeartbeats 4000000 in
theorem headLays_walk (haw : Awk) {a b d c l : Int} {w : World} :
    Calls Try.prog 4 #[.agg #[.int .i64 a, .int .i64 b, .int .i64 d, .int .i64 c, .int .i64 l]] w fun e w' => e = .returned (.bool true) ∧ Below w.heap.size w w' := by
  have hP := fun v => play_head v a b d c l
  have hE := fun v => elay_any v a b d c l
  unfold ckVal at hP hE
  obtain ⟨x, hx⟩ : ∃ x, x = strL (layI a b d c l).1 := ⟨_, rfl⟩
  obtain ⟨y, hy⟩ : ∃ x, x = strL (layI a b d c l).2 := ⟨_, rfl⟩
  simp only [← hx, ← hy] at hP hE
  have HA := Lib.hid haw
  have HP := Lib.hid hP
  have HE := Lib.hid hE
  have HS0 : Hid (HdS w w.heap.size a b d c l (w.alloc (.cells #[.int .i64 a, .int .i64 b, .int .i64 d, .int .i64 c, .int .i64 l] 23))) := Lib.hid ⟨Is.fresh _ _ _, (But.refl [] w).alloc _⟩
  clear haw hP hE hx hy
  go_enter Try.func4, Try.ntmps4
  go_upto_region 1 with (fail)
  refine wp_region_m (S := HdS w w.heap.size a b d c l) (R := fun v v' => But [] v v') (fun w => But.refl [] w) (by kernel_rfl) (HS0.out.but ((But.refl [] _).drew)) ?_
  refine wpM_take (fun w => But.refl [] w) (fun x y z h k => h.trans k) (i := 0) (v := .agg #[.int .i64 a, .int .i64 b, .int .i64 d, .int .i64 c, .int .i64 l]) rfl (by kernel_rfl) (by kernel_rfl) (by kernel_rfl) (fun _ _ _ h => h) (YieldsR.read (fun w => But.refl [] w) ?_ fun w hS => ?_) ?_
  · go_simp
  · have c0 := hS.1.cell 0; have c1 := hS.1.cell 1; have c2 := hS.1.cell 2; have c3 := hS.1.cell 3; have c4 := hS.1.cell 4; go_simp
  dsimp only [Act.put, List.getElem_toArray, List.getElem_cons_zero, List.getElem_cons_succ, List.setIfInBounds_toArray, List.set_cons_zero, List.set_cons_succ]
  refine wpM_take (fun w => But.refl [] w) (fun x y z h k => h.trans k) (i := 1) (v := .agg #[.string x, .string y]) rfl (by kernel_rfl) (by kernel_rfl) (by kernel_rfl) (fun _ _ _ h => h) (.inl ⟨?_, fun w hS => .inr ⟨_, _, ?_, (HP.out w).mono ?_⟩⟩) ?_
  · go_simp
  · go_simp
  · rintro e wy ⟨rfl, hB⟩; exact ⟨rfl, hS.but hB, hB⟩
  refine wpM_take (fun w => But.refl [] w) (fun x y z h k => h.trans k) (i := 2) (v := .agg #[.int .i64 a, .int .i64 b, .int .i64 d, .int .i64 c, .int .i64 l]) rfl (by kernel_rfl) (by kernel_rfl) (by kernel_rfl) (fun _ _ _ h => h) (YieldsR.read (fun w => But.refl [] w) ?_ fun w hS => ?_) ?_
  · go_simp
  · have c0 := hS.1.cell 0; have c1 := hS.1.cell 1; have c2 := hS.1.cell 2; have c3 := hS.1.cell 3; have c4 := hS.1.cell 4; go_simp
  dsimp only [Act.put, List.getElem_toArray, List.getElem_cons_zero, List.getElem_cons_succ, List.setIfInBounds_toArray, List.set_cons_zero, List.set_cons_succ]
  refine wpM_take (fun w => But.refl [] w) (fun x y z h k => h.trans k) (i := 3) (v := .agg #[.string x, .string y]) rfl (by kernel_rfl) (by kernel_rfl) (by kernel_rfl) (fun _ _ _ h => h) (.inl ⟨?_, fun w hS => .inr ⟨_, _, ?_, (HE.out w).mono ?_⟩⟩) ?_
  · go_simp
  · go_simp
  · rintro e wy ⟨rfl, hB⟩; exact ⟨rfl, hS.but hB, hB⟩
  refine wpM_take (fun w => But.refl [] w) (fun x y z h k => h.trans k) (i := 4) (v := .bool true) rfl (by kernel_rfl) (by kernel_rfl) (by kernel_rfl) (fun _ _ _ h => h) (YieldsR.read (fun w => But.refl [] w) ?_ fun w hS => ?_) ?_
  · go_simp
  · go_simp
  dsimp only [Act.put, List.getElem_toArray, List.getElem_cons_zero, List.getElem_cons_succ, List.setIfInBounds_toArray, List.set_cons_zero, List.set_cons_succ]
  refine wpM_take (fun w => But.refl [] w) (fun x y z h k => h.trans k) (i := 5) (v := .bool true) rfl (by kernel_rfl) (by kernel_rfl) (by kernel_rfl) (fun _ _ _ h => h) (YieldsR.read (fun w => But.refl [] w) ?_ fun w hS => ?_) ?_
  · go_simp
  · go_simp
  dsimp only [Act.put, List.getElem_toArray, List.getElem_cons_zero, List.getElem_cons_succ, List.setIfInBounds_toArray, List.set_cons_zero, List.set_cons_succ]
  refine wpM_take (fun w => But.refl [] w) (fun x y z h k => h.trans k) (i := 6) (v := .bool true) rfl (by kernel_rfl) (by kernel_rfl) (by kernel_rfl) (fun _ _ _ h => h) (.inl ⟨?_, fun w hS => .inr ⟨_, _, ?_, (HA.out.use w).mono ?_⟩⟩) ?_
  · go_simp
  · go_simp
  · rintro e wy ⟨rfl, hB⟩; exact ⟨rfl, hS.but hB, hB⟩
  refine wpM_take (fun w => But.refl [] w) (fun x y z h k => h.trans k) (i := 7) (v := .bool true) rfl (by kernel_rfl) (by kernel_rfl) (by kernel_rfl) (fun _ _ _ h => h) (YieldsR.read (fun w => But.refl [] w) ?_ fun w hS => ?_) ?_
  · go_simp
  · go_simp
  dsimp only [Act.put, List.getElem_toArray, List.getElem_cons_zero, List.getElem_cons_succ, List.setIfInBounds_toArray, List.set_cons_zero, List.set_cons_succ]
  refine wpM_take (fun w => But.refl [] w) (fun x y z h k => h.trans k) (i := 8) (v := .bool true) rfl (by kernel_rfl) (by kernel_rfl) (by kernel_rfl) (fun _ _ _ h => h) (YieldsR.read (fun w => But.refl [] w) ?_ fun w hS => ?_) ?_
  · go_simp
  · go_simp
  dsimp only [Act.put, List.getElem_toArray, List.getElem_cons_zero, List.getElem_cons_succ, List.setIfInBounds_toArray, List.set_cons_zero, List.set_cons_succ]
  refine ⟨by kernel_rfl, fun w9 hR9 hS9 => ?_⟩
  clear hR9
  have HS9 := Lib.hid hS9
  clear hS9 HS0
  go_simp
  go_wp2
  go_ret
  exact ⟨rfl, HS9.out.2.belowC⟩
end Go.Proofs.Ytedffeimcccobaa
/- A head that is handed in; strings that are handed in. -/
namespace Go.Proofs.Ytedffeimcccobaa
open Go Go.RowKit Go.ChangeShapes Go.WideShapes
theorem cells_intH : Try.prog.cellsOf 3 = 1 := by kernel_rfl
theorem cells_head : Try.prog.cellsOf 23 = 5 := by kernel_rfl
/-- A head that is handed in: five numbers. -/
theorem open_head {H : Type} {enc : TypeId × Value → H} {W : World} {base : Nat} {v : Value} {d : DataW H} {p : List MemPlace} (hv : Value.okWide Try.prog W .any base 23 v)
    (hk : DataW.Trod enc Try.prog W 0 (fun _ => true) true 23 v d p) {ts : List TypeId} {ds : List (DataW H)} (_hsz : (DataW.weightsEach Try.prog ts ds).all (· ≤ reachBytes) = true) {j : Nat} (_ht : ts[j]? = some 23) (_hd : ds[j]? = some d) :
    ∃ a b e c l : Int, v = .agg #[.int .i64 a, .int .i64 b, .int .i64 e, .int .i64 c, .int .i64 l] ∧ ((Lit.int .i64 a).wf = true ∧ (Lit.int .i64 b).wf = true ∧ (Lit.int .i64 e).wf = true ∧ (Lit.int .i64 c).wf = true ∧ (Lit.int .i64 l).wf = true) := by
  obtain ⟨cs, rfl, hcs⟩ := okWide_struct Try.underlying23 hv
  obtain ⟨fuel, hf⟩ := hk
  obtain ⟨ys, n', _, _, hcl, hyl, hfs⟩ := DataW.trod_struct Try.underlying23 hf
  rw [cells_head] at hcl
  obtain ⟨xs, hxs⟩ : ∃ xs, xs = (Value.agg cs).cells.toList := ⟨_, rfl⟩
  rw [← hxs] at hcl hfs
  match xs, hcl with
  | [x0, x1, x2, x3, x4], _ =>
    have g0 := hfs 0 _ rfl
    have g1 := hfs 1 _ rfl
    have g2 := hfs 2 _ rfl
    have g3 := hfs 3 _ rfl
    have g4 := hfs 4 _ rfl
    have hy : ys.length = 5 := hyl
    match ys, hy with
    | [y0, y1, y2, y3, y4], _ =>
      obtain ⟨q0, c0, _, w0⟩ := DataW.trod_int Try.underlying3 (x := y0) g0
      obtain ⟨q1, c1, _, w1⟩ := DataW.trod_int Try.underlying3 (x := y1) g1
      obtain ⟨q2, c2, _, w2⟩ := DataW.trod_int Try.underlying3 (x := y2) g2
      obtain ⟨q3, c3, _, w3⟩ := DataW.trod_int Try.underlying3 (x := y3) g3
      obtain ⟨q4, c4, _, w4⟩ := DataW.trod_int Try.underlying3 (x := y4) g4
      have c0 : ([x0, x1, x2, x3, x4].drop 0).take (Try.prog.cellsOf 3) = [.int .i64 q0] := c0
      have c1 : ([x0, x1, x2, x3, x4].drop 1).take (Try.prog.cellsOf 3) = [.int .i64 q1] := c1
      have c2 : ([x0, x1, x2, x3, x4].drop 2).take (Try.prog.cellsOf 3) = [.int .i64 q2] := c2
      have c3 : ([x0, x1, x2, x3, x4].drop 3).take (Try.prog.cellsOf 3) = [.int .i64 q3] := c3
      have c4 : ([x0, x1, x2, x3, x4].drop 4).take (Try.prog.cellsOf 3) = [.int .i64 q4] := c4
      rw [cells_intH] at c0 c1 c2 c3 c4
      have e0 : x0 = .int .i64 q0 := by simpa using c0
      have e1 : x1 = .int .i64 q1 := by simpa using c1
      have e2 : x2 = .int .i64 q2 := by simpa using c2
      have e3 : x3 = .int .i64 q3 := by simpa using c3
      have e4 : x4 = .int .i64 q4 := by simpa using c4
      refine ⟨q0, q1, q2, q3, q4, ?_, w0, w1, w2, w3, w4⟩
      obtain ⟨l⟩ := cs
      simp only [Value.cells] at hxs
      have e : l = [x0, x1, x2, x3, x4] := by simpa using hxs.symm
      rw [e, e0, e1, e2, e3, e4]
/-- The strings that a slice holds. -/
def Sts (w : World) (A : Option Addr) (n : Nat) (L : List ByteArray) : Prop := L.length = n ∧ (0 < n → ∃ g o, A = some ⟨g, o, none⟩ ∧ g < w.heap.size ∧ ∀ i (hi : i < L.length), w.cell? ⟨g, o + i, none⟩ = some (.string L[i]))
theorem Sts.at {w : World} {A : Option Addr} {n : Nat} {L : List ByteArray} (h : Sts w A n L) {i : Nat} (hi : i < n) :
    ∃ g o c, A = some ⟨g, o, none⟩ ∧ g < w.heap.size ∧ w.cell? ⟨g, o + i, none⟩ = some (.string c) ∧ L[i]? = some c := by
  obtain ⟨g, o, e, hg, hc⟩ := h.2 (by omega)
  have hl : i < L.length := by have := h.1; omega
  exact ⟨g, o, _, e, hg, hc i hl, List.getElem?_eq_getElem hl⟩
/-- A slice of strings that is handed in. -/
def StsArg (w : World) (A : Option Addr) (len : Nat) (L : List ByteArray) : Prop := Sts w A len L ∧ ∀ (i : Nat) (c : ByteArray), L[i]? = some c → c.size ≤ 140737488351232
theorem weights_str {H : Type} {a : List UInt8} : (DataW.lit (.string a) : DataW H).weights Try.prog 9 = [a.length] := by
  simp only [DataW.weights]
theorem open_strs {H : Type} {enc : TypeId × Value → H} {W : World} {base : Nat} {v : Value} {d : DataW H} {p : List MemPlace} (hv : Value.okWide Try.prog W .any base 40 v)
    (hk : DataW.Trod enc Try.prog W 0 (fun _ => true) true 40 v d p) {ts : List TypeId} {ds : List (DataW H)} (hsz : (DataW.weightsEach Try.prog ts ds).all (· ≤ reachBytes) = true) {j : Nat} (ht : ts[j]? = some 40) (hd : ds[j]? = some d) :
    ∃ A len cap L, v = .slice A len cap ∧ StsArg W A len L ∧ len * 16 ≤ 140737488351232 := by
  obtain ⟨a0, len, cap, rfl⟩ := okWide_slice Try.underlying40 hv
  obtain ⟨fuel, hf⟩ := hk
  rcases Deep.open_slice Try.underlying40 hf with ⟨hcs, _⟩ | ⟨a, len', cap', m, n, D, Pl, hcs, hb, hl, hm, hmm, hx, hi⟩
  · simp [Value.cells] at hcs
    obtain ⟨rfl, rfl, rfl⟩ := hcs
    exact ⟨none, 0, 0, [], rfl, ⟨⟨rfl, fun h => absurd h (by omega)⟩, fun i c h => by simp at h⟩, by omega⟩
  · simp [Value.cells] at hcs
    obtain ⟨rfl, rfl, rfl⟩ := hcs
    have hmc : m = cap := by simpa using hmm
    rw [cells_str] at hi
    have hr : reachBytes = 140737488351232 := rfl
    have hde : d = .slice ((List.range len).map D) ((List.range (m - len)).map fun j => D (len + j)) := (Prod.mk.inj hx).1
    have hbound : len * 16 ≤ 140737488351232 := by
      have h := sized_slice hsz (e := 9) ht (by rw [hd, hde]) Try.underlying40
      have hb8 : Try.prog.bytesOf 9 = 16 := by kernel_rfl
      rw [hb8, hr] at h
      simp only [List.length_map, List.length_range] at h
      omega
    have hel : ∀ i, i < len → ∃ q : ByteArray, W.cell? (a.add (i * 1 + 0)) = some (.string q) ∧ q.size ≤ 140737488351232 := by
      intro i hil
      obtain ⟨cs', h1, h2⟩ := hi i (by omega)
      obtain ⟨_, hlen, hat⟩ := World.cells?_some h1
      obtain ⟨x, rfl, hD, _⟩ := DataW.trod_string Try.underlying9 h2
      have hD : D i = .lit (.string x.data.toList) := (Prod.mk.inj hD).1
      have hw : x.data.toList.length ≤ reachBytes := by
        have hmem : D i ∈ (List.range len).map D := List.mem_map.2 ⟨i, List.mem_range.2 hil, rfl⟩
        have h1 := weightsAll_mem (P := Try.prog) (e := 9) hmem x.data.toList.length (by rw [hD, weights_str]; exact List.mem_singleton.2 rfl)
        have h2 : x.data.toList.length ∈ d.weights Try.prog 40 := by
          rw [hde]
          simp only [DataW.weights, Try.underlying40, List.mem_cons, List.mem_append]
          exact Or.inr (Or.inl h1)
        have h3 := List.all_eq_true.1 hsz _ (DataW.weights_mem_each ht hd _ h2)
        simpa using h3
      rw [← Deep.add_add]
      refine ⟨x, by rw [hat 0 (by omega)]; rfl, ?_⟩
      rw [hr, Array.length_toList] at hw; exact hw
    obtain ⟨V, hV⟩ := Deep.choose_lt hel
    refine ⟨some a, len, cap, (List.range len).map V, rfl, ⟨⟨by simp, fun hp => ?_⟩, fun i c h => ?_⟩, hbound⟩
    · obtain ⟨g, o, spot⟩ := a
      have hs : spot = none := by
        have := World.cell?_spot (hV 0 hp).1
        simpa [Addr.add] using this
      subst hs
      have hlt : g < W.heap.size := by
        have := World.block_lt_of_cell? W _ (hV 0 hp).1
        simpa [Addr.add] using this
      refine ⟨g, o, rfl, hlt, fun i hi => ?_⟩
      have hi' : i < len := by simpa using hi
      obtain ⟨c0, _⟩ := hV i hi'
      rw [add_plain] at c0
      simp only [List.getElem_map, List.getElem_range]
      rw [show o + (i * 1 + 0) = o + i by omega] at c0
      exact c0
    · have hil : i < len := by
        have := (List.getElem?_eq_some_iff.1 h).1
        simpa using this
      rw [List.getElem?_map, List.getElem?_range hil] at h
      have e : V i = c := by simpa using h
      rw [← e]
      exact (hV i hil).2
theorem Sts.but {w w' : World} {A : Option Addr} {n : Nat} {L : List ByteArray} (h : Sts w A n L) (hw : But [] w w') : Sts w' A n L := by
  refine ⟨h.1, fun hp => ?_⟩
  obtain ⟨g, o, e, hg, hc⟩ := h.2 hp
  exact ⟨g, o, e, Nat.lt_of_lt_of_le hg hw.size, fun i hi => hw.cell (hc i hi) (by simp)⟩
end Go.Proofs.Ytedffeimcccobaa
/- The walk of the statement on what chunks say of an image. -/
namespace Go.Proofs.Ytedffeimcccobaa
open Go Go.RowKit
theorem own_madeH (w : World) : (w.alloc (.cells #[] 30)).ownsRow w.heap.size 30 2 (.slice (some ⟨w.heap.size, 0, none⟩) 0 0) 0 [] :=
  ⟨rfl, .inr ⟨w.heap.size, 0, #[], rfl, Nat.le_refl _, Is.fresh w 30 #[], Nat.le_refl _, Nat.zero_le _, rfl, rfl⟩⟩
theorem fewE_is {L : List Ck} : fewE L = true ↔ sizeE L ≤ 100000 := by unfold fewE; exact decide_eq_true_iff
/-- Both shapes that are told, the chunks, and their copy. -/
def RdT (w : World) (A A' : Option Addr) (n : Nat) (L : List Ck) (g1 g2 : Nat) (cs : Array Value) (v : World) : Prop := Cks v A n L ∧ Cks v A' n L ∧ Is v g1 36 cs ∧ Is v g2 36 cs ∧ But [] w v
theorem RdT.but {w v v' : World} {A A' : Option Addr} {n : Nat} {L : List Ck} {g1 g2 : Nat} {cs : Array Value} (h : RdT w A A' n L g1 g2 cs v) (k : But [] v v') : RdT w A A' n L g1 g2 cs v' :=
  ⟨h.1.but k, h.2.1.but k, h.2.2.1.but k (by simp), h.2.2.2.1.but k (by simp), h.2.2.2.2.trans k⟩
attribute [local irreducible] strL
set_option maxHeartbeats 2000000 in
theorem headReads_walk (haw : Awk) {A : Option Addr} {len cap : Nat} {L : List Ck} {w : World} (hl : CkArg w A len cap L) :
    Calls Try.prog 5 #[.slice A len cap] w fun e w' => e = .returned (.bool true) ∧ Below w.heap.size w w' := by
  obtain ⟨hT, hlc, hcm, hnil, hsz⟩ := hl
  have HA := Lib.hid haw
  have hfw := pfew_any w (cap := cap) hT (by omega) (fun i c h => (hsz i c h).2)
  by_cases hbig : fewE L = false
  · rw [hbig] at hfw
    have HF := Lib.hid hfw
    clear hT hnil hfw hsz hbig haw
    go_enter Try.func5, Try.ntmps5
    go_wp2_with fail
    refine HF.out.mono ?_
    rintro e w0 ⟨rfl, rfl⟩
    go_wp2_with fail
    refine (HA.out.use _).mono ?_
    rintro e w1 ⟨rfl, hB1⟩
    have HB1 := Lib.hid hB1
    clear hB1
    go_wp2
    go_ret
    exact ⟨rfl, HB1.out.belowC⟩
  · have hfew : fewE L = true := by simpa using hbig
    have hsc := fewE_is.1 hfew
    have hsd := sizeE_data L
    have hLL := hT.1
    have hlen : len ≤ 10000 := by omega
    rw [hfew] at hfw
    have HF := Lib.hid hfw
    obtain ⟨i0, hi0, hz0, hz1, hz2⟩ := info_parts info_ck
    have HLEN := Lib.hid hLL
    have HD := Lib.hid (show dataC L ≤ 100000000 by omega)
    have HNIL := Lib.hid hnil
    have HT := Lib.hid hT
    have HTY := Lib.hid (show ∀ (i : Nat) (k : Ck), L[i]? = some k → k.1.length ≤ 140737488351232 from fun i k h => (hsz i k h).1)
    clear hnil hT hfw hsz hbig hfew hsc hLL hsd haw
    go_enter Try.func5, Try.ntmps5
    go_wp2_with fail
    refine HF.out.mono ?_
    rintro e w0 ⟨rfl, rfl⟩
    have HMADE := Lib.hid (own_madeH w)
    go_upto_region 3 with (fail)
    go_cut [3] from 15 to 17 (fun v w1 => ∃ A' c', v = .slice A' len c' ∧ len ≤ c' ∧ Cks w1 A' len L ∧ But [] w w1)
    case first =>
      by_cases h0 : len = 0
      · subst h0
        have HL0 := Lib.hid (show L = [] from List.eq_nil_of_length_eq_zero HLEN.out)
        go_wp2_with (at_builtin; refine wpList_append_fits_any _ rfl _ _ 33 rfl w.heap.size 30 i0 2 Try.underlying33 hi0 hz1 w.heap.size 0 0 [] rfl HMADE.out A 0 cap [] rfl rfl (fun e => ⟨rfl, HNIL.out e⟩) (fun ad _ j u hu => by simp at hu) (by simp) (by omega) ?_; intro w1 hown hgrow)
        go_meet
        refine ⟨some ⟨w.heap.size, 0, none⟩, 0, rfl, Nat.le_refl _, ?_, ((But.refl [] w).alloc _).grown hgrow (fun g e => by injection e with e; subst e; exact .inr (Nat.le_refl _))⟩
        rw [HL0.out]; exact Cks.nil _ _
      · obtain ⟨g, o, _, rfl, hg, _, _, _⟩ := HT.out.at (show 0 < len by omega)
        have HNW := Lib.hid ((HT.out.but ((But.refl [] w).alloc (.cells #[] 30))).news (by omega))
        go_wp2_with (at_builtin; refine wpList_append_own _ rfl _ _ 33 rfl w.heap.size 30 i0 (.agg #[.string ByteArray.empty, .string ByteArray.empty]) 2 32 Try.underlying33 hi0 hz0 hz1 hz2 rfl (by decide) _ 0 [] rfl HMADE.out ⟨g, o, none⟩ len cap (ckCells L) rfl (by rw [length_ckCells, HLEN.out]) HNW.out ?c2 ?c3 ?c4 ?c5 ?_)
        case c2 =>
          intro u hu
          unfold ckCells at hu
          obtain ⟨x, _, hx⟩ := List.mem_flatMap.1 hu
          simp at hx
          rcases hx with rfl | rfl <;> rfl
        case c3 => unfold maxLen; omega
        case c4 => omega
        case c5 => simp
        intro v' w1 hown hgrow _
        obtain ⟨g4, c4, rfl, hc4⟩ : ∃ g4 c4, v' = .slice (some ⟨g4, 0, none⟩) len c4 ∧ len ≤ c4 := by
          rcases hown.2 with ⟨_, e⟩ | ⟨g4, c4, cur, e, _, _, hle, _⟩
          · omega
          · exact ⟨g4, c4, by simpa using e, by omega⟩
        have hO : OwnC w1 w.heap.size (.slice (some ⟨g4, 0, none⟩) len c4) L := by
          unfold OwnC
          rw [HLEN.out]
          simpa using hown
        obtain ⟨A5, c5, e5, hK5⟩ := hO.open
        injection e5 with e3 e4 e6
        rw [← e3, HLEN.out] at hK5
        have HK5 := Lib.hid hK5
        have HGR := Lib.hid hgrow
        clear hown hgrow hO hK5 e3 e4 e6
        go_wp2
        go_meet
        exact ⟨some ⟨g4, 0, none⟩, c4, rfl, hc4, HK5.out, ((But.refl [] w).alloc _).grown HGR.out (fun g e => by
          have : w.heap.size = g := by simpa [Value.ownBlock] using e
          exact .inr (by omega))⟩
    case rest =>
      obtain ⟨A', c', rfl, hc', hO, hB⟩ := hcut
      obtain ⟨w1, rfl⟩ : ∃ w1 : World, w1 = wc := ⟨_, rfl⟩
      have HB := Lib.hid hB
      have HTO := Lib.hid hO
      have HTL := Lib.hid (HT.out.but hB)
      clear hB hO HMADE HNIL HT
      have hE := fun v h => pread_any v (A := A') (n := len) (cap := c') (L := L) h hc' HD.out (by omega) HTY.out
      have hF := fun v h => eread_any v (A := A) (n := len) (cap := cap) (L := L) h HD.out (by omega)
      unfold GotH shapeV at hE hF
      obtain ⟨R, hR⟩ : ∃ R, R = readT L := ⟨_, rfl⟩
      simp only [← hR] at hE hF
      obtain ⟨x0, h0⟩ : ∃ x, x = R.1.getD 0 0 := ⟨_, rfl⟩
      obtain ⟨x1, h1⟩ : ∃ x, x = R.1.getD 1 0 := ⟨_, rfl⟩
      obtain ⟨x2, h2⟩ : ∃ x, x = R.1.getD 2 0 := ⟨_, rfl⟩
      obtain ⟨x3, h3⟩ : ∃ x, x = R.1.getD 3 0 := ⟨_, rfl⟩
      obtain ⟨x4, h4⟩ : ∃ x, x = R.1.getD 4 0 := ⟨_, rfl⟩
      obtain ⟨x5, h5⟩ : ∃ x, x = strL R.2.1.P := ⟨_, rfl⟩
      obtain ⟨x6, h6⟩ : ∃ x, x = strL R.2.1.T := ⟨_, rfl⟩
      obtain ⟨x7, h7⟩ : ∃ x, x = R.2.1.trans := ⟨_, rfl⟩
      obtain ⟨xd, hd⟩ : ∃ x, x = strL R.2.1.D := ⟨_, rfl⟩
      obtain ⟨xe, he⟩ : ∃ x, x = R.2.2 := ⟨_, rfl⟩
      simp only [← h0, ← h1, ← h2, ← h3, ← h4, ← h5, ← h6, ← h7, ← hd, ← he] at hE hF
      have HE := Lib.hid hE
      have HF2 := Lib.hid hF
      clear hE hF hR h0 h1 h2 h3 h4 h5 h6 h7 hd he HD HTY HF
      go_wp2_with fail
      refine (HE.out w1 HTO.out).mono ?_
      rintro e w2 ⟨rfl, hB⟩
      have hB1 := hB.alloc (.cells #[.int .i64 x0, .int .i64 x1, .int .i64 x2, .int .i64 x3, .int .i64 x4, .string x5, .string x6, .bool x7] 36)
      have HI2 := Lib.hid (Is.fresh w2 36 #[.int .i64 x0, .int .i64 x1, .int .i64 x2, .int .i64 x3, .int .i64 x4, .string x5, .string x6, .bool x7])
      have HB2 := Lib.hid (HB.out.trans hB1)
      have HTO2 := Lib.hid (HTO.out.but hB1)
      have HTL2 := Lib.hid (HTL.out.but hB1)
      clear hB hB1 HE HTO HTL
      go_wp2_with fail
      refine (HF2.out _ HTL2.out).mono ?_
      rintro e w3 ⟨rfl, hB⟩
      have hB1 := hB.alloc (.cells #[.int .i64 x0, .int .i64 x1, .int .i64 x2, .int .i64 x3, .int .i64 x4, .string x5, .string x6, .bool x7] 36)
      have HS := Lib.hid (show RdT w A A' len L w2.heap.size w3.heap.size #[.int .i64 x0, .int .i64 x1, .int .i64 x2, .int .i64 x3, .int .i64 x4, .string x5, .string x6, .bool x7] (w3.alloc (.cells #[.int .i64 x0, .int .i64 x1, .int .i64 x2, .int .i64 x3, .int .i64 x4, .string x5, .string x6, .bool x7] 36)) from ⟨HTL2.out.but hB1, HTO2.out.but hB1, HI2.out.but hB1 (by simp), Is.fresh _ _ _, HB2.out.trans hB1⟩)
      clear hB hB1 HF2 HTO2 HTL2 HB2 HI2
      go_wp2
      obtain ⟨w4, hw4⟩ : ∃ x, x = w3.alloc (.cells #[.int .i64 x0, .int .i64 x1, .int .i64 x2, .int .i64 x3, .int .i64 x4, .string x5, .string x6, .bool x7] 36) := ⟨_, rfl⟩
      obtain ⟨g1, hg1⟩ : ∃ x, x = w2.heap.size := ⟨_, rfl⟩
      obtain ⟨g2, hg2⟩ : ∃ x, x = w3.heap.size := ⟨_, rfl⟩
      rw [← hw4, ← hg1, ← hg2] at HS
      rw [← hw4, ← hg1, ← hg2]
      clear hw4 hg1 hg2
      go_loopw [10] (fun iv wr => ∃ i q : Nat, i ≤ len ∧ iv = .int .i64 i ∧ wr = w4.drewN q) (fun iv _ => len - (intOf iv).toNat)
      case atStart => exact ⟨0, 0, Nat.zero_le _, rfl, rfl⟩
      case round =>
        obtain ⟨i, q, hi, rfl, rfl⟩ := hrel
        by_cases hlt : i < len
        · obtain ⟨gg1, o1, a, rfl, hg1, a0, a1, ha⟩ := HS.out.1.at hlt
          obtain ⟨gg2, o2, b, rfl, hg2, b0, b1, hb⟩ := HS.out.2.1.at hlt
          obtain rfl : a = b := Option.some.inj (ha.symm.trans hb)
          have k0 : (0 : Int) ≤ (i : Int) := by omega
          have k1 : (i : Int) < (len : Int) := by omega
          have hneq : ∀ W, (binOp .neq 30 (.agg #[.string (strL a.1), .string (strL a.2)]) (.agg #[.string (strL a.1), .string (strL a.2)])).run Try.prog W = .ok (.bool false) W := fun W => by rw [ck_neq, decide_eq_true ⟨rfl, rfl⟩]; rfl
          clear ha hb hg1 hg2
          go_wp2
          go_quiet (fail)
          go_wp2
          go_roundw
          case rel => exact ⟨i + 1, q + nq, by omega, by go_num, rfl⟩
          case measure => simp [intOf]; omega
        · obtain rfl : i = len := by omega
          have hS := HS.out.but ((But.refl [] w4).drewN q)
          have i1 := hS.2.2.1
          have i2 := hS.2.2.2.1
          have p0 := i1.cell 0
          have p1 := i1.cell 1
          have p2 := i1.cell 2
          have p3 := i1.cell 3
          have p4 := i1.cell 4
          have p5 := i1.cell 5
          have p6 := i1.cell 6
          have p7 := i1.cell 7
          have q0 := i2.cell 0
          have q1 := i2.cell 1
          have q2 := i2.cell 2
          have q3 := i2.cell 3
          have q4 := i2.cell 4
          have q5 := i2.cell 5
          have q6 := i2.cell 6
          have q7 := i2.cell 7
          have HB := Lib.hid hS.2.2.2.2
          clear hS i1 i2
          go_wp2_with fail
          refine (HA.out.use _).mono ?_
          rintro e w5 ⟨rfl, hB⟩
          have HB5 := Lib.hid (HB.out.trans hB)
          clear hB
          go_wp2
          go_ret
          exact ⟨rfl, HB5.out.belowC⟩
end Go.Proofs.Ytedffeimcccobaa
