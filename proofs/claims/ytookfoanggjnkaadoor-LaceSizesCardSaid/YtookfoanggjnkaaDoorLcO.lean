/- The program's count of columns or rows, its pass at a place, and its bytes of a row. -/
import Derived.Test.YtookfoanggjnkaaDoorLcG
import Derived.Test.YtookfoanggjnkaaDoorHpD
set_option maxRecDepth 100000
set_option linter.unusedVariables false
namespace Go.Proofs.YtookfoanggjnkaaDoor
set_option maxRecDepth 100000
open Go Go.RowKit
theorem pcount_any (w : World) {n first step : Nat} (hn : n ≤ 100000) (hf : first < step) (h2 : step ≤ 100) :
    Calls Tryd.prog 28 #[.int .i64 n, .int .i64 first, .int .i64 step] w fun e w' => e = .returned (.int .i64 (manyL n first step : Nat)) ∧ w = w' := by
  obtain ⟨m, hm⟩ : ∃ m, m = manyL n first step := ⟨_, rfl⟩
  rw [← hm]
  have h0 : 0 ≤ (n : Int) - (first : Int) + (step : Int) - 1 := by omega
  have e0 : ((n : Int) - (first : Int) + (step : Int) - 1).tdiv (step : Int) = (m : Int) := by
    rw [Int.tdiv_eq_ediv_of_nonneg h0, hm]
    unfold manyL
    by_cases h : first ≤ n
    · rw [show (n : Int) - (first : Int) + (step : Int) - 1 = ((n - first + step - 1 : Nat) : Int) by omega]
      rfl
    · rw [Int.ediv_eq_zero_of_lt h0 (by omega), show n - first + step - 1 = step - 1 by omega, Nat.div_eq_of_lt (by omega)]
      rfl
  have e1 : ((n : Int) - (first : Int) + (step : Int) - 1) / (step : Int) = (m : Int) := by rw [← Int.tdiv_eq_ediv_of_nonneg h0]; exact e0
  have hm2 : m ≤ 100000 := by rw [hm]; exact Nat.le_trans (manyL_le _ _ _ (by omega)) hn
  have s0 : step ≠ 0 := by omega
  have s1 : (step : Int) ≠ 0 := by omega
  clear hm
  go_enter Tryd.func28, Tryd.ntmps28
  go_wp2
  go_ret
  exact ⟨rfl, rfl⟩
/-- The answer, read. -/
theorem pass_ret {w V : World} {b0 : Nat} {tmps : Array Value} {x y dx dy mW mH : Nat} (hI : Is V b0 34 #[.int .i64 x, .int .i64 y, .int .i64 dx, .int .i64 dy, .int .i64 mW, .int .i64 mH]) (hB : But [] w V) (ht : tmps[4]? = some (.pointer (some ⟨b0, 0, none⟩))) :
    bodyPost Tryd.prog Tryd.f25 (fun e w' => e = .returned (p6Val (x, y, dx, dy, mW, mH)) ∧ But [] w w') Exit.ret { tmps := tmps, defers := [] } V := by
  have e0 := hI.cell 0
  have e1 := hI.cell 1
  have e2 := hI.cell 2
  have e3 := hI.cell 3
  have e4 := hI.cell 4
  have e5 := hI.cell 5
  refine bodyPost_ret (v := p6Val (x, y, dx, dy, mW, mH)) ?_ rfl ⟨rfl, hB⟩
  simp [results, Tryd.results25, go_sem, e0, e1, e2, e3, e4, e5, ht, p6Val]
/-- What the copies of a place and of a head hold, whatever is drawn. -/
def PaS (w : World) (g : Nat) (x y dx dy : Nat) (a b d c l : Int) (v : World) : Prop :=
  Is v g 46 #[.int .i64 x, .int .i64 y, .int .i64 dx, .int .i64 dy] ∧ Is v (g + 1) 23 #[.int .i64 a, .int .i64 b, .int .i64 d, .int .i64 c, .int .i64 l] ∧ But [] w v
theorem PaS.but {w v v' : World} {g x y dx dy : Nat} {a b d c l : Int} (h : PaS w g x y dx dy a b d c l v) (k : But [] v v') : PaS w g x y dx dy a b d c l v' := ⟨h.1.but k (by simp), h.2.1.but k (by simp), h.2.2.trans k⟩
theorem PaS.put {w v : World} {g x y dx dy : Nat} {a b d c l : Int} (h : PaS w g x y dx dy a b d c l v) (hg : w.heap.size ≤ g + 1 + 1) (i : Nat) (u : Value) : PaS w g x y dx dy a b d c l (v.setCell ⟨g + 1 + 1, i, none⟩ u) :=
  ⟨h.1.far (by show g ≠ g + 1 + 1; omega) u, h.2.1.far (by show g + 1 ≠ g + 1 + 1; omega) u, h.2.2.setCell (.inr hg) u⟩
set_option maxHeartbeats 1000000 in
theorem ppassAt_any (w : World) {x y dx dy W H : Nat} {d c l : Int} (hx : x < dx) (hy : y < dy) (h1 : dx ≤ 8) (h2 : dy ≤ 8) (hW : W ≤ 1024) (hH : H ≤ 1024) :
    Calls Tryd.prog 25 #[.agg #[.int .i64 x, .int .i64 y, .int .i64 dx, .int .i64 dy], .agg #[.int .i64 W, .int .i64 H, .int .i64 d, .int .i64 c, .int .i64 l]] w fun e w' => e = .returned (p6Val (x, y, dx, dy, manyL W x dx, manyL H y dy)) ∧ But [] w w' := by
  obtain ⟨mW, hmW⟩ : ∃ m, m = manyL W x dx := ⟨_, rfl⟩
  obtain ⟨mH, hmH⟩ : ∃ m, m = manyL H y dy := ⟨_, rfl⟩
  have HM1 : Hid (∀ v, Calls Tryd.prog 28 #[.int .i64 W, .int .i64 x, .int .i64 dx] v fun e w' => e = .returned (.int .i64 (mW : Nat)) ∧ v = w') := Lib.hid fun v => by rw [hmW]; exact pcount_any v (by omega) hx (by omega)
  have HM2 : Hid (∀ v, Calls Tryd.prog 28 #[.int .i64 H, .int .i64 y, .int .i64 dy] v fun e w' => e = .returned (.int .i64 (mH : Nat)) ∧ v = w') := Lib.hid fun v => by rw [hmH]; exact pcount_any v (by omega) hy (by omega)
  rw [← hmW, ← hmH]
  have hB := (((But.refl [] w).alloc (.cells #[.int .i64 x, .int .i64 y, .int .i64 dx, .int .i64 dy] 46)).alloc (.cells #[.int .i64 W, .int .i64 H, .int .i64 d, .int .i64 c, .int .i64 l] 23)).alloc (.cells #[.int .i64 0, .int .i64 0, .int .i64 0, .int .i64 0, .int .i64 0, .int .i64 0] 34)
  obtain ⟨b0, hb0⟩ : ∃ g, g = w.heap.size := ⟨_, rfl⟩
  have i0 := ((Is.fresh w 46 #[.int .i64 x, .int .i64 y, .int .i64 dx, .int .i64 dy]).alloc (.cells #[.int .i64 W, .int .i64 H, .int .i64 d, .int .i64 c, .int .i64 l] 23)).alloc (.cells #[.int .i64 0, .int .i64 0, .int .i64 0, .int .i64 0, .int .i64 0, .int .i64 0] 34)
  have i1 := (Is.fresh (w.alloc (.cells #[.int .i64 x, .int .i64 y, .int .i64 dx, .int .i64 dy] 46)) 23 #[.int .i64 W, .int .i64 H, .int .i64 d, .int .i64 c, .int .i64 l]).alloc (.cells #[.int .i64 0, .int .i64 0, .int .i64 0, .int .i64 0, .int .i64 0, .int .i64 0] 34)
  have i2 := Is.fresh ((w.alloc (.cells #[.int .i64 x, .int .i64 y, .int .i64 dx, .int .i64 dy] 46)).alloc (.cells #[.int .i64 W, .int .i64 H, .int .i64 d, .int .i64 c, .int .i64 l] 23)) 34 #[.int .i64 0, .int .i64 0, .int .i64 0, .int .i64 0, .int .i64 0, .int .i64 0]
  rw [World.size_alloc] at i1 i2
  rw [World.size_alloc] at i2
  rw [← hb0] at i0 i1 i2
  have hbw : w.heap.size ≤ b0 + 1 + 1 := by omega
  clear hmW hmH hx hy h1 h2 hW hH
  go_enter Tryd.func25, Tryd.ntmps25
  go_upto_region 1 with (fail)
  rw [← hb0]
  obtain ⟨w3, hw3⟩ : ∃ X, X = (((w.alloc (.cells #[.int .i64 x, .int .i64 y, .int .i64 dx, .int .i64 dy] 46)).alloc (.cells #[.int .i64 W, .int .i64 H, .int .i64 d, .int .i64 c, .int .i64 l] 23)).alloc (.cells #[.int .i64 0, .int .i64 0, .int .i64 0, .int .i64 0, .int .i64 0, .int .i64 0] 34)) := ⟨_, rfl⟩
  rw [← hw3] at hB i0 i1 i2 ⊢
  have HJ := Lib.hid i2
  have HBW := Lib.hid hbw
  have HS : Hid (PaS w b0 x y dx dy W H d c l w3) := Lib.hid ⟨i0, i1, hB⟩
  clear i0 i1 i2 hB hbw hw3 hb0
  refine wp_region_m (S := PaS w b0 x y dx dy W H d c l) (R := fun v v' => But [] v v') (fun w => But.refl [] w) (by kernel_rfl) (HS.out.but ((But.refl [] _).drew)) ?_
  refine wpM_take (fun w => But.refl [] w) (fun x y z h k => h.trans k) (i := 0) (v := .pointer (some ⟨b0, 0, none⟩)) rfl (by kernel_rfl) (by kernel_rfl) (by kernel_rfl) (fun _ _ _ h => h) (YieldsR.read (fun w => But.refl [] w) ?_ fun w hS => ?_) ?_
  · go_simp
  · go_simp
  refine wpM_take (fun w => But.refl [] w) (fun x y z h k => h.trans k) (i := 1) (v := .int .i64 (x : Nat)) rfl (by kernel_rfl) (by kernel_rfl) (by kernel_rfl) (fun _ _ _ h => h) (YieldsR.read (fun w => But.refl [] w) ?_ fun w hS => ?_) ?_
  · go_simp
  · have z0 := hS.1.cell 0; have z1 := hS.1.cell 1; have z2 := hS.1.cell 2; have z3 := hS.1.cell 3; go_simp
  refine wpM_take (fun w => But.refl [] w) (fun x y z h k => h.trans k) (i := 2) (v := .pointer (some ⟨b0, 1, none⟩)) rfl (by kernel_rfl) (by kernel_rfl) (by kernel_rfl) (fun _ _ _ h => h) (YieldsR.read (fun w => But.refl [] w) ?_ fun w hS => ?_) ?_
  · go_simp
  · go_simp
  refine wpM_take (fun w => But.refl [] w) (fun x y z h k => h.trans k) (i := 3) (v := .int .i64 (y : Nat)) rfl (by kernel_rfl) (by kernel_rfl) (by kernel_rfl) (fun _ _ _ h => h) (YieldsR.read (fun w => But.refl [] w) ?_ fun w hS => ?_) ?_
  · go_simp
  · have z0 := hS.1.cell 0; have z1 := hS.1.cell 1; have z2 := hS.1.cell 2; have z3 := hS.1.cell 3; go_simp
  refine wpM_take (fun w => But.refl [] w) (fun x y z h k => h.trans k) (i := 4) (v := .pointer (some ⟨b0, 2, none⟩)) rfl (by kernel_rfl) (by kernel_rfl) (by kernel_rfl) (fun _ _ _ h => h) (YieldsR.read (fun w => But.refl [] w) ?_ fun w hS => ?_) ?_
  · go_simp
  · go_simp
  refine wpM_take (fun w => But.refl [] w) (fun x y z h k => h.trans k) (i := 5) (v := .int .i64 (dx : Nat)) rfl (by kernel_rfl) (by kernel_rfl) (by kernel_rfl) (fun _ _ _ h => h) (YieldsR.read (fun w => But.refl [] w) ?_ fun w hS => ?_) ?_
  · go_simp
  · have z0 := hS.1.cell 0; have z1 := hS.1.cell 1; have z2 := hS.1.cell 2; have z3 := hS.1.cell 3; go_simp
  refine wpM_take (fun w => But.refl [] w) (fun x y z h k => h.trans k) (i := 6) (v := .pointer (some ⟨b0, 3, none⟩)) rfl (by kernel_rfl) (by kernel_rfl) (by kernel_rfl) (fun _ _ _ h => h) (YieldsR.read (fun w => But.refl [] w) ?_ fun w hS => ?_) ?_
  · go_simp
  · go_simp
  refine wpM_take (fun w => But.refl [] w) (fun x y z h k => h.trans k) (i := 7) (v := .int .i64 (dy : Nat)) rfl (by kernel_rfl) (by kernel_rfl) (by kernel_rfl) (fun _ _ _ h => h) (YieldsR.read (fun w => But.refl [] w) ?_ fun w hS => ?_) ?_
  · go_simp
  · have z0 := hS.1.cell 0; have z1 := hS.1.cell 1; have z2 := hS.1.cell 2; have z3 := hS.1.cell 3; go_simp
  refine wpM_take (fun w => But.refl [] w) (fun x y z h k => h.trans k) (i := 8) (v := .pointer (some ⟨b0 + 1, 0, none⟩)) rfl (by kernel_rfl) (by kernel_rfl) (by kernel_rfl) (fun _ _ _ h => h) (YieldsR.read (fun w => But.refl [] w) ?_ fun w hS => ?_) ?_
  · go_simp
  · go_simp
  refine wpM_take (fun w => But.refl [] w) (fun x y z h k => h.trans k) (i := 9) (v := .int .i64 (W : Nat)) rfl (by kernel_rfl) (by kernel_rfl) (by kernel_rfl) (fun _ _ _ h => h) (YieldsR.read (fun w => But.refl [] w) ?_ fun w hS => ?_) ?_
  · go_simp
  · have z0 := hS.2.1.cell 0; have z1 := hS.2.1.cell 1; go_simp
  refine wpM_take (fun w => But.refl [] w) (fun x y z h k => h.trans k) (i := 10) (v := .pointer (some ⟨b0, 0, none⟩)) rfl (by kernel_rfl) (by kernel_rfl) (by kernel_rfl) (fun _ _ _ h => h) (YieldsR.read (fun w => But.refl [] w) ?_ fun w hS => ?_) ?_
  · go_simp
  · go_simp
  refine wpM_take (fun w => But.refl [] w) (fun x y z h k => h.trans k) (i := 11) (v := .int .i64 (x : Nat)) rfl (by kernel_rfl) (by kernel_rfl) (by kernel_rfl) (fun _ _ _ h => h) (YieldsR.read (fun w => But.refl [] w) ?_ fun w hS => ?_) ?_
  · go_simp
  · have z0 := hS.1.cell 0; have z1 := hS.1.cell 1; have z2 := hS.1.cell 2; have z3 := hS.1.cell 3; go_simp
  refine wpM_take (fun w => But.refl [] w) (fun x y z h k => h.trans k) (i := 12) (v := .pointer (some ⟨b0, 2, none⟩)) rfl (by kernel_rfl) (by kernel_rfl) (by kernel_rfl) (fun _ _ _ h => h) (YieldsR.read (fun w => But.refl [] w) ?_ fun w hS => ?_) ?_
  · go_simp
  · go_simp
  refine wpM_take (fun w => But.refl [] w) (fun x y z h k => h.trans k) (i := 13) (v := .int .i64 (dx : Nat)) rfl (by kernel_rfl) (by kernel_rfl) (by kernel_rfl) (fun _ _ _ h => h) (YieldsR.read (fun w => But.refl [] w) ?_ fun w hS => ?_) ?_
  · go_simp
  · have z0 := hS.1.cell 0; have z1 := hS.1.cell 1; have z2 := hS.1.cell 2; have z3 := hS.1.cell 3; go_simp
  refine wpM_take (fun w => But.refl [] w) (fun x y z h k => h.trans k) (i := 14) (v := .int .i64 (mW : Nat)) rfl (by kernel_rfl) (by kernel_rfl) (by kernel_rfl) (fun _ _ _ h => h) (.inl ⟨?_, fun w hS => .inr ⟨_, _, ?_, (HM1.out w).mono ?_⟩⟩) ?_
  · go_simp
  · go_simp
  · rintro e wy ⟨rfl, rfl⟩; exact ⟨rfl, hS, But.refl [] _⟩
  refine wpM_take (fun w => But.refl [] w) (fun x y z h k => h.trans k) (i := 15) (v := .pointer (some ⟨b0 + 1, 1, none⟩)) rfl (by kernel_rfl) (by kernel_rfl) (by kernel_rfl) (fun _ _ _ h => h) (YieldsR.read (fun w => But.refl [] w) ?_ fun w hS => ?_) ?_
  · go_simp
  · go_simp
  refine wpM_take (fun w => But.refl [] w) (fun x y z h k => h.trans k) (i := 16) (v := .int .i64 (H : Nat)) rfl (by kernel_rfl) (by kernel_rfl) (by kernel_rfl) (fun _ _ _ h => h) (YieldsR.read (fun w => But.refl [] w) ?_ fun w hS => ?_) ?_
  · go_simp
  · have z0 := hS.2.1.cell 0; have z1 := hS.2.1.cell 1; go_simp
  refine wpM_take (fun w => But.refl [] w) (fun x y z h k => h.trans k) (i := 17) (v := .pointer (some ⟨b0, 1, none⟩)) rfl (by kernel_rfl) (by kernel_rfl) (by kernel_rfl) (fun _ _ _ h => h) (YieldsR.read (fun w => But.refl [] w) ?_ fun w hS => ?_) ?_
  · go_simp
  · go_simp
  refine wpM_take (fun w => But.refl [] w) (fun x y z h k => h.trans k) (i := 18) (v := .int .i64 (y : Nat)) rfl (by kernel_rfl) (by kernel_rfl) (by kernel_rfl) (fun _ _ _ h => h) (YieldsR.read (fun w => But.refl [] w) ?_ fun w hS => ?_) ?_
  · go_simp
  · have z0 := hS.1.cell 0; have z1 := hS.1.cell 1; have z2 := hS.1.cell 2; have z3 := hS.1.cell 3; go_simp
  refine wpM_take (fun w => But.refl [] w) (fun x y z h k => h.trans k) (i := 19) (v := .pointer (some ⟨b0, 3, none⟩)) rfl (by kernel_rfl) (by kernel_rfl) (by kernel_rfl) (fun _ _ _ h => h) (YieldsR.read (fun w => But.refl [] w) ?_ fun w hS => ?_) ?_
  · go_simp
  · go_simp
  refine wpM_take (fun w => But.refl [] w) (fun x y z h k => h.trans k) (i := 20) (v := .int .i64 (dy : Nat)) rfl (by kernel_rfl) (by kernel_rfl) (by kernel_rfl) (fun _ _ _ h => h) (YieldsR.read (fun w => But.refl [] w) ?_ fun w hS => ?_) ?_
  · go_simp
  · have z0 := hS.1.cell 0; have z1 := hS.1.cell 1; have z2 := hS.1.cell 2; have z3 := hS.1.cell 3; go_simp
  refine wpM_take (fun w => But.refl [] w) (fun x y z h k => h.trans k) (i := 21) (v := .int .i64 (mH : Nat)) rfl (by kernel_rfl) (by kernel_rfl) (by kernel_rfl) (fun _ _ _ h => h) (.inl ⟨?_, fun w hS => .inr ⟨_, _, ?_, (HM2.out w).mono ?_⟩⟩) ?_
  · go_simp
  · go_simp
  · rintro e wy ⟨rfl, rfl⟩; exact ⟨rfl, hS, But.refl [] _⟩
  refine wpM_take (fun w => But.refl [] w) (fun x y z h k => h.trans k) (i := 22) (v := .agg #[.int .i64 (x : Nat), .int .i64 (y : Nat), .int .i64 (dx : Nat), .int .i64 (dy : Nat), .int .i64 (mW : Nat), .int .i64 (mH : Nat)]) rfl (by kernel_rfl) (by kernel_rfl) (by kernel_rfl) (fun _ _ _ h => h) (YieldsR.read (fun w => But.refl [] w) ?_ fun w hS => ?_) ?_
  · go_simp
  · go_simp
  refine wpM_one (i := 23) rfl (by kernel_rfl) fun w6 hR6 hS6 K' hK => ?_
  have j2 := HJ.out.but (((But.refl [] _).drew).trans hR6) (by simp)
  have t0 := j2.free 0
  have t1 := j2.free 1
  have t2 := j2.free 2
  have t3 := j2.free 3
  have t4 := j2.free 4
  have t5 := j2.free 5
  have s0 := j2.cell 0
  have s1 := j2.cell 1
  have s2 := j2.cell 2
  have s3 := j2.cell 3
  have s4 := j2.cell 4
  have s5 := j2.cell 5
  clear hR6
  have HJ2 := Lib.hid j2
  have HS6 := Lib.hid hS6
  clear j2 hS6 HS HJ
  go_simp
  refine hK _ _ ⟨(((((HS6.out.put HBW.out 0 _).put HBW.out 1 _).put HBW.out 2 _).put HBW.out 3 _).put HBW.out 4 _).put HBW.out 5 _, ?_⟩
  clear hK K' s0 s1 s2 s3 s4 s5 t0 t1 t2 t3 t4 t5
  refine ⟨by kernel_rfl, fun w9 hR9 hS9 => ?_⟩
  have j9 : Is w9 (b0 + 1 + 1) 34 #[.int .i64 x, .int .i64 y, .int .i64 dx, .int .i64 dy, .int .i64 mW, .int .i64 mH] := Is.but ((((((HJ2.out.put 0 (.int .i64 x)).put 1 (.int .i64 y)).put 2 (.int .i64 dx)).put 3 (.int .i64 dy)).put 4 (.int .i64 mW)).put 5 (.int .i64 mH)) hR9 (by simp)
  clear hR9
  have hB9 := hS9.2.2
  have HJ9 := Lib.hid j9
  have HB9 := Lib.hid hB9
  clear hS9 j9 hB9 HJ2 HS6
  go_simp
  go_wp2
  exact pass_ret HJ9.out HB9.out rfl
set_option maxHeartbeats 1000000 in
theorem lrow_any (w : World) (a b d c l n : Int) :
    Calls Tryd.prog 14 #[.agg #[.int .i64 a, .int .i64 b, .int .i64 d, .int .i64 c, .int .i64 l], .int .i64 n] w fun e w' => e = .returned (.int .i64 (rowA a b d c l n : Nat)) ∧ But [] w w' := by
  have hE := fun v => pright_h v a b d c l
  obtain ⟨er, her⟩ : ∃ x, x = rightH a b d c l := ⟨_, rfl⟩
  have HER := Lib.hid her
  simp only [← her] at hE
  have HE := Lib.hid hE
  have hI := Is.fresh w 23 #[.int .i64 a, .int .i64 b, .int .i64 d, .int .i64 c, .int .i64 l]
  have HA := Lib.hid ((But.refl [] w).alloc (.cells #[.int .i64 a, .int .i64 b, .int .i64 d, .int .i64 c, .int .i64 l] 23))
  have c0 := hI.cell 0
  have c1 := hI.cell 1
  have c2 := hI.cell 2
  have c3 := hI.cell 3
  have c4 := hI.cell 4
  have HI := Lib.hid hI
  clear hE hI
  by_cases h0 : er = 0
  · subst h0
    by_cases h1 : n < 1
    · have HR := Lib.hid (rowA_bad (a := a) (b := b) (d := d) (c := c) (l := l) (n := n) (.inr (.inl h1)))
      rw [HR.out]
      clear her
      go_enter Tryd.func14, Tryd.ntmps14
      go_wp2_with fail
      refine (HE.out _).mono ?_
      rintro e w1 ⟨rfl, hB⟩
      have HB := Lib.hid (HA.out.trans hB)
      clear hB
      go_wp2
      go_ret
      exact ⟨rfl, HB.out⟩
    · by_cases h2 : 1024 < n
      · have HR := Lib.hid (rowA_bad (a := a) (b := b) (d := d) (c := c) (l := l) (n := n) (.inr (.inr h2)))
        rw [HR.out]
        clear her
        go_enter Tryd.func14, Tryd.ntmps14
        go_wp2_with fail
        refine (HE.out _).mono ?_
        rintro e w1 ⟨rfl, hB⟩
        have HB := Lib.hid (HA.out.trans hB)
        clear hB
        go_wp2
        go_ret
        exact ⟨rfl, HB.out⟩
      · obtain ⟨D, S, hd, hs, hD, hS, hm, _⟩ := depth_nat (rightH_ok her.symm).2.2.2.2
        obtain ⟨P, rfl⟩ : ∃ P : Nat, n = (P : Int) := ⟨n.toNat, by omega⟩
        have hr := rowA_ok her.symm hd hs (n := P) (by omega) (by omega)
        obtain ⟨q, hq⟩ : ∃ q, q = D * S := ⟨_, rfl⟩
        rw [← hq] at hr hm
        obtain ⟨r, hr2⟩ : ∃ r, r = q * P := ⟨_, rfl⟩
        rw [← hr2] at hr
        have hr3 : r ≤ 65536 := by rw [hr2]; show _ ≤ 64 * 1024; exact Nat.mul_le_mul hm (by omega)
        have e1 : (D : Int) * (S : Int) = (q : Int) := by rw [hq, Int.natCast_mul]
        have e2 : (q : Int) * (P : Int) = (r : Int) := by rw [hr2, Int.natCast_mul]
        subst hd
        have HSM : Hid (∀ v, Calls Tryd.prog 22 #[.int .i64 c] v fun e w' => e = .returned (.int .i64 (S : Int)) ∧ v = w') := Lib.hid fun v => by rw [← hs]; exact psamples_any v c
        have HR := Lib.hid hr
        rw [HR.out]
        obtain ⟨x, hx⟩ : ∃ x, x = (r + 7) / 8 := ⟨_, rfl⟩
        have f1 : ((r : Int) + 7).tdiv 8 = (x : Int) := by rw [Int.tdiv_eq_ediv_of_nonneg (by omega)]; omega
        have f2 : ((r : Int) + 7) / 8 = (x : Int) := by omega
        have v1 : IntKind.i64.wrap (q : Int) = (q : Int) := by rw [IntKind.wrap_i64]; omega
        have v2 : IntKind.i64.wrap (r : Int) = (r : Int) := by rw [IntKind.wrap_i64]; omega
        rw [← hx]
        clear hx
        obtain ⟨D1, D2⟩ := hD
        obtain ⟨S1, S2⟩ := hS
        clear her hr hs hq hr2
        go_enter Tryd.func14, Tryd.ntmps14
        go_wp2_with fail
        refine (HE.out _).mono ?_
        rintro e w1 ⟨rfl, hB⟩
        have HB := Lib.hid (HA.out.trans hB)
        have hI1 := HI.out.but hB (by simp)
        have c2 := hI1.cell 2
        have c3 := hI1.cell 3
        have k2 := (hI1.drew).cell 2
        have k3 := (hI1.drew).cell 3
        have hlt := hI1.lt
        clear hB hI1
        go_upto_region 3 with (fail)
        go_region_with (refine (HSM.out _).mono ?_; rintro e w6 ⟨rfl, rfl⟩)
        all_goals go_wp2
        all_goals go_ret
        all_goals refine ⟨?_, HB.out.drew⟩
        all_goals go_simp
  · have h1 : er = 5 ∨ er = 24 := by rcases rightH_cases a b d c l with h | h | h <;> simp_all
    have HR := Lib.hid (rowA_bad (a := a) (b := b) (d := d) (c := c) (l := l) (n := n) (.inl (by rw [← her]; exact h0)))
    rw [HR.out]
    clear her h0 HER
    rcases h1 with rfl | rfl
    · go_enter Tryd.func14, Tryd.ntmps14
      go_wp2_with fail
      refine (HE.out _).mono ?_
      rintro e w1 ⟨rfl, hB⟩
      have HB := Lib.hid (HA.out.trans hB)
      clear hB
      go_wp2
      go_ret
      exact ⟨rfl, HB.out⟩
    · go_enter Tryd.func14, Tryd.ntmps14
      go_wp2_with fail
      refine (HE.out _).mono ?_
      rintro e w1 ⟨rfl, hB⟩
      have HB := Lib.hid (HA.out.trans hB)
      clear hB
      go_wp2
      go_ret
      exact ⟨rfl, HB.out⟩
end Go.Proofs.YtookfoanggjnkaaDoor
