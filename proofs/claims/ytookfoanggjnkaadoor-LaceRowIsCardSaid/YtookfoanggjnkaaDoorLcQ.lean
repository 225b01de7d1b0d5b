/- The walks of the statements on passes, rows and sizes. -/
import Derived.Test.YtookfoanggjnkaaDoorLcU
set_option maxRecDepth 100000
set_option linter.unusedVariables false
namespace Go.Proofs.YtookfoanggjnkaaDoor
set_option maxRecDepth 100000
open Go Go.RowKit
/-- The chapter's examples come out. -/
def Awk10 : Prop := ∀ v : World, GP v → Calls Tryd.prog 13 #[] v fun e w' => e = .returned (.bool true) ∧ But [] v w'
theorem But.belowL {w w' : World} (h : But [] w w') : Below w.heap.size w w' := ⟨h.os, h.tape, h.output, h.size, fun k hk => h.block k hk (by simp)⟩
/-- The head that is handed in lies in a block of its own. -/
def HlS (w : World) (g : Nat) (a b d c l : Int) (v : World) : Prop := Is v g 23 #[.int .i64 a, .int .i64 b, .int .i64 d, .int .i64 c, .int .i64 l] ∧ But [] w v
theorem HlS.but {w v v' : World} {g : Nat} {a b d c l : Int} (h : HlS w g a b d c l v) (k : But [] v v') : HlS w g a b d c l v' := ⟨h.1.but k (by simp), h.2.trans k⟩
theorem passA_none {a b d c l : Int} (h : passA a b d c l ≠ []) : rightH a b d c l = 0 := by
  by_cases e : rightH a b d c l = 0
  · exact e
  · exact absurd (passA_bad e) h
theorem passA_plain {W H : Nat} {d c : Int} (h : rightH (W : Int) (H : Int) d c 0 = 0) : passA (W : Int) (H : Int) d c 0 = [(0, 0, 1, 1, W, H)] := by
  obtain ⟨⟨a1, a2⟩, ⟨b1, b2⟩, _⟩ := rightH_ok h
  rw [passA_ok h]
  have eW : manyL W 0 1 = W := by unfold manyL; omega
  have eH : manyL H 0 1 = H := by unfold manyL; omega
  have hs : someP W H ⟨0, 0, 1, 1⟩ = true := by
    unfold someP
    dsimp only
    rw [eW, eH]
    exact decide_eq_true ⟨by omega, by omega⟩
  unfold passL plainL
  rw [if_neg (by decide), List.filter_cons, if_pos hs]
  show [p6 W H ⟨0, 0, 1, 1⟩] = _
  unfold p6
  dsimp only
  rw [eW, eH]
theorem rowA_more {a b d c l : Int} {n : Nat} (h0 : rightH a b d c l = 0) (h1 : 1 ≤ n) (h2 : n ≤ 1023) : 1 ≤ rowA a b d c l (n : Int) ∧ rowA a b d c l (n : Int) ≤ rowA a b d c l ((n + 1 : Nat) : Int) ∧ rowA a b d c l ((n + 1 : Nat) : Int) ≤ rowA a b d c l (n : Int) + 8 := by
  obtain ⟨D, S, hd, hs, _, _, hm, hp⟩ := depth_nat (rightH_ok h0).2.2.2.2
  rw [rowA_ok h0 hd hs h1 (by omega), rowA_ok h0 hd hs (by omega) (by omega)]
  obtain ⟨q, hq⟩ : ∃ q, q = D * S := ⟨_, rfl⟩
  rw [← hq] at hm hp ⊢
  obtain ⟨r, hr⟩ : ∃ r, r = q * n := ⟨_, rfl⟩
  have hr1 : 1 ≤ r := by rw [hr]; exact Nat.mul_pos hp h1
  rw [show q * (n + 1) = q * n + q from Nat.mul_succ q n, ← hr]
  omega
attribute [local irreducible] passA rowA sizeA
set_option maxHeartbeats 1000000 in
theorem lacePasses_walk (haw : Awk10) {a b d c l : Int} {w : World} (hG : GP w) :
    Calls Tryd.prog 3 #[.agg #[.int .i64 a, .int .i64 b, .int .i64 d, .int .i64 c, .int .i64 l]] w fun e w' => e = .returned (.bool true) ∧ Below w.heap.size w w' := by
  have HG := Lib.hid hG
  have HA : Hid (∀ v, But [] w v → Calls Tryd.prog 13 #[] v fun e w' => e = .returned (.bool true) ∧ But [] v w') := Lib.hid fun v hv => haw v (HG.out.but hv)
  clear haw hG
  obtain ⟨L, hL⟩ : ∃ L, L = passA a b d c l := ⟨_, rfl⟩
  obtain ⟨N, hN⟩ : ∃ N, N = L.length := ⟨_, rfl⟩
  have hN7 : N ≤ 7 := by rw [hN, hL]; exact passA_len a b d c l
  have HP : Hid (∀ v, But [] w v → Calls Tryd.prog 11 #[.agg #[.int .i64 a, .int .i64 b, .int .i64 d, .int .i64 c, .int .i64 l]] v fun e w' => ∃ A cap, e = .returned (.slice A N cap) ∧ Pss w' A N L ∧ N ≤ cap ∧ But [] v w') := Lib.hid fun v hv => by rw [hN, hL]; exact lpasses_any v (HG.out.but hv) a b d c l
  have HE : Hid (∀ v, Calls Tryd.prog 12 #[.agg #[.int .i64 a, .int .i64 b, .int .i64 d, .int .i64 c, .int .i64 l]] v fun e w' => ∃ A cap, e = .returned (.slice A N cap) ∧ Pss w' A N L ∧ N ≤ cap ∧ But [] v w') := Lib.hid fun v => by rw [hN, hL]; exact epasses_any v a b d c l
  clear hL hN
  have HS : Hid (HlS w w.heap.size a b d c l (w.alloc (.cells #[.int .i64 a, .int .i64 b, .int .i64 d, .int .i64 c, .int .i64 l] 23))) := Lib.hid ⟨Is.fresh _ _ _, (But.refl [] w).alloc _⟩
  have c0 := HS.out.1.cell 0
  have c1 := HS.out.1.cell 1
  have c2 := HS.out.1.cell 2
  have c3 := HS.out.1.cell 3
  have c4 := HS.out.1.cell 4
  go_enter Tryd.func3, Tryd.ntmps3
  go_upto_region 1 with (fail)
  refine wp_region_m (S := HlS w w.heap.size a b d c l) (R := fun v v' => But [] v v') (fun w => But.refl [] w) (by kernel_rfl) (HS.out.but ((But.refl [] _).drew)) ?_
  refine wpM_take (fun w => But.refl [] w) (fun x y z h k => h.trans k) (i := 0) (v := .agg #[.int .i64 a, .int .i64 b, .int .i64 d, .int .i64 c, .int .i64 l]) rfl (by kernel_rfl) (by kernel_rfl) (by kernel_rfl) (fun _ _ _ h => h) (YieldsR.read (fun w => But.refl [] w) ?_ fun w hS => ?_) ?_
  · go_simp
  · have z0 := hS.1.cell 0; have z1 := hS.1.cell 1; have z2 := hS.1.cell 2; have z3 := hS.1.cell 3; have z4 := hS.1.cell 4; go_simp
  refine wpM_take (fun w => But.refl [] w) (fun x y z h k => h.trans k) (i := 2) (v := .agg #[.int .i64 a, .int .i64 b, .int .i64 d, .int .i64 c, .int .i64 l]) rfl (by kernel_rfl) (by kernel_rfl) (by kernel_rfl) (fun _ _ _ h => h) (YieldsR.read (fun w => But.refl [] w) ?_ fun w hS => ?_) ?_
  · go_simp
  · have z0 := hS.1.cell 0; have z1 := hS.1.cell 1; have z2 := hS.1.cell 2; have z3 := hS.1.cell 3; have z4 := hS.1.cell 4; go_simp
  refine wpM_one (i := 1) rfl (by kernel_rfl) ?_
  intro w4 hR4 hS4 K' hK
  go_simp
  refine (HP.out w4 hS4.2).mono ?_
  rintro e w5 ⟨A1, cap1, rfl, hP1, hcap1, hB5⟩
  refine hK _ _ ⟨hS4.but hB5, ?_⟩
  clear hK K'
  refine wpM_one (i := 3) rfl (by kernel_rfl) fun w6 hR6 hS6 K' hK => ?_
  go_simp
  refine (HE.out w6).mono ?_
  rintro e w7 ⟨A2, cap2, rfl, hP2, hcap2, hB7⟩
  refine hK _ _ ⟨hS6.but hB7, ?_⟩
  clear hK K'
  have hP1 := (hP1.but hR6).but hB7
  refine wpM_one (i := 4) rfl (by kernel_rfl) fun w8 hR8 hS8 K' hK => ?_
  go_simp
  refine (lsame_any w8 (hP1.but hR8) (hP2.but hR8) (by omega)).mono ?_
  rintro e w10 ⟨rfl, hB10⟩
  refine hK _ _ ⟨hS8.but hB10, ?_⟩
  clear hK K'
  refine wpM_take (fun w => But.refl [] w) (fun x y z h k => h.trans k) (i := 5) (v := .bool true) rfl (by kernel_rfl) (by kernel_rfl) (by kernel_rfl) (fun _ _ _ h => h) (YieldsR.read (fun w => But.refl [] w) ?_ fun w hS => ?_) ?_
  · go_simp
  · go_simp
  refine wpM_take (fun w => But.refl [] w) (fun x y z h k => h.trans k) (i := 6) (v := .bool true) rfl (by kernel_rfl) (by kernel_rfl) (by kernel_rfl) (fun _ _ _ h => h) (.inl ⟨?_, fun w hS => .inr ⟨_, _, ?_, (HA.out w hS.2).mono ?_⟩⟩) ?_
  · go_simp
  · go_simp
  · rintro e wy ⟨rfl, hB⟩; exact ⟨rfl, hS.but hB, hB⟩
  refine wpM_take (fun w => But.refl [] w) (fun x y z h k => h.trans k) (i := 7) (v := .bool true) rfl (by kernel_rfl) (by kernel_rfl) (by kernel_rfl) (fun _ _ _ h => h) (YieldsR.read (fun w => But.refl [] w) ?_ fun w hS => ?_) ?_
  · go_simp
  · go_simp
  refine wpM_take (fun w => But.refl [] w) (fun x y z h k => h.trans k) (i := 8) (v := .bool true) rfl (by kernel_rfl) (by kernel_rfl) (by kernel_rfl) (fun _ _ _ h => h) (YieldsR.read (fun w => But.refl [] w) ?_ fun w hS => ?_) ?_
  · go_simp
  · go_simp
  refine ⟨by kernel_rfl, fun w9 hR9 hS9 => ?_⟩
  clear hR9
  have HS9 := Lib.hid hS9
  clear hS9 HS
  go_simp
  go_wp2
  go_ret
  exact ⟨rfl, HS9.out.2.belowL⟩
set_option maxHeartbeats 1000000 in
theorem laceSizes_walk (haw : Awk10) {a b d c l n : Int} (hn : (Lit.int .i64 n).wf = true) {w : World} (hG : GP w) :
    Calls Tryd.prog 4 #[.agg #[.int .i64 a, .int .i64 b, .int .i64 d, .int .i64 c, .int .i64 l], .int .i64 n] w fun e w' => e = .returned (.bool true) ∧ Below w.heap.size w w' := by
  have HG := Lib.hid hG
  have HA : Hid (∀ v, But [] w v → Calls Tryd.prog 13 #[] v fun e w' => e = .returned (.bool true) ∧ But [] v w') := Lib.hid fun v hv => haw v (HG.out.but hv)
  clear haw hG
  obtain ⟨R, hR⟩ : ∃ R, R = rowA a b d c l n := ⟨_, rfl⟩
  have HP : Hid (∀ v, Calls Tryd.prog 14 #[.agg #[.int .i64 a, .int .i64 b, .int .i64 d, .int .i64 c, .int .i64 l], .int .i64 n] v fun e w' => e = .returned (.int .i64 (R : Nat)) ∧ But [] v w') := Lib.hid fun v => by rw [hR]; exact lrow_any v a b d c l n
  have HE : Hid (∀ v, Calls Tryd.prog 15 #[.agg #[.int .i64 a, .int .i64 b, .int .i64 d, .int .i64 c, .int .i64 l], .int .i64 n] v fun e w' => e = .returned (.int .i64 (R : Nat)) ∧ But [] v w') := Lib.hid fun v => by rw [hR]; exact erow_any v a b d c l n
  clear hR
  obtain ⟨Z, hZ⟩ : ∃ R, R = sizeA a b d c l := ⟨_, rfl⟩
  have HPZ : Hid (∀ v, But [] w v → Calls Tryd.prog 16 #[.agg #[.int .i64 a, .int .i64 b, .int .i64 d, .int .i64 c, .int .i64 l]] v fun e w' => e = .returned (.int .i64 (Z : Nat)) ∧ But [] v w') := Lib.hid fun v hv => by rw [hZ]; exact lsize_any v (HG.out.but hv) a b d c l
  have HEZ : Hid (∀ v, Calls Tryd.prog 17 #[.agg #[.int .i64 a, .int .i64 b, .int .i64 d, .int .i64 c, .int .i64 l]] v fun e w' => e = .returned (.int .i64 (Z : Nat)) ∧ But [] v w') := Lib.hid fun v => by rw [hZ]; exact esize_any v a b d c l
  clear hZ
  have HS : Hid (HlS w w.heap.size a b d c l (w.alloc (.cells #[.int .i64 a, .int .i64 b, .int .i64 d, .int .i64 c, .int .i64 l] 23))) := Lib.hid ⟨Is.fresh _ _ _, (But.refl [] w).alloc _⟩
  have c0 := HS.out.1.cell 0
  have c1 := HS.out.1.cell 1
  have c2 := HS.out.1.cell 2
  have c3 := HS.out.1.cell 3
  have c4 := HS.out.1.cell 4
  go_enter Tryd.func4, Tryd.ntmps4
  go_upto_region 1 with (fail)
  refine wp_region_m (S := HlS w w.heap.size a b d c l) (R := fun v v' => But [] v v') (fun w => But.refl [] w) (by kernel_rfl) (HS.out.but ((But.refl [] _).drew)) ?_
  refine wpM_take (fun w => But.refl [] w) (fun x y z h k => h.trans k) (i := 0) (v := .agg #[.int .i64 a, .int .i64 b, .int .i64 d, .int .i64 c, .int .i64 l]) rfl (by kernel_rfl) (by kernel_rfl) (by kernel_rfl) (fun _ _ _ h => h) (YieldsR.read (fun w => But.refl [] w) ?_ fun w hS => ?_) ?_
  · go_simp
  · have z0 := hS.1.cell 0; have z1 := hS.1.cell 1; have z2 := hS.1.cell 2; have z3 := hS.1.cell 3; have z4 := hS.1.cell 4; go_simp
  refine wpM_take (fun w => But.refl [] w) (fun x y z h k => h.trans k) (i := 1) (v := .int .i64 n) rfl (by kernel_rfl) (by kernel_rfl) (by kernel_rfl) (fun _ _ _ h => h) (YieldsR.read (fun w => But.refl [] w) ?_ fun w hS => ?_) ?_
  · go_simp
  · go_simp
  refine wpM_take (fun w => But.refl [] w) (fun x y z h k => h.trans k) (i := 2) (v := .int .i64 (R : Nat)) rfl (by kernel_rfl) (by kernel_rfl) (by kernel_rfl) (fun _ _ _ h => h) (.inl ⟨?_, fun w hS => .inr ⟨_, _, ?_, (HP.out w).mono ?_⟩⟩) ?_
  · go_simp
  · go_simp
  · rintro e wy ⟨rfl, hB⟩; exact ⟨rfl, hS.but hB, hB⟩
  refine wpM_take (fun w => But.refl [] w) (fun x y z h k => h.trans k) (i := 3) (v := .agg #[.int .i64 a, .int .i64 b, .int .i64 d, .int .i64 c, .int .i64 l]) rfl (by kernel_rfl) (by kernel_rfl) (by kernel_rfl) (fun _ _ _ h => h) (YieldsR.read (fun w => But.refl [] w) ?_ fun w hS => ?_) ?_
  · go_simp
  · have z0 := hS.1.cell 0; have z1 := hS.1.cell 1; have z2 := hS.1.cell 2; have z3 := hS.1.cell 3; have z4 := hS.1.cell 4; go_simp
  refine wpM_take (fun w => But.refl [] w) (fun x y z h k => h.trans k) (i := 4) (v := .int .i64 n) rfl (by kernel_rfl) (by kernel_rfl) (by kernel_rfl) (fun _ _ _ h => h) (YieldsR.read (fun w => But.refl [] w) ?_ fun w hS => ?_) ?_
  · go_simp
  · go_simp
  refine wpM_take (fun w => But.refl [] w) (fun x y z h k => h.trans k) (i := 5) (v := .int .i64 (R : Nat)) rfl (by kernel_rfl) (by kernel_rfl) (by kernel_rfl) (fun _ _ _ h => h) (.inl ⟨?_, fun w hS => .inr ⟨_, _, ?_, (HE.out w).mono ?_⟩⟩) ?_
  · go_simp
  · go_simp
  · rintro e wy ⟨rfl, hB⟩; exact ⟨rfl, hS.but hB, hB⟩
  refine wpM_take (fun w => But.refl [] w) (fun x y z h k => h.trans k) (i := 6) (v := .bool true) rfl (by kernel_rfl) (by kernel_rfl) (by kernel_rfl) (fun _ _ _ h => h) (YieldsR.read (fun w => But.refl [] w) ?_ fun w hS => ?_) ?_
  · go_simp
  · go_simp
  refine wpM_take (fun w => But.refl [] w) (fun x y z h k => h.trans k) (i := 7) (v := .bool true) rfl (by kernel_rfl) (by kernel_rfl) (by kernel_rfl) (fun _ _ _ h => h) (YieldsR.read (fun w => But.refl [] w) ?_ fun w hS => ?_) ?_
  · go_simp
  · go_simp
  refine wpM_take (fun w => But.refl [] w) (fun x y z h k => h.trans k) (i := 8) (v := .agg #[.int .i64 a, .int .i64 b, .int .i64 d, .int .i64 c, .int .i64 l]) rfl (by kernel_rfl) (by kernel_rfl) (by kernel_rfl) (fun _ _ _ h => h) (YieldsR.read (fun w => But.refl [] w) ?_ fun w hS => ?_) ?_
  · go_simp
  · have z0 := hS.1.cell 0; have z1 := hS.1.cell 1; have z2 := hS.1.cell 2; have z3 := hS.1.cell 3; have z4 := hS.1.cell 4; go_simp
  refine wpM_take (fun w => But.refl [] w) (fun x y z h k => h.trans k) (i := 9) (v := .int .i64 (Z : Nat)) rfl (by kernel_rfl) (by kernel_rfl) (by kernel_rfl) (fun _ _ _ h => h) (.inl ⟨?_, fun w hS => .inr ⟨_, _, ?_, (HPZ.out w hS.2).mono ?_⟩⟩) ?_
  · go_simp
  · go_simp
  · rintro e wy ⟨rfl, hB⟩; exact ⟨rfl, hS.but hB, hB⟩
  refine wpM_take (fun w => But.refl [] w) (fun x y z h k => h.trans k) (i := 10) (v := .agg #[.int .i64 a, .int .i64 b, .int .i64 d, .int .i64 c, .int .i64 l]) rfl (by kernel_rfl) (by kernel_rfl) (by kernel_rfl) (fun _ _ _ h => h) (YieldsR.read (fun w => But.refl [] w) ?_ fun w hS => ?_) ?_
  · go_simp
  · have z0 := hS.1.cell 0; have z1 := hS.1.cell 1; have z2 := hS.1.cell 2; have z3 := hS.1.cell 3; have z4 := hS.1.cell 4; go_simp
  refine wpM_take (fun w => But.refl [] w) (fun x y z h k => h.trans k) (i := 11) (v := .int .i64 (Z : Nat)) rfl (by kernel_rfl) (by kernel_rfl) (by kernel_rfl) (fun _ _ _ h => h) (.inl ⟨?_, fun w hS => .inr ⟨_, _, ?_, (HEZ.out w).mono ?_⟩⟩) ?_
  · go_simp
  · go_simp
  · rintro e wy ⟨rfl, hB⟩; exact ⟨rfl, hS.but hB, hB⟩
  refine wpM_take (fun w => But.refl [] w) (fun x y z h k => h.trans k) (i := 12) (v := .bool true) rfl (by kernel_rfl) (by kernel_rfl) (by kernel_rfl) (fun _ _ _ h => h) (YieldsR.read (fun w => But.refl [] w) ?_ fun w hS => ?_) ?_
  · go_simp
  · go_simp
  refine wpM_take (fun w => But.refl [] w) (fun x y z h k => h.trans k) (i := 13) (v := .bool true) rfl (by kernel_rfl) (by kernel_rfl) (by kernel_rfl) (fun _ _ _ h => h) (YieldsR.read (fun w => But.refl [] w) ?_ fun w hS => ?_) ?_
  · go_simp
  · go_simp
  refine wpM_take (fun w => But.refl [] w) (fun x y z h k => h.trans k) (i := 14) (v := .bool true) rfl (by kernel_rfl) (by kernel_rfl) (by kernel_rfl) (fun _ _ _ h => h) (YieldsR.read (fun w => But.refl [] w) ?_ fun w hS => ?_) ?_
  · go_simp
  · go_simp
  refine wpM_take (fun w => But.refl [] w) (fun x y z h k => h.trans k) (i := 15) (v := .bool true) rfl (by kernel_rfl) (by kernel_rfl) (by kernel_rfl) (fun _ _ _ h => h) (.inl ⟨?_, fun w hS => .inr ⟨_, _, ?_, (HA.out w hS.2).mono ?_⟩⟩) ?_
  · go_simp
  · go_simp
  · rintro e wy ⟨rfl, hB⟩; exact ⟨rfl, hS.but hB, hB⟩
  refine wpM_take (fun w => But.refl [] w) (fun x y z h k => h.trans k) (i := 16) (v := .bool true) rfl (by kernel_rfl) (by kernel_rfl) (by kernel_rfl) (fun _ _ _ h => h) (YieldsR.read (fun w => But.refl [] w) ?_ fun w hS => ?_) ?_
  · go_simp
  · go_simp
  refine wpM_take (fun w => But.refl [] w) (fun x y z h k => h.trans k) (i := 17) (v := .bool true) rfl (by kernel_rfl) (by kernel_rfl) (by kernel_rfl) (fun _ _ _ h => h) (YieldsR.read (fun w => But.refl [] w) ?_ fun w hS => ?_) ?_
  · go_simp
  · go_simp
  refine ⟨by kernel_rfl, fun w9 hR9 hS9 => ?_⟩
  clear hR9
  have HS9 := Lib.hid hS9
  clear hS9 HS
  go_simp
  go_wp2
  go_ret
  exact ⟨rfl, HS9.out.2.belowL⟩
set_option maxHeartbeats 1000000 in
theorem laceRowIs_walk (haw : Awk10) {a b d c l n : Int} (hn : (Lit.int .i64 n).wf = true) {w : World} (hG : GP w) :
    Calls Tryd.prog 7 #[.agg #[.int .i64 a, .int .i64 b, .int .i64 d, .int .i64 c, .int .i64 l], .int .i64 n] w fun e w' => e = .returned (.bool true) ∧ Below w.heap.size w w' := by
  have HG := Lib.hid hG
  have HA : Hid (∀ v, But [] w v → Calls Tryd.prog 13 #[] v fun e w' => e = .returned (.bool true) ∧ But [] v w') := Lib.hid fun v hv => haw v (HG.out.but hv)
  clear haw hG
  obtain ⟨R, hR⟩ : ∃ R, R = rowA a b d c l n := ⟨_, rfl⟩
  have HP : Hid (∀ v, Calls Tryd.prog 14 #[.agg #[.int .i64 a, .int .i64 b, .int .i64 d, .int .i64 c, .int .i64 l], .int .i64 n] v fun e w' => e = .returned (.int .i64 (R : Nat)) ∧ But [] v w') := Lib.hid fun v => by rw [hR]; exact lrow_any v a b d c l n
  have HE : Hid (∀ v, Calls Tryd.prog 15 #[.agg #[.int .i64 a, .int .i64 b, .int .i64 d, .int .i64 c, .int .i64 l], .int .i64 n] v fun e w' => e = .returned (.int .i64 (R : Nat)) ∧ But [] v w') := Lib.hid fun v => by rw [hR]; exact erow_any v a b d c l n
  clear hR
  have HS : Hid (HlS w w.heap.size a b d c l (w.alloc (.cells #[.int .i64 a, .int .i64 b, .int .i64 d, .int .i64 c, .int .i64 l] 23))) := Lib.hid ⟨Is.fresh _ _ _, (But.refl [] w).alloc _⟩
  have c0 := HS.out.1.cell 0
  have c1 := HS.out.1.cell 1
  have c2 := HS.out.1.cell 2
  have c3 := HS.out.1.cell 3
  have c4 := HS.out.1.cell 4
  go_enter Tryd.func7, Tryd.ntmps7
  go_upto_region 1 with (fail)
  refine wp_region_m (S := HlS w w.heap.size a b d c l) (R := fun v v' => But [] v v') (fun w => But.refl [] w) (by kernel_rfl) (HS.out.but ((But.refl [] _).drew)) ?_
  refine wpM_take (fun w => But.refl [] w) (fun x y z h k => h.trans k) (i := 0) (v := .agg #[.int .i64 a, .int .i64 b, .int .i64 d, .int .i64 c, .int .i64 l]) rfl (by kernel_rfl) (by kernel_rfl) (by kernel_rfl) (fun _ _ _ h => h) (YieldsR.read (fun w => But.refl [] w) ?_ fun w hS => ?_) ?_
  · go_simp
  · have z0 := hS.1.cell 0; have z1 := hS.1.cell 1; have z2 := hS.1.cell 2; have z3 := hS.1.cell 3; have z4 := hS.1.cell 4; go_simp
  refine wpM_take (fun w => But.refl [] w) (fun x y z h k => h.trans k) (i := 1) (v := .int .i64 n) rfl (by kernel_rfl) (by kernel_rfl) (by kernel_rfl) (fun _ _ _ h => h) (YieldsR.read (fun w => But.refl [] w) ?_ fun w hS => ?_) ?_
  · go_simp
  · go_simp
  refine wpM_take (fun w => But.refl [] w) (fun x y z h k => h.trans k) (i := 2) (v := .int .i64 (R : Nat)) rfl (by kernel_rfl) (by kernel_rfl) (by kernel_rfl) (fun _ _ _ h => h) (.inl ⟨?_, fun w hS => .inr ⟨_, _, ?_, (HP.out w).mono ?_⟩⟩) ?_
  · go_simp
  · go_simp
  · rintro e wy ⟨rfl, hB⟩; exact ⟨rfl, hS.but hB, hB⟩
  refine wpM_take (fun w => But.refl [] w) (fun x y z h k => h.trans k) (i := 3) (v := .agg #[.int .i64 a, .int .i64 b, .int .i64 d, .int .i64 c, .int .i64 l]) rfl (by kernel_rfl) (by kernel_rfl) (by kernel_rfl) (fun _ _ _ h => h) (YieldsR.read (fun w => But.refl [] w) ?_ fun w hS => ?_) ?_
  · go_simp
  · have z0 := hS.1.cell 0; have z1 := hS.1.cell 1; have z2 := hS.1.cell 2; have z3 := hS.1.cell 3; have z4 := hS.1.cell 4; go_simp
  refine wpM_take (fun w => But.refl [] w) (fun x y z h k => h.trans k) (i := 4) (v := .int .i64 n) rfl (by kernel_rfl) (by kernel_rfl) (by kernel_rfl) (fun _ _ _ h => h) (YieldsR.read (fun w => But.refl [] w) ?_ fun w hS => ?_) ?_
  · go_simp
  · go_simp
  refine wpM_take (fun w => But.refl [] w) (fun x y z h k => h.trans k) (i := 5) (v := .int .i64 (R : Nat)) rfl (by kernel_rfl) (by kernel_rfl) (by kernel_rfl) (fun _ _ _ h => h) (.inl ⟨?_, fun w hS => .inr ⟨_, _, ?_, (HE.out w).mono ?_⟩⟩) ?_
  · go_simp
  · go_simp
  · rintro e wy ⟨rfl, hB⟩; exact ⟨rfl, hS.but hB, hB⟩
  refine wpM_take (fun w => But.refl [] w) (fun x y z h k => h.trans k) (i := 6) (v := .bool true) rfl (by kernel_rfl) (by kernel_rfl) (by kernel_rfl) (fun _ _ _ h => h) (YieldsR.read (fun w => But.refl [] w) ?_ fun w hS => ?_) ?_
  · go_simp
  · go_simp
  refine wpM_take (fun w => But.refl [] w) (fun x y z h k => h.trans k) (i := 7) (v := .bool true) rfl (by kernel_rfl) (by kernel_rfl) (by kernel_rfl) (fun _ _ _ h => h) (YieldsR.read (fun w => But.refl [] w) ?_ fun w hS => ?_) ?_
  · go_simp
  · go_simp
  refine wpM_take (fun w => But.refl [] w) (fun x y z h k => h.trans k) (i := 8) (v := .bool true) rfl (by kernel_rfl) (by kernel_rfl) (by kernel_rfl) (fun _ _ _ h => h) (.inl ⟨?_, fun w hS => .inr ⟨_, _, ?_, (HA.out w hS.2).mono ?_⟩⟩) ?_
  · go_simp
  · go_simp
  · rintro e wy ⟨rfl, hB⟩; exact ⟨rfl, hS.but hB, hB⟩
  refine wpM_take (fun w => But.refl [] w) (fun x y z h k => h.trans k) (i := 9) (v := .bool true) rfl (by kernel_rfl) (by kernel_rfl) (by kernel_rfl) (fun _ _ _ h => h) (YieldsR.read (fun w => But.refl [] w) ?_ fun w hS => ?_) ?_
  · go_simp
  · go_simp
  refine wpM_take (fun w => But.refl [] w) (fun x y z h k => h.trans k) (i := 10) (v := .bool true) rfl (by kernel_rfl) (by kernel_rfl) (by kernel_rfl) (fun _ _ _ h => h) (YieldsR.read (fun w => But.refl [] w) ?_ fun w hS => ?_) ?_
  · go_simp
  · go_simp
  refine ⟨by kernel_rfl, fun w9 hR9 hS9 => ?_⟩
  clear hR9
  have HS9 := Lib.hid hS9
  clear hS9 HS
  go_simp
  go_wp2
  go_ret
  exact ⟨rfl, HS9.out.2.belowL⟩
set_option maxHeartbeats 1000000 in
theorem laceSizeIs_walk (haw : Awk10) {a b d c l : Int} {w : World} (hG : GP w) :
    Calls Tryd.prog 8 #[.agg #[.int .i64 a, .int .i64 b, .int .i64 d, .int .i64 c, .int .i64 l]] w fun e w' => e = .returned (.bool true) ∧ Below w.heap.size w w' := by
  have HG := Lib.hid hG
  have HA : Hid (∀ v, But [] w v → Calls Tryd.prog 13 #[] v fun e w' => e = .returned (.bool true) ∧ But [] v w') := Lib.hid fun v hv => haw v (HG.out.but hv)
  clear haw hG
  obtain ⟨Z, hZ⟩ : ∃ R, R = sizeA a b d c l := ⟨_, rfl⟩
  have HPZ : Hid (∀ v, But [] w v → Calls Tryd.prog 16 #[.agg #[.int .i64 a, .int .i64 b, .int .i64 d, .int .i64 c, .int .i64 l]] v fun e w' => e = .returned (.int .i64 (Z : Nat)) ∧ But [] v w') := Lib.hid fun v hv => by rw [hZ]; exact lsize_any v (HG.out.but hv) a b d c l
  have HEZ : Hid (∀ v, Calls Tryd.prog 17 #[.agg #[.int .i64 a, .int .i64 b, .int .i64 d, .int .i64 c, .int .i64 l]] v fun e w' => e = .returned (.int .i64 (Z : Nat)) ∧ But [] v w') := Lib.hid fun v => by rw [hZ]; exact esize_any v a b d c l
  clear hZ
  have HS : Hid (HlS w w.heap.size a b d c l (w.alloc (.cells #[.int .i64 a, .int .i64 b, .int .i64 d, .int .i64 c, .int .i64 l] 23))) := Lib.hid ⟨Is.fresh _ _ _, (But.refl [] w).alloc _⟩
  have c0 := HS.out.1.cell 0
  have c1 := HS.out.1.cell 1
  have c2 := HS.out.1.cell 2
  have c3 := HS.out.1.cell 3
  have c4 := HS.out.1.cell 4
  go_enter Tryd.func8, Tryd.ntmps8
  go_upto_region 1 with (fail)
  refine wp_region_m (S := HlS w w.heap.size a b d c l) (R := fun v v' => But [] v v') (fun w => But.refl [] w) (by kernel_rfl) (HS.out.but ((But.refl [] _).drew)) ?_
  refine wpM_take (fun w => But.refl [] w) (fun x y z h k => h.trans k) (i := 0) (v := .agg #[.int .i64 a, .int .i64 b, .int .i64 d, .int .i64 c, .int .i64 l]) rfl (by kernel_rfl) (by kernel_rfl) (by kernel_rfl) (fun _ _ _ h => h) (YieldsR.read (fun w => But.refl [] w) ?_ fun w hS => ?_) ?_
  · go_simp
  · have z0 := hS.1.cell 0; have z1 := hS.1.cell 1; have z2 := hS.1.cell 2; have z3 := hS.1.cell 3; have z4 := hS.1.cell 4; go_simp
  refine wpM_take (fun w => But.refl [] w) (fun x y z h k => h.trans k) (i := 1) (v := .int .i64 (Z : Nat)) rfl (by kernel_rfl) (by kernel_rfl) (by kernel_rfl) (fun _ _ _ h => h) (.inl ⟨?_, fun w hS => .inr ⟨_, _, ?_, (HPZ.out w hS.2).mono ?_⟩⟩) ?_
  · go_simp
  · go_simp
  · rintro e wy ⟨rfl, hB⟩; exact ⟨rfl, hS.but hB, hB⟩
  refine wpM_take (fun w => But.refl [] w) (fun x y z h k => h.trans k) (i := 2) (v := .agg #[.int .i64 a, .int .i64 b, .int .i64 d, .int .i64 c, .int .i64 l]) rfl (by kernel_rfl) (by kernel_rfl) (by kernel_rfl) (fun _ _ _ h => h) (YieldsR.read (fun w => But.refl [] w) ?_ fun w hS => ?_) ?_
  · go_simp
  · have z0 := hS.1.cell 0; have z1 := hS.1.cell 1; have z2 := hS.1.cell 2; have z3 := hS.1.cell 3; have z4 := hS.1.cell 4; go_simp
  refine wpM_take (fun w => But.refl [] w) (fun x y z h k => h.trans k) (i := 3) (v := .int .i64 (Z : Nat)) rfl (by kernel_rfl) (by kernel_rfl) (by kernel_rfl) (fun _ _ _ h => h) (.inl ⟨?_, fun w hS => .inr ⟨_, _, ?_, (HEZ.out w).mono ?_⟩⟩) ?_
  · go_simp
  · go_simp
  · rintro e wy ⟨rfl, hB⟩; exact ⟨rfl, hS.but hB, hB⟩
  refine wpM_take (fun w => But.refl [] w) (fun x y z h k => h.trans k) (i := 4) (v := .bool true) rfl (by kernel_rfl) (by kernel_rfl) (by kernel_rfl) (fun _ _ _ h => h) (YieldsR.read (fun w => But.refl [] w) ?_ fun w hS => ?_) ?_
  · go_simp
  · go_simp
  refine wpM_take (fun w => But.refl [] w) (fun x y z h k => h.trans k) (i := 5) (v := .bool true) rfl (by kernel_rfl) (by kernel_rfl) (by kernel_rfl) (fun _ _ _ h => h) (YieldsR.read (fun w => But.refl [] w) ?_ fun w hS => ?_) ?_
  · go_simp
  · go_simp
  refine wpM_take (fun w => But.refl [] w) (fun x y z h k => h.trans k) (i := 6) (v := .bool true) rfl (by kernel_rfl) (by kernel_rfl) (by kernel_rfl) (fun _ _ _ h => h) (.inl ⟨?_, fun w hS => .inr ⟨_, _, ?_, (HA.out w hS.2).mono ?_⟩⟩) ?_
  · go_simp
  · go_simp
  · rintro e wy ⟨rfl, hB⟩; exact ⟨rfl, hS.but hB, hB⟩
  refine wpM_take (fun w => But.refl [] w) (fun x y z h k => h.trans k) (i := 7) (v := .bool true) rfl (by kernel_rfl) (by kernel_rfl) (by kernel_rfl) (fun _ _ _ h => h) (YieldsR.read (fun w => But.refl [] w) ?_ fun w hS => ?_) ?_
  · go_simp
  · go_simp
  refine wpM_take (fun w => But.refl [] w) (fun x y z h k => h.trans k) (i := 8) (v := .bool true) rfl (by kernel_rfl) (by kernel_rfl) (by kernel_rfl) (fun _ _ _ h => h) (YieldsR.read (fun w => But.refl [] w) ?_ fun w hS => ?_) ?_
  · go_simp
  · go_simp
  refine ⟨by kernel_rfl, fun w9 hR9 hS9 => ?_⟩
  clear hR9
  have HS9 := Lib.hid hS9
  clear hS9 HS
  go_simp
  go_wp2
  go_ret
  exact ⟨rfl, HS9.out.2.belowL⟩
set_option maxHeartbeats 1000000 in
theorem laceRows_walk (haw : Awk10) {a b d c l n : Int} (hn : (Lit.int .i64 n).wf = true) {w : World} (hG : GP w) :
    Calls Tryd.prog 6 #[.agg #[.int .i64 a, .int .i64 b, .int .i64 d, .int .i64 c, .int .i64 l], .int .i64 n] w fun e w' => e = .returned (.bool true) ∧ Below w.heap.size w w' := by
  have HG := Lib.hid hG
  have HA : Hid (∀ v, But [] w v → Calls Tryd.prog 13 #[] v fun e w' => e = .returned (.bool true) ∧ But [] v w') := Lib.hid fun v hv => haw v (HG.out.but hv)
  clear haw hG
  obtain ⟨L, hL⟩ : ∃ L, L = passA a b d c l := ⟨_, rfl⟩
  obtain ⟨N, hN⟩ : ∃ N, N = L.length := ⟨_, rfl⟩
  have hN7 : N ≤ 7 := by rw [hN, hL]; exact passA_len a b d c l
  have HP : Hid (∀ v, But [] w v → Calls Tryd.prog 11 #[.agg #[.int .i64 a, .int .i64 b, .int .i64 d, .int .i64 c, .int .i64 l]] v fun e w' => ∃ A cap, e = .returned (.slice A N cap) ∧ Pss w' A N L ∧ N ≤ cap ∧ But [] v w') := Lib.hid fun v hv => by rw [hN, hL]; exact lpasses_any v (HG.out.but hv) a b d c l
  by_cases hN0 : N = 0
  · subst hN0
    clear hL hN
    have HS : Hid (HlS w w.heap.size a b d c l (w.alloc (.cells #[.int .i64 a, .int .i64 b, .int .i64 d, .int .i64 c, .int .i64 l] 23))) := Lib.hid ⟨Is.fresh _ _ _, (But.refl [] w).alloc _⟩
    have c0 := HS.out.1.cell 0
    have c1 := HS.out.1.cell 1
    have c2 := HS.out.1.cell 2
    have c3 := HS.out.1.cell 3
    have c4 := HS.out.1.cell 4
    go_enter Tryd.func6, Tryd.ntmps6
    go_wp2_with fail
    refine (HP.out _ HS.out.2).mono ?_
    rintro e w1 ⟨A, cap, rfl, hPs, hcap, hB⟩
    have HPs := Lib.hid hPs
    have HS := Lib.hid (HS.out.but hB)
    clear hPs hB
    have c0 := HS.out.1.cell 0
    have c1 := HS.out.1.cell 1
    have c2 := HS.out.1.cell 2
    have c3 := HS.out.1.cell 3
    have c4 := HS.out.1.cell 4
    go_wp2_with fail
    refine (HA.out _ HS.out.2).mono ?_
    rintro e w1 ⟨rfl, hB⟩
    have HS := Lib.hid (HS.out.but hB)
    clear hB
    go_wp2
    go_ret
    exact ⟨rfl, HS.out.2.belowL⟩
  have hne : passA a b d c l ≠ [] := by rw [← hL]; intro e; rw [e] at hN; exact hN0 hN
  have h0 := passA_none hne
  clear hL hN hne
  by_cases h1 : n < 1
  · clear h0
    have HS : Hid (HlS w w.heap.size a b d c l (w.alloc (.cells #[.int .i64 a, .int .i64 b, .int .i64 d, .int .i64 c, .int .i64 l] 23))) := Lib.hid ⟨Is.fresh _ _ _, (But.refl [] w).alloc _⟩
    have c0 := HS.out.1.cell 0
    have c1 := HS.out.1.cell 1
    have c2 := HS.out.1.cell 2
    have c3 := HS.out.1.cell 3
    have c4 := HS.out.1.cell 4
    go_enter Tryd.func6, Tryd.ntmps6
    go_wp2_with fail
    refine (HP.out _ HS.out.2).mono ?_
    rintro e w1 ⟨A, cap, rfl, hPs, hcap, hB⟩
    have HPs := Lib.hid hPs
    have HS := Lib.hid (HS.out.but hB)
    clear hPs hB
    have c0 := HS.out.1.cell 0
    have c1 := HS.out.1.cell 1
    have c2 := HS.out.1.cell 2
    have c3 := HS.out.1.cell 3
    have c4 := HS.out.1.cell 4
    go_wp2_with fail
    refine (HA.out _ HS.out.2).mono ?_
    rintro e w1 ⟨rfl, hB⟩
    have HS := Lib.hid (HS.out.but hB)
    clear hB
    go_wp2
    go_ret
    exact ⟨rfl, HS.out.2.belowL⟩
  by_cases h2 : 1023 < n
  · clear h0
    have HS : Hid (HlS w w.heap.size a b d c l (w.alloc (.cells #[.int .i64 a, .int .i64 b, .int .i64 d, .int .i64 c, .int .i64 l] 23))) := Lib.hid ⟨Is.fresh _ _ _, (But.refl [] w).alloc _⟩
    have c0 := HS.out.1.cell 0
    have c1 := HS.out.1.cell 1
    have c2 := HS.out.1.cell 2
    have c3 := HS.out.1.cell 3
    have c4 := HS.out.1.cell 4
    go_enter Tryd.func6, Tryd.ntmps6
    go_wp2_with fail
    refine (HP.out _ HS.out.2).mono ?_
    rintro e w1 ⟨A, cap, rfl, hPs, hcap, hB⟩
    have HPs := Lib.hid hPs
    have HS := Lib.hid (HS.out.but hB)
    clear hPs hB
    have c0 := HS.out.1.cell 0
    have c1 := HS.out.1.cell 1
    have c2 := HS.out.1.cell 2
    have c3 := HS.out.1.cell 3
    have c4 := HS.out.1.cell 4
    go_wp2_with fail
    refine (HA.out _ HS.out.2).mono ?_
    rintro e w1 ⟨rfl, hB⟩
    have HS := Lib.hid (HS.out.but hB)
    clear hB
    go_wp2
    go_ret
    exact ⟨rfl, HS.out.2.belowL⟩
  obtain ⟨P, rfl⟩ : ∃ P : Nat, n = (P : Int) := ⟨n.toNat, by omega⟩
  obtain ⟨m1, m2, m3⟩ := rowA_more h0 (n := P) (by omega) (by omega)
  obtain ⟨x, hx⟩ : ∃ x, x = rowA a b d c l (P : Int) := ⟨_, rfl⟩
  obtain ⟨y, hy⟩ : ∃ x, x = rowA a b d c l ((P + 1 : Nat) : Int) := ⟨_, rfl⟩
  have hx2 : x ≤ 8192 := by rw [hx]; exact rowA_le _ _ _ _ _ _
  rw [← hx, ← hy] at m2 m3
  rw [← hx] at m1
  have HX : Hid (∀ v, Calls Tryd.prog 14 #[.agg #[.int .i64 a, .int .i64 b, .int .i64 d, .int .i64 c, .int .i64 l], .int .i64 (P : Int)] v fun e w' => e = .returned (.int .i64 (x : Nat)) ∧ But [] v w') := Lib.hid fun v => by rw [hx]; exact lrow_any v a b d c l _
  have HY : Hid (∀ v, Calls Tryd.prog 14 #[.agg #[.int .i64 a, .int .i64 b, .int .i64 d, .int .i64 c, .int .i64 l], .int .i64 ((P : Int) + 1)] v fun e w' => e = .returned (.int .i64 (y : Nat)) ∧ But [] v w') := Lib.hid fun v => by rw [hy, Int.natCast_add]; exact lrow_any v a b d c l _
  have dN : ((N : Int) == 0) = false := by simp; exact hN0
  have q1 : decide ((P : Int) < 1) = false := decide_eq_false h1
  have q2 : decide ((1023 : Int) < (P : Int)) = false := decide_eq_false h2
  clear h0 hx hy
  have HS : Hid (HlS w w.heap.size a b d c l (w.alloc (.cells #[.int .i64 a, .int .i64 b, .int .i64 d, .int .i64 c, .int .i64 l] 23))) := Lib.hid ⟨Is.fresh _ _ _, (But.refl [] w).alloc _⟩
  have c0 := HS.out.1.cell 0
  have c1 := HS.out.1.cell 1
  have c2 := HS.out.1.cell 2
  have c3 := HS.out.1.cell 3
  have c4 := HS.out.1.cell 4
  go_enter Tryd.func6, Tryd.ntmps6
  go_wp2_with fail
  refine (HP.out _ HS.out.2).mono ?_
  rintro e w1 ⟨A, cap, rfl, hPs, hcap, hB⟩
  have HPs := Lib.hid hPs
  have HS := Lib.hid (HS.out.but hB)
  clear hPs hB
  have c0 := HS.out.1.cell 0
  have c1 := HS.out.1.cell 1
  have c2 := HS.out.1.cell 2
  have c3 := HS.out.1.cell 3
  have c4 := HS.out.1.cell 4
  go_wp2_with fail
  refine (HX.out _).mono ?_
  rintro e w1 ⟨rfl, hB⟩
  have HS := Lib.hid (HS.out.but hB)
  clear hB
  have c0 := HS.out.1.cell 0
  have c1 := HS.out.1.cell 1
  have c2 := HS.out.1.cell 2
  have c3 := HS.out.1.cell 3
  have c4 := HS.out.1.cell 4
  go_wp2_with fail
  refine (HY.out _).mono ?_
  rintro e w1 ⟨rfl, hB⟩
  have HS := Lib.hid (HS.out.but hB)
  clear hB
  have c0 := HS.out.1.cell 0
  have c1 := HS.out.1.cell 1
  have c2 := HS.out.1.cell 2
  have c3 := HS.out.1.cell 3
  have c4 := HS.out.1.cell 4
  go_wp2_with fail
  refine (HA.out _ HS.out.2).mono ?_
  rintro e w1 ⟨rfl, hB⟩
  have HS := Lib.hid (HS.out.but hB)
  clear hB
  go_wp2
  go_ret
  exact ⟨rfl, HS.out.2.belowL⟩
set_option maxHeartbeats 1000000 in
theorem lacePlain_walk (haw : Awk10) {a b d c l : Int} {w : World} (hG : GP w) :
    Calls Tryd.prog 9 #[.agg #[.int .i64 a, .int .i64 b, .int .i64 d, .int .i64 c, .int .i64 l]] w fun e w' => e = .returned (.bool true) ∧ Below w.heap.size w w' := by
  have HG := Lib.hid hG
  have HA : Hid (∀ v, But [] w v → Calls Tryd.prog 13 #[] v fun e w' => e = .returned (.bool true) ∧ But [] v w') := Lib.hid fun v hv => haw v (HG.out.but hv)
  clear haw hG
  obtain ⟨L, hL⟩ : ∃ L, L = passA a b d c 0 := ⟨_, rfl⟩
  obtain ⟨N, hN⟩ : ∃ N, N = L.length := ⟨_, rfl⟩
  have HP : Hid (∀ v, But [] w v → Calls Tryd.prog 11 #[.agg #[.int .i64 a, .int .i64 b, .int .i64 d, .int .i64 c, .int .i64 0]] v fun e w' => ∃ A cap, e = .returned (.slice A N cap) ∧ Pss w' A N L ∧ N ≤ cap ∧ But [] v w') := Lib.hid fun v hv => by rw [hN, hL]; exact lpasses_any v (HG.out.but hv) a b d c 0
  have hI := Is.fresh w 23 #[.int .i64 a, .int .i64 b, .int .i64 d, .int .i64 c, .int .i64 l]
  have HS : Hid (HlS w w.heap.size a b d c 0 (w.alloc (.cells #[.int .i64 a, .int .i64 b, .int .i64 d, .int .i64 c, .int .i64 0] 23))) := Lib.hid ⟨Is.fresh _ _ _, (But.refl [] w).alloc _⟩
  have c0 := hI.cell 0
  have c1 := hI.cell 1
  have c2 := hI.cell 2
  have c3 := hI.cell 3
  have c4 := hI.cell 4
  have f4 := hI.free 4
  clear hI
  by_cases hN0 : N = 0
  · subst hN0
    clear hL hN
    go_enter Tryd.func9, Tryd.ntmps9
    go_wp2_with fail
    refine (HP.out _ HS.out.2).mono ?_
    rintro e w1 ⟨A, cap, rfl, hPs, hcap, hB⟩
    have HPs := Lib.hid hPs
    have HS := Lib.hid (HS.out.but hB)
    clear hPs hB
    have c0 := HS.out.1.cell 0
    have c1 := HS.out.1.cell 1
    have c2 := HS.out.1.cell 2
    have c3 := HS.out.1.cell 3
    have c4 := HS.out.1.cell 4
    go_wp2_with fail
    refine (HA.out _ HS.out.2).mono ?_
    rintro e w1 ⟨rfl, hB⟩
    have HS := Lib.hid (HS.out.but hB)
    clear hB
    go_wp2
    go_ret
    exact ⟨rfl, HS.out.2.belowL⟩
  have hne : passA a b d c 0 ≠ [] := by rw [← hL]; intro e; rw [e] at hN; exact hN0 hN
  have h0 := passA_none hne
  obtain ⟨⟨a1, a2⟩, ⟨b1, b2⟩, _⟩ := rightH_ok h0
  obtain ⟨W, rfl⟩ : ∃ n : Nat, a = (n : Int) := ⟨a.toNat, by omega⟩
  obtain ⟨H, rfl⟩ : ∃ n : Nat, b = (n : Int) := ⟨b.toNat, by omega⟩
  rw [passA_plain h0] at hL
  have hN1 : N = 1 := by rw [hN, hL]; rfl
  subst hN1
  have HL := Lib.hid hL
  clear hL hN hne h0 hN0
  go_enter Tryd.func9, Tryd.ntmps9
  go_wp2_with fail
  refine (HP.out _ HS.out.2).mono ?_
  rintro e w1 ⟨A, cap, rfl, hPs, hcap, hB⟩
  have HPs := Lib.hid hPs
  have HS := Lib.hid (HS.out.but hB)
  clear hPs hB
  have c0 := HS.out.1.cell 0
  have c1 := HS.out.1.cell 1
  have c2 := HS.out.1.cell 2
  have c3 := HS.out.1.cell 3
  have c4 := HS.out.1.cell 4
  go_wp2_with fail
  refine (lsame_any _ (L := L) (HPs.out.but ((But.refl [] _).alloc _)) (by rw [HL.out]; exact Pss.of (L := [(0, 0, 1, 1, W, H)]) (Is.fresh _ _ _) rfl) (by omega)).mono ?_
  rintro e w2 ⟨rfl, hB⟩
  have HS := Lib.hid (HS.out.but (((But.refl [] _).alloc _).trans hB))
  clear hB
  go_wp2_with fail
  refine (HA.out _ HS.out.2).mono ?_
  rintro e w1 ⟨rfl, hB⟩
  have HS := Lib.hid (HS.out.but hB)
  clear hB
  go_wp2
  go_ret
  exact ⟨rfl, HS.out.2.belowL⟩
end Go.Proofs.YtookfoanggjnkaaDoor
