/- The chapter's examples of layer 10; a head that is handed in. -/
import Derived.Test.YtookfoanggjnkaaDoorLcQ
import Derived.SizedLaws
import Derived.ProofKit
import Derived.OpenShut
set_option maxRecDepth 100000
set_option linter.unusedVariables false
namespace Go.Proofs.YtookfoanggjnkaaDoor
set_option maxRecDepth 100000
open Go Go.RowKit Go.ChangeShapes Go.WideShapes
theorem ex10_one : passA 5 1 8 0 1 = [(0, 0, 8, 8, 1, 1), (4, 0, 8, 8, 1, 1), (2, 0, 4, 4, 1, 1), (1, 0, 2, 2, 2, 1)] := by decide
theorem ex10_two : rowA 1 1 1 0 0 9 = 2 := by decide
theorem ex10_three : sizeA 3 2 8 2 0 = 20 := by decide
set_option maxHeartbeats 1000000 in
theorem awake10_any (w : World) (hG : GP w) : Calls Tryd.prog 13 #[] w fun e w' => e = .returned (.bool true) ∧ But [] w w' := by
  have HG := Lib.hid hG
  clear hG
  have H1 : Hid (∀ v, But [] w v → Calls Tryd.prog 11 #[.agg #[.int .i64 5, .int .i64 1, .int .i64 8, .int .i64 0, .int .i64 1]] v fun e w' => ∃ A cap, e = .returned (.slice A 4 cap) ∧ Pss w' A 4 [(0, 0, 8, 8, 1, 1), (4, 0, 8, 8, 1, 1), (2, 0, 4, 4, 1, 1), (1, 0, 2, 2, 2, 1)] ∧ But [] v w') := Lib.hid fun v hv => by
    have h := lpasses_any v (HG.out.but hv) 5 1 8 0 1
    rw [ex10_one] at h
    refine h.mono ?_
    rintro e w1 ⟨A, cap, rfl, hP, _, hB⟩
    exact ⟨A, cap, rfl, hP, hB⟩
  have H2 : Hid (∀ v, Calls Tryd.prog 14 #[.agg #[.int .i64 1, .int .i64 1, .int .i64 1, .int .i64 0, .int .i64 0], .int .i64 9] v fun e w' => e = .returned (.int .i64 2) ∧ But [] v w') := Lib.hid fun v => by
    have h := lrow_any v 1 1 1 0 0 9
    rw [ex10_two] at h
    exact h
  have H3 : Hid (∀ v, But [] w v → Calls Tryd.prog 16 #[.agg #[.int .i64 3, .int .i64 2, .int .i64 8, .int .i64 2, .int .i64 0]] v fun e w' => e = .returned (.int .i64 20) ∧ But [] v w') := Lib.hid fun v hv => by
    have h := lsize_any v (HG.out.but hv) 3 2 8 2 0
    rw [ex10_three] at h
    exact h
  go_enter Tryd.func13, Tryd.ntmps13
  go_wp2_with fail
  refine (H1.out _ (But.refl [] _)).mono ?_
  rintro e w1 ⟨A, cap, rfl, hP, hB⟩
  have HP := Lib.hid hP
  have HB := Lib.hid hB
  clear hP hB
  go_wp2_with fail
  refine (lsame_any _ (L := [(0, 0, 8, 8, 1, 1), (4, 0, 8, 8, 1, 1), (2, 0, 4, 4, 1, 1), (1, 0, 2, 2, 2, 1)]) (HP.out.but ((But.refl [] _).alloc _)) (Pss.of (L := [(0, 0, 8, 8, 1, 1), (4, 0, 8, 8, 1, 1), (2, 0, 4, 4, 1, 1), (1, 0, 2, 2, 2, 1)]) (Is.fresh _ _ _) rfl) (by omega)).mono ?_
  rintro e w2 ⟨rfl, hB⟩
  have HB := Lib.hid (HB.out.trans (((But.refl [] _).alloc _).trans hB))
  clear hB
  go_wp2_with fail
  refine (H2.out _).mono ?_
  rintro e w3 ⟨rfl, hB⟩
  have HB := Lib.hid (HB.out.trans hB)
  clear hB
  go_wp2_with fail
  refine (H3.out _ HB.out).mono ?_
  rintro e w3 ⟨rfl, hB⟩
  have HB := Lib.hid (HB.out.trans hB)
  clear hB
  go_wp2
  go_ret
  exact ⟨rfl, HB.out⟩
theorem cells_intL : Tryd.prog.cellsOf 3 = 1 := by kernel_rfl
theorem cells_headL : Tryd.prog.cellsOf 23 = 5 := by kernel_rfl
/-- A head that is handed in: five numbers. -/
theorem open_headL {H : Type} {enc : TypeId × Value → H} {W : World} {base : Nat} {v : Value} {d : DataW H} {p : List MemPlace} (hv : Value.okWide Tryd.prog W .any base 23 v)
    (hk : DataW.Trod enc Tryd.prog W 0 (fun _ => true) true 23 v d p) {ts : List TypeId} {ds : List (DataW H)} (_hsz : (DataW.weightsEach Tryd.prog ts ds).all (· ≤ reachBytes) = true) {j : Nat} (_ht : ts[j]? = some 23) (_hd : ds[j]? = some d) :
    ∃ a b e c l : Int, v = .agg #[.int .i64 a, .int .i64 b, .int .i64 e, .int .i64 c, .int .i64 l] := by
  obtain ⟨cs, rfl, hcs⟩ := okWide_struct Tryd.underlying23 hv
  obtain ⟨fuel, hf⟩ := hk
  obtain ⟨ys, n', _, _, hcl, hyl, hfs⟩ := DataW.trod_struct Tryd.underlying23 hf
  rw [cells_headL] at hcl
  obtain ⟨xs, hxs⟩ : ∃ xs, xs = (Value.agg cs).cells.toList := ⟨_, rfl⟩
  rw [← hxs] at hcl hfs
  match xs, hcl with
  | [x0, x1, x2, x3, x4], _ =>
    have g0 := hfs 0 _ rfl
    have g1 := hfs 1 _ rfl
    have g2 := hfs 2 _ rfl
    have g3 := hfs 3 _ rfl
    have g4 := hfs 4 _ rfl
    have hy : ys.length = 5 := hyl
    match ys, hy with
    | [y0, y1, y2, y3, y4], _ =>
      obtain ⟨q0, c0, _, _⟩ := DataW.trod_int Tryd.underlying3 (x := y0) g0
      obtain ⟨q1, c1, _, _⟩ := DataW.trod_int Tryd.underlying3 (x := y1) g1
      obtain ⟨q2, c2, _, _⟩ := DataW.trod_int Tryd.underlying3 (x := y2) g2
      obtain ⟨q3, c3, _, _⟩ := DataW.trod_int Tryd.underlying3 (x := y3) g3
      obtain ⟨q4, c4, _, _⟩ := DataW.trod_int Tryd.underlying3 (x := y4) g4
      have c0 : ([x0, x1, x2, x3, x4].drop 0).take (Tryd.prog.cellsOf 3) = [.int .i64 q0] := c0
      have c1 : ([x0, x1, x2, x3, x4].drop 1).take (Tryd.prog.cellsOf 3) = [.int .i64 q1] := c1
      have c2 : ([x0, x1, x2, x3, x4].drop 2).take (Tryd.prog.cellsOf 3) = [.int .i64 q2] := c2
      have c3 : ([x0, x1, x2, x3, x4].drop 3).take (Tryd.prog.cellsOf 3) = [.int .i64 q3] := c3
      have c4 : ([x0, x1, x2, x3, x4].drop 4).take (Tryd.prog.cellsOf 3) = [.int .i64 q4] := c4
      rw [cells_intL] at c0 c1 c2 c3 c4
      have e0 : x0 = .int .i64 q0 := by simpa using c0
      have e1 : x1 = .int .i64 q1 := by simpa using c1
      have e2 : x2 = .int .i64 q2 := by simpa using c2
      have e3 : x3 = .int .i64 q3 := by simpa using c3
      have e4 : x4 = .int .i64 q4 := by simpa using c4
      refine ⟨q0, q1, q2, q3, q4, ?_⟩
      obtain ⟨l⟩ := cs
      simp only [Value.cells] at hxs
      have e : l = [x0, x1, x2, x3, x4] := by simpa using hxs.symm
      rw [e, e0, e1, e2, e3, e4]
end Go.Proofs.YtookfoanggjnkaaDoor
