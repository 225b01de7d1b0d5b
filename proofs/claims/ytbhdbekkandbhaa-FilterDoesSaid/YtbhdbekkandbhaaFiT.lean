/- The chapter's examples; a line that is handed in. -/
import Derived.Test.YtbhdbekkandbhaaFiP
import Derived.SizedLaws
import Derived.ProofKit
import Derived.OpenShut
set_option maxRecDepth 100000
set_option linter.unusedVariables false
namespace Go.Proofs.Ytbhdbekkandbhaa
set_option maxRecDepth 100000
open Go Go.RowKit Go.ChangeShapes Go.WideShapes
theorem line_one : doF 1 1 [3, 5, 4] [] = [3, 2, 255] := by decide
theorem line_two : undoF 1 1 [3, 2, 255] [] = [3, 5, 4] := by decide
theorem line_three : doF 4 1 [7] [5] = [2] := by decide
theorem line_four : pickF 1 [9, 9, 9, 9] [] = 1 := by decide
theorem ex_one : strL (doA 1 1 ⟨#[3, 5, 4]⟩ ⟨#[]⟩) = ⟨#[3, 2, 255]⟩ := by
  have h : wrongF 1 1 ⟨#[3, 5, 4]⟩ ⟨#[]⟩ = 0 := by decide
  unfold doA
  rw [if_pos h]
  show strL (doF 1 1 [3, 5, 4] []) = _
  rw [line_one]
  rfl
theorem ex_two : strL (undoA 1 1 ⟨#[3, 2, 255]⟩ ⟨#[]⟩) = ⟨#[3, 5, 4]⟩ := by
  have h : wrongF 1 1 ⟨#[3, 2, 255]⟩ ⟨#[]⟩ = 0 := by decide
  unfold undoA
  rw [if_pos h]
  show strL (undoF 1 1 [3, 2, 255] []) = _
  rw [line_two]
  rfl
theorem ex_three : strL (doA 1 4 ⟨#[7]⟩ ⟨#[5]⟩) = ⟨#[2]⟩ := by
  have h : wrongF 1 4 ⟨#[7]⟩ ⟨#[5]⟩ = 0 := by decide
  unfold doA
  rw [if_pos h]
  show strL (doF 4 1 [7] [5]) = _
  rw [line_three]
  rfl
theorem ex_four : pickA 1 ⟨#[9, 9, 9, 9]⟩ ⟨#[]⟩ = 1 := by
  have h : wrongP 1 ⟨#[9, 9, 9, 9]⟩ ⟨#[]⟩ = 0 := by decide
  unfold pickA
  rw [if_pos h]
  exact line_four
theorem awake9_any (w : World) : Calls Try.prog 12 #[] w fun e w' => e = .returned (.bool true) ∧ But [] w w' := by
  have H1 : Hid (∀ v, Calls Try.prog 10 #[.int .i64 1, .int .i64 1, .string ⟨#[3, 5, 4]⟩, .string ⟨#[]⟩] v fun e w' => e = .returned (.tuple #[.string ⟨#[3, 2, 255]⟩, .int .i64 0]) ∧ But [] v w') := Lib.hid fun v => by
    have h := pdo_any v 1 1 ⟨#[3, 5, 4]⟩ ⟨#[]⟩ (by decide) (by decide)
    rw [ex_one, show wrongF 1 1 ⟨#[3, 5, 4]⟩ ⟨#[]⟩ = 0 by decide] at h
    exact h
  have H2 : Hid (∀ v, Calls Try.prog 13 #[.int .i64 1, .int .i64 1, .string ⟨#[3, 2, 255]⟩, .string ⟨#[]⟩] v fun e w' => e = .returned (.tuple #[.string ⟨#[3, 5, 4]⟩, .int .i64 0]) ∧ But [] v w') := Lib.hid fun v => by
    have h := pundo_any v 1 1 ⟨#[3, 2, 255]⟩ ⟨#[]⟩ (by decide) (by decide)
    rw [ex_two, show wrongF 1 1 ⟨#[3, 2, 255]⟩ ⟨#[]⟩ = 0 by decide] at h
    exact h
  have H3 : Hid (∀ v, Calls Try.prog 10 #[.int .i64 1, .int .i64 4, .string ⟨#[7]⟩, .string ⟨#[5]⟩] v fun e w' => e = .returned (.tuple #[.string ⟨#[2]⟩, .int .i64 0]) ∧ But [] v w') := Lib.hid fun v => by
    have h := pdo_any v 1 4 ⟨#[7]⟩ ⟨#[5]⟩ (by decide) (by decide)
    rw [ex_three, show wrongF 1 4 ⟨#[7]⟩ ⟨#[5]⟩ = 0 by decide] at h
    exact h
  have H4 : Hid (∀ v, Calls Try.prog 15 #[.int .i64 1, .string ⟨#[9, 9, 9, 9]⟩, .string ⟨#[]⟩] v fun e w' => e = .returned (.tuple #[.int .i64 1, .int .i64 0]) ∧ But [] v w') := Lib.hid fun v => by
    have h := ppick_any v 1 ⟨#[9, 9, 9, 9]⟩ ⟨#[]⟩ (by decide) (by decide)
    rw [ex_four, show wrongP 1 ⟨#[9, 9, 9, 9]⟩ ⟨#[]⟩ = 0 by decide] at h
    exact h
  have HB := Lib.hid (But.refl [] w)
  go_enter Try.func12, Try.ntmps12
  go_wp2_with fail
  refine (H1.out _).mono ?_
  rintro e w1 ⟨rfl, hB⟩
  have HB := Lib.hid (HB.out.trans hB)
  clear hB
  go_wp2_with fail
  refine (H2.out _).mono ?_
  rintro e w1 ⟨rfl, hB⟩
  have HB := Lib.hid (HB.out.trans hB)
  clear hB
  go_wp2_with fail
  refine (H3.out _).mono ?_
  rintro e w1 ⟨rfl, hB⟩
  have HB := Lib.hid (HB.out.trans hB)
  clear hB
  go_wp2_with fail
  refine (H4.out _).mono ?_
  rintro e w1 ⟨rfl, hB⟩
  have HB := Lib.hid (HB.out.trans hB)
  clear hB
  go_wp2
  go_ret
  exact ⟨rfl, HB.out⟩
theorem cells_strF : Try.prog.cellsOf 9 = 1 := by kernel_rfl
theorem cells_intF : Try.prog.cellsOf 3 = 1 := by kernel_rfl
theorem cells_lineF : Try.prog.cellsOf 23 = 4 := by kernel_rfl
/-- A line that is handed in: two numbers and two strings. -/
theorem open_line {H : Type} {enc : TypeId × Value → H} {W : World} {base : Nat} {v : Value} {d : DataW H} {p : List MemPlace} (hv : Value.okWide Try.prog W .any base 23 v)
    (hk : DataW.Trod enc Try.prog W 0 (fun _ => true) true 23 v d p) {ts : List TypeId} {ds : List (DataW H)} (hsz : (DataW.weightsEach Try.prog ts ds).all (· ≤ reachBytes) = true) {j : Nat} (ht : ts[j]? = some 23) (hd : ds[j]? = some d) :
    ∃ (x y : Int) (a b : ByteArray), v = .agg #[.int .i64 x, .int .i64 y, .string a, .string b] ∧ a.size ≤ 140737488351232 ∧ b.size ≤ 140737488351232 := by
  obtain ⟨cs, rfl, hcs⟩ := okWide_struct Try.underlying23 hv
  obtain ⟨fuel, hf⟩ := hk
  obtain ⟨ys, n', _, hD, hcl, hyl, hfs⟩ := DataW.trod_struct Try.underlying23 hf
  rw [cells_lineF] at hcl
  obtain ⟨xs, hxs⟩ : ∃ xs, xs = (Value.agg cs).cells.toList := ⟨_, rfl⟩
  rw [← hxs] at hcl hfs
  match xs, hcl with
  | [x0, x1, x2, x3], _ =>
    have g0 := hfs 0 _ rfl
    have g1 := hfs 1 _ rfl
    have g2 := hfs 2 _ rfl
    have g3 := hfs 3 _ rfl
    have hy : ys.length = 4 := hyl
    match ys, hy with
    | [y0, y1, y2, y3], _ =>
      obtain ⟨q0, c0, d0, _⟩ := DataW.trod_int Try.underlying3 (x := y0) g0
      obtain ⟨q1, c1, d1, _⟩ := DataW.trod_int Try.underlying3 (x := y1) g1
      obtain ⟨a, c2, d2, _⟩ := DataW.trod_string Try.underlying9 (x := y2) g2
      obtain ⟨b, c3, d3, _⟩ := DataW.trod_string Try.underlying9 (x := y3) g3
      have c0 : ([x0, x1, x2, x3].drop 0).take (Try.prog.cellsOf 3) = [.int .i64 q0] := c0
      have c1 : ([x0, x1, x2, x3].drop 1).take (Try.prog.cellsOf 3) = [.int .i64 q1] := c1
      have c2 : ([x0, x1, x2, x3].drop 2).take (Try.prog.cellsOf 9) = [.string a] := c2
      have c3 : ([x0, x1, x2, x3].drop 3).take (Try.prog.cellsOf 9) = [.string b] := c3
      rw [cells_intF] at c0 c1
      rw [cells_strF] at c2 c3
      have e0 : x0 = .int .i64 q0 := by simpa using c0
      have e1 : x1 = .int .i64 q1 := by simpa using c1
      have e2 : x2 = .string a := by simpa using c2
      have e3 : x3 = .string b := by simpa using c3
      have hDD : d = .agg [.lit (.int .i64 q0), .lit (.int .i64 q1), .lit (.string a.data.toList), .lit (.string b.data.toList)] := by
        have hD1 := (Prod.mk.inj hD).1
        rw [hD1, d0, d1, d2, d3]
        rfl
      have hr : reachBytes = 140737488351232 := rfl
      have hww : ∀ k ∈ (d.weights Try.prog 23), k ≤ reachBytes := fun k hk => by
        have h3 := List.all_eq_true.1 hsz k (DataW.weights_mem_each ht hd k hk)
        simpa using h3
      have hmem : a.data.toList.length ∈ d.weights Try.prog 23 ∧ b.data.toList.length ∈ d.weights Try.prog 23 := by
        rw [hDD]
        simp only [DataW.weights, Try.underlying23]
        constructor
        · exact List.mem_append.2 (Or.inr (List.mem_append.2 (Or.inr (List.mem_append.2 (Or.inl (List.mem_singleton.2 rfl))))))
        · exact List.mem_append.2 (Or.inr (List.mem_append.2 (Or.inr (List.mem_append.2 (Or.inr (List.mem_append.2 (Or.inl (List.mem_singleton.2 rfl))))))))
      refine ⟨q0, q1, a, b, ?_, ?_, ?_⟩
      · obtain ⟨l⟩ := cs
        simp only [Value.cells] at hxs
        have e : l = [x0, x1, x2, x3] := by simpa using hxs.symm
        rw [e, e0, e1, e2, e3]
      · have := hww _ hmem.1; rw [hr, Array.length_toList] at this; exact this
      · have := hww _ hmem.2; rw [hr, Array.length_toList] at this; exact this
end Go.Proofs.Ytbhdbekkandbhaa
