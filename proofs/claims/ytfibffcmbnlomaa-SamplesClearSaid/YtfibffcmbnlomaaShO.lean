/- What is handed in: a shape of an image, a list of numbers, two numbers. -/
import Derived.Test.YtfibffcmbnlomaaSbD
import Derived.ProofKit
import Derived.OpenShut
import Derived.SizedLaws
set_option maxRecDepth 100000
set_option linter.unusedVariables false
namespace Go.Proofs.Ytfibffcmbnlomaa
set_option maxRecDepth 100000
open Go Go.RowKit Go.ChangeShapes Go.WideShapes
theorem cells_shapeO : Try.prog.cellsOf 38 = 8 := by kernel_rfl
theorem cells_headO : Try.prog.cellsOf 36 = 5 := by kernel_rfl
theorem cells_intO : Try.prog.cellsOf 3 = 1 := by kernel_rfl
theorem cells_strO : Try.prog.cellsOf 9 = 1 := by kernel_rfl
theorem cells_boolO : Try.prog.cellsOf 4 = 1 := by kernel_rfl
/-- A shape that is handed in. -/
theorem open_shape {H : Type} {enc : TypeId × Value → H} {W : World} {base : Nat} {v : Value} {d : DataW H} {p : List MemPlace} (hv : Value.okWide Try.prog W .any base 38 v)
    (hk : DataW.Trod enc Try.prog W 0 (fun _ => true) true 38 v d p) {ts : List TypeId} {ds : List (DataW H)} (hsz : (DataW.weightsEach Try.prog ts ds).all (· ≤ reachBytes) = true) {j : Nat} (ht : ts[j]? = some 38) (hd : ds[j]? = some d) :
    ∃ (a b e c l : Int) (pal tr : ByteArray) (has : Bool), v = .agg #[.int .i64 a, .int .i64 b, .int .i64 e, .int .i64 c, .int .i64 l, .string pal, .string tr, .bool has] ∧ pal.size ≤ 140737488351232 ∧ tr.size ≤ 140737488351232 := by
  obtain ⟨cs, rfl, hcs⟩ := okWide_struct Try.underlying38 hv
  obtain ⟨fuel, hf⟩ := hk
  obtain ⟨ys, n', _, hD, hcl, hyl, hfs⟩ := DataW.trod_struct Try.underlying38 hf
  rw [cells_shapeO] at hcl
  obtain ⟨xs, hxs⟩ : ∃ xs, xs = (Value.agg cs).cells.toList := ⟨_, rfl⟩
  rw [← hxs] at hcl hfs
  match xs, hcl with
  | [x0, x1, x2, x3, x4, x5, x6, x7], _ =>
    have gh := hfs 0 _ rfl
    have g5 := hfs 1 _ rfl
    have g6 := hfs 2 _ rfl
    have g7 := hfs 3 _ rfl
    have hy : ys.length = 4 := hyl
    match ys, hy with
    | [yh, y5, y6, y7], _ =>
      have gh : DataW.trod enc Try.prog W 0 (fun _ => true) true n' 36 (([x0, x1, x2, x3, x4, x5, x6, x7].drop 0).take (Try.prog.cellsOf 36)) = some yh := gh
      rw [cells_headO] at gh
      have gh : DataW.trod enc Try.prog W 0 (fun _ => true) true n' 36 [x0, x1, x2, x3, x4] = some yh := gh
      obtain ⟨zs, m', _, hDh, hcl2, hzl, hfz⟩ := DataW.trod_struct Try.underlying36 gh
      have hz : zs.length = 5 := hzl
      match zs, hz with
      | [z0, z1, z2, z3, z4], _ =>
        have g0 := hfz 0 _ rfl
        have g1 := hfz 1 _ rfl
        have g2 := hfz 2 _ rfl
        have g3 := hfz 3 _ rfl
        have g4 := hfz 4 _ rfl
        obtain ⟨q0, c0, _, _⟩ := DataW.trod_int Try.underlying3 (x := z0) g0
        obtain ⟨q1, c1, _, _⟩ := DataW.trod_int Try.underlying3 (x := z1) g1
        obtain ⟨q2, c2, _, _⟩ := DataW.trod_int Try.underlying3 (x := z2) g2
        obtain ⟨q3, c3, _, _⟩ := DataW.trod_int Try.underlying3 (x := z3) g3
        obtain ⟨q4, c4, _, _⟩ := DataW.trod_int Try.underlying3 (x := z4) g4
        obtain ⟨pal, c5, d5, _⟩ := DataW.trod_string Try.underlying9 (x := y5) g5
        obtain ⟨tr, c6, d6, _⟩ := DataW.trod_string Try.underlying9 (x := y6) g6
        obtain ⟨has, c7, d7⟩ := DataW.trod_bool Try.underlying4 (x := y7) g7
        have c0 : ([x0, x1, x2, x3, x4].drop 0).take (Try.prog.cellsOf 3) = [.int .i64 q0] := c0
        have c1 : ([x0, x1, x2, x3, x4].drop 1).take (Try.prog.cellsOf 3) = [.int .i64 q1] := c1
        have c2 : ([x0, x1, x2, x3, x4].drop 2).take (Try.prog.cellsOf 3) = [.int .i64 q2] := c2
        have c3 : ([x0, x1, x2, x3, x4].drop 3).take (Try.prog.cellsOf 3) = [.int .i64 q3] := c3
        have c4 : ([x0, x1, x2, x3, x4].drop 4).take (Try.prog.cellsOf 3) = [.int .i64 q4] := c4
        have c5 : ([x0, x1, x2, x3, x4, x5, x6, x7].drop 5).take (Try.prog.cellsOf 9) = [.string pal] := c5
        have c6 : ([x0, x1, x2, x3, x4, x5, x6, x7].drop 6).take (Try.prog.cellsOf 9) = [.string tr] := c6
        have c7 : ([x0, x1, x2, x3, x4, x5, x6, x7].drop 7).take (Try.prog.cellsOf 4) = [.bool has] := c7
        rw [cells_intO] at c0 c1 c2 c3 c4
        rw [cells_strO] at c5 c6
        rw [cells_boolO] at c7
        have e0 : x0 = .int .i64 q0 := by simpa using c0
        have e1 : x1 = .int .i64 q1 := by simpa using c1
        have e2 : x2 = .int .i64 q2 := by simpa using c2
        have e3 : x3 = .int .i64 q3 := by simpa using c3
        have e4 : x4 = .int .i64 q4 := by simpa using c4
        have e5 : x5 = .string pal := by simpa using c5
        have e6 : x6 = .string tr := by simpa using c6
        have e7 : x7 = .bool has := by simpa using c7
        have hDD : d = .agg [yh.1, .lit (.string pal.data.toList), .lit (.string tr.data.toList), .lit (.bool has)] := by
          have hD1 := (Prod.mk.inj hD).1
          rw [hD1]
          show DataW.agg [yh.1, y5.1, y6.1, y7.1] = _
          rw [d5, d6, d7]
        have hr : reachBytes = 140737488351232 := rfl
        have hww : ∀ k ∈ (d.weights Try.prog 38), k ≤ reachBytes := fun k hk => by
          have h3 := List.all_eq_true.1 hsz k (DataW.weights_mem_each ht hd k hk)
          simpa using h3
        have hmem : pal.data.toList.length ∈ d.weights Try.prog 38 ∧ tr.data.toList.length ∈ d.weights Try.prog 38 := by
          rw [hDD]
          simp only [DataW.weights, Try.underlying38]
          constructor
          · exact List.mem_append.2 (Or.inr (List.mem_append.2 (Or.inl (List.mem_singleton.2 rfl))))
          · exact List.mem_append.2 (Or.inr (List.mem_append.2 (Or.inr (List.mem_append.2 (Or.inl (List.mem_singleton.2 rfl))))))
        refine ⟨q0, q1, q2, q3, q4, pal, tr, has, ?_, ?_, ?_⟩
        · obtain ⟨l⟩ := cs
          simp only [Value.cells] at hxs
          have e : l = [x0, x1, x2, x3, x4, x5, x6, x7] := by simpa using hxs.symm
          rw [e, e0, e1, e2, e3, e4, e5, e6, e7]
        · have := hww _ hmem.1; rw [hr, Array.length_toList] at this; exact this
        · have := hww _ hmem.2; rw [hr, Array.length_toList] at this; exact this
/-- A list of numbers that is handed in. -/
theorem open_zs {H : Type} {enc : TypeId × Value → H} {W : World} {base : Nat} {v : Value} {d : DataW H} {p : List MemPlace} (hv : Value.okWide Try.prog W .any base 22 v)
    (hk : DataW.Trod enc Try.prog W 0 (fun _ => true) true 22 v d p) {ts : List TypeId} {ds : List (DataW H)} (hsz : (DataW.weightsEach Try.prog ts ds).all (· ≤ reachBytes) = true) {j : Nat} (ht : ts[j]? = some 22) (hd : ds[j]? = some d) :
    ∃ A len cap l, v = .slice A len cap ∧ Zs W A len l ∧ len * 8 ≤ 140737488351232 ∧ len ≤ cap ∧ (A = none → cap = 0) ∧ ZFit l := by
  obtain ⟨a0, len, cap, rfl⟩ := okWide_slice Try.underlying22 hv
  obtain ⟨fuel, hf⟩ := hk
  rcases open_ints Try.underlying22 Try.underlying3 (by kernel_rfl) hf with ⟨hcs, _⟩ | ⟨a, len', cap', zs, hcs, hb, hl, hm, hzs, hx, hc, hwf⟩
  · simp [Value.cells] at hcs
    obtain ⟨rfl, rfl, rfl⟩ := hcs
    exact ⟨none, 0, 0, [], rfl, ⟨rfl, fun h => absurd h (by omega)⟩, by omega, Nat.le_refl _, fun _ => rfl, by intro x hx; cases hx⟩
  · simp [Value.cells] at hcs
    obtain ⟨rfl, rfl, rfl⟩ := hcs
    have hzl : zs.length = cap := by simpa using hzs
    have hde : d = .slice (lits .i64 (zs.take len)) (lits .i64 (zs.drop len)) := by injection hx
    have hbound : len * 8 ≤ 140737488351232 := by
      have h := sized_slice hsz (e := 3) ht (by rw [hd, hde]) Try.underlying22
      have hb8 : Try.prog.bytesOf 3 = 8 := by kernel_rfl
      rw [hb8] at h
      have hr : reachBytes = 140737488351232 := rfl
      rw [hr] at h
      simp only [lits, List.length_map, List.length_take, List.length_drop] at h
      omega
    refine ⟨some a, len, cap, zs.take len, rfl, ⟨by rw [List.length_take]; omega, fun hn => ?_⟩, hbound, hl, (fun e => by cases e), fun x hx' => bounds_i64 (hwf x (List.mem_of_mem_take hx'))⟩
    obtain ⟨g, o, rfl, hg⟩ := ints_at hc (by omega)
    refine ⟨g, o, rfl, ?_, fun i hi => ?_⟩
    · have := World.block_lt_of_cell? W _ (hg 0 (by omega))
      exact this
    · rw [List.length_take] at hi
      rw [hg i (by omega), List.getElem_take, List.getD_eq_getElem?_getD, List.getElem?_eq_getElem (by omega)]; rfl
theorem one_intO : Try.prog.cellsOf 3 = 1 := by kernel_rfl
theorem open_twoO {H : Type} {enc : TypeId × Value → H} {W : World} {base : Nat} {v : Value} {d : DataW H} {p : List MemPlace} (hv : Value.okWide Try.prog W .any base 42 v)
    (hk : DataW.Trod enc Try.prog W 0 (fun _ => true) true 42 v d p) {ts : List TypeId} {ds : List (DataW H)} (hsz : (DataW.weightsEach Try.prog ts ds).all (· ≤ reachBytes) = true) {j : Nat} (ht : ts[j]? = some 42) (hd : ds[j]? = some d) : ∃ a c, v = .agg #[.int .i64 a, .int .i64 c] ∧ (-9223372036854775808 ≤ a ∧ a ≤ 9223372036854775807) ∧ (-9223372036854775808 ≤ c ∧ c ≤ 9223372036854775807) := by
  simp only [Value.okWide, Try.underlying42] at hv
  obtain ⟨cs, rfl, hsz2, _⟩ := hv
  obtain ⟨fuel, hf⟩ := hk
  have hc2 : Try.prog.cellsOf 42 = 2 := by kernel_rfl
  obtain ⟨xs, k, rfl, hx, hlen, hxn, hel⟩ := DataW.trod_array Try.underlying42 hf
  have h0 := hel 0 (by omega)
  have h1 := hel 1 (by omega)
  rw [one_intO, List.getElem?_eq_getElem (by omega)] at h0 h1
  obtain ⟨a, e0, _, b0⟩ := DataW.trod_int Try.underlying3 h0
  obtain ⟨c, e1, _, b1⟩ := DataW.trod_int Try.underlying3 h1
  obtain ⟨l⟩ := cs
  simp only [Value.cells] at hlen e0 e1
  rw [hc2] at hlen
  match l, hlen with
  | [x, y], _ =>
    simp at e0 e1
    subst e0 e1
    have r0 := bounds_i64 b0
    have r1 := bounds_i64 b1
    exact ⟨a, c, rfl, r0, r1⟩
end Go.Proofs.Ytfibffcmbnlomaa
