/- The calls that a statement is handed: a slice of structs, opened to its cells. -/
import Derived.Test.YtafchckfanbkcaaAwake
import Derived.Deep.Slices
import Derived.ProofKit
import Derived.OpenShut
namespace Go.Proofs.Ytafchckfanbkcaa
open Go Go.RowKit Go.ChangeShapes Go.WideShapes

/-- The calls as a list: whether bytes, how many, the number. -/
def IsOps (w : World) (A : Option Addr) (len cap : Nat) (ops : List (Bool × Int × Int)) : Prop :=
  ops.length = len ∧ len ≤ cap ∧ cap ≤ maxLen ∧
  (0 < len → ∃ g o, A = some ⟨g, o, none⟩ ∧ g < w.heap.size ∧ ∀ (i : Nat) (h : i < ops.length), w.cell? ⟨g, o + i * 3, none⟩ = some (.bool ops[i].1) ∧
    w.cell? ⟨g, o + i * 3 + 1, none⟩ = some (.int .i64 ops[i].2.1) ∧ w.cell? ⟨g, o + i * 3 + 2, none⟩ = some (.int .i64 ops[i].2.2)) ∧
  ∀ x ∈ ops, -9223372036854775808 ≤ x.2.1 ∧ x.2.1 ≤ 9223372036854775807
theorem cells_op : Try.prog.cellsOf 32 = 3 := by kernel_rfl
theorem IsOps.below {w w' : World} {A : Option Addr} {len cap : Nat} {ops : List (Bool × Int × Int)} (h : IsOps w A len cap ops) (hb : Below w.heap.size w w') : IsOps w' A len cap ops := by
  obtain ⟨h1, h2, h3, h4, h5⟩ := h
  refine ⟨h1, h2, h3, fun hp => ?_, h5⟩
  obtain ⟨g, o, e, hg, hc⟩ := h4 hp
  refine ⟨g, o, e, Nat.lt_of_lt_of_le hg hb.size, fun i hi => ?_⟩
  obtain ⟨c0, c1, c2⟩ := hc i hi
  exact ⟨(hb.cell hg).trans c0, (hb.cell hg).trans c1, (hb.cell hg).trans c2⟩

theorem open_ops {H : Type} {enc : TypeId × Value → H} {W : World} {base : Nat} {v : Value} {d : DataW H} {p : List MemPlace} (hv : Value.okWide Try.prog W .any base 25 v)
    (hk : DataW.Trod enc Try.prog W 0 (fun _ => true) true 25 v d p) : ∃ A len cap ops, v = .slice A len cap ∧ IsOps W A len cap ops := by
  obtain ⟨a0, len, cap, rfl⟩ := okWide_slice Try.underlying25 hv
  obtain ⟨fuel, hf⟩ := hk
  rcases Deep.open_slice Try.underlying25 hf with ⟨hcs, _⟩ | ⟨a, len', cap', m, n, D, Pl, hcs, hb, hl, hm, hmm, hx, hi⟩
  · simp [Value.cells] at hcs
    obtain ⟨rfl, rfl, rfl⟩ := hcs
    exact ⟨none, 0, 0, [], rfl, rfl, Nat.le_refl _, Nat.zero_le _, fun h => absurd h (by omega), by simp⟩
  · simp [Value.cells] at hcs
    obtain ⟨rfl, rfl, rfl⟩ := hcs
    have hmc : m = cap := by simpa using hmm
    rw [cells_op] at hi
    have hel : ∀ i, i < len → ∃ q : Bool × Int × Int, W.cell? (a.add (i * 3 + 0)) = some (.bool q.1) ∧ W.cell? (a.add (i * 3 + 1)) = some (.int .i64 q.2.1) ∧ W.cell? (a.add (i * 3 + 2)) = some (.int .i64 q.2.2) ∧ (-9223372036854775808 ≤ q.2.1 ∧ q.2.1 ≤ 9223372036854775807) := by
      intro i hil
      obtain ⟨cs', h1, h2⟩ := hi i (by omega)
      obtain ⟨_, hlen, hat⟩ := World.cells?_some h1
      obtain ⟨ys, n', _, _, _, hyl, hfs⟩ := DataW.trod_struct Try.underlying32 h2
      match cs', hlen with
      | [x0, x1, x2], _ =>
        have g0 := hfs 0 _ rfl
        have g1 := hfs 1 _ rfl
        have g2 := hfs 2 _ rfl
        have hy : ys.length = 3 := hyl
        have k0 : Try.prog.cellsOf 4 = 1 := by kernel_rfl
        have k1 : Try.prog.cellsOf 3 = 1 := by kernel_rfl
        have e0 : ys[0]? = some ys[0] := List.getElem?_eq_getElem (by omega)
        have e1 : ys[1]? = some ys[1] := List.getElem?_eq_getElem (by omega)
        have e2 : ys[2]? = some ys[2] := List.getElem?_eq_getElem (by omega)
        rw [e0] at g0
        rw [e1] at g1
        rw [e2] at g2
        obtain ⟨wh, c0, _⟩ := DataW.trod_bool Try.underlying4 g0
        obtain ⟨q1, c1, _, wf1⟩ := DataW.trod_int Try.underlying3 g1
        obtain ⟨q2, c2, _, _⟩ := DataW.trod_int Try.underlying3 g2
        have c0 : ([x0, x1, x2].drop 0).take (Try.prog.cellsOf 4) = [.bool wh] := c0
        have c1 : ([x0, x1, x2].drop 1).take (Try.prog.cellsOf 3) = [.int .i64 q1] := c1
        have c2 : ([x0, x1, x2].drop 2).take (Try.prog.cellsOf 3) = [.int .i64 q2] := c2
        rw [k0] at c0
        rw [k1] at c1 c2
        have d0 : x0 = .bool wh := by simpa using c0
        have d1 : x1 = .int .i64 q1 := by simpa using c1
        have d2 : x2 = .int .i64 q2 := by simpa using c2
        have hb1 := bounds_i64 wf1
        rw [← Deep.add_add, ← Deep.add_add, ← Deep.add_add]
        exact ⟨(wh, q1, q2), by rw [hat 0 (by omega)]; simp [d0], by rw [hat 1 (by omega)]; simp [d1], by rw [hat 2 (by omega)]; simp [d2], hb1⟩
    obtain ⟨V, hV⟩ := Deep.choose_lt hel
    refine ⟨some a, len, cap, (List.range len).map V, rfl, by simp, hl, hm, fun hp => ?_, fun x hx' => ?_⟩
    · obtain ⟨g, o, spot⟩ := a
      have hs : spot = none := by
        have := World.cell?_spot (hV 0 hp).1
        simpa [Addr.add] using this
      subst hs
      have hlt : g < W.heap.size := by
        have := World.block_lt_of_cell? W _ (hV 0 hp).1
        simpa [Addr.add] using this
      refine ⟨g, o, rfl, hlt, fun i hi => ?_⟩
      have hi' : i < len := by simpa using hi
      obtain ⟨c0, c1, c2, _⟩ := hV i hi'
      rw [add_plain] at c0 c1 c2
      simp only [List.getElem_map, List.getElem_range]
      exact ⟨c0, by rw [Nat.add_assoc]; exact c1, by rw [Nat.add_assoc]; exact c2⟩
    · obtain ⟨i, hi', rfl⟩ := List.mem_map.1 hx'
      exact (hV i (List.mem_range.1 hi')).2.2.2
end Go.Proofs.Ytafchckfanbkcaa
