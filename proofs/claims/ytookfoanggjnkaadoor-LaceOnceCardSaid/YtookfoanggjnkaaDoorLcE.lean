/- A set of places that the call makes: a map keyed by two numbers. -/
import Derived.Test.YtookfoanggjnkaaDoorLcA
import Derived.Maps.OwnSet
import Derived.Maps.OwnOps
import Derived.DeepKeys4
import Derived.WideKeyArgs2
import Derived.MapViews
set_option maxRecDepth 100000
set_option linter.unusedVariables false
namespace Go.Proofs.YtookfoanggjnkaaDoor
set_option maxRecDepth 100000
open Go Go.RowKit Go.Maps
theorem laidOutS : laidOutB Tryd.prog = true := by kernel_rfl
theorem law2 : Keyed Tryd.prog 35 := Keyed.of_law (deep_law_laid laidOutS (m := 3) (by omega) (of_decide_eq_true (by kernel_rfl)) (by kernel_rfl) (by kernel_rfl))
def kV (x y : Nat) : Value := .agg #[.int .i64 (x : Nat), .int .i64 (y : Nat)]
theorem formed2 (x y : Nat) : (kV x y).formed Tryd.prog 35 = true := by
  have hc : Tryd.prog.cellsOf 35 = 2 := by kernel_rfl
  unfold kV
  simp [Value.formed, Tryd.underlying35, hc]
theorem wf_small {x : Nat} (hx : x ≤ 100000) : (Lit.int .i64 (x : Int)).wf = true := WalkArith.wf_i64 (by omega)
def kL (q : Nat × Nat) : Lit := .string (keyBytes [.int .i64 (q.1 : Nat), .int .i64 (q.2 : Nat)])
theorem kV_key {x y : Nat} (hx : x ≤ 100000) (hy : y ≤ 100000) : keyOf Tryd.prog 35 (kV x y) = some (kL (x, y)) := by
  have h1 : Tryd.prog.keyType 35 = true := by kernel_rfl
  have hc : Tryd.prog.cellsOf 35 = 2 := by kernel_rfl
  have hi : Tryd.prog.cellsOf 3 = 1 := by kernel_rfl
  have hl : (Tryd.prog.keyLits (Tryd.prog.types.size + 1) 35 (kV x y).cells.toList) = some [.int .i64 (x : Nat), .int .i64 (y : Nat)] := by
    obtain ⟨m, hm⟩ : ∃ m, Tryd.prog.types.size + 1 = m + 1 + 1 := ⟨Tryd.prog.types.size - 1, by have : 1 ≤ Tryd.prog.types.size := of_decide_eq_true (by kernel_rfl); omega⟩
    rw [hm]
    have hcs : (kV x y).cells.toList = [.int .i64 (x : Nat), .int .i64 (y : Nat)] := rfl
    rw [hcs]
    unfold Program.keyLits
    simp only [Tryd.underlying35, hc, hi]
    have ex : Tryd.prog.keyLits (m + 1) 3 [.int .i64 (x : Nat)] = some [.int .i64 (x : Nat)] := by
      unfold Program.keyLits
      simp [Tryd.underlying3, wf_small hx]
    have ey : Tryd.prog.keyLits (m + 1) 3 [.int .i64 (y : Nat)] = some [.int .i64 (y : Nat)] := by
      unfold Program.keyLits
      simp [Tryd.underlying3, wf_small hy]
    simp [List.range_succ, ex, ey]
  unfold keyOf
  simp only [Tryd.underlying35]
  rw [h1, formed2, hl]
  rfl
theorem kL_is {q : Nat × Nat} (hx : q.1 ≤ 100000) (hy : q.2 ≤ 100000) : keyOf Tryd.prog 35 (kV q.1 q.2) = some (kL q) := kV_key hx hy
theorem kL_lit {q : Nat × Nat} (hx : q.1 ≤ 100000) (hy : q.2 ≤ 100000) : WideAt.IsKeyLit (kL q) := law2.key (kL_is hx hy)
theorem kL_inj {q r : Nat × Nat} (hq : q.1 ≤ 100000 ∧ q.2 ≤ 100000) (hr : r.1 ≤ 100000 ∧ r.2 ≤ 100000) (h : kL q = kL r) : q = r := by
  have h1 := kL_is hq.1 hq.2
  have h2 := kL_is hr.1 hr.2
  rw [← h] at h2
  have e := law2.inj h1 h2
  unfold kV at e
  injection e with e
  have e' := congrArg Array.toList e
  simp at e'
  exact Prod.ext (by omega) (by omega)
/-- The map reads as this set. -/
def SetL (w : World) (b : Nat) (L : List (Nat × Nat)) : Prop := (∀ q, q ∈ L → q.1 ≤ 100000 ∧ q.2 ≤ 100000) ∧
  w.ownsMap (H := Unit) Tryd.prog 35 (plainElem Tryd.prog 4) b L.length (setOf (.lit (.bool true)) (L.map kL)) ∧ Maps.size (setOf (H := Unit) (.lit (.bool true)) (L.map kL)) = L.length
theorem SetL.made (w : World) : SetL (w.alloc (.map #[] 0)) w.heap.size [] := ⟨fun q h => (by cases h), World.ownsMap_made _ _ _ _, rfl⟩
theorem SetL.lt {w : World} {b : Nat} {L : List (Nat × Nat)} (h : SetL w b L) : b < w.heap.size := h.2.1.lt
theorem SetL.but {w w' : World} {b : Nat} {L : List (Nat × Nat)} (h : SetL w b L) (k : But [] w w') : SetL w' b L := by
  obtain ⟨h1, ⟨es, clock, hb, r⟩, h3⟩ := h
  exact ⟨h1, ⟨es, clock, (k.block b (Array.getElem?_eq_some_iff.1 hb).1 (by simp)).trans hb, r⟩, h3⟩
theorem SetL.keys {w : World} {b : Nat} {L : List (Nat × Nat)} (h : SetL w b L) : ∀ x, x ∈ L.map kL → WideAt.IsKeyLit x := fun x hx => by
  obtain ⟨q, hq, rfl⟩ := List.mem_map.1 hx
  exact kL_lit (h.1 q hq).1 (h.1 q hq).2
theorem SetL.hasnt {w : World} {b : Nat} {L : List (Nat × Nat)} (h : SetL w b L) {q : Nat × Nat} (hx : q.1 ≤ 100000) (hy : q.2 ≤ 100000) (hn : q ∉ L) : has (setOf (H := Unit) (.lit (.bool true)) (L.map kL)) (kL q) = false := by
  rw [has_setOf _ _ _ h.keys, List.any_eq_false]
  intro x hxm
  obtain ⟨r, hr, rfl⟩ := List.mem_map.1 hxm
  rw [sameKey_ne]
  · decide
  · intro e
    exact hn ((kL_inj (h.1 r hr) ⟨hx, hy⟩ e) ▸ hr)
theorem zeroB (w : World) : (zeroValue 4).run Tryd.prog w = .ok (.bool false) w := by kernel_rfl
/-- A place that is not in it. -/
theorem SetL.look {w : World} {b : Nat} {L : List (Nat × Nat)} (h : SetL w b L) {x y : Nat} (hx : x ≤ 100000) (hy : y ≤ 100000) (hn : (x, y) ∉ L) :
    (Instr.lookup 32 (.map (some b)) (.agg #[.int .i64 (x : Nat), .int .i64 (y : Nat)]) false).run Tryd.prog w = .ok (.bool false) w := by
  obtain ⟨v, ps, hrun, hv⟩ := h.2.1.lookup law2 Tryd.underlying32 (zeroB w) (plainElem_bool Tryd.underlying4 false) (kL_is (q := (x, y)) hx hy)
  rw [atKey_of_not_has (h.hasnt (q := (x, y)) hx hy hn)] at hv
  have e : v = .bool false := by
    unfold plainElem at hv
    rw [Tryd.underlying4] at hv
    cases v <;> simp at hv
    rw [hv.1]
  rw [e] at hrun
  exact hrun
theorem SetL.len {w : World} {b : Nat} {L : List (Nat × Nat)} (h : SetL w b L) (ty : TypeId) : (Builtin.len_ #[32] ty #[.map (some b)]).run Tryd.prog w = .ok (.int .i64 L.length) w := by
  have h1 := h.2.1.len Tryd.underlying32 ty
  rw [h.2.2] at h1
  exact h1
theorem SetL.put {w : World} {b : Nat} {L : List (Nat × Nat)} (h : SetL w b L) {x y : Nat} (hx : x ≤ 100000) (hy : y ≤ 100000) (hn : (x, y) ∉ L) (hl : L.length < 1000000) :
    ∃ w', (Instr.mapUpdate 32 (.map (some b)) (.agg #[.int .i64 (x : Nat), .int .i64 (y : Nat)]) (.bool true)).run Tryd.prog w = .ok () w' ∧ SetL w' b (L ++ [(x, y)]) ∧ w.grownBy w' (some b) := by
  obtain ⟨w', hrun, r1, r2⟩ := h.2.1.update law2 Tryd.underlying32 (by unfold maxLen; omega) (kL_is (q := (x, y)) hx hy) (plainElem_bool Tryd.underlying4 true)
  refine ⟨w', hrun, ⟨fun q hq => ?_, ?_, ?_⟩, r2⟩
  · rcases List.mem_append.1 hq with hq | hq
    · exact h.1 q hq
    · rw [List.mem_singleton.1 hq]; exact ⟨hx, hy⟩
  · rw [List.map_append, List.length_append, List.map_cons, List.map_nil, setOf_snoc]
    exact r1
  · rw [List.map_append, List.length_append, List.map_cons, List.map_nil, setOf_snoc, size_put (tidy_setOf _ _ h.keys), h.hasnt (q := (x, y)) hx hy hn, h.2.2]
    rfl
/-- A place laid into it, for the walk. -/
theorem wpList_mapUpdate_set (w : World) {ops : Array Oper} {rest : List Oper} {o : Oper} {a : Act} {Q : Exit → Act → World → Prop}
    (hg : o.guard = none) (m x v : Operand) (hop : o.op = Op.mapUpdate 32 m x v) {b : Nat} {L : List (Nat × Nat)} (hm : a.eval m = .map (some b)) (hS : SetL w b L) {i j : Nat}
    (hx : a.eval x = .agg #[.int .i64 (i : Nat), .int .i64 (j : Nat)]) (hv : a.eval v = .bool true) (hi : i ≤ 100000) (hj : j ≤ 100000) (hn : (i, j) ∉ L) (hl : L.length < 1000000)
    (hK : ∀ w', Hid (SetL w' b (L ++ [(i, j)])) → Hid (w.grownBy w' (some b)) → wpList Tryd.prog ops Q rest (a.put o.dst undef) w') : wpList Tryd.prog ops Q (o :: rest) a w := by
  refine wpList_plain hg fun K' hK' => ?_
  obtain ⟨w', hrun, r1, r2⟩ := hS.put hi hj hn hl
  unfold Oper.wp
  simp [execOp, hop, hm, hx, hv, hrun, Result.andThen]
  exact hK' _ _ (hK w' (Lib.hid r1) (Lib.hid r2))
end Go.Proofs.YtookfoanggjnkaaDoor
