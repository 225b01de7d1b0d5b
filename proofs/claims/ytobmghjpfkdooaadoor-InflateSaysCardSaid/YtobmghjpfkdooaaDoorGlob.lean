/- What the program's variables hold, out of the row's condition; pairs of numbers that are handed in. -/
import Derived.Test.YtobmghjpfkdooaaDoorSmT
import Derived.Test.YtobmghjpfkdooaaDoorRows
import Derived.ProofKit
import Derived.LaidMore
import Derived.OpenShut
import Derived.Stop.Joined
namespace Go.Proofs.YtobmghjpfkdooaaDoor
set_option maxRecDepth 100000
open Go Go.RowKit Go.ChangeShapes Go.WideShapes Go.ChangeAt Go.WideMaps Go.WideElems

section
variable {P : Program} {H : Type} {enc : TypeId × Value → H} {w : World} {base : Nat} {spare : TypeId × Value → Bool} {held : Bool}
theorem arr_cell {sp : _} {t e n m : Nat} {cs : List Value} {ds : List (DataW H)} {p : List MemPlace} {zs : List Int} (ht : P.underlying t = some (.array n e)) (hce : P.cellsOf e = 1) (he : P.underlying e = some (.int .i64))
    (h : DataW.trod enc P w base sp held m t cs = some (.agg ds, p)) (hd : ds = zs.map fun z => .lit (.int .i64 z)) : ∀ i, i < n → cs[i]? = some (.int .i64 (zs.getD i 0)) := by
  intro i hi
  obtain ⟨xs, k, rfl, hx, hlen, hxn, hel⟩ := DataW.trod_array ht h
  injection hx with hx1 hx2
  injection hx1 with hx1
  have h1 := hel i hi
  rw [hce, Nat.mul_one, List.getElem?_eq_getElem (by omega)] at h1
  obtain ⟨z, e1, e2, _⟩ := DataW.trod_int he h1
  have hz : (zs.map fun z => (DataW.lit (.int .i64 z) : DataW H))[i]? = some (.lit (.int .i64 z)) := by
    rw [← hd, hx1, List.getElem?_map, List.getElem?_eq_getElem (by omega), e2]; rfl
  rw [List.getElem?_map] at hz
  cases hzi : zs[i]? with
  | none => rw [hzi] at hz; cases hz
  | some y =>
    rw [hzi] at hz
    have hy : y = z := by simpa using hz
    rw [List.getD_eq_getElem?_getD, hzi]
    have h2 : ((cs.drop i).take 1)[0]? = some (.int .i64 z) := by rw [e1]; rfl
    rw [List.getElem?_take_of_lt (by omega), List.getElem?_drop, Nat.add_zero] at h2
    rw [h2, hy]; rfl
end
/-- The variables that the rows list, with what they hold. -/
def laidL : List (String × DataW Unit) := [("vitrine/inflate.smallOrder", Rows.laid_vitrine_inflate_smallOrder), ("vitrine/inflate.leastTimes", Rows.laid_vitrine_inflate_leastTimes), ("vitrine/inflate.timesBits", Rows.laid_vitrine_inflate_timesBits)]
theorem g0 : Tryd.prog.globalNamed "vitrine/inflate.smallOrder" = some 0 := by kernel_rfl
theorem g1 : Tryd.prog.globalNamed "vitrine/inflate.leastTimes" = some 2 := by kernel_rfl
theorem g2 : Tryd.prog.globalNamed "vitrine/inflate.timesBits" = some 1 := by kernel_rfl
theorem t0 : (Tryd.prog.globals[0]?).map (·.type) = some 95 := by kernel_rfl
theorem t1 : (Tryd.prog.globals[2]?).map (·.type) = some 104 := by kernel_rfl
theorem t2 : (Tryd.prog.globals[1]?).map (·.type) = some 104 := by kernel_rfl
theorem one_int : Tryd.prog.cellsOf 3 = 1 := by kernel_rfl
theorem door_met (os : Os) (args : Array Value) : laidMetH Tryd.prog laidL ((World.doorLaid Tryd.prog 400 os).forCall (fun _ _ => 0) ⟨#[], args, []⟩).memory :=
  laidMetH_of_parts3 (fuel := 8) (laidMet_of_run' 8 (by kernel_rfl) (by kernel_rfl)) (by kernel_rfl) (by kernel_rfl)
theorem of_laid {W : World} (h : laidMetH Tryd.prog laidL W) : GL W := by
  rw [MakeChecks.laidMetH_plain _ _ _ (by kernel_rfl)] at h
  obtain ⟨ps, ⟨g0', t0', cs0, f0, p0, q0, hg0, ht0, hv0, hd0, ⟨g1', t1', cs1, f1, p1, q1, hg1, ht1, hv1, hd1, ⟨g2', t2', cs2, f2, p2, q2, hg2, ht2, hv2, hd2, _, _⟩, _⟩, _⟩, _, _⟩ := h
  obtain rfl := Option.some.inj (g0.symm.trans hg0)
  obtain rfl := Option.some.inj (g1.symm.trans hg1)
  obtain rfl := Option.some.inj (g2.symm.trans hg2)
  obtain rfl := Option.some.inj (t0.symm.trans ht0)
  obtain rfl := Option.some.inj (t1.symm.trans ht1)
  obtain rfl := Option.some.inj (t2.symm.trans ht2)
  have a0 := arr_cell (zs := [16, 17, 18, 0, 8, 7, 9, 6, 10, 5, 11, 4, 12, 3, 13, 2, 14, 1, 15]) Tryd.underlying95 one_int Tryd.underlying3 hd0 rfl
  have a1 := arr_cell (zs := [3, 3, 11]) Tryd.underlying104 one_int Tryd.underlying3 hd1 rfl
  have a2 := arr_cell (zs := [2, 3, 7]) Tryd.underlying104 one_int Tryd.underlying3 hd2 rfl
  have b0 := fun i => World.var?_cell hg0 hv0 i
  have b1 := fun i => World.var?_cell hg1 hv1 i
  have b2 := fun i => World.var?_cell hg2 hv2 i
  have c : ∀ (cs : Array Value) (i : Nat), cs.toList[i]? = cs[i]? := fun cs i => by simp
  refine ⟨fun i hi => ?_, ⟨?_, ?_, ?_⟩, ⟨?_, ?_, ?_⟩⟩
  · rw [b0 i, ← c, a0 i hi]
    have : ∀ i, i < 19 → ([16, 17, 18, 0, 8, 7, 9, 6, 10, 5, 11, 4, 12, 3, 13, 2, 14, 1, 15] : List Int).getD i 0 = ((ordS.getD i 0 : Nat) : Int) := by decide
    rw [this i hi]
  · rw [b2 0, ← c, a2 0 (by omega)]; rfl
  · rw [b2 1, ← c, a2 1 (by omega)]; rfl
  · rw [b2 2, ← c, a2 2 (by omega)]; rfl
  · rw [b1 0, ← c, a1 0 (by omega)]; rfl
  · rw [b1 1, ← c, a1 1 (by omega)]; rfl
  · rw [b1 2, ← c, a1 2 (by omega)]; rfl
/-- A pair of numbers that is handed in. -/
theorem open_two {H : Type} {enc : TypeId × Value → H} {W : World} {base : Nat} {v : Value} {d : DataW H} {p : List MemPlace} (hv : Value.okWide Tryd.prog W .any base 27 v)
    (hk : DataW.Trod enc Tryd.prog W 0 (fun _ => true) true 27 v d p) : ∃ a c, v = .agg #[.int .i64 a, .int .i64 c] ∧ -9223372036854775808 ≤ a ∧ a ≤ 9223372036854775807 ∧ -9223372036854775808 ≤ c ∧ c ≤ 9223372036854775807 := by
  simp only [Value.okWide, Tryd.underlying27] at hv
  obtain ⟨cs, rfl, hsz, _⟩ := hv
  obtain ⟨fuel, hf⟩ := hk
  have hc2 : Tryd.prog.cellsOf 27 = 2 := by kernel_rfl
  obtain ⟨xs, k, rfl, hx, hlen, hxn, hel⟩ := DataW.trod_array Tryd.underlying27 hf
  have h0 := hel 0 (by omega)
  have h1 := hel 1 (by omega)
  rw [one_int, List.getElem?_eq_getElem (by omega)] at h0 h1
  obtain ⟨a, e0, _, b0⟩ := DataW.trod_int Tryd.underlying3 h0
  obtain ⟨c, e1, _, b1⟩ := DataW.trod_int Tryd.underlying3 h1
  obtain ⟨l⟩ := cs
  simp only [Value.cells] at hlen e0 e1
  rw [hc2] at hlen
  match l, hlen with
  | [x, y], _ =>
    simp at e0 e1
    subst e0 e1
    have r0 := bounds_i64 b0
    have r1 := bounds_i64 b1
    exact ⟨a, c, rfl, r0.1, r0.2, r1.1, r1.2⟩
end Go.Proofs.YtobmghjpfkdooaaDoor
