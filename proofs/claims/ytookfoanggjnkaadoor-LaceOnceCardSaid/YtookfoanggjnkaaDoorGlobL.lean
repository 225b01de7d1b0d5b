/- What the program's variable of passes holds, out of a row's condition. -/
import Derived.Test.YtookfoanggjnkaaDoorLcP
import Derived.Test.YtookfoanggjnkaaDoorLcT
import Derived.Test.YtookfoanggjnkaaDoorRows
import Derived.ProofKit
import Derived.LaidMore
import Derived.OpenShut
import Derived.Stop.Joined
namespace Go.Proofs.YtookfoanggjnkaaDoor
set_option maxRecDepth 100000
open Go Go.RowKit Go.ChangeShapes Go.WideShapes Go.ChangeAt Go.WideMaps Go.WideElems

def datP {H : Type} (p : PassL) : DataW H := .agg [.lit (.int .i64 (p.x : Nat)), .lit (.int .i64 (p.y : Nat)), .lit (.int .i64 (p.dx : Nat)), .lit (.int .i64 (p.dy : Nat))]
theorem cells_placeL : Tryd.prog.cellsOf 46 = 4 := by kernel_rfl
section
variable {H : Type} {enc : TypeId × Value → H} {w : World} {base : Nat} {spare : Nat → Bool} {held : Bool}
theorem place_cells {m : Nat} {cs : List Value} {q : List MemPlace} {p : PassL} (h : DataW.trod enc Tryd.prog w base spare held m 46 cs = some (datP p, q)) :
    cs = [.int .i64 (p.x : Nat), .int .i64 (p.y : Nat), .int .i64 (p.dx : Nat), .int .i64 (p.dy : Nat)] := by
  obtain ⟨ys, n', _, hx, hcl, hyl, hfs⟩ := DataW.trod_struct Tryd.underlying46 h
  injection hx with hx1 hx2
  injection hx1 with hx1
  rw [cells_placeL] at hcl
  match cs, hcl with
  | [x0, x1, x2, x3], _ =>
    have hy : ys.length = 4 := hyl
    match ys, hy with
    | [y0, y1, y2, y3], _ =>
      have g0 := hfs 0 _ rfl
      have g1 := hfs 1 _ rfl
      have g2 := hfs 2 _ rfl
      have g3 := hfs 3 _ rfl
      obtain ⟨q0, c0, z0, _⟩ := DataW.trod_int Tryd.underlying3 (x := y0) g0
      obtain ⟨q1, c1, z1, _⟩ := DataW.trod_int Tryd.underlying3 (x := y1) g1
      obtain ⟨q2, c2, z2, _⟩ := DataW.trod_int Tryd.underlying3 (x := y2) g2
      obtain ⟨q3, c3, z3, _⟩ := DataW.trod_int Tryd.underlying3 (x := y3) g3
      have c0 : ([x0, x1, x2, x3].drop 0).take (Tryd.prog.cellsOf 3) = [.int .i64 q0] := c0
      have c1 : ([x0, x1, x2, x3].drop 1).take (Tryd.prog.cellsOf 3) = [.int .i64 q1] := c1
      have c2 : ([x0, x1, x2, x3].drop 2).take (Tryd.prog.cellsOf 3) = [.int .i64 q2] := c2
      have c3 : ([x0, x1, x2, x3].drop 3).take (Tryd.prog.cellsOf 3) = [.int .i64 q3] := c3
      rw [cells_intL] at c0 c1 c2 c3
      have e0 : x0 = .int .i64 q0 := by simpa using c0
      have e1 : x1 = .int .i64 q1 := by simpa using c1
      have e2 : x2 = .int .i64 q2 := by simpa using c2
      have e3 : x3 = .int .i64 q3 := by simpa using c3
      subst z0 z1 z2 z3
      simp at hx1
      obtain ⟨r0, r1, r2, r3⟩ := hx1
      rw [e0, e1, e2, e3, ← r0, ← r1, ← r2, ← r3]
theorem places_cells {m : Nat} {cs : List Value} {q : List MemPlace} (h : DataW.trod enc Tryd.prog w base spare held m 47 cs = some (.agg (placesL.map datP), q)) :
    ∀ i p, placesL[i]? = some p → (cs.drop (i * 4)).take 4 = [.int .i64 (p.x : Nat), .int .i64 (p.y : Nat), .int .i64 (p.dx : Nat), .int .i64 (p.dy : Nat)] := by
  intro i p hp
  obtain ⟨xs, k, rfl, hx, hlen, hxn, hel⟩ := DataW.trod_array Tryd.underlying47 h
  injection hx with hx1 hx2
  injection hx1 with hx1
  have hi : i < 8 := (List.getElem?_eq_some_iff.1 hp).1
  have h1 := hel i hi
  rw [cells_placeL, List.getElem?_eq_getElem (by omega)] at h1
  have hz : (placesL.map (datP (H := H)))[i]? = some (datP p) := by rw [List.getElem?_map, hp]; rfl
  rw [hx1, List.getElem?_map, List.getElem?_eq_getElem (by omega)] at hz
  have hz2 : (xs[i]'(by omega)).1 = datP p := by simpa using hz
  have h2 : xs[i]'(by omega) = (datP p, (xs[i]'(by omega)).2) := by rw [← hz2]
  rw [h2] at h1
  exact place_cells h1
end
/-- The variable that the rows list, with what it holds. -/
def laidL : List (String × DataW Unit) := [("vitrine/lace.places", Rows.laid_vitrine_lace_places)]
theorem g0 : Tryd.prog.globalNamed "vitrine/lace.places" = some 0 := by kernel_rfl
theorem t0 : (Tryd.prog.globals[0]?).map (·.type) = some 47 := by kernel_rfl
theorem door_met (os : Os) (args : Array Value) : laidMetH Tryd.prog laidL ((World.doorLaid Tryd.prog 400 os).forCall (fun _ _ => 0) ⟨#[], args, []⟩).memory :=
  laidMetH_of_parts3 (fuel := 8) (laidMet_of_run' 8 (by kernel_rfl) (by kernel_rfl)) (by kernel_rfl) (by kernel_rfl)
theorem cell_lt {W : World} {a : Addr} {v : Value} (h : W.cell? a = some v) : a.block < W.heap.size := by
  by_cases hl : a.block < W.heap.size
  · exact hl
  · unfold World.cell? at h
    rw [Array.getElem?_eq_none (by omega)] at h
    cases h
theorem of_laid {W : World} (h : laidMetH Tryd.prog laidL W) : GP W := by
  rw [MakeChecks.laidMetH_plain _ _ _ (by kernel_rfl)] at h
  obtain ⟨ps, ⟨g0', t0', cs0, f0, p0, q0, hg0, ht0, hv0, hd0, _, _⟩, _, _⟩ := h
  obtain rfl := Option.some.inj (g0.symm.trans hg0)
  obtain rfl := Option.some.inj (t0.symm.trans ht0)
  have a0 := places_cells hd0
  have b0 := fun i => World.var?_cell hg0 hv0 i
  have c : ∀ (i : Nat), cs0.toList[i]? = cs0[i]? := fun i => by simp
  intro i p hp
  have hc := a0 i p hp
  have hk : ∀ k, k < 4 → W.cell? ⟨0, i * 4 + k, none⟩ = ([.int .i64 (p.x : Nat), .int .i64 (p.y : Nat), .int .i64 (p.dx : Nat), .int .i64 (p.dy : Nat)] : List Value)[k]? := fun k hk => by
    rw [b0 (i * 4 + k), ← c, ← hc, List.getElem?_take_of_lt hk, List.getElem?_drop]
  have h0 := hk 0 (by omega)
  exact ⟨⟨h0, hk 1 (by omega), hk 2 (by omega), hk 3 (by omega)⟩, cell_lt h0⟩
end Go.Proofs.YtookfoanggjnkaaDoor
