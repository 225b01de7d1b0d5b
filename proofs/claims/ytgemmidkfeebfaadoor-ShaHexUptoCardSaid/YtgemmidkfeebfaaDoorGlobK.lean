/- What the program's variable of the hash's constants holds, out of a row's condition. -/
import Derived.Test.YtgemmidkfeebfaaDoorHaF
import Derived.Test.YtgemmidkfeebfaaDoorRows
import Derived.ProofKit
import Derived.LaidMore
import Derived.OpenShut
import Derived.Stop.Joined
set_option maxRecDepth 100000
namespace Go.Proofs.YtgemmidkfeebfaaDoor
set_option maxRecDepth 100000
open Go Go.RowKit Go.ChangeShapes Go.WideShapes Go.ChangeAt Go.WideMaps Go.WideElems
section
variable {P : Program} {H : Type} {enc : TypeId × Value → H} {w : World} {base : Nat} {spare : TypeId × Value → Bool} {held : Bool}
theorem arr_cellW {sp : _} {t e n m : Nat} {cs : List Value} {ds : List (DataW H)} {p : List MemPlace} {zs : List Int} (ht : P.underlying t = some (.array n e)) (hce : P.cellsOf e = 1) (he : P.underlying e = some (.int .u32))
    (h : DataW.trod enc P w base sp held m t cs = some (.agg ds, p)) (hd : ds = zs.map fun z => .lit (.int .u32 z)) : ∀ i, i < n → cs[i]? = some (.int .u32 (zs.getD i 0)) := by
  intro i hi
  obtain ⟨xs, k, rfl, hx, hlen, hxn, hel⟩ := DataW.trod_array ht h
  injection hx with hx1 hx2
  injection hx1 with hx1
  have h1 := hel i hi
  rw [hce, Nat.mul_one, List.getElem?_eq_getElem (by omega)] at h1
  obtain ⟨z, e1, e2, _⟩ := DataW.trod_int he h1
  have hz : (zs.map fun z => (DataW.lit (.int .u32 z) : DataW H))[i]? = some (.lit (.int .u32 z)) := by
    rw [← hd, hx1, List.getElem?_map, List.getElem?_eq_getElem (by omega), e2]; rfl
  rw [List.getElem?_map] at hz
  cases hzi : zs[i]? with
  | none => rw [hzi] at hz; cases hz
  | some y =>
    rw [hzi] at hz
    have hy : y = z := by simpa using hz
    rw [List.getD_eq_getElem?_getD, hzi]
    have h2 : ((cs.drop i).take 1)[0]? = some (.int .u32 z) := by rw [e1]; rfl
    rw [List.getElem?_take_of_lt (by omega), List.getElem?_drop, Nat.add_zero] at h2
    rw [h2, hy]; rfl
end
/-- The variable that the rows list, with what it holds. -/
def laidL : List (String × DataW Unit) := [("vitrine/sha.constants", Rows.laid_vitrine_sha_constants)]
theorem gK0 : Tryd.prog.globalNamed "vitrine/sha.constants" = some 0 := by kernel_rfl
theorem tK0 : (Tryd.prog.globals[0]?).map (·.type) = some 40 := by kernel_rfl
theorem one_u32 : Tryd.prog.cellsOf 28 = 1 := by kernel_rfl
theorem door_met (os : Os) (args : Array Value) : laidMetH Tryd.prog laidL ((World.doorLaid Tryd.prog 400 os).forCall (fun _ _ => 0) ⟨#[], args, []⟩).memory :=
  laidMetH_of_parts3 (fuel := 8) (laidMet_of_run' 8 (by kernel_rfl) (by kernel_rfl)) (by kernel_rfl) (by kernel_rfl)
theorem of_laid {W : World} (h : laidMetH Tryd.prog laidL W) : GK W := by
  rw [MakeChecks.laidMetH_plain _ _ _ (by kernel_rfl)] at h
  obtain ⟨ps, ⟨g0', t0', cs0, f0, p0, q0, hg0, ht0, hv0, hd0, _, _⟩, _, _⟩ := h
  obtain rfl := Option.some.inj (gK0.symm.trans hg0)
  obtain rfl := Option.some.inj (tK0.symm.trans ht0)
  have a0 := arr_cellW (zs := kSha.map fun (n : Nat) => (n : Int)) Tryd.underlying40 one_u32 Tryd.underlying28 hd0 (by kernel_rfl)
  have b0 := fun i => World.var?_cell hg0 hv0 i
  have c : ∀ (cs : Array Value) (i : Nat), cs.toList[i]? = cs[i]? := fun cs i => by simp
  have hc : ∀ i, i < 64 → W.cell? ⟨0, i, none⟩ = some (.int .u32 (kSha.getD i 0 : Nat)) := fun i hi => by
    rw [b0 i, ← c, a0 i hi]
    have hl : i < kSha.length := by rw [kSha_length]; exact hi
    rw [List.getD_eq_getElem?_getD, List.getElem?_map, List.getD_eq_getElem?_getD, List.getElem?_eq_getElem hl]
    rfl
  exact ⟨hc, World.block_lt_of_cell? W _ (hc 0 (by decide))⟩
end Go.Proofs.YtgemmidkfeebfaaDoor
