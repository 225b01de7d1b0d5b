/- Several texts in one: ShO (what PixelSame reach of them). -/
import Derived.Test.YtfiedoejdikcgaaDoorQ03
import Derived.Below
import Derived.BigQuiet
import Derived.BigRegion
import Derived.Deep.AppendLies
import Derived.Deep.CutBlock
import Derived.Deep.CutRange
import Derived.Deep.DeepCutAuto
import Derived.Deep.Draws
import Derived.Deep.QuietTactic
import Derived.Deep.RegionLaw
import Derived.Deep.RegionWith
import Derived.Handy
import Derived.Laws.BitsAllLaws
import Derived.Laws.BitsLemmas
import Derived.Laws.BytesArg
import Derived.Laws.IdiomStrings
import Derived.Laws.MakeOwn
import Derived.Laws.OwnMore
import Derived.Laws.Rows
import Derived.Lib.Hide
import Derived.Maps.AppendAt
import Derived.OpenShut
import Derived.OrdersHeld
import Derived.Outline
import Derived.OwnWalk
import Derived.ProofKit
import Derived.RegionTactic
import Derived.SizedLaws
import Derived.Test.YtfiedoejdikcgaaDoorChecked
import Derived.WalkKit
set_option maxRecDepth 100000
set_option linter.unusedVariables false
set_option maxRecDepth 100000
set_option linter.unusedVariables false
namespace Go.Proofs.YtfiedoejdikcgaaDoor
set_option maxRecDepth 100000
open Go Go.RowKit Go.ChangeShapes Go.WideShapes
/-- A list of numbers that is handed in. -/
theorem open_zs {H : Type} {enc : TypeId × Value → H} {W : World} {base : Nat} {v : Value} {d : DataW H} {p : List MemPlace} (hv : Value.okWide Tryd.prog W .any base 37 v)
    (hk : DataW.Trod enc Tryd.prog W 0 (fun _ => true) true 37 v d p) {ts : List TypeId} {ds : List (DataW H)} (hsz : (DataW.weightsEach Tryd.prog ts ds).all (· ≤ reachBytes) = true) {j : Nat} (ht : ts[j]? = some 37) (hd : ds[j]? = some d) :
    ∃ A len cap l, v = .slice A len cap ∧ Zs W A len l ∧ len * 8 ≤ 140737488351232 ∧ len ≤ cap ∧ (A = none → cap = 0) ∧ ZFit l := by
  obtain ⟨a0, len, cap, rfl⟩ := okWide_slice Tryd.underlying37 hv
  obtain ⟨fuel, hf⟩ := hk
  rcases open_ints Tryd.underlying37 Tryd.underlying3 (by kernel_rfl) hf with ⟨hcs, _⟩ | ⟨a, len', cap', zs, hcs, hb, hl, hm, hzs, hx, hc, hwf⟩
  · simp [Value.cells] at hcs
    obtain ⟨rfl, rfl, rfl⟩ := hcs
    exact ⟨none, 0, 0, [], rfl, ⟨rfl, fun h => absurd h (by omega)⟩, by omega, Nat.le_refl _, fun _ => rfl, by intro x hx; cases hx⟩
  · simp [Value.cells] at hcs
    obtain ⟨rfl, rfl, rfl⟩ := hcs
    have hzl : zs.length = cap := by simpa using hzs
    have hde : d = .slice (lits .i64 (zs.take len)) (lits .i64 (zs.drop len)) := by injection hx
    have hbound : len * 8 ≤ 140737488351232 := by
      have h := sized_slice hsz (e := 3) ht (by rw [hd, hde]) Tryd.underlying37
      have hb8 : Tryd.prog.bytesOf 3 = 8 := by kernel_rfl
      rw [hb8] at h
      have hr : reachBytes = 140737488351232 := rfl
      rw [hr] at h
      simp only [lits, List.length_map, List.length_take, List.length_drop] at h
      omega
    refine ⟨some a, len, cap, zs.take len, rfl, ⟨by rw [List.length_take]; omega, fun hn => ?_⟩, hbound, hl, (fun e => by cases e), fun x hx' => bounds_i64 (hwf x (List.mem_of_mem_take hx'))⟩
    obtain ⟨g, o, rfl, hg⟩ := ints_at hc (by omega)
    refine ⟨g, o, rfl, ?_, fun i hi => ?_⟩
    · have := World.block_lt_of_cell? W _ (hg 0 (by omega))
      exact this
    · rw [List.length_take] at hi
      rw [hg i (by omega), List.getElem_take, List.getD_eq_getElem?_getD, List.getElem?_eq_getElem (by omega)]; rfl
theorem one_intO : Tryd.prog.cellsOf 3 = 1 := by kernel_rfl
theorem open_twoO {H : Type} {enc : TypeId × Value → H} {W : World} {base : Nat} {v : Value} {d : DataW H} {p : List MemPlace} (hv : Value.okWide Tryd.prog W .any base 38 v)
    (hk : DataW.Trod enc Tryd.prog W 0 (fun _ => true) true 38 v d p) {ts : List TypeId} {ds : List (DataW H)} (hsz : (DataW.weightsEach Tryd.prog ts ds).all (· ≤ reachBytes) = true) {j : Nat} (ht : ts[j]? = some 38) (hd : ds[j]? = some d) : ∃ a c, v = .agg #[.int .i64 a, .int .i64 c] ∧ (-9223372036854775808 ≤ a ∧ a ≤ 9223372036854775807) ∧ (-9223372036854775808 ≤ c ∧ c ≤ 9223372036854775807) := by
  simp only [Value.okWide, Tryd.underlying38] at hv
  obtain ⟨cs, rfl, hsz2, _⟩ := hv
  obtain ⟨fuel, hf⟩ := hk
  have hc2 : Tryd.prog.cellsOf 38 = 2 := by kernel_rfl
  obtain ⟨xs, k, rfl, hx, hlen, hxn, hel⟩ := DataW.trod_array Tryd.underlying38 hf
  have h0 := hel 0 (by omega)
  have h1 := hel 1 (by omega)
  rw [one_intO, List.getElem?_eq_getElem (by omega)] at h0 h1
  obtain ⟨a, e0, _, b0⟩ := DataW.trod_int Tryd.underlying3 h0
  obtain ⟨c, e1, _, b1⟩ := DataW.trod_int Tryd.underlying3 h1
  obtain ⟨l⟩ := cs
  simp only [Value.cells] at hlen e0 e1
  rw [hc2] at hlen
  match l, hlen with
  | [x, y], _ =>
    simp at e0 e1
    subst e0 e1
    have r0 := bounds_i64 b0
    have r1 := bounds_i64 b1
    exact ⟨a, c, rfl, r0, r1⟩
end Go.Proofs.YtfiedoejdikcgaaDoor
