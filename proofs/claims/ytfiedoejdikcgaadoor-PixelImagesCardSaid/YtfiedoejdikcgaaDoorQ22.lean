/- Several texts in one: SbH, ShO (what PixelImages, PixelSame reach of them). -/
import Derived.Test.YtfiedoejdikcgaaDoorQ01
import Derived.Test.YtfiedoejdikcgaaDoorQ02
import Derived.Test.YtfiedoejdikcgaaDoorQ03
import Derived.Below
import Derived.BigQuiet
import Derived.BigRegion
import Derived.Deep.AppendLies
import Derived.Deep.CutBlock
import Derived.Deep.CutRange
import Derived.Deep.DeepCutAuto
import Derived.Deep.Draws
import Derived.Deep.QuietTactic
import Derived.Deep.RegionLaw
import Derived.Deep.RegionWith
import Derived.Handy
import Derived.Laws.BitsAllLaws
import Derived.Laws.BitsLemmas
import Derived.Laws.BytesArg
import Derived.Laws.IdiomStrings
import Derived.Laws.MakeOwn
import Derived.Laws.OwnMore
import Derived.Laws.Rows
import Derived.Lib.Hide
import Derived.Maps.AppendAt
import Derived.OpenShut
import Derived.OrdersHeld
import Derived.Outline
import Derived.OwnWalk
import Derived.ProofKit
import Derived.RegionTactic
import Derived.SizedLaws
import Derived.Test.YtfiedoejdikcgaaDoorChecked
import Derived.WalkKit
set_option maxRecDepth 100000
set_option linter.unusedVariables false
set_option maxRecDepth 100000
set_option linter.unusedVariables false
namespace Go.Proofs.YtfiedoejdikcgaaDoor
set_option maxRecDepth 100000
open Go Go.RowKit
/-- A sample's two bytes with 16 bits. -/
def wB (D : Nat) (x : Int) : ByteArray := strL (twoB (wideA x (D : Int)))
end Go.Proofs.YtfiedoejdikcgaaDoor
set_option maxRecDepth 100000
set_option linter.unusedVariables false
namespace Go.Proofs.YtfiedoejdikcgaaDoor
set_option maxRecDepth 100000
open Go Go.RowKit Go.ChangeShapes Go.WideShapes
theorem cells_shapeO : Tryd.prog.cellsOf 31 = 8 := by kernel_rfl
theorem cells_headO : Tryd.prog.cellsOf 29 = 5 := by kernel_rfl
theorem cells_intO : Tryd.prog.cellsOf 3 = 1 := by kernel_rfl
theorem cells_strO : Tryd.prog.cellsOf 9 = 1 := by kernel_rfl
theorem cells_boolO : Tryd.prog.cellsOf 4 = 1 := by kernel_rfl
/-- A shape that is handed in. -/
theorem open_shape {H : Type} {enc : TypeId × Value → H} {W : World} {base : Nat} {v : Value} {d : DataW H} {p : List MemPlace} (hv : Value.okWide Tryd.prog W .any base 31 v)
    (hk : DataW.Trod enc Tryd.prog W 0 (fun _ => true) true 31 v d p) {ts : List TypeId} {ds : List (DataW H)} (hsz : (DataW.weightsEach Tryd.prog ts ds).all (· ≤ reachBytes) = true) {j : Nat} (ht : ts[j]? = some 31) (hd : ds[j]? = some d) :
    ∃ (a b e c l : Int) (pal tr : ByteArray) (has : Bool), v = .agg #[.int .i64 a, .int .i64 b, .int .i64 e, .int .i64 c, .int .i64 l, .string pal, .string tr, .bool has] ∧ pal.size ≤ 140737488351232 ∧ tr.size ≤ 140737488351232 := by
  obtain ⟨cs, rfl, hcs⟩ := okWide_struct Tryd.underlying31 hv
  obtain ⟨fuel, hf⟩ := hk
  obtain ⟨ys, n', _, hD, hcl, hyl, hfs⟩ := DataW.trod_struct Tryd.underlying31 hf
  rw [cells_shapeO] at hcl
  obtain ⟨xs, hxs⟩ : ∃ xs, xs = (Value.agg cs).cells.toList := ⟨_, rfl⟩
  rw [← hxs] at hcl hfs
  match xs, hcl with
  | [x0, x1, x2, x3, x4, x5, x6, x7], _ =>
    have gh := hfs 0 _ rfl
    have g5 := hfs 1 _ rfl
    have g6 := hfs 2 _ rfl
    have g7 := hfs 3 _ rfl
    have hy : ys.length = 4 := hyl
    match ys, hy with
    | [yh, y5, y6, y7], _ =>
      have gh : DataW.trod enc Tryd.prog W 0 (fun _ => true) true n' 29 (([x0, x1, x2, x3, x4, x5, x6, x7].drop 0).take (Tryd.prog.cellsOf 29)) = some yh := gh
      rw [cells_headO] at gh
      have gh : DataW.trod enc Tryd.prog W 0 (fun _ => true) true n' 29 [x0, x1, x2, x3, x4] = some yh := gh
      obtain ⟨zs, m', _, hDh, hcl2, hzl, hfz⟩ := DataW.trod_struct Tryd.underlying29 gh
      have hz : zs.length = 5 := hzl
      match zs, hz with
      | [z0, z1, z2, z3, z4], _ =>
        have g0 := hfz 0 _ rfl
        have g1 := hfz 1 _ rfl
        have g2 := hfz 2 _ rfl
        have g3 := hfz 3 _ rfl
        have g4 := hfz 4 _ rfl
        obtain ⟨q0, c0, _, _⟩ := DataW.trod_int Tryd.underlying3 (x := z0) g0
        obtain ⟨q1, c1, _, _⟩ := DataW.trod_int Tryd.underlying3 (x := z1) g1
        obtain ⟨q2, c2, _, _⟩ := DataW.trod_int Tryd.underlying3 (x := z2) g2
        obtain ⟨q3, c3, _, _⟩ := DataW.trod_int Tryd.underlying3 (x := z3) g3
        obtain ⟨q4, c4, _, _⟩ := DataW.trod_int Tryd.underlying3 (x := z4) g4
        obtain ⟨pal, c5, d5, _⟩ := DataW.trod_string Tryd.underlying9 (x := y5) g5
        obtain ⟨tr, c6, d6, _⟩ := DataW.trod_string Tryd.underlying9 (x := y6) g6
        obtain ⟨has, c7, d7⟩ := DataW.trod_bool Tryd.underlying4 (x := y7) g7
        have c0 : ([x0, x1, x2, x3, x4].drop 0).take (Tryd.prog.cellsOf 3) = [.int .i64 q0] := c0
        have c1 : ([x0, x1, x2, x3, x4].drop 1).take (Tryd.prog.cellsOf 3) = [.int .i64 q1] := c1
        have c2 : ([x0, x1, x2, x3, x4].drop 2).take (Tryd.prog.cellsOf 3) = [.int .i64 q2] := c2
        have c3 : ([x0, x1, x2, x3, x4].drop 3).take (Tryd.prog.cellsOf 3) = [.int .i64 q3] := c3
        have c4 : ([x0, x1, x2, x3, x4].drop 4).take (Tryd.prog.cellsOf 3) = [.int .i64 q4] := c4
        have c5 : ([x0, x1, x2, x3, x4, x5, x6, x7].drop 5).take (Tryd.prog.cellsOf 9) = [.string pal] := c5
        have c6 : ([x0, x1, x2, x3, x4, x5, x6, x7].drop 6).take (Tryd.prog.cellsOf 9) = [.string tr] := c6
        have c7 : ([x0, x1, x2, x3, x4, x5, x6, x7].drop 7).take (Tryd.prog.cellsOf 4) = [.bool has] := c7
        rw [cells_intO] at c0 c1 c2 c3 c4
        rw [cells_strO] at c5 c6
        rw [cells_boolO] at c7
        have e0 : x0 = .int .i64 q0 := by simpa using c0
        have e1 : x1 = .int .i64 q1 := by simpa using c1
        have e2 : x2 = .int .i64 q2 := by simpa using c2
        have e3 : x3 = .int .i64 q3 := by simpa using c3
        have e4 : x4 = .int .i64 q4 := by simpa using c4
        have e5 : x5 = .string pal := by simpa using c5
        have e6 : x6 = .string tr := by simpa using c6
        have e7 : x7 = .bool has := by simpa using c7
        have hDD : d = .agg [yh.1, .lit (.string pal.data.toList), .lit (.string tr.data.toList), .lit (.bool has)] := by
          have hD1 := (Prod.mk.inj hD).1
          rw [hD1]
          show DataW.agg [yh.1, y5.1, y6.1, y7.1] = _
          rw [d5, d6, d7]
        have hr : reachBytes = 140737488351232 := rfl
        have hww : ∀ k ∈ (d.weights Tryd.prog 31), k ≤ reachBytes := fun k hk => by
          have h3 := List.all_eq_true.1 hsz k (DataW.weights_mem_each ht hd k hk)
          simpa using h3
        have hmem : pal.data.toList.length ∈ d.weights Tryd.prog 31 ∧ tr.data.toList.length ∈ d.weights Tryd.prog 31 := by
          rw [hDD]
          simp only [DataW.weights, Tryd.underlying31]
          constructor
          · exact List.mem_append.2 (Or.inr (List.mem_append.2 (Or.inl (List.mem_singleton.2 rfl))))
          · exact List.mem_append.2 (Or.inr (List.mem_append.2 (Or.inr (List.mem_append.2 (Or.inl (List.mem_singleton.2 rfl))))))
        refine ⟨q0, q1, q2, q3, q4, pal, tr, has, ?_, ?_, ?_⟩
        · obtain ⟨l⟩ := cs
          simp only [Value.cells] at hxs
          have e : l = [x0, x1, x2, x3, x4, x5, x6, x7] := by simpa using hxs.symm
          rw [e, e0, e1, e2, e3, e4, e5, e6, e7]
        · have := hww _ hmem.1; rw [hr, Array.length_toList] at this; exact this
        · have := hww _ hmem.2; rw [hr, Array.length_toList] at this; exact this
end Go.Proofs.YtfiedoejdikcgaaDoor
