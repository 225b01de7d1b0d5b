/- Several texts in one: BaM, BbD, BbI, RaO (what BandsApart, BandsCuts, BandsManifest reach of them). -/
import Derived.Test.YtmdiilnipoblbaaDoorK01
import Derived.Test.YtmdiilnipoblbaaDoorK02
import Derived.Test.YtmdiilnipoblbaaDoorK04
import Derived.Test.YtmdiilnipoblbaaDoorK05
import Derived.Test.YtmdiilnipoblbaaDoorK06
import Derived.ArgAppend
import Derived.Below
import Derived.BigQuiet
import Derived.BigRegion
import Derived.Deep.AppendLies
import Derived.Deep.Cut
import Derived.Deep.CutBlock
import Derived.Deep.CutRange
import Derived.Deep.DeepCutAuto
import Derived.Deep.Draws
import Derived.Deep.LoopGhost
import Derived.Deep.QuietTactic
import Derived.Deep.RegionLaw
import Derived.Deep.RegionWith
import Derived.Deep.Slices
import Derived.Handy
import Derived.Laws.BitsAllLaws
import Derived.Laws.BitsLemmas
import Derived.Laws.BytesArg
import Derived.Laws.Cells
import Derived.Laws.Externs
import Derived.Laws.IdiomStrings
import Derived.Laws.MakeOwn
import Derived.Laws.OwnMore
import Derived.Laws.Rows
import Derived.Laws.StructEq
import Derived.Laws.Tables
import Derived.Lib.AppendStr
import Derived.Lib.BufferWrite
import Derived.Lib.Hide
import Derived.Lib.UnsafeStr
import Derived.Maps.AppendAt
import Derived.OpenShut
import Derived.OrdersHeld
import Derived.OrdersIn
import Derived.Outline
import Derived.OwnWalk
import Derived.OwnWalkIn
import Derived.ProofKit
import Derived.RangeFuncCalls
import Derived.RegionTactic
import Derived.Shelf.LaysM
import Derived.Shelf.Small.Wraps
import Derived.Shelf.Strconv.Clone
import Derived.Shelf.Strings.Builder1
import Derived.Shelf.Strings.BuilderF
import Derived.Shelf.Strings.Prefix
import Derived.Shelf.Strings.Repeat
import Derived.SizedLaws
import Derived.Sort.CutIn
import Derived.TacticsInMore
import Derived.Test.YtmdiilnipoblbaaDoorChecked
import Derived.WalkKit
set_option maxRecDepth 100000
set_option linter.unusedVariables false
set_option linter.unusedVariables false
namespace Go.Proofs.YtmdiilnipoblbaaDoor
set_option maxRecDepth 100000
open Go
/-- The document's cut: as many bytes as the band has. -/
theorem band_take {w h i : Nat} {pix : List UInt8} (hp : pix.length = 8 * w * h) (hi : i < manyB h) : (pix.drop (64 * w * i)).take (sizeB w h i) = bandB w i pix := by
  have hb := band_len (w := w) hp hi
  unfold bandB at hb ⊢
  rw [← hb, List.length_take, ← List.take_eq_take_min]
theorem band_drop {w h i : Nat} {pix : List UInt8} (hp : pix.length = 8 * w * h) (hi : i < manyB h) : (pix.drop (64 * w * i)).drop (sizeB w h i) = pix.drop (64 * w * (i + 1)) := by
  have hl := left_len (w := w) (i := i) hp (Nat.le_of_lt (many_lt hi))
  rw [Nat.mul_add, Nat.mul_one, ← List.drop_drop, size_left hi]
  split
  · rfl
  · rename_i h8
    rw [List.drop_eq_nil_of_le (by rw [hl]; exact Nat.le_refl _), List.drop_eq_nil_of_le]
    rw [hl, show 64 * w = 8 * w * 8 by omega]
    exact Nat.mul_le_mul_left _ (by omega)
end Go.Proofs.YtmdiilnipoblbaaDoor
set_option maxRecDepth 100000
set_option linter.unusedVariables false
namespace Go.Proofs.YtmdiilnipoblbaaDoor
set_option maxRecDepth 100000
open Go Go.RowKit
set_option maxHeartbeats 1000000 in
theorem pcut_bad (w : World) {a b : Int} {pix : ByteArray} (hp : pix.size ≤ 140737488351232) (h : checkA a b pix ≠ 0) :
    Calls Tryd.prog 9 #[.agg #[.int .i64 a, .int .i64 b, .string pix]] w fun e w' => e = .returned (.tuple #[.slice none 0 0, .int .i64 (checkA a b pix)]) ∧ But [] w w' := by
  have HA := Lib.hid ((But.refl [] w).alloc (.cells #[.int .i64 a, .int .i64 b, .string pix] 23))
  have hI := Is.fresh w 23 #[.int .i64 a, .int .i64 b, .string pix]
  obtain ⟨c, hc⟩ : ∃ c, c = checkA a b pix := ⟨_, rfl⟩
  have HE : Hid (∀ v, Calls Tryd.prog 22 #[.agg #[.int .i64 a, .int .i64 b, .string pix]] v fun e w' => e = .returned (.int .i64 c) ∧ But [] v w') := Lib.hid fun v => by rw [hc]; exact pcheck12_any v hp
  rw [← hc] at h ⊢
  have q1 : (c != 0) = true := by simpa using h
  obtain ⟨c0, c1, c2, hgl⟩ : _ ∧ _ ∧ _ ∧ _ := ⟨hI.cell 0, hI.cell 1, hI.cell 2, hI.lt⟩
  clear hI hc
  go_enter Tryd.func9, Tryd.ntmps9
  go_wp2_with fail
  refine (HE.out _).mono ?_
  rintro e w1 ⟨rfl, hB⟩
  have HB1 := Lib.hid hB
  clear hB c0 c1 c2 hgl
  go_wp2
  go_ret2
  exact ⟨rfl, HA.out.trans HB1.out⟩
set_option maxHeartbeats 1000000 in
theorem pmanifest_bad (w : World) {a b : Int} {pix : ByteArray} (hp : pix.size ≤ 140737488351232) (h : checkA a b pix ≠ 0) :
    Calls Tryd.prog 11 #[.agg #[.int .i64 a, .int .i64 b, .string pix]] w fun e w' => e = .returned (.tuple #[.string ByteArray.empty, .int .i64 (checkA a b pix)]) ∧ But [] w w' := by
  have HA := Lib.hid ((But.refl [] w).alloc (.cells #[.int .i64 a, .int .i64 b, .string pix] 23))
  have hI := Is.fresh w 23 #[.int .i64 a, .int .i64 b, .string pix]
  obtain ⟨c, hc⟩ : ∃ c, c = checkA a b pix := ⟨_, rfl⟩
  have HE : Hid (∀ v, Calls Tryd.prog 9 #[.agg #[.int .i64 a, .int .i64 b, .string pix]] v fun e w' => e = .returned (.tuple #[.slice none 0 0, .int .i64 c]) ∧ But [] v w') := Lib.hid fun v => by rw [hc]; exact pcut_bad v hp h
  rw [← hc] at h ⊢
  have q1 : (c != 0) = true := by simpa using h
  obtain ⟨c0, c1, c2, hgl⟩ : _ ∧ _ ∧ _ ∧ _ := ⟨hI.cell 0, hI.cell 1, hI.cell 2, hI.lt⟩
  clear hI hc
  go_enter Tryd.func11, Tryd.ntmps11
  go_wp2_with fail
  refine (HE.out _).mono ?_
  rintro e w1 ⟨rfl, hB⟩
  have HB1 := Lib.hid hB
  clear hB c0 c1 c2 hgl
  go_wp2
  go_ret2
  exact ⟨rfl, HA.out.trans HB1.out⟩
end Go.Proofs.YtmdiilnipoblbaaDoor
set_option maxRecDepth 100000
set_option linter.unusedVariables false
namespace Go.Proofs.YtmdiilnipoblbaaDoor
set_option maxRecDepth 100000
open Go Go.RowKit
theorem check_form15 {a b : Int} {pix : ByteArray} (h : checkA a b pix = 0) : ∃ W H : Nat, a = (W : Int) ∧ b = (H : Int) ∧ rightH (W : Int) (H : Int) 16 6 0 = 0 ∧ pix.data.toList.length = 8 * W * H := by
  unfold checkA at h
  by_cases hr : rightH a b 16 6 0 = 0
  · rw [if_neg (by rw [hr]; decide)] at h
    obtain ⟨W, H, D, C, R⟩ := right_form hr
    have hW := R.wa; have hH := R.hb
    refine ⟨W, H, hW, hH, by rw [← hW, ← hH]; exact hr, ?_⟩
    by_cases hp : (pix.size : Int) = 8 * a * b
    · rw [Array.length_toList]
      rw [hW, hH] at hp
      have : (pix.size : Int) = ((8 * W * H : Nat) : Int) := by rw [hp]; simp
      exact Int.ofNat.inj this
    · rw [if_pos hp] at h; cases h
  · rw [if_pos hr] at h; exact absurd h hr
/-- What Manifest tells. -/
noncomputable def manA (a b : Int) (pix : ByteArray) : ByteArray × Int := if checkA a b pix = 0 then (strL (manB a.toNat b.toNat pix.data.toList), 0) else (ByteArray.empty, checkA a b pix)
theorem pmanifest_all (w : World) (hG : GK w) {a b : Int} {pix : ByteArray} (hp : pix.size ≤ 140737488351232) :
    Calls Tryd.prog 11 #[.agg #[.int .i64 a, .int .i64 b, .string pix]] w fun e w' => e = .returned (.tuple #[.string (manA a b pix).1, .int .i64 (manA a b pix).2]) ∧ But [] w w' := by
  by_cases h : checkA a b pix = 0
  · obtain ⟨W, H, rfl, rfl, hr, hl⟩ := check_form15 h
    have e := pmanifest_any w hG hr hl
    rw [strL_of] at e
    unfold manA
    rw [if_pos h, Int.toNat_natCast, Int.toNat_natCast]
    exact e
  · unfold manA
    rw [if_neg h]
    exact pmanifest_bad w hp h
end Go.Proofs.YtmdiilnipoblbaaDoor
set_option maxRecDepth 100000
set_option linter.unusedVariables false
namespace Go.Proofs.YtmdiilnipoblbaaDoor
set_option maxRecDepth 100000
open Go Go.RowKit Go.ChangeShapes Go.WideShapes
theorem cells_rasterR : Tryd.prog.cellsOf 23 = 3 := by kernel_rfl
theorem cells_intR : Tryd.prog.cellsOf 3 = 1 := by kernel_rfl
/-- A raster that is handed in: two numbers and a string. -/
theorem open_raster {H : Type} {enc : TypeId × Value → H} {W : World} {base : Nat} {v : Value} {d : DataW H} {p : List MemPlace} (hv : Value.okWide Tryd.prog W .any base 23 v)
    (hk : DataW.Trod enc Tryd.prog W 0 (fun _ => true) true 23 v d p) {ts : List TypeId} {ds : List (DataW H)} (hsz : (DataW.weightsEach Tryd.prog ts ds).all (· ≤ reachBytes) = true) {j : Nat} (ht : ts[j]? = some 23) (hd : ds[j]? = some d) :
    ∃ (x y : Int) (a : ByteArray), v = .agg #[.int .i64 x, .int .i64 y, .string a] ∧ a.size ≤ 140737488351232 := by
  obtain ⟨cs, rfl, hcs⟩ := okWide_struct Tryd.underlying23 hv
  obtain ⟨fuel, hf⟩ := hk
  obtain ⟨ys, n', _, hD, hcl, hyl, hfs⟩ := DataW.trod_struct Tryd.underlying23 hf
  rw [cells_rasterR] at hcl
  obtain ⟨xs, hxs⟩ : ∃ xs, xs = (Value.agg cs).cells.toList := ⟨_, rfl⟩
  rw [← hxs] at hcl hfs
  match xs, hcl with
  | [x0, x1, x2], _ =>
    have g0 := hfs 0 _ rfl
    have g1 := hfs 1 _ rfl
    have g2 := hfs 2 _ rfl
    have hy : ys.length = 3 := hyl
    match ys, hy with
    | [y0, y1, y2], _ =>
      obtain ⟨q0, c0, d0, _⟩ := DataW.trod_int Tryd.underlying3 (x := y0) g0
      obtain ⟨q1, c1, d1, _⟩ := DataW.trod_int Tryd.underlying3 (x := y1) g1
      obtain ⟨a, c2, d2, _⟩ := DataW.trod_string Tryd.underlying9 (x := y2) g2
      have c0 : ([x0, x1, x2].drop 0).take (Tryd.prog.cellsOf 3) = [.int .i64 q0] := c0
      have c1 : ([x0, x1, x2].drop 1).take (Tryd.prog.cellsOf 3) = [.int .i64 q1] := c1
      have c2 : ([x0, x1, x2].drop 2).take (Tryd.prog.cellsOf 9) = [.string a] := c2
      rw [cells_intR] at c0 c1
      rw [cells_strR] at c2
      have e0 : x0 = .int .i64 q0 := by simpa using c0
      have e1 : x1 = .int .i64 q1 := by simpa using c1
      have e2 : x2 = .string a := by simpa using c2
      have hDD : d = .agg [.lit (.int .i64 q0), .lit (.int .i64 q1), .lit (.string a.data.toList)] := by
        have hD1 := (Prod.mk.inj hD).1
        rw [hD1, d0, d1, d2]
        rfl
      have hr : reachBytes = 140737488351232 := rfl
      have hww : ∀ k ∈ (d.weights Tryd.prog 23), k ≤ reachBytes := fun k hk => by
        have h3 := List.all_eq_true.1 hsz k (DataW.weights_mem_each ht hd k hk)
        simpa using h3
      have hmem : a.data.toList.length ∈ d.weights Tryd.prog 23 := by
        rw [hDD]
        simp only [DataW.weights, Tryd.underlying23]
        exact List.mem_append.2 (Or.inr (List.mem_append.2 (Or.inr (List.mem_append.2 (Or.inl (List.mem_singleton.2 rfl))))))
      refine ⟨q0, q1, a, ?_, ?_⟩
      · obtain ⟨l⟩ := cs
        simp only [Value.cells] at hxs
        have e : l = [x0, x1, x2] := by simpa using hxs.symm
        rw [e, e0, e1, e2]
      · have := hww _ hmem; rw [hr, Array.length_toList] at this; exact this
end Go.Proofs.YtmdiilnipoblbaaDoor
