/- Several texts in one: DgV, GlobB (what Back reach of them). -/
import Derived.Test.YtjeeiodpdfbgmaaDoorPm01
import Derived.Test.YtjeeiodpdfbgmaaDoorPm02
import Derived.Test.YtjeeiodpdfbgmaaDoorPm03
import Derived.Test.YtjeeiodpdfbgmaaDoorPm04
import Derived.Test.YtjeeiodpdfbgmaaDoorPm05
import Derived.Test.YtjeeiodpdfbgmaaDoorPm06
import Derived.Test.YtjeeiodpdfbgmaaDoorPm07
import Derived.Test.YtjeeiodpdfbgmaaDoorPm08
import Derived.Test.YtjeeiodpdfbgmaaDoorPm09
import Derived.Test.YtjeeiodpdfbgmaaDoorPm10
import Derived.Test.YtjeeiodpdfbgmaaDoorPm11
import Derived.Test.YtjeeiodpdfbgmaaDoorPm12
import Derived.Test.YtjeeiodpdfbgmaaDoorPm13
import Derived.Test.YtjeeiodpdfbgmaaDoorPm14
import Derived.Test.YtjeeiodpdfbgmaaDoorPm15
import Derived.Test.YtjeeiodpdfbgmaaDoorPm16
import Derived.Test.YtjeeiodpdfbgmaaDoorPm18
import Derived.Test.YtjeeiodpdfbgmaaDoorPm20
import Derived.Test.YtjeeiodpdfbgmaaDoorPm25
import Derived.Test.YtjeeiodpdfbgmaaDoorPm31
import Derived.Test.YtjeeiodpdfbgmaaDoorPm33
import Derived.Test.YtjeeiodpdfbgmaaDoorPm36
import Derived.Below
import Derived.BigQuiet
import Derived.BigRegion
import Derived.Deep.AppendLies
import Derived.Deep.CutBlock
import Derived.Deep.CutRange
import Derived.Deep.DeepCutAuto
import Derived.Deep.Draws
import Derived.Deep.LoopGhost
import Derived.Deep.QuietTactic
import Derived.Deep.RegionLaw
import Derived.Deep.RegionWith
import Derived.Deep.Slices
import Derived.Handy
import Derived.LaidMore
import Derived.Laws.BitsAllLaws
import Derived.Laws.BitsLemmas
import Derived.Laws.CopyOwn
import Derived.Laws.IdiomStrings
import Derived.Laws.OwnMore
import Derived.Laws.Rows
import Derived.Laws.Strings2
import Derived.Laws.Strings3
import Derived.Laws.StructEq
import Derived.Lib.AppendStr
import Derived.Lib.AppendZeros
import Derived.Lib.Hide
import Derived.Lib.Strings
import Derived.LoopIn
import Derived.LoopNIn
import Derived.OneCell
import Derived.OpenShut
import Derived.Outline
import Derived.OwnWalk
import Derived.OwnWalkIn
import Derived.ProofKit
import Derived.RangeFuncBound
import Derived.RangeFuncCalls
import Derived.RangeFuncLeaves
import Derived.RangeFuncNested
import Derived.RegionTactic
import Derived.ScopeJumps
import Derived.Shelf.Abstract
import Derived.Shelf.RegionOpen
import Derived.Shelf.SlSortCmp.QuietGrown
import Derived.StillTailTactics
import Derived.Stop.Joined
import Derived.TacticsInMore
import Derived.Test.YtjeeiodpdfbgmaaDoorChecked
import Derived.Test.YtjeeiodpdfbgmaaDoorRows
import Derived.WalkKit
import Derived.WalkLawsBesides
import Derived.WalkMore
import Derived.WalkSpells
set_option maxRecDepth 100000
set_option linter.unusedVariables false
set_option maxRecDepth 100000
set_option linter.unusedVariables false
namespace Go.Proofs.YtjeeiodpdfbgmaaDoor
set_option maxRecDepth 100000
open Go Go.RowKit
attribute [local irreducible] textX storX fixedX bestX dynL
theorem tell_back {s x b : ByteArray} (h : inflT (x ++ b) (s.data.toList.length : Nat) = (s.data.toList, x.size, 0)) : tell (inflT (x ++ b) (s.size : Nat)) = .returned (.tuple #[.string s, .int .i64 (x.size : Nat), .int .i64 0]) := by
  rw [len_data s] at h
  rw [h]
  rfl
/-- The four streams. -/
def four (l : List UInt8) (k : Nat) : ByteArray := if k = 0 then textX (storX l) else if k = 1 then textX (fixedX l) else if k = 2 then textX (dynL l) else bestX l
theorem four_back {l : List UInt8} (h : l.length ≤ 65535) (b : ByteArray) (k : Nat) : inflT (four l k ++ b) (l.length : Nat) = (l, (four l k).size, 0) := by
  unfold four
  split
  · exact stor_back h b
  · split
    · exact fixed_back l b
    · split
      · exact dynL_back l b
      · exact best_back h b
theorem best_size {l : List UInt8} (h : l.length ≤ 65535) : (bestX l).size ≤ l.length + 5 := by
  have h1 := (bestX_cases l).2.1
  rw [stor_size h] at h1
  exact h1
theorem fixedX_few {l : List UInt8} (h : l.length ≤ 10000) : (fixedX l).2 ≤ 7000000 := by
  rw [← fixedT_toks]
  unfold fixedT
  have h0 := toks_few l
  have h1 := layC_few (okl chk_fixL) (layTs fixL fixD (layB (layB (0, 0) 1 1) 1 2) (toks l)) 256
  have h2 := layTs_few (okl chk_fixL) (okl chk_fixD) (toks l) (layB (layB (0, 0) 1 1) 1 2) (toks_fixed l)
  have h3 := layB_few (layB (0, 0) 1 1) 1 2
  have h4 := layB_few (0, 0) 1 1
  have h5 : ((0, 0) : Nat × Nat).2 = 0 := rfl
  omega
theorem dynL_few {l : List UInt8} (h : l.length ≤ 10000) : (dynL l).2 ≤ 7000000 := by
  have h0 := toks_few l
  have hd := dyn_ok l
  have hdl := dynL_eq l
  obtain ⟨P, hP⟩ : ∃ P, P = toks l := ⟨_, rfl⟩
  rw [← hP] at hd hdl h0
  obtain ⟨A, hA⟩ : ∃ A, A = lenA P := ⟨_, rfl⟩
  obtain ⟨B, hB⟩ : ∃ B, B = lenB P := ⟨_, rfl⟩
  rw [← hA, ← hB] at hd hdl
  obtain ⟨S, hS⟩ : ∃ S, S = lenS (A ++ B) := ⟨_, rfl⟩
  rw [← hS] at hd hdl
  obtain ⟨n, hn⟩ : ∃ n, n = (told S).length := ⟨_, rfl⟩
  rw [← hn] at hd hdl
  rw [hdl]
  have hr := runs_few (A ++ B)
  rw [List.length_append] at hr
  have ha2 := hd.a2
  have hb2 := hd.b2
  have g1 := layB_few (0, 0) 1 1
  have g2 := layB_few (layB (0, 0) 1 1) 2 2
  obtain ⟨q2, hq2⟩ : ∃ q, q = layB (layB (0, 0) 1 1) 2 2 := ⟨_, rfl⟩
  rw [← hq2] at g2 ⊢
  have g3 := layB_few q2 (A.length - 257) 5
  obtain ⟨q3, hq3⟩ : ∃ q, q = layB q2 (A.length - 257) 5 := ⟨_, rfl⟩
  rw [← hq3] at g3 ⊢
  have g4 := layB_few q3 (B.length - 1) 5
  obtain ⟨q4, hq4⟩ : ∃ q, q = layB q3 (B.length - 1) 5 := ⟨_, rfl⟩
  rw [← hq4] at g4 ⊢
  have g5 := layB_few q4 (n - 4) 4
  obtain ⟨q5, hq5⟩ : ∃ q, q = layB q4 (n - 4) 4 := ⟨_, rfl⟩
  rw [← hq5] at g5 ⊢
  have g6 := layS3_few S (ordS.take n) q5
  have h6 : (ordS.take n).length ≤ 19 := by rw [List.length_take]; show min n 19 ≤ 19; omega
  obtain ⟨q6, hq6⟩ : ∃ q, q = layS3 S q5 (ordS.take n) := ⟨_, rfl⟩
  rw [← hq6] at g6 ⊢
  have g7 := layRs_few (okl hd.cs) (runs (A ++ B)) q6
  obtain ⟨q7, hq7⟩ : ∃ q, q = layRs S q6 (runs (A ++ B)) := ⟨_, rfl⟩
  rw [← hq7] at g7 ⊢
  have g8 := layTs_few (okl hd.ca) (okl hd.cb) P q7 hd.tk
  have g9 := layC_few (okl hd.ca) (layTs A B q7 P) 256
  have h5 : ((0, 0) : Nat × Nat).2 = 0 := rfl
  omega
theorem four_size {l : List UInt8} (h : l.length ≤ 10000) (k : Nat) : (four l k).size ≤ 1000000 := by
  have h2 : ∀ r : Nat × Nat, r.2 ≤ 7999990 → (textX r).size ≤ 1000000 := fun r hr => by unfold textX; rw [textOf_size]; omega
  unfold four
  split
  · rw [stor_size (by omega)]; omega
  · split
    · have := fixedX_few h; exact h2 _ (by omega)
    · split
      · have := dynL_few h; exact h2 _ (by omega)
      · have := best_size (l := l) (by omega); omega
set_option maxHeartbeats 1000000 in
theorem deflateBack_walk {s b : ByteArray} {w : World} (hs : s.size ≤ 140737488351232) (hbs : b.size ≤ 140737488351232) (hG2 : GL w ∧ GD w) :
    Calls Tryd.prog 8 #[.string s, .string b] w fun e w' => e = .returned (.bool true) ∧ Below w.heap.size w w' := by
  obtain ⟨hGL, hG⟩ := hG2
  by_cases hb : s.size ≤ 10000
  · have HT := Lib.hid (few_yes w hb)
    have H1 := Lib.hid (stored_pany w (s := s) (by omega))
    have H2 := Lib.hid (fun v : World => pfixed_any v hb)
    have H3 := Lib.hid (fun (v : World) (h : GD v) => pdynamic_any v h hb)
    have H4 := Lib.hid (fun (v : World) (h : GD v) => pdeflate_any v h hb)
    have HA := Lib.hid (fun (v : World) (h : GD v) => awake5_any v h)
    have hll := len_data s
    have hbk := fun k => four_back (l := s.data.toList) (by omega) b k
    have hsz := fun k => four_size (l := s.data.toList) (by omega) k
    have hb5 := best_size (l := s.data.toList) (by omega)
    rw [hll] at hb5
    have hI : ∀ (v : World) (k : Nat), GL v → Calls Tryd.prog 22 #[.string (four s.data.toList k ++ b), .int .i64 (s.size : Nat)] v fun e w' => e = .returned (.tuple #[.string s, .int .i64 ((four s.data.toList k).size : Nat), .int .i64 0]) ∧ But [] v w' := fun v k hg => by
      have h := inflate_any (w := v) (four s.data.toList k ++ b) (s.size : Nat) (by rw [ByteArray.size_append]; have := hsz k; omega) (by omega) hg
      rw [tell_back (hbk k)] at h
      exact h
    obtain ⟨F, hF⟩ : ∃ F, F = four s.data.toList := ⟨_, rfl⟩
    have e0 : textX (storX s.data.toList) = F 0 := by rw [hF]; rfl
    have e1 : textX (fixedX s.data.toList) = F 1 := by rw [hF]; rfl
    have e2 : textX (dynL s.data.toList) = F 2 := by rw [hF]; rfl
    have e3 : bestX s.data.toList = F 3 := by rw [hF]; rfl
    rw [e0] at H1
    simp only [e1] at H2
    simp only [e2] at H3
    simp only [e3] at H4
    rw [e3] at hb5
    simp only [← hF] at hI hsz
    have HI := Lib.hid hI
    have HSZ := Lib.hid hsz
    have HG := Lib.hid hG
    have HGL := Lib.hid hGL
    clear hll hbk hF e0 e1 e2 e3 hI hsz hG hGL
    go_enter Tryd.func8, Tryd.ntmps8
    go_wp2_with fail
    refine HT.out.mono ?_
    rintro e w0 ⟨rfl, rfl⟩
    go_wp2_with fail
    refine H1.out.mono ?_
    rintro e w1 ⟨rfl, hB1⟩
    have HB1 := Lib.hid hB1
    clear hB1
    go_wp2_with fail
    refine (H2.out w1).mono ?_
    rintro e w2 ⟨rfl, hB2⟩
    have HB2 := Lib.hid (HB1.out.trans hB2)
    clear hB2
    go_wp2_with fail
    refine (H3.out w2 (HG.out.but HB2.out)).mono ?_
    rintro e w3 ⟨rfl, hB3⟩
    have HB3 := Lib.hid (HB2.out.trans hB3)
    clear hB3
    go_wp2_with fail
    refine (H4.out w3 (HG.out.but HB3.out)).mono ?_
    rintro e w4 ⟨rfl, hB4⟩
    have hB5 := (HB3.out.trans hB4).alloc (.cells #[.string (F 0), .string (F 1), .string (F 2), .string (F 3)] 9)
    have hI5 := Is.fresh w4 9 #[.string (F 0), .string (F 1), .string (F 2), .string (F 3)]
    have HB5 := Lib.hid hB5
    have HI5 := Lib.hid hI5
    have h45 : But [] w4 (w4.alloc (.cells #[.string (F 0), .string (F 1), .string (F 2), .string (F 3)] 9)) := but_alloc w4 _
    have HC := Lib.hid (But.refl [] (w4.alloc (.cells #[.string (F 0), .string (F 1), .string (F 2), .string (F 3)] 9)))
    obtain ⟨w5, hw5⟩ : ∃ W, W = w4.alloc (.cells #[.string (F 0), .string (F 1), .string (F 2), .string (F 3)] 9) := ⟨_, rfl⟩
    clear hB4 hB5 hI5 HT H1 H2 H3 H4 h45
    go_wp2
    rw [← hw5] at HB5 HI5 HC ⊢
    clear hw5
    go_loopw [6] (fun iv wr => ∃ k : Nat, k ≤ 4 ∧ iv = .int .i64 k ∧ Hid (But [] w5 wr)) (fun iv _ => 4 - (intOf iv).toNat)
    case atStart => exact ⟨0, Nat.zero_le _, rfl, HC⟩
    case round =>
      obtain ⟨k, hk, rfl, HBK⟩ := hrel
      clear HC
      by_cases hlt : k < 4
      · have hcl : ∀ v, But [] w5 v → v.cell? ⟨w4.heap.size, k, none⟩ = some (.string (F k)) := fun v hv => by
          have h := (HI5.out.but hv (by simp)).cell k
          rw [h]
          match k, hlt with
          | 0, _ => rfl
          | 1, _ => rfl
          | 2, _ => rfl
          | 3, _ => rfl
        have HCL := Lib.hid hcl
        have hsk := HSZ.out k
        have hcall := fun v h => HI.out v k h
        obtain ⟨x, hx⟩ : ∃ x, x = F k := ⟨_, rfl⟩
        rw [← hx] at hsk
        simp only [← hx] at hcall
        have HCALL := Lib.hid hcall
        have c0 := HCL.out wr HBK.out
        rw [← hx] at c0
        have kd : (9223372036854775807 < x.size + b.size) = False := by simp; omega
        have k0 : (0 : Int) ≤ (k : Int) := by omega
        have k1 : (k : Int) < 4 := by omega
        have HX := Lib.hid hx
        clear hcl hcall hx
        go_wp2_with fail
        refine (HCALL.out _ (HGL.out.but (HB5.out.trans HBK.out))).mono ?_
        rintro e wv ⟨rfl, hBv⟩
        have c1 := HCL.out wv (HBK.out.trans hBv)
        rw [← HX.out] at c1
        have HBV := Lib.hid (HBK.out.trans hBv)
        clear hBv HCALL HCL c0
        go_wp2
        go_roundw
        case rel => exact ⟨k + 1, by omega, by go_num, HBV⟩
        case measure => simp [intOf]; omega
      · obtain rfl : k = 4 := by omega
        have c3 : wr.cell? ⟨w4.heap.size, 3, none⟩ = some (.string (F 3)) := (HI5.out.but HBK.out (by simp)).cell 3
        have d5 : decide (((F 3).size : Int) ≤ (s.size : Int) + 5) = true := by simp; omega
        go_wp2_with fail
        refine (HA.out wr (HG.out.but (HB5.out.trans HBK.out))).mono ?_
        rintro e w9 ⟨rfl, hB9⟩
        have HB9 := Lib.hid ((HB5.out.trans HBK.out).trans hB9)
        clear hB9
        go_wp2
        go_ret
        exact ⟨rfl, HB9.out.belowZ⟩
  · have HT := Lib.hid (few_no w hb)
    have HA := Lib.hid (awake5_any w hG)
    clear hG hGL
    go_enter Tryd.func8, Tryd.ntmps8
    go_wp2_with fail
    refine HT.out.mono ?_
    rintro e w0 ⟨rfl, rfl⟩
    go_wp2_with fail
    refine HA.out.mono ?_
    rintro e w3 ⟨rfl, hB3⟩
    have HB3 := Lib.hid hB3
    clear hB3
    go_wp2
    go_ret
    exact ⟨rfl, HB3.out.belowZ⟩
end Go.Proofs.YtjeeiodpdfbgmaaDoor
namespace Go.Proofs.YtjeeiodpdfbgmaaDoor
set_option maxRecDepth 100000
open Go Go.RowKit Go.ChangeShapes Go.WideShapes Go.ChangeAt Go.WideMaps Go.WideElems
section
variable {P : Program} {H : Type} {enc : TypeId × Value → H} {w : World} {base : Nat} {spare : TypeId × Value → Bool} {held : Bool}
theorem arr_cellB {sp : _} {t e n m : Nat} {cs : List Value} {ds : List (DataW H)} {p : List MemPlace} {zs : List Int} (ht : P.underlying t = some (.array n e)) (hce : P.cellsOf e = 1) (he : P.underlying e = some (.int .i64))
    (h : DataW.trod enc P w base sp held m t cs = some (.agg ds, p)) (hd : ds = zs.map fun z => .lit (.int .i64 z)) : ∀ i, i < n → cs[i]? = some (.int .i64 (zs.getD i 0)) := by
  intro i hi
  obtain ⟨xs, k, rfl, hx, hlen, hxn, hel⟩ := DataW.trod_array ht h
  injection hx with hx1 hx2
  injection hx1 with hx1
  have h1 := hel i hi
  rw [hce, Nat.mul_one, List.getElem?_eq_getElem (by omega)] at h1
  obtain ⟨z, e1, e2, _⟩ := DataW.trod_int he h1
  have hz : (zs.map fun z => (DataW.lit (.int .i64 z) : DataW H))[i]? = some (.lit (.int .i64 z)) := by
    rw [← hd, hx1, List.getElem?_map, List.getElem?_eq_getElem (by omega), e2]; rfl
  rw [List.getElem?_map] at hz
  cases hzi : zs[i]? with
  | none => rw [hzi] at hz; cases hz
  | some y =>
    rw [hzi] at hz
    have hy : y = z := by simpa using hz
    rw [List.getD_eq_getElem?_getD, hzi]
    have h2 : ((cs.drop i).take 1)[0]? = some (.int .i64 z) := by rw [e1]; rfl
    rw [List.getElem?_take_of_lt (by omega), List.getElem?_drop, Nat.add_zero] at h2
    rw [h2, hy]; rfl
end
/-- The variables that the row lists, with what they hold. -/
def laidLB : List (String × DataW Unit) := [("vitrine/inflate.smallOrder", Rows.laid_vitrine_inflate_smallOrder), ("vitrine/inflate.leastTimes", Rows.laid_vitrine_inflate_leastTimes), ("vitrine/inflate.timesBits", Rows.laid_vitrine_inflate_timesBits), ("vitrine/deflate.smallOrder", Rows.laid_vitrine_deflate_smallOrder)]
theorem gB0 : Tryd.prog.globalNamed "vitrine/inflate.smallOrder" = some 1 := by kernel_rfl
theorem gB1 : Tryd.prog.globalNamed "vitrine/inflate.leastTimes" = some 3 := by kernel_rfl
theorem gB2 : Tryd.prog.globalNamed "vitrine/inflate.timesBits" = some 2 := by kernel_rfl
theorem gB3 : Tryd.prog.globalNamed "vitrine/deflate.smallOrder" = some 0 := by kernel_rfl
theorem tB0 : (Tryd.prog.globals[1]?).map (·.type) = some 141 := by kernel_rfl
theorem tB1 : (Tryd.prog.globals[3]?).map (·.type) = some 169 := by kernel_rfl
theorem tB2 : (Tryd.prog.globals[2]?).map (·.type) = some 169 := by kernel_rfl
theorem tB3 : (Tryd.prog.globals[0]?).map (·.type) = some 141 := by kernel_rfl
theorem one_intB : Tryd.prog.cellsOf 3 = 1 := by kernel_rfl
theorem door_metB (os : Os) (args : Array Value) : laidMetH Tryd.prog laidLB ((World.doorLaid Tryd.prog 400 os).forCall (fun _ _ => 0) ⟨#[], args, []⟩).memory :=
  laidMetH_of_parts3 (fuel := 8) (laidMet_of_run' 8 (by kernel_rfl) (by kernel_rfl)) (by kernel_rfl) (by kernel_rfl)
theorem of_laidB {W : World} (h : laidMetH Tryd.prog laidLB W) : GL W ∧ GD W := by
  rw [MakeChecks.laidMetH_plain _ _ _ (by kernel_rfl)] at h
  obtain ⟨ps, ⟨g0', t0', cs0, f0, p0, q0, hg0, ht0, hv0, hd0, ⟨g1', t1', cs1, f1, p1, q1, hg1, ht1, hv1, hd1, ⟨g2', t2', cs2, f2, p2, q2, hg2, ht2, hv2, hd2, ⟨g3', t3', cs3, f3, p3, q3, hg3, ht3, hv3, hd3, _, _⟩, _⟩, _⟩, _⟩, _, _⟩ := h
  obtain rfl := Option.some.inj (gB0.symm.trans hg0)
  obtain rfl := Option.some.inj (gB1.symm.trans hg1)
  obtain rfl := Option.some.inj (gB2.symm.trans hg2)
  obtain rfl := Option.some.inj (gB3.symm.trans hg3)
  obtain rfl := Option.some.inj (tB0.symm.trans ht0)
  obtain rfl := Option.some.inj (tB1.symm.trans ht1)
  obtain rfl := Option.some.inj (tB2.symm.trans ht2)
  obtain rfl := Option.some.inj (tB3.symm.trans ht3)
  have a0 := arr_cellB (zs := [16, 17, 18, 0, 8, 7, 9, 6, 10, 5, 11, 4, 12, 3, 13, 2, 14, 1, 15]) Tryd.underlying141 one_intB Tryd.underlying3 hd0 rfl
  have a1 := arr_cellB (zs := [3, 3, 11]) Tryd.underlying169 one_intB Tryd.underlying3 hd1 rfl
  have a2 := arr_cellB (zs := [2, 3, 7]) Tryd.underlying169 one_intB Tryd.underlying3 hd2 rfl
  have a3 := arr_cellB (zs := [16, 17, 18, 0, 8, 7, 9, 6, 10, 5, 11, 4, 12, 3, 13, 2, 14, 1, 15]) Tryd.underlying141 one_intB Tryd.underlying3 hd3 rfl
  have b0 := fun i => World.var?_cell hg0 hv0 i
  have b1 := fun i => World.var?_cell hg1 hv1 i
  have b2 := fun i => World.var?_cell hg2 hv2 i
  have b3 := fun i => World.var?_cell hg3 hv3 i
  have c : ∀ (cs : Array Value) (i : Nat), cs.toList[i]? = cs[i]? := fun cs i => by simp
  have ho : ∀ i, i < 19 → ([16, 17, 18, 0, 8, 7, 9, 6, 10, 5, 11, 4, 12, 3, 13, 2, 14, 1, 15] : List Int).getD i 0 = ((ordS.getD i 0 : Nat) : Int) := by decide
  refine ⟨⟨fun i hi => ?_, ⟨?_, ?_, ?_⟩, ⟨?_, ?_, ?_⟩⟩, fun i hi => ?_⟩
  · rw [b0 i, ← c, a0 i hi, ho i hi]
  · rw [b2 0, ← c, a2 0 (by omega)]; rfl
  · rw [b2 1, ← c, a2 1 (by omega)]; rfl
  · rw [b2 2, ← c, a2 2 (by omega)]; rfl
  · rw [b1 0, ← c, a1 0 (by omega)]; rfl
  · rw [b1 1, ← c, a1 1 (by omega)]; rfl
  · rw [b1 2, ← c, a1 2 (by omega)]; rfl
  · rw [b3 i, ← c, a3 i hi, ho i hi]
end Go.Proofs.YtjeeiodpdfbgmaaDoor
