/- Several texts in one: BbI, BbH (what BandsCuts reach of them). -/
import Derived.Test.YtmdiilnipoblbaaDoorK01
import Derived.Test.YtmdiilnipoblbaaDoorK02
import Derived.Test.YtmdiilnipoblbaaDoorK04
import Derived.Test.YtmdiilnipoblbaaDoorK05
import Derived.Test.YtmdiilnipoblbaaDoorK07
import Derived.Test.YtmdiilnipoblbaaDoorK09
import Derived.Test.YtmdiilnipoblbaaDoorK10
import Derived.Test.YtmdiilnipoblbaaDoorK14
import Derived.Test.YtmdiilnipoblbaaDoorK16
import Derived.Test.YtmdiilnipoblbaaDoorK17
import Derived.ArgAppend
import Derived.Below
import Derived.BigQuiet
import Derived.BigRegion
import Derived.Deep.AppendLies
import Derived.Deep.Cut
import Derived.Deep.CutBlock
import Derived.Deep.CutRange
import Derived.Deep.DeepCutAuto
import Derived.Deep.Draws
import Derived.Deep.LoopGhost
import Derived.Deep.QuietTactic
import Derived.Deep.RegionLaw
import Derived.Deep.RegionWith
import Derived.Deep.Slices
import Derived.Handy
import Derived.Laws.BitsAllLaws
import Derived.Laws.BitsLemmas
import Derived.Laws.BytesArg
import Derived.Laws.Cells
import Derived.Laws.Externs
import Derived.Laws.IdiomStrings
import Derived.Laws.MakeOwn
import Derived.Laws.OwnMore
import Derived.Laws.Rows
import Derived.Laws.StructEq
import Derived.Laws.Tables
import Derived.Lib.AppendStr
import Derived.Lib.BufferWrite
import Derived.Lib.Hide
import Derived.Lib.UnsafeStr
import Derived.Maps.AppendAt
import Derived.OpenShut
import Derived.OrdersHeld
import Derived.OrdersIn
import Derived.Outline
import Derived.OwnWalk
import Derived.OwnWalkIn
import Derived.ProofKit
import Derived.RangeFuncCalls
import Derived.RegionTactic
import Derived.Shelf.LaysM
import Derived.Shelf.Small.Wraps
import Derived.Shelf.Strconv.Clone
import Derived.Shelf.Strings.Builder1
import Derived.Shelf.Strings.BuilderF
import Derived.Shelf.Strings.Prefix
import Derived.Shelf.Strings.Repeat
import Derived.Sort.CutIn
import Derived.TacticsInMore
import Derived.Test.YtmdiilnipoblbaaDoorChecked
import Derived.WalkKit
set_option maxRecDepth 100000
set_option linter.unusedVariables false
set_option maxRecDepth 100000
set_option linter.unusedVariables false
namespace Go.Proofs.YtmdiilnipoblbaaDoor
set_option maxRecDepth 100000
open Go Go.RowKit
/-- What Cut tells. -/
noncomputable def cutA (a b : Int) (pix : ByteArray) : List ByteArray × Int := if checkA a b pix = 0 then ((bandsB a.toNat b.toNat pix.data.toList).map strL, 0) else ([], checkA a b pix)
theorem pcut_all (w : World) {a b : Int} {pix : ByteArray} (hp : pix.size ≤ 140737488351232) :
    Calls Tryd.prog 9 #[.agg #[.int .i64 a, .int .i64 b, .string pix]] w fun e w' => ∃ A n c, e = .returned (.tuple #[.slice A n c, .int .i64 (cutA a b pix).2]) ∧ Sr w' A n (cutA a b pix).1 ∧ n ≤ 128 ∧ But [] w w' := by
  by_cases h : checkA a b pix = 0
  · obtain ⟨W, H, rfl, rfl, hr, hl⟩ := check_form15 h
    have e := pcut_any w hr hl
    rw [strL_of] at e
    refine e.mono ?_
    rintro e w1 ⟨b, v, rfl, hO, hB⟩
    obtain ⟨A, c, rfl, hS⟩ := hO.srs
    unfold cutA
    rw [if_pos h, Int.toNat_natCast, Int.toNat_natCast]
    refine ⟨A, _, c, rfl, hS, ?_, hB⟩
    rw [List.length_map, bandsB_length]
    exact many_few hr
  · refine (pcut_bad w hp h).mono ?_
    rintro e w1 ⟨rfl, hB⟩
    unfold cutA
    rw [if_neg h]
    exact ⟨none, 0, 0, rfl, sr_nil _ _, by omega, hB⟩
theorem ecut_all (w : World) {a b : Int} {pix : ByteArray} (hp : pix.size ≤ 140737488351232) :
    Calls Tryd.prog 10 #[.agg #[.int .i64 a, .int .i64 b, .string pix]] w fun e w' => ∃ A n c, e = .returned (.tuple #[.slice A n c, .int .i64 (cutA a b pix).2]) ∧ Sr w' A n (cutA a b pix).1 ∧ n ≤ 128 ∧ But [] w w' := by
  by_cases h : checkA a b pix = 0
  · obtain ⟨W, H, rfl, rfl, hr, hl⟩ := check_form15 h
    have e := ecut_any w hr hl
    rw [strL_of] at e
    refine e.mono ?_
    rintro e w1 ⟨b, v, rfl, hO, hB⟩
    obtain ⟨A, c, rfl, hS⟩ := hO.srs
    unfold cutA
    rw [if_pos h, Int.toNat_natCast, Int.toNat_natCast]
    refine ⟨A, _, c, rfl, hS, ?_, hB⟩
    rw [List.length_map, bandsB_length]
    exact many_few hr
  · refine (ecut_bad w hp h).mono ?_
    rintro e w1 ⟨rfl, hB⟩
    unfold cutA
    rw [if_neg h]
    exact ⟨none, 0, 0, rfl, sr_nil _ _, by omega, hB⟩
end Go.Proofs.YtmdiilnipoblbaaDoor
set_option maxRecDepth 100000
set_option linter.unusedVariables false
namespace Go.Proofs.YtmdiilnipoblbaaDoor
set_option maxRecDepth 100000
open Go Go.RowKit
set_option maxHeartbeats 1000000 in
theorem bandsCuts_walk {a b : Int} {p : ByteArray} {w : World} (hp : p.size ≤ 140737488351232) (hG : GK w) : Calls Tryd.prog 3 #[.agg #[.int .i64 a, .int .i64 b, .string p]] w fun e w' => e = .returned (.bool true) ∧ Below w.heap.size w w' := by
  have HG := Lib.hid hG
  have HA := Lib.hid fun W hG => awake15_any W hG
  have HP := Lib.hid fun W hG => pmanifest_all W hG (a := a) (b := b) hp
  have HE := Lib.hid fun W => emanifest_all W (a := a) (b := b) hp
  have HC := Lib.hid fun W => pcut_all W (a := a) (b := b) hp
  have HD := Lib.hid fun W => ecut_all W (a := a) (b := b) hp
  obtain ⟨M, hM⟩ : ∃ z, z = (manA a b p).1 := ⟨_, rfl⟩
  obtain ⟨r, hr⟩ : ∃ z, z = (manA a b p).2 := ⟨_, rfl⟩
  obtain ⟨L, hL⟩ : ∃ z, z = (cutA a b p).1 := ⟨_, rfl⟩
  obtain ⟨q, hq⟩ : ∃ z, z = (cutA a b p).2 := ⟨_, rfl⟩
  rw [← hM, ← hr] at HP HE
  rw [← hL, ← hq] at HC HD
  have HI := Lib.hid (Is.fresh w 23 #[.int .i64 a, .int .i64 b, .string p])
  have HB0 := Lib.hid ((But.refl [] w).alloc (.cells #[.int .i64 a, .int .i64 b, .string p] 23))
  obtain ⟨w0, hw0⟩ : ∃ X, X = w.alloc (.cells #[.int .i64 a, .int .i64 b, .string p] 23) := ⟨_, rfl⟩
  obtain ⟨g, hg⟩ : ∃ X, X = w.heap.size := ⟨_, rfl⟩
  rw [← hw0, ← hg] at HI
  rw [← hw0] at HB0
  have HZ : Hid (∀ v, But [] w0 v → v.cell? ⟨g, 0, none⟩ = some (.int .i64 a) ∧ v.cell? ⟨g, 1, none⟩ = some (.int .i64 b) ∧ v.cell? ⟨g, 2, none⟩ = some (.string p) ∧ g < v.heap.size) := Lib.hid fun v hv => by
    have hh := HI.out.but hv (by simp)
    exact ⟨hh.cell 0, hh.cell 1, hh.cell 2, hh.lt⟩
  have HGG : Hid (∀ v, But [] w0 v → GK v) := Lib.hid fun v hv => (HG.out.but HB0.out).but hv
  clear hM hr hL hq hG
  go_enter Tryd.func3, Tryd.ntmps3
  go_upto_region 1 with (fail)
  rw [← hw0, ← hg]
  clear hw0 hg
  obtain ⟨c0, c1, c2, hgl⟩ := HZ.out _ (But.refl [] _)
  go_wp2_with fail
  refine (HC.out _).mono ?_
  rintro e w1 ⟨A1, n1, cp1, rfl, hS1, hn1, hB1⟩
  have HS1 := Lib.hid hS1
  have HB1 := Lib.hid hB1
  clear hB1 c0 c1 c2 hgl hS1
  obtain ⟨c0, c1, c2, hgl⟩ := HZ.out _ HB1.out
  go_wp2_with fail
  refine (HD.out _).mono ?_
  rintro e w2 ⟨A2, n2, cp2, rfl, hS2, hn2, hB2⟩
  obtain rfl : n1 = n2 := by rw [← HS1.out.1, ← hS2.1]
  have HS1 := Lib.hid (HS1.out.but hB2)
  have HS2 := Lib.hid hS2
  have HB2 := Lib.hid (HB1.out.trans hB2)
  clear hB2 c0 c1 c2 hgl hS2
  obtain ⟨c0, c1, c2, hgl⟩ := HZ.out _ HB2.out
  go_wp2_with fail
  refine (HP.out _ (HGG.out _ HB2.out)).mono ?_
  rintro e w3 ⟨rfl, hB3⟩
  have HS1 := Lib.hid (HS1.out.but hB3)
  have HS2 := Lib.hid (HS2.out.but hB3)
  have HB3 := Lib.hid (HB2.out.trans hB3)
  clear hB3 c0 c1 c2 hgl
  obtain ⟨c0, c1, c2, hgl⟩ := HZ.out _ HB3.out
  go_wp2_with fail
  refine (HE.out _).mono ?_
  rintro e w4 ⟨rfl, hB4⟩
  have HT := Lib.hid (texts_any w4 (c := cp1) (d := cp2) (HS1.out.but hB4) (HS2.out.but hB4) (by omega))
  have HB4 := Lib.hid (HB3.out.trans hB4)
  clear hB4 c0 c1 c2 hgl
  go_wp2_with fail
  refine HT.out.mono ?_
  rintro e w5 ⟨rfl, hB5⟩
  have HB5 := Lib.hid (HB4.out.trans hB5)
  clear hB5
  go_wp2_with fail
  refine (HA.out _ (HGG.out _ HB5.out)).mono ?_
  rintro e w6 ⟨rfl, hB6⟩
  have HB6 := Lib.hid (HB0.out.trans (HB5.out.trans hB6))
  clear hB6
  go_wp2
  go_ret
  exact ⟨rfl, but_belowH HB6.out⟩
end Go.Proofs.YtmdiilnipoblbaaDoor
