/- Several texts in one: BbH (what BandsManifest reach of them). -/
import Derived.Test.YtmdiilnipoblbaaDoorK01
import Derived.Test.YtmdiilnipoblbaaDoorK02
import Derived.Test.YtmdiilnipoblbaaDoorK04
import Derived.Test.YtmdiilnipoblbaaDoorK05
import Derived.Test.YtmdiilnipoblbaaDoorK09
import Derived.Test.YtmdiilnipoblbaaDoorK16
import Derived.ArgAppend
import Derived.Below
import Derived.BigQuiet
import Derived.BigRegion
import Derived.Deep.AppendLies
import Derived.Deep.Cut
import Derived.Deep.CutBlock
import Derived.Deep.CutRange
import Derived.Deep.DeepCutAuto
import Derived.Deep.Draws
import Derived.Deep.LoopGhost
import Derived.Deep.QuietTactic
import Derived.Deep.RegionLaw
import Derived.Deep.RegionWith
import Derived.Deep.Slices
import Derived.Handy
import Derived.Laws.BitsAllLaws
import Derived.Laws.BitsLemmas
import Derived.Laws.BytesArg
import Derived.Laws.Cells
import Derived.Laws.Externs
import Derived.Laws.IdiomStrings
import Derived.Laws.MakeOwn
import Derived.Laws.OwnMore
import Derived.Laws.Rows
import Derived.Laws.StructEq
import Derived.Laws.Tables
import Derived.Lib.AppendStr
import Derived.Lib.BufferWrite
import Derived.Lib.Hide
import Derived.Lib.UnsafeStr
import Derived.Maps.AppendAt
import Derived.OpenShut
import Derived.OrdersHeld
import Derived.OrdersIn
import Derived.Outline
import Derived.OwnWalk
import Derived.OwnWalkIn
import Derived.ProofKit
import Derived.RangeFuncCalls
import Derived.RegionTactic
import Derived.Shelf.LaysM
import Derived.Shelf.Small.Wraps
import Derived.Shelf.Strconv.Clone
import Derived.Shelf.Strings.Builder1
import Derived.Shelf.Strings.BuilderF
import Derived.Shelf.Strings.Prefix
import Derived.Shelf.Strings.Repeat
import Derived.Sort.CutIn
import Derived.TacticsInMore
import Derived.Test.YtmdiilnipoblbaaDoorChecked
import Derived.WalkKit
set_option maxRecDepth 100000
set_option linter.unusedVariables false
set_option maxRecDepth 100000
set_option linter.unusedVariables false
namespace Go.Proofs.YtmdiilnipoblbaaDoor
set_option maxRecDepth 100000
open Go Go.RowKit
set_option maxHeartbeats 1000000 in
theorem bandsManifest_walk {a b : Int} {p : ByteArray} {w : World} (hp : p.size ≤ 140737488351232) (hG : GK w) : Calls Tryd.prog 8 #[.agg #[.int .i64 a, .int .i64 b, .string p]] w fun e w' => e = .returned (.bool true) ∧ Below w.heap.size w w' := by
  have HG := Lib.hid hG
  have HA := Lib.hid fun W hG => awake15_any W hG
  have HP := Lib.hid fun W hG => pmanifest_all W hG (a := a) (b := b) hp
  have HE := Lib.hid fun W => emanifest_all W (a := a) (b := b) hp
  obtain ⟨M, hM⟩ : ∃ z, z = (manA a b p).1 := ⟨_, rfl⟩
  obtain ⟨r, hr⟩ : ∃ z, z = (manA a b p).2 := ⟨_, rfl⟩
  rw [← hM, ← hr] at HP HE
  have HI := Lib.hid (Is.fresh w 23 #[.int .i64 a, .int .i64 b, .string p])
  have HB0 := Lib.hid ((But.refl [] w).alloc (.cells #[.int .i64 a, .int .i64 b, .string p] 23))
  obtain ⟨w0, hw0⟩ : ∃ X, X = w.alloc (.cells #[.int .i64 a, .int .i64 b, .string p] 23) := ⟨_, rfl⟩
  obtain ⟨g, hg⟩ : ∃ X, X = w.heap.size := ⟨_, rfl⟩
  have HGR : Hid (w.heap.size = g) := Lib.hid hg.symm
  rw [← hw0, ← hg] at HI
  rw [← hw0] at HB0
  clear hM hr hG
  go_enter Tryd.func8, Tryd.ntmps8
  go_upto_region 1 with (fail)
  rw [← hw0, ← hg]
  clear hw0 hg
  have c0 := HI.out.cell 0
  have c1 := HI.out.cell 1
  have c2 := HI.out.cell 2
  have hgl := HI.out.lt
  go_wp2_with fail
  refine (HP.out _ (HG.out.but HB0.out)).mono ?_
  rintro e w1 ⟨rfl, hB1⟩
  have HI1 := Lib.hid (HI.out.but hB1 (by simp))
  have HB1 := Lib.hid (HB0.out.trans hB1)
  clear hB1 c0 c1 c2 hgl
  have c0 := HI1.out.cell 0
  have c1 := HI1.out.cell 1
  have c2 := HI1.out.cell 2
  have hgl := HI1.out.lt
  go_wp2_with fail
  refine (HE.out _).mono ?_
  rintro e w2 ⟨rfl, hB2⟩
  have HB2 := Lib.hid (HB1.out.trans hB2)
  clear hB2 c0 c1 c2 hgl
  go_wp2_with fail
  refine (HA.out _ (HG.out.but HB2.out)).mono ?_
  rintro e w3 ⟨rfl, hB3⟩
  have HB3 := Lib.hid (HB2.out.trans hB3)
  clear hB3
  go_wp2
  go_ret
  exact ⟨rfl, but_belowH HB3.out⟩
end Go.Proofs.YtmdiilnipoblbaaDoor
