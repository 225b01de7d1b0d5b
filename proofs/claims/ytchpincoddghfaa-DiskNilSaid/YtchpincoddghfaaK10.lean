/- Several texts in one: DkR (what DiskNil reach of them). -/
import Derived.Test.YtchpincoddghfaaK01
import Derived.Test.YtchpincoddghfaaK02
import Derived.Below
import Derived.BigQuiet
import Derived.BigRegion
import Derived.Deep.AppendLies
import Derived.Deep.Cut
import Derived.Deep.CutBlock
import Derived.Deep.CutRange
import Derived.Deep.DeepCutAuto
import Derived.Deep.Draws
import Derived.Deep.Onto
import Derived.Deep.QuietTactic
import Derived.Deep.RegionLaw
import Derived.Deep.RegionWith
import Derived.Handy
import Derived.Laws.BitsAllLaws
import Derived.Laws.BitsLemmas
import Derived.Laws.BytesArg
import Derived.Laws.IdiomStrings
import Derived.Laws.MakeOwn
import Derived.Laws.OwnMore
import Derived.Laws.Rows
import Derived.Lib.Hide
import Derived.Maps.AppendAt
import Derived.OrdersHeld
import Derived.OrdersIn
import Derived.Outline
import Derived.OwnWalk
import Derived.OwnWalkIn
import Derived.RangeFuncCalls
import Derived.RegionTactic
import Derived.TacticsInMore
import Derived.Test.YtchpincoddghfaaChecked
import Derived.WalkKit
set_option maxRecDepth 100000
set_option linter.unusedVariables false
set_option maxRecDepth 100000
set_option linter.unusedVariables false
namespace Go.Proofs.Ytchpincoddghfaa
set_option maxRecDepth 100000
open Go Go.RowKit
set_option maxHeartbeats 1000000 in
theorem diskNil_walk {PD : World → Nat → List Nat → D16 → Prop} (C : DkC PD) {n : Int} {w : World} (hn : (Lit.int .i64 n).wf = true) : Calls Try.prog 6 #[.int .i64 n] w fun e w' => e = .returned (.bool true) ∧ Below w.heap.size w w' := by
  have HA := Lib.hid (awake16_of C)
  have H1 := Lib.hid (C.arm_nil)
  have H2 := Lib.hid (C.crash_nil)
  have H3 := Lib.hid (C.read_nil)
  have H4 := Lib.hid (fun W => C.append_nil W n ByteArray.empty)
  have H5 := Lib.hid (C.sync_nil)
  have H6 := Lib.hid (C.cut_nil)
  have H7 := Lib.hid (C.drop_nil)
  have H8 := Lib.hid (C.files_nil)
  have H9 := Lib.hid (C.size_nil)
  have H10 := Lib.hid (C.dead_nil)
  have H11 := Lib.hid (C.steps_nil)
  clear hn
  go_enter Try.func6, Try.ntmps6
  go_wp2_with fail
  refine (H1.out _ _).mono ?_
  rintro e w1 ⟨rfl, hB⟩
  have HB := Lib.hid (hB)
  clear hB
  go_wp2_with fail
  have HB := Lib.hid (HB.out.alloc (.cells #[.int .i64 n] 3))
  refine (H2.out _ _ _ _).mono ?_
  rintro e w2 ⟨rfl, hB⟩
  have HB := Lib.hid (HB.out.trans hB)
  clear hB
  go_wp2_with fail
  refine (H3.out _ _).mono ?_
  rintro e w3 ⟨rfl, hB⟩
  have HB := Lib.hid (HB.out.trans hB)
  clear hB
  go_wp2_with fail
  refine (H4.out _).mono ?_
  rintro e w4 ⟨rfl, hB⟩
  have HB := Lib.hid (HB.out.trans hB)
  clear hB
  go_wp2_with fail
  refine (H5.out _ _).mono ?_
  rintro e w5 ⟨rfl, hB⟩
  have HB := Lib.hid (HB.out.trans hB)
  clear hB
  go_wp2_with fail
  refine (H6.out _ _ _).mono ?_
  rintro e w6 ⟨rfl, hB⟩
  have HB := Lib.hid (HB.out.trans hB)
  clear hB
  go_wp2_with fail
  refine (H7.out _ _).mono ?_
  rintro e w7 ⟨rfl, hB⟩
  have HB := Lib.hid (HB.out.trans hB)
  clear hB
  go_wp2_with fail
  refine (H8.out _).mono ?_
  rintro e w8 ⟨A, c, rfl, hB⟩
  have HB := Lib.hid (HB.out.trans hB)
  clear hB
  go_wp2_with fail
  refine (H9.out _).mono ?_
  rintro e w9 ⟨rfl, hB⟩
  have HB := Lib.hid (HB.out.trans hB)
  clear hB
  go_wp2_with fail
  refine (H10.out _).mono ?_
  rintro e w10 ⟨rfl, hB⟩
  have HB := Lib.hid (HB.out.trans hB)
  clear hB
  go_wp2_with fail
  refine (H11.out _).mono ?_
  rintro e w11 ⟨rfl, hB⟩
  have HB := Lib.hid (HB.out.trans hB)
  clear hB
  go_wp2_with fail
  refine (HA.out _).mono ?_
  rintro e w12 ⟨rfl, hB⟩
  have HB := Lib.hid (HB.out.trans hB)
  clear hB
  go_wp2
  go_ret
  exact ⟨rfl, HB.out.belowD⟩
end Go.Proofs.Ytchpincoddghfaa
