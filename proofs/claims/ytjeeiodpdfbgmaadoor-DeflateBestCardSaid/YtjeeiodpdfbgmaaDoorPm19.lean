/- Several texts in one: WriteD, EfE (what Best, Dynamic, Fixed, Stored reach of them). -/
import Derived.Test.YtjeeiodpdfbgmaaDoorPm01
import Derived.Test.YtjeeiodpdfbgmaaDoorPm03
import Derived.Test.YtjeeiodpdfbgmaaDoorPm05
import Derived.Test.YtjeeiodpdfbgmaaDoorPm08
import Derived.Test.YtjeeiodpdfbgmaaDoorPm09
import Derived.Below
import Derived.BigQuiet
import Derived.BigRegion
import Derived.Deep.AppendLies
import Derived.Deep.CutRange
import Derived.Deep.DeepCutAuto
import Derived.Deep.Draws
import Derived.Deep.LoopGhost
import Derived.Deep.QuietTactic
import Derived.Deep.RegionLaw
import Derived.Deep.RegionWith
import Derived.Deep.Slices
import Derived.Handy
import Derived.Laws.BitsAllLaws
import Derived.Laws.BitsLemmas
import Derived.Laws.CopyOwn
import Derived.Laws.IdiomStrings
import Derived.Laws.OwnMore
import Derived.Laws.Rows
import Derived.Laws.Strings2
import Derived.Laws.Strings3
import Derived.Laws.StructEq
import Derived.Lib.AppendStr
import Derived.Lib.Hide
import Derived.Lib.Strings
import Derived.LoopIn
import Derived.LoopNIn
import Derived.OneCell
import Derived.OpenShut
import Derived.Outline
import Derived.OwnWalk
import Derived.OwnWalkIn
import Derived.ProofKit
import Derived.RangeFuncBound
import Derived.RangeFuncCalls
import Derived.RangeFuncLeaves
import Derived.RangeFuncNested
import Derived.RegionTactic
import Derived.ScopeJumps
import Derived.Shelf.Abstract
import Derived.Shelf.RegionOpen
import Derived.Shelf.SlSortCmp.QuietGrown
import Derived.StillTailTactics
import Derived.TacticsInMore
import Derived.Test.YtjeeiodpdfbgmaaDoorChecked
import Derived.WalkKit
import Derived.WalkLawsBesides
import Derived.WalkMore
import Derived.WalkSpells
set_option maxRecDepth 100000
set_option linter.unusedVariables false
namespace Go.Proofs.YtjeeiodpdfbgmaaDoor
set_option maxRecDepth 100000
open Go Go.RowKit
set_option maxRecDepth 100000 in
theorem fw_new (w : World) (lo : Nat) : FW (w.alloc (.cells #[.slice none 0 0, .int .i64 0] 49)) lo w.heap.size none 0 0 :=
  ⟨.slice none 0 0, [], Is.fresh w _ _, World.ownsRow_nil _ _ _ _, rfl, rfl, rfl, by decide⟩

end Go.Proofs.YtjeeiodpdfbgmaaDoor
set_option maxRecDepth 100000
set_option linter.unusedVariables false
namespace Go.Proofs.YtjeeiodpdfbgmaaDoor
set_option maxRecDepth 100000
open Go Go.RowKit
attribute [local irreducible] layTs layC layB fixL fixD toks fixedX
/-- A new writer of the document's. -/
theorem fwnew (w : World) : FW (w.alloc (.cells #[.slice none 0 0, .int .i64 0] 49)) (w.heap.size + 1) w.heap.size none ((0, 0) : Nat × Nat).1 ((0, 0) : Nat × Nat).2 := fw_new w _
end Go.Proofs.YtjeeiodpdfbgmaaDoor
