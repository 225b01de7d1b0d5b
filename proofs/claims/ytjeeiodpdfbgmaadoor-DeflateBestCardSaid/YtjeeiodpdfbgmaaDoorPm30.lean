/- Several texts in one: EfF (what Best, Stored reach of them). -/
import Derived.Test.YtjeeiodpdfbgmaaDoorPm01
import Derived.Test.YtjeeiodpdfbgmaaDoorPm03
import Derived.Test.YtjeeiodpdfbgmaaDoorPm05
import Derived.Test.YtjeeiodpdfbgmaaDoorPm08
import Derived.Test.YtjeeiodpdfbgmaaDoorPm09
import Derived.Test.YtjeeiodpdfbgmaaDoorPm10
import Derived.Test.YtjeeiodpdfbgmaaDoorPm12
import Derived.Below
import Derived.BigQuiet
import Derived.BigRegion
import Derived.Deep.AppendLies
import Derived.Deep.CutRange
import Derived.Deep.DeepCutAuto
import Derived.Deep.Draws
import Derived.Deep.LoopGhost
import Derived.Deep.QuietTactic
import Derived.Deep.RegionLaw
import Derived.Deep.RegionWith
import Derived.Deep.Slices
import Derived.Handy
import Derived.Laws.BitsAllLaws
import Derived.Laws.BitsLemmas
import Derived.Laws.CopyOwn
import Derived.Laws.IdiomStrings
import Derived.Laws.OwnMore
import Derived.Laws.Rows
import Derived.Laws.Strings2
import Derived.Laws.Strings3
import Derived.Laws.StructEq
import Derived.Lib.AppendStr
import Derived.Lib.Hide
import Derived.Lib.Strings
import Derived.LoopIn
import Derived.LoopNIn
import Derived.OneCell
import Derived.OpenShut
import Derived.Outline
import Derived.OwnWalk
import Derived.OwnWalkIn
import Derived.ProofKit
import Derived.RangeFuncBound
import Derived.RangeFuncCalls
import Derived.RangeFuncLeaves
import Derived.RangeFuncNested
import Derived.RegionTactic
import Derived.ScopeJumps
import Derived.Shelf.Abstract
import Derived.Shelf.RegionOpen
import Derived.Shelf.SlSortCmp.QuietGrown
import Derived.StillTailTactics
import Derived.TacticsInMore
import Derived.Test.YtjeeiodpdfbgmaaDoorChecked
import Derived.WalkKit
import Derived.WalkLawsBesides
import Derived.WalkMore
import Derived.WalkSpells
set_option maxRecDepth 100000
set_option linter.unusedVariables false
set_option maxRecDepth 100000
set_option linter.unusedVariables false
namespace Go.Proofs.YtjeeiodpdfbgmaaDoor
set_option maxRecDepth 100000
open Go Go.RowKit
theorem conv_head (W : World) {n : Nat} {r1 n1 r2 n2 : Nat} (h1 : r1 = n % 256) (h2 : n1 = n / 256) (h3 : r2 = 255 - n % 256) (h4 : n2 = 255 - n / 256) (hn : n ≤ 65535) :
    (convert 47 9 (.slice (some ⟨W.heap.size, 0, none⟩) 4 4)).run Tryd.prog ((W.alloc (.cells #[.int .u8 r1, .int .u8 n1, .int .u8 r2, .int .u8 n2] 5)).drew) = .ok (.string ⟨(headY n).toArray⟩) ((W.alloc (.cells #[.int .u8 r1, .int .u8 n1, .int .u8 r2, .int .u8 n2] 5)).drew) := by
  refine conv_at (L := headY n) (cap := 4) fun j hj => ?_
  have a1 := UInt8.toNat_ofNat' (n := n)
  have a2 := u8n (n / 256) (by omega)
  have a3 := u8n (255 - n % 256) (by omega)
  have a4 := u8n (255 - n / 256) (by omega)
  show (W.alloc (.cells #[.int .u8 r1, .int .u8 n1, .int .u8 r2, .int .u8 n2] 5)).cell? ⟨W.heap.size, j, none⟩ = _
  rw [World.cell?_alloc_mark]
  rw [head_len] at hj
  unfold headY
  match j, hj with
  | 0, _ => show some (Value.int .u8 (r1 : Int)) = some (Value.int .u8 ((UInt8.ofNat n).toNat : Int)); rw [a1, h1]
  | 1, _ => show some (Value.int .u8 (n1 : Int)) = some (Value.int .u8 ((UInt8.ofNat (n / 256)).toNat : Int)); rw [a2, h2]
  | 2, _ => show some (Value.int .u8 (r2 : Int)) = some (Value.int .u8 ((UInt8.ofNat (255 - n % 256)).toNat : Int)); rw [a3, h3]
  | 3, _ => show some (Value.int .u8 (n2 : Int)) = some (Value.int .u8 ((UInt8.ofNat (255 - n / 256)).toNat : Int)); rw [a4, h4]
attribute [local irreducible] layB layY storX textX headY
theorem wrapu {a : Int} (h0 : 0 ≤ a) (h1 : a < 256) : IntKind.u8.wrap a = a := by simp [IntKind.wrap_u8]; omega
end Go.Proofs.YtjeeiodpdfbgmaaDoor
