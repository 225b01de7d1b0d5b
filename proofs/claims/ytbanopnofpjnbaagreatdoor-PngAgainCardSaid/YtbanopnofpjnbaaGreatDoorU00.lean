/- The library, and short forms for the texts of this claim: a claim has a limit in bytes. -/
import Derived.OrdersHeld
import Derived.RegionTactic
import Derived.Below
import Derived.Laws.OwnMore
import Derived.Deep.Draws
import Derived.Laws.Rows
import Derived.Laws.BitsAllLaws
import Derived.Laws.BitsLemmas
import Derived.Test.YtbanopnofpjnbaaGreatDoorChecked
import Derived.WalkKit
import Derived.Lib.Hide
import Derived.Outline
import Derived.Deep.QuietTactic
import Derived.BigQuiet
import Derived.BigRegion
import Derived.Deep.RegionWith
import Derived.Deep.Cut
import Derived.Deep.DeepCutAuto
import Derived.Deep.CutRange
import Derived.Deep.CutBlock
import Derived.Handy
import Derived.OwnWalk
import Derived.Deep.AppendLies
import Derived.Maps.AppendAt
import Derived.Laws.IdiomStrings
import Derived.Laws.BytesArg
import Derived.Laws.MakeOwn
import Derived.Deep.RegionLaw
import Derived.RangeFuncCalls
import Derived.TacticsInMore
import Derived.OwnWalkIn
import Derived.OrdersIn
import Derived.Laws.StructEq
import Derived.Lib.BufferWrite
import Derived.Deep.Slices
import Derived.ProofKit
import Derived.OpenShut
import Derived.WalkSpells
import Derived.WalkLawsBesides
import Derived.Lib.Strings
import Derived.OneCell
import Derived.Lib.AppendStr
import Derived.Lib.SlBytesConst
import Derived.Lib.Builder
import Derived.StillTailTactics
import Derived.Shelf.SlSortCmp.QuietGrown
import Derived.RangeFuncNested
import Derived.RangeFuncBound
import Derived.RangeFuncLeaves
import Derived.Shelf.Abstract
import Derived.Shelf.RegionOpen
import Derived.LoopNIn
import Derived.LoopIn
import Derived.Sort.CutIn
import Derived.Lib.UnsafeStr
import Derived.Laws.Externs
import Derived.Deep.LoopGhost
import Derived.Laws.CopyOwn
import Derived.Laws.Strings2
import Derived.Laws.Strings3
import Derived.WalkMore
import Derived.ScopeJumps
import Derived.Lib.AppendZeros
namespace Go.Proofs.YtbanopnofpjnbaaGreatDoor
open Go Go.RowKit
theorem E1 {α : Sort _} (a : α) : ∃ y, y = a := ⟨a, rfl⟩
theorem qhz {p : Prop} (h : p) : Hid p := h
/-- What a call ends with that tells a value and leaves older memory. -/
instance : Coe Int Value := ⟨fun x => .int .i64 x⟩
instance : Coe Nat Value := ⟨fun x => .int .i64 x⟩
instance : Coe Bool Value := ⟨fun x => .bool x⟩
instance : Coe ByteArray Value := ⟨fun x => .string x⟩
instance : Coe Nat (Option Addr) := ⟨fun b => some ⟨b, 0, none⟩⟩
end Go.Proofs.YtbanopnofpjnbaaGreatDoor
