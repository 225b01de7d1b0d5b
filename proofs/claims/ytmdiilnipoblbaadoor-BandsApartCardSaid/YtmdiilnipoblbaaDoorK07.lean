/- Several texts in one: StM, BbI (what BandsApart, BandsCuts, BandsJoins, BandsReads reach of them). -/
import Derived.Test.YtmdiilnipoblbaaDoorK01
import Derived.Test.YtmdiilnipoblbaaDoorK02
import Derived.Test.YtmdiilnipoblbaaDoorK04
import Derived.ArgAppend
import Derived.Below
import Derived.BigQuiet
import Derived.BigRegion
import Derived.Deep.AppendLies
import Derived.Deep.Cut
import Derived.Deep.CutBlock
import Derived.Deep.CutRange
import Derived.Deep.DeepCutAuto
import Derived.Deep.Draws
import Derived.Deep.LoopGhost
import Derived.Deep.QuietTactic
import Derived.Deep.RegionLaw
import Derived.Deep.RegionWith
import Derived.Deep.Slices
import Derived.Handy
import Derived.Laws.BitsAllLaws
import Derived.Laws.BitsLemmas
import Derived.Laws.BytesArg
import Derived.Laws.Cells
import Derived.Laws.Externs
import Derived.Laws.IdiomStrings
import Derived.Laws.MakeOwn
import Derived.Laws.OwnMore
import Derived.Laws.Rows
import Derived.Laws.StructEq
import Derived.Laws.Tables
import Derived.Lib.AppendStr
import Derived.Lib.BufferWrite
import Derived.Lib.Hide
import Derived.Lib.UnsafeStr
import Derived.Maps.AppendAt
import Derived.OpenShut
import Derived.OrdersHeld
import Derived.OrdersIn
import Derived.Outline
import Derived.OwnWalk
import Derived.OwnWalkIn
import Derived.ProofKit
import Derived.RangeFuncCalls
import Derived.RegionTactic
import Derived.Shelf.LaysM
import Derived.Shelf.Small.Wraps
import Derived.Shelf.Strconv.Clone
import Derived.Shelf.Strings.Builder1
import Derived.Shelf.Strings.BuilderF
import Derived.Shelf.Strings.Prefix
import Derived.Shelf.Strings.Repeat
import Derived.Sort.CutIn
import Derived.TacticsInMore
import Derived.Test.YtmdiilnipoblbaaDoorChecked
import Derived.WalkKit
set_option maxRecDepth 100000
set_option linter.unusedVariables false
set_option maxRecDepth 100000
set_option linter.unusedVariables false
namespace Go.Proofs.YtmdiilnipoblbaaDoor
set_option maxRecDepth 100000
open Go Go.RowKit
theorem OwnSt.sr {w : World} {b n c : Nat} {A : Option Addr} {L : List ByteArray} (h : OwnSt w b (.slice A n c) L) : Sr w A n L := by
  have hl : L.length = n := by
    obtain ⟨A', c', e, _⟩ := h.shape
    injection e with e1 e2 e3
    exact e2.symm
  refine ⟨hl, fun hp => ?_⟩
  obtain ⟨g, e, hg, _⟩ := h.at (List.getElem?_eq_getElem (show 0 < L.length by omega))
  refine ⟨g, 0, e, hg, fun i hi => ?_⟩
  obtain ⟨g', e', _, hc⟩ := h.at (List.getElem?_eq_getElem hi)
  rw [e] at e'
  injection e' with e'
  injection e' with e'
  rw [Nat.zero_add, e']
  exact hc
end Go.Proofs.YtmdiilnipoblbaaDoor
set_option maxRecDepth 100000
set_option linter.unusedVariables false
namespace Go.Proofs.YtmdiilnipoblbaaDoor
set_option maxRecDepth 100000
open Go Go.RowKit
theorem OwnSt.srs {w : World} {b : Nat} {v : Value} {L : List ByteArray} (h : OwnSt w b v L) : ∃ A c, v = .slice A L.length c ∧ Sr w A L.length L := by
  obtain ⟨A, c, rfl, _⟩ := h.shape
  exact ⟨A, c, rfl, h.sr⟩
end Go.Proofs.YtmdiilnipoblbaaDoor
