/- Several texts in one: DefR (what Back, Least reach of them). -/
import Derived.Test.YtjeeiodpdfbgmaaDoorPm08
import Derived.Test.YtjeeiodpdfbgmaaDoorPm09
import Derived.Test.YtjeeiodpdfbgmaaDoorPm10
import Derived.Below
import Derived.BigQuiet
import Derived.BigRegion
import Derived.Deep.AppendLies
import Derived.Deep.CutRange
import Derived.Deep.DeepCutAuto
import Derived.Deep.Draws
import Derived.Deep.QuietTactic
import Derived.Deep.RegionLaw
import Derived.Deep.RegionWith
import Derived.Deep.Slices
import Derived.Laws.BitsAllLaws
import Derived.Laws.BitsLemmas
import Derived.Laws.IdiomStrings
import Derived.Laws.OwnMore
import Derived.Laws.Rows
import Derived.Lib.AppendStr
import Derived.Lib.Hide
import Derived.Lib.Strings
import Derived.LoopIn
import Derived.LoopNIn
import Derived.OneCell
import Derived.OpenShut
import Derived.Outline
import Derived.OwnWalk
import Derived.OwnWalkIn
import Derived.ProofKit
import Derived.RangeFuncBound
import Derived.RangeFuncCalls
import Derived.RangeFuncLeaves
import Derived.RangeFuncNested
import Derived.RegionTactic
import Derived.Shelf.Abstract
import Derived.Shelf.RegionOpen
import Derived.Shelf.SlSortCmp.QuietGrown
import Derived.StillTailTactics
import Derived.TacticsInMore
import Derived.Test.YtjeeiodpdfbgmaaDoorChecked
import Derived.WalkKit
import Derived.WalkLawsBesides
import Derived.WalkSpells
set_option maxRecDepth 100000
set_option linter.unusedVariables false
set_option linter.unusedVariables false
namespace Go.Proofs.YtjeeiodpdfbgmaaDoor
set_option maxRecDepth 100000
theorem bestX_cases (l : List UInt8) : (bestX l = textX (storX l) ∨ bestX l = textX (fixedX l) ∨ bestX l = textX (dynL l)) ∧ (bestX l).size ≤ (textX (storX l)).size ∧ (bestX l).size ≤ (textX (fixedX l)).size ∧ (bestX l).size ≤ (textX (dynL l)).size := by
  unfold bestX
  dsimp only
  by_cases h1 : (textX (fixedX l)).size < (textX (storX l)).size
  · rw [if_pos h1]
    by_cases h2 : (textX (dynL l)).size < (textX (fixedX l)).size
    · rw [if_pos h2]; exact ⟨.inr (.inr rfl), by omega, by omega, by omega⟩
    · rw [if_neg h2]; exact ⟨.inr (.inl rfl), by omega, by omega, by omega⟩
  · rw [if_neg h1]
    by_cases h2 : (textX (dynL l)).size < (textX (storX l)).size
    · rw [if_pos h2]; exact ⟨.inr (.inr rfl), by omega, by omega, by omega⟩
    · rw [if_neg h2]; exact ⟨.inl rfl, by omega, by omega, by omega⟩
end Go.Proofs.YtjeeiodpdfbgmaaDoor
