/- Several texts in one: DgU (what Least reach of them). -/
import Derived.Test.YtjeeiodpdfbgmaaDoorPm01
import Derived.Test.YtjeeiodpdfbgmaaDoorPm02
import Derived.Test.YtjeeiodpdfbgmaaDoorPm03
import Derived.Test.YtjeeiodpdfbgmaaDoorPm04
import Derived.Test.YtjeeiodpdfbgmaaDoorPm05
import Derived.Test.YtjeeiodpdfbgmaaDoorPm06
import Derived.Test.YtjeeiodpdfbgmaaDoorPm08
import Derived.Test.YtjeeiodpdfbgmaaDoorPm09
import Derived.Test.YtjeeiodpdfbgmaaDoorPm10
import Derived.Test.YtjeeiodpdfbgmaaDoorPm11
import Derived.Test.YtjeeiodpdfbgmaaDoorPm12
import Derived.Test.YtjeeiodpdfbgmaaDoorPm14
import Derived.Test.YtjeeiodpdfbgmaaDoorPm16
import Derived.Test.YtjeeiodpdfbgmaaDoorPm18
import Derived.Test.YtjeeiodpdfbgmaaDoorPm20
import Derived.Test.YtjeeiodpdfbgmaaDoorPm25
import Derived.Below
import Derived.BigQuiet
import Derived.BigRegion
import Derived.Deep.AppendLies
import Derived.Deep.CutBlock
import Derived.Deep.CutRange
import Derived.Deep.DeepCutAuto
import Derived.Deep.Draws
import Derived.Deep.LoopGhost
import Derived.Deep.QuietTactic
import Derived.Deep.RegionLaw
import Derived.Deep.RegionWith
import Derived.Deep.Slices
import Derived.Handy
import Derived.Laws.BitsAllLaws
import Derived.Laws.BitsLemmas
import Derived.Laws.CopyOwn
import Derived.Laws.IdiomStrings
import Derived.Laws.OwnMore
import Derived.Laws.Rows
import Derived.Laws.Strings2
import Derived.Laws.Strings3
import Derived.Laws.StructEq
import Derived.Lib.AppendStr
import Derived.Lib.AppendZeros
import Derived.Lib.Hide
import Derived.Lib.Strings
import Derived.LoopIn
import Derived.LoopNIn
import Derived.OneCell
import Derived.OpenShut
import Derived.Outline
import Derived.OwnWalk
import Derived.OwnWalkIn
import Derived.ProofKit
import Derived.RangeFuncBound
import Derived.RangeFuncCalls
import Derived.RangeFuncLeaves
import Derived.RangeFuncNested
import Derived.RegionTactic
import Derived.ScopeJumps
import Derived.Shelf.Abstract
import Derived.Shelf.RegionOpen
import Derived.Shelf.SlSortCmp.QuietGrown
import Derived.StillTailTactics
import Derived.TacticsInMore
import Derived.Test.YtjeeiodpdfbgmaaDoorChecked
import Derived.WalkKit
import Derived.WalkLawsBesides
import Derived.WalkMore
import Derived.WalkSpells
set_option maxRecDepth 100000
set_option linter.unusedVariables false
set_option maxRecDepth 100000
set_option linter.unusedVariables false
namespace Go.Proofs.YtjeeiodpdfbgmaaDoor
set_option maxRecDepth 100000
open Go Go.RowKit
attribute [local irreducible] textX storX fixedX bestX dynL runs
theorem best_of5 (l : List UInt8) {p a b c : ByteArray} (hp : p = bestX l) (ha : a = textX (storX l)) (hb : b = textX (fixedX l)) (hc : c = textX (dynL l)) : p.size ≤ a.size ∧ p.size ≤ b.size ∧ p.size ≤ c.size ∧ (p = a ∨ p = b ∨ p = c) := by
  subst hp ha hb hc
  obtain ⟨h1, h2, h3, h4⟩ := bestX_cases l
  exact ⟨h2, h3, h4, h1⟩
set_option maxHeartbeats 1000000 in
theorem deflateLeast_walk {s : ByteArray} {w : World} (hs : s.size ≤ 140737488351232) (hG : GD w) :
    Calls Tryd.prog 9 #[.string s] w fun e w' => e = .returned (.bool true) ∧ Below w.heap.size w w' := by
  by_cases hb : s.size ≤ 10000
  · have HT := Lib.hid (few_yes w hb)
    have H1 := Lib.hid (pdeflate_any w hG hb)
    have H2 := Lib.hid (fun v : World => stored_pany v (s := s) (by omega))
    have H3 := Lib.hid (fun v : World => pfixed_any v hb)
    have H4 := Lib.hid (fun (v : World) (h : GD v) => pdynamic_any v h hb)
    have HA := Lib.hid (fun (v : World) (h : GD v) => awake5_any v h)
    have HG := Lib.hid hG
    obtain ⟨p, hp⟩ : ∃ X, X = bestX s.data.toList := ⟨_, rfl⟩
    obtain ⟨a, ha⟩ : ∃ X, X = textX (storX s.data.toList) := ⟨_, rfl⟩
    obtain ⟨b, hbb⟩ : ∃ X, X = textX (fixedX s.data.toList) := ⟨_, rfl⟩
    obtain ⟨c, hc⟩ : ∃ X, X = textX (dynL s.data.toList) := ⟨_, rfl⟩
    rw [← hp] at H1
    simp only [← ha] at H2
    simp only [← hbb] at H3
    simp only [← hc] at H4
    obtain ⟨i1, i2, i3, i4⟩ := best_of5 _ hp ha hbb hc
    have d1 : decide (p.size ≤ a.size) = true := by simpa using i1
    have d2 : decide (p.size ≤ b.size) = true := by simpa using i2
    have d3 : decide (p.size ≤ c.size) = true := by simpa using i3
    have H4C := Lib.hid i4
    clear hp ha hbb hc hG i4
    go_enter Tryd.func9, Tryd.ntmps9
    go_wp2_with fail
    refine HT.out.mono ?_
    rintro e w0 ⟨rfl, rfl⟩
    go_wp2_with fail
    refine H1.out.mono ?_
    rintro e w1 ⟨rfl, hB1⟩
    have HB1 := Lib.hid hB1
    clear hB1
    go_wp2_with fail
    refine (H2.out w1).mono ?_
    rintro e w2 ⟨rfl, hB2⟩
    have HB2 := Lib.hid (HB1.out.trans hB2)
    clear hB2
    go_wp2_with fail
    refine (H3.out w2).mono ?_
    rintro e w3 ⟨rfl, hB3⟩
    have HB3 := Lib.hid (HB2.out.trans hB3)
    clear hB3
    go_wp2_with fail
    refine (H4.out w3 (HG.out.but HB3.out)).mono ?_
    rintro e w4 ⟨rfl, hB4⟩
    have HB4 := Lib.hid (HB3.out.trans hB4)
    clear hB4 HT H1 H2 H3 H4
    by_cases e1 : p.toList = a.toList
    · clear H4C
      go_wp2_with fail
      refine (HA.out w4 (HG.out.but HB4.out)).mono ?_
      rintro e w5 ⟨rfl, hB5⟩
      have HB5 := Lib.hid (HB4.out.trans hB5)
      clear hB5
      go_wp2
      go_ret
      exact ⟨rfl, HB5.out.belowZ⟩

    · by_cases e2 : p.toList = b.toList
      · have e1' : ¬ b.toList = a.toList := by rw [← e2]; exact e1
        clear H4C
        go_wp2_with fail
        refine (HA.out w4 (HG.out.but HB4.out)).mono ?_
        rintro e w5 ⟨rfl, hB5⟩
        have HB5 := Lib.hid (HB4.out.trans hB5)
        clear hB5
        go_wp2
        go_ret
        exact ⟨rfl, HB5.out.belowZ⟩

      · have e3 : p = c := by
          rcases H4C.out with h | h | h
          · exact absurd (by rw [h]) e1
          · exact absurd (by rw [h]) e2
          · exact h
        subst e3
        clear H4C
        go_wp2_with fail
        refine (HA.out w4 (HG.out.but HB4.out)).mono ?_
        rintro e w5 ⟨rfl, hB5⟩
        have HB5 := Lib.hid (HB4.out.trans hB5)
        clear hB5
        go_wp2
        go_ret
        exact ⟨rfl, HB5.out.belowZ⟩

  · have HT := Lib.hid (few_no w hb)
    have HA := Lib.hid (awake5_any w hG)
    clear hG
    go_enter Tryd.func9, Tryd.ntmps9
    go_wp2_with fail
    refine HT.out.mono ?_
    rintro e w0 ⟨rfl, rfl⟩
    go_wp2_with fail
    refine HA.out.mono ?_
    rintro e w3 ⟨rfl, hB3⟩
    have HB3 := Lib.hid hB3
    clear hB3
    go_wp2
    go_ret
    exact ⟨rfl, HB3.out.belowZ⟩
end Go.Proofs.YtjeeiodpdfbgmaaDoor
