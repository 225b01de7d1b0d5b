/- Several texts in one: ZlM, ZlC (what Heads reach of them). -/
import Derived.Test.YtghegmbafbpnjaaDoorPm01
import Derived.Test.YtghegmbafbpnjaaDoorPm02
import Derived.Test.YtghegmbafbpnjaaDoorPm03
import Derived.Test.YtghegmbafbpnjaaDoorPm04
import Derived.Test.YtghegmbafbpnjaaDoorPm05
import Derived.Test.YtghegmbafbpnjaaDoorPm06
import Derived.Test.YtghegmbafbpnjaaDoorPm07
import Derived.Test.YtghegmbafbpnjaaDoorPm08
import Derived.Test.YtghegmbafbpnjaaDoorPm09
import Derived.Test.YtghegmbafbpnjaaDoorPm10
import Derived.Test.YtghegmbafbpnjaaDoorPm11
import Derived.Test.YtghegmbafbpnjaaDoorPm12
import Derived.Test.YtghegmbafbpnjaaDoorPm13
import Derived.Test.YtghegmbafbpnjaaDoorPm14
import Derived.Test.YtghegmbafbpnjaaDoorPm15
import Derived.Test.YtghegmbafbpnjaaDoorPm16
import Derived.Test.YtghegmbafbpnjaaDoorPm19
import Derived.Below
import Derived.BigQuiet
import Derived.BigRegion
import Derived.Deep.AppendLies
import Derived.Deep.CutBlock
import Derived.Deep.CutRange
import Derived.Deep.DeepCutAuto
import Derived.Deep.Draws
import Derived.Deep.LoopGhost
import Derived.Deep.QuietTactic
import Derived.Deep.RegionLaw
import Derived.Deep.RegionWith
import Derived.Deep.Slices
import Derived.Handy
import Derived.Laws.BitsAllLaws
import Derived.Laws.BitsLemmas
import Derived.Laws.CopyOwn
import Derived.Laws.IdiomStrings
import Derived.Laws.OwnMore
import Derived.Laws.Rows
import Derived.Laws.Strings2
import Derived.Laws.Strings3
import Derived.Laws.StructEq
import Derived.Lib.AppendStr
import Derived.Lib.AppendZeros
import Derived.Lib.Hide
import Derived.Lib.Strings
import Derived.LoopIn
import Derived.LoopNIn
import Derived.OneCell
import Derived.OpenShut
import Derived.Outline
import Derived.OwnWalk
import Derived.OwnWalkIn
import Derived.ProofKit
import Derived.RangeFuncBound
import Derived.RangeFuncCalls
import Derived.RangeFuncLeaves
import Derived.RangeFuncNested
import Derived.RegionTactic
import Derived.ScopeJumps
import Derived.Shelf.Abstract
import Derived.Shelf.RegionOpen
import Derived.Shelf.SlSortCmp.QuietGrown
import Derived.StillTailTactics
import Derived.TacticsInMore
import Derived.Test.YtghegmbafbpnjaaDoorChecked
import Derived.WalkKit
import Derived.WalkLawsBesides
import Derived.WalkMore
import Derived.WalkSpells
set_option maxRecDepth 100000
set_option linter.unusedVariables false
set_option linter.unusedVariables false
namespace Go.Proofs.YtghegmbafbpnjaaDoor
set_option maxRecDepth 100000
/-- Two bytes alone. -/
theorem unz_head (a b : UInt8) (most : Int) : unzT (strL [a, b]) most = ([], if badHead a.toNat b.toNat then 16 else (inflT (strL []) most).2.2) ∨ (inflT (strL []) most).2.2 = 0 := by
  by_cases h0 : (inflT (strL []) most).2.2 = 0
  · exact Or.inr h0
  · left
    unfold unzT
    rw [strL_list, strL_size]
    have e1 : ([a, b] : List UInt8).drop 2 = [] := rfl
    rw [e1, if_neg (by simp)]
    show (if badHead a.toNat b.toNat then (([], 16) : List UInt8 × Int) else _) = _
    by_cases hb : badHead a.toNat b.toNat
    · rw [if_pos hb, if_pos hb]
    · rw [if_neg hb, if_neg hb, if_pos h0]
end Go.Proofs.YtghegmbafbpnjaaDoor
set_option maxRecDepth 100000
set_option linter.unusedVariables false
namespace Go.Proofs.YtghegmbafbpnjaaDoor
set_option maxRecDepth 100000
open Go Go.RowKit
theorem inf_none9 : (inflT (strL []) 9).2.2 = 3 := by decide +kernel
theorem unz_two (a b : UInt8) : unzT (strL [a, b]) 9 = ([], if badHead a.toNat b.toNat then 16 else 3) := by
  rcases unz_head a b 9 with h | h
  · rw [h, inf_none9]
  · rw [inf_none9] at h; exact absurd h (by decide)
attribute [local irreducible] bestX wrapT unzT strL fourL adSum textX storX fixedX dynL
theorem conv_twoZ (W : World) (a b : UInt8) :
    (convert 27 9 (.slice (some ⟨W.heap.size, 0, none⟩) 2 2)).run Tryd.prog (W.alloc (.cells #[.int .u8 a.toNat, .int .u8 b.toNat] 5)) = .ok (.string (strL [a, b])) (W.alloc (.cells #[.int .u8 a.toNat, .int .u8 b.toNat] 5)) := by
  refine conv_atZ (L := [a, b]) (cap := 2) fun j hj => ?_
  rw [World.cell?_alloc_mark]
  match j, hj with
  | 0, _ => rfl
  | 1, _ => rfl
set_option maxHeartbeats 1000000 in
theorem zlibHeads_walk {x y : Int} {w : World} (hx : (Lit.int .u8 x).wf = true) (hy : (Lit.int .u8 y).wf = true) (hG : GL w ∧ GD w) :
    Calls Tryd.prog 5 #[.int .u8 x, .int .u8 y] w fun e w' => e = .returned (.bool true) ∧ Below w.heap.size w w' := by
  obtain ⟨hL, hD⟩ := hG
  obtain ⟨a, rfl⟩ := u8_of hx
  obtain ⟨b, rfl⟩ := u8_of hy
  have HB0 := Lib.hid ((But.refl [] w).alloc (.cells #[.int .u8 a.toNat, .int .u8 b.toNat] 5))
  have kc := fun W : World => conv_twoZ W a b
  have h1 := fun v h => punwrap_any v h (s := strL [a, b]) (M := 9) (by rw [strL_size]; simp) (by decide)
  simp only [unz_two, tellU_bad] at h1
  have hA := fun v hl hd => awake6_any v hl hd
  have HA := Lib.hid hA
  have HL := Lib.hid hL
  have HD := Lib.hid hD
  have a1 := a.toNat_lt
  have b1 := b.toNat_lt
  obtain ⟨m, hm⟩ : ∃ m, m = a.toNat := ⟨_, rfl⟩
  obtain ⟨n, hn⟩ : ∃ m, m = b.toNat := ⟨_, rfl⟩
  rw [← hm] at a1
  rw [← hn] at b1
  rw [← hm, ← hn] at HB0
  simp only [← hm, ← hn] at kc h1 ⊢
  clear hm hn hA hL hD hx hy
  obtain ⟨r, hr⟩ : ∃ r : Int, r = if badHead m n then 16 else 3 := ⟨_, rfl⟩
  simp only [← hr] at h1
  have H1 := Lib.hid h1
  have HR := Lib.hid hr
  clear h1 hr
  go_enter Tryd.func5, Tryd.ntmps5
  go_wp2_with fail
  refine (H1.out _ (HL.out.but HB0.out)).mono ?_
  rintro e w1 ⟨rfl, hB⟩
  have HB1 := Lib.hid (HB0.out.trans hB)
  clear hB HB0
  by_cases hb : badHead m n
  · have HE := Lib.hid (HR.out.trans (if_pos hb))
    obtain rfl := HE.out
    go_wp2_with (go_at_call 6; refine (HA.out _ (HL.out.but HB1.out) (HD.out.but HB1.out)).mono ?_; rintro e w2 ⟨rfl, hB⟩; have HB2 := Lib.hid (HB1.out.trans hB); clear hB)
    all_goals
      first
        | (exfalso; unfold badHead at hb; omega)
        | (go_ret; exact ⟨rfl, HB2.out.belowZ⟩)
        | (go_ret; refine ⟨?_, HB2.out.belowZ⟩; have h : ¬ (n : Int) / 32 % 2 = 0 := (by unfold badHead at hb; omega); simp [h])
  · have HE := Lib.hid (HR.out.trans (if_neg hb))
    obtain rfl := HE.out
    go_wp2_with (go_at_call 6; refine (HA.out _ (HL.out.but HB1.out) (HD.out.but HB1.out)).mono ?_; rintro e w2 ⟨rfl, hB⟩; have HB2 := Lib.hid (HB1.out.trans hB); clear hB)
    all_goals
      first
        | (exfalso; unfold badHead at hb; omega)
        | (go_ret; exact ⟨rfl, HB2.out.belowZ⟩)
        | (go_ret; refine ⟨?_, HB2.out.belowZ⟩; have h : ¬ (n : Int) / 32 % 2 = 0 := (by unfold badHead at hb; omega); simp [h])
end Go.Proofs.YtghegmbafbpnjaaDoor
