/- Several texts in one: EfF, EfH, DgT (what Best reach of them). -/
import Derived.Test.YtjeeiodpdfbgmaaDoorPm01
import Derived.Test.YtjeeiodpdfbgmaaDoorPm02
import Derived.Test.YtjeeiodpdfbgmaaDoorPm03
import Derived.Test.YtjeeiodpdfbgmaaDoorPm04
import Derived.Test.YtjeeiodpdfbgmaaDoorPm05
import Derived.Test.YtjeeiodpdfbgmaaDoorPm06
import Derived.Test.YtjeeiodpdfbgmaaDoorPm08
import Derived.Test.YtjeeiodpdfbgmaaDoorPm09
import Derived.Test.YtjeeiodpdfbgmaaDoorPm10
import Derived.Test.YtjeeiodpdfbgmaaDoorPm11
import Derived.Test.YtjeeiodpdfbgmaaDoorPm12
import Derived.Test.YtjeeiodpdfbgmaaDoorPm14
import Derived.Test.YtjeeiodpdfbgmaaDoorPm16
import Derived.Test.YtjeeiodpdfbgmaaDoorPm18
import Derived.Test.YtjeeiodpdfbgmaaDoorPm19
import Derived.Test.YtjeeiodpdfbgmaaDoorPm22
import Derived.Test.YtjeeiodpdfbgmaaDoorPm24
import Derived.Test.YtjeeiodpdfbgmaaDoorPm28
import Derived.Test.YtjeeiodpdfbgmaaDoorPm29
import Derived.Test.YtjeeiodpdfbgmaaDoorPm30
import Derived.Below
import Derived.BigQuiet
import Derived.BigRegion
import Derived.Deep.AppendLies
import Derived.Deep.CutBlock
import Derived.Deep.CutRange
import Derived.Deep.DeepCutAuto
import Derived.Deep.Draws
import Derived.Deep.LoopGhost
import Derived.Deep.QuietTactic
import Derived.Deep.RegionLaw
import Derived.Deep.RegionWith
import Derived.Deep.Slices
import Derived.Handy
import Derived.Laws.BitsAllLaws
import Derived.Laws.BitsLemmas
import Derived.Laws.CopyOwn
import Derived.Laws.IdiomStrings
import Derived.Laws.OwnMore
import Derived.Laws.Rows
import Derived.Laws.Strings2
import Derived.Laws.Strings3
import Derived.Laws.StructEq
import Derived.Lib.AppendStr
import Derived.Lib.AppendZeros
import Derived.Lib.Hide
import Derived.Lib.Strings
import Derived.LoopIn
import Derived.LoopNIn
import Derived.OneCell
import Derived.OpenShut
import Derived.Outline
import Derived.OwnWalk
import Derived.OwnWalkIn
import Derived.ProofKit
import Derived.RangeFuncBound
import Derived.RangeFuncCalls
import Derived.RangeFuncLeaves
import Derived.RangeFuncNested
import Derived.RegionTactic
import Derived.ScopeJumps
import Derived.Shelf.Abstract
import Derived.Shelf.RegionOpen
import Derived.Shelf.SlSortCmp.QuietGrown
import Derived.StillTailTactics
import Derived.TacticsInMore
import Derived.Test.YtjeeiodpdfbgmaaDoorChecked
import Derived.WalkKit
import Derived.WalkLawsBesides
import Derived.WalkMore
import Derived.WalkSpells
set_option maxRecDepth 100000
set_option linter.unusedVariables false
set_option maxRecDepth 100000
set_option linter.unusedVariables false
namespace Go.Proofs.YtjeeiodpdfbgmaaDoor
set_option maxRecDepth 100000
open Go Go.RowKit
theorem stor_text {s : ByteArray} (h : s.size ≤ 65535) {q : Nat × Nat} (hq : q = layB (layB (0, 0) 1 1) 0 2) :
    (bytesX q.1 q.2 (⟨(headY s.size).toArray⟩ ++ s), bytesN q.2 (⟨(headY s.size).toArray⟩ ++ s)) = storX s.data.toList := by
  have hl := len_data s
  rw [storX_one (by omega)]
  unfold layZ
  rw [hl, ← hq]
  have e : (⟨(headY s.size).toArray⟩ : ByteArray) ++ s = ⟨(headY s.size ++ s.data.toList).toArray⟩ := by
    apply ByteArray.ext
    simp
  rw [e]
  rfl
attribute [local irreducible] layB layY storX textX headY
set_option maxHeartbeats 1000000 in
theorem estored_any (w : World) {s : ByteArray} (hs : s.size ≤ 10000) :
    Calls Tryd.prog 14 #[.string s] w fun e w' => e = .returned (.string (textX (storX s.data.toList))) ∧ But [] w w' := by
  obtain ⟨q1, hq1, hl1⟩ : ∃ q, q = layB (0, 0) 1 1 ∧ q.2 ≤ 0 + 1 := ⟨_, rfl, fewB (by omega) (by omega) (Nat.le_refl _)⟩
  obtain ⟨q2, hq2, hl2⟩ : ∃ q, q = layB q1 0 2 ∧ q.2 ≤ 0 + 1 + 2 := ⟨_, rfl, fewB (by omega) (by omega) hl1⟩
  have HQ1 := Lib.hid hq1
  have HQ2 := Lib.hid hq2
  clear hq1 hq2
  have hW0 := WroteF.refl (fwnew w)
  have HW0 := Lib.hid hW0
  have HB0 : Hid (But [] w (w.alloc (.cells #[.slice none 0 0, .int .i64 0] 49))) := Lib.hid ((But.refl [] w).alloc _)
  have hsa : (w.alloc (.cells #[.slice none 0 0, .int .i64 0] 49)).heap.size = w.heap.size + 1 := by simp
  have HSA := Lib.hid hsa
  clear hsa hW0
  go_enter Tryd.func14, Tryd.ntmps14
  go_wp2
  go_loopw [0] (fun sv wr => sv = .string s ∧ wr = w.alloc (.cells #[.slice none 0 0, .int .i64 0] 49)) (fun _ _ => 0)
  case atStart => exact ⟨rfl, rfl⟩
  case round =>
    obtain ⟨rfl, rfl⟩ := hrel
    have hmin : min (s.size : Int) 65535 = (s.size : Nat) := by omega
    obtain ⟨r1, hr1⟩ : ∃ m : Nat, m = s.size % 256 := ⟨_, rfl⟩
    obtain ⟨n1, hn1⟩ : ∃ m : Nat, m = s.size / 256 := ⟨_, rfl⟩
    obtain ⟨r2, hr2⟩ : ∃ m : Nat, m = 255 - s.size % 256 := ⟨_, rfl⟩
    obtain ⟨n2, hn2⟩ : ∃ m : Nat, m = 255 - s.size / 256 := ⟨_, rfl⟩
    have b1 : IntKind.u8.wrap (s.size : Int) = (r1 : Int) := by simp [IntKind.wrap_u8]; omega
    have b2 : IntKind.i64.wrap ((s.size : Int) / 256) = (n1 : Int) := by rw [wrapi (by omega) (by omega)]; omega
    have b3 : IntKind.u8.wrap (n1 : Int) = (n1 : Int) := wrapu (by omega) (by omega)
    have b4 : (s.size : Int).tmod 256 = (r1 : Int) := by rw [Int.tmod_eq_emod_of_nonneg (by omega)]; omega
    have b5 : IntKind.i64.wrap (255 - (r1 : Int)) = (r2 : Int) := by rw [wrapi (by omega) (by omega)]; omega
    have b6 : IntKind.u8.wrap (r2 : Int) = (r2 : Int) := wrapu (by omega) (by omega)
    have b7 : IntKind.i64.wrap (255 - (n1 : Int)) = (n2 : Int) := by rw [wrapi (by omega) (by omega)]; omega
    have b8 : IntKind.u8.wrap (n2 : Int) = (n2 : Int) := wrapu (by omega) (by omega)
    have kc := fun W : World => conv_head W hr1 hn1 hr2 hn2 (by omega)
    have hsz : ((⟨(headY s.size).toArray⟩ : ByteArray) ++ s).size ≤ 70368744177664 := by rw [ByteArray.size_append]; show (headY s.size).toArray.size + s.size ≤ _; rw [List.size_toArray, head_len]; omega
    have HSZ := Lib.hid hsz
    clear hsz
    have kd : (9223372036854775807 < (headY s.size).length + s.size) = False := by rw [head_len]; simp; omega
    clear hr1 hn1 hr2 hn2
    go_wp2_with fail
    refine (HW0.out.bits (by rw [HSA.out]; exact Nat.le_refl _) (Nat.zero_le _) 1 1).mono ?_
    rintro e w1 ⟨rfl, hW1⟩
    rw [← HQ1.out] at hW1
    have HW1 := Lib.hid hW1
    clear hW1
    go_wp2_with fail
    refine (HW1.out.bits (by rw [HSA.out]; exact Nat.le_refl _) (by omega) 0 2).mono ?_
    rintro e w2 ⟨rfl, hW2⟩
    rw [← HQ2.out] at hW2
    have HW2 := Lib.hid hW2
    clear hW2
    go_upto_region 8 with (fail)
    go_region_with (first | (go_at_call 29; go_loud (refine (WroteF.bytes (HW2.out.other ((((But.refl [] w2).alloc (.cells #[.int .u8 r1, .int .u8 n1, .int .u8 r2, .int .u8 n2] 5))).drew)) (by rw [HSA.out]; exact Nat.le_refl _) (by omega) _ HSZ.out).mono ?_; rintro e w3 ⟨rfl, hW3⟩; have HW3 := Lib.hid hW3; clear hW3)))
    rw [stor_text (by omega) (by rw [← HQ1.out]; exact HQ2.out)] at HW3
    clear b1 b2 b3 b4 b5 b6 b7 b8 kc kd HW2 HW1
    go_simp
    go_wp2_with fail
    refine HW3.out.text.mono ?_
    rintro e w4 ⟨rfl, rfl⟩
    go_wp2
    go_ret
    exact ⟨rfl, HB0.out.fresh HW3.out.but (fun i hi => by simp at hi; omega)⟩
end Go.Proofs.YtjeeiodpdfbgmaaDoor
set_option maxRecDepth 100000
set_option linter.unusedVariables false
namespace Go.Proofs.YtjeeiodpdfbgmaaDoor
set_option maxRecDepth 100000
open Go Go.RowKit
attribute [local irreducible] layB storX textX fixedX dynL bestX
set_option maxHeartbeats 1000000 in
theorem edeflate_of (w : World) {s : ByteArray} (hs : s.size ≤ 10000)
    (hD : ∀ v : World, Calls Tryd.prog 19 #[.string s] v fun e w' => e = .returned (.string (textX (dynL s.data.toList))) ∧ But [] v w') :
    Calls Tryd.prog 21 #[.string s] w fun e w' => e = .returned (.string (bestX s.data.toList)) ∧ But [] w w' := by
  have hB := best_eq s.data.toList
  obtain ⟨a, ha⟩ : ∃ a, a = textX (storX s.data.toList) := ⟨_, rfl⟩
  obtain ⟨b, hb⟩ : ∃ a, a = textX (fixedX s.data.toList) := ⟨_, rfl⟩
  obtain ⟨c, hc⟩ : ∃ a, a = textX (dynL s.data.toList) := ⟨_, rfl⟩
  have hS := estored_any w hs
  have hF := fun v => efixed_any v hs
  rw [← ha] at hS hB
  rw [← hb] at hB
  simp only [← hb] at hF
  simp only [← hc] at hD hB
  have HS := Lib.hid hS
  have HF := Lib.hid hF
  have HD := Lib.hid hD
  have HB := Lib.hid hB
  clear hS hF hD hB ha hb hc
  go_enter Tryd.func21, Tryd.ntmps21
  go_wp2_with fail
  refine HS.out.mono ?_
  rintro e w1 ⟨rfl, hB1⟩
  have HB1 := Lib.hid hB1
  clear hB1
  go_wp2_with fail
  refine (HF.out w1).mono ?_
  rintro e w2 ⟨rfl, hB2⟩
  have HB2 := Lib.hid (HB1.out.trans hB2)
  clear hB2
  by_cases h1 : b.size < a.size
  · have d1 : ((b.size : Int) < (a.size : Int)) = True := by simp; omega
    go_wp2_with fail
    refine (HD.out w2).mono ?_
    rintro e w3 ⟨rfl, hB3⟩
    have HB3 := Lib.hid (HB2.out.trans hB3)
    clear hB3
    by_cases h2 : c.size < b.size
    · go_wp2
      go_ret
      exact ⟨by rw [HB.out, if_pos h1, if_pos h2]; rfl, HB3.out⟩
    · go_wp2
      go_ret
      exact ⟨by rw [HB.out, if_pos h1, if_neg h2]; rfl, HB3.out⟩
  · go_wp2_with fail
    refine (HD.out w2).mono ?_
    rintro e w3 ⟨rfl, hB3⟩
    have HB3 := Lib.hid (HB2.out.trans hB3)
    clear hB3
    by_cases h2 : c.size < a.size
    · go_wp2
      go_ret
      exact ⟨by rw [HB.out, if_neg h1, if_pos h2]; rfl, HB3.out⟩
    · go_wp2
      go_ret
      exact ⟨by rw [HB.out, if_neg h1, if_neg h2]; rfl, HB3.out⟩
end Go.Proofs.YtjeeiodpdfbgmaaDoor
set_option maxRecDepth 100000
set_option linter.unusedVariables false
namespace Go.Proofs.YtjeeiodpdfbgmaaDoor
set_option maxRecDepth 100000
open Go Go.RowKit
attribute [local irreducible] textX storX fixedX bestX dynL runs
set_option maxHeartbeats 1000000 in
theorem deflateBest_walk {s : ByteArray} {w : World} (hs : s.size ≤ 140737488351232) (hG : GD w) :
    Calls Tryd.prog 7 #[.string s] w fun e w' => e = .returned (.bool true) ∧ Below w.heap.size w w' := by
  by_cases hb : s.size ≤ 10000
  · have HT := Lib.hid (few_yes w hb)
    have HP := Lib.hid (pdeflate_any w hG (s := s) hb)
    have HR := Lib.hid (fun v : World => edeflate_of v (s := s) hb (fun v => edynamic_any v hb))
    have HA := Lib.hid (fun (v : World) (h : GD v) => awake5_any v h)
    have HG := Lib.hid hG
    obtain ⟨X, hX⟩ : ∃ X, X = bestX s.data.toList := ⟨_, rfl⟩
    rw [← hX] at HP
    simp only [← hX] at HR
    clear hX hG
    go_enter Tryd.func7, Tryd.ntmps7
    go_wp2_with fail
    refine HT.out.mono ?_
    rintro e w0 ⟨rfl, rfl⟩
    go_wp2_with fail
    refine HP.out.mono ?_
    rintro e w1 ⟨rfl, hB1⟩
    have HB1 := Lib.hid hB1
    clear hB1
    go_wp2_with fail
    refine (HR.out w1).mono ?_
    rintro e w2 ⟨rfl, hB2⟩
    have HB2 := Lib.hid (HB1.out.trans hB2)
    clear hB2
    go_wp2_with fail
    refine (HA.out w2 (HG.out.but HB2.out)).mono ?_
    rintro e w3 ⟨rfl, hB3⟩
    have HB3 := Lib.hid (HB2.out.trans hB3)
    clear hB3
    go_wp2
    go_ret
    exact ⟨rfl, HB3.out.belowZ⟩
  · have HT := Lib.hid (few_no w hb)
    have HA := Lib.hid (awake5_any w hG)
    clear hG
    go_enter Tryd.func7, Tryd.ntmps7
    go_wp2_with fail
    refine HT.out.mono ?_
    rintro e w0 ⟨rfl, rfl⟩
    go_wp2_with fail
    refine HA.out.mono ?_
    rintro e w3 ⟨rfl, hB3⟩
    have HB3 := Lib.hid hB3
    clear hB3
    go_wp2
    go_ret
    exact ⟨rfl, HB3.out.belowZ⟩
end Go.Proofs.YtjeeiodpdfbgmaaDoor
