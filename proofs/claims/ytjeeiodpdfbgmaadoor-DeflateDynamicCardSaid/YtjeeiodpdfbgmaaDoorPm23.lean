/- Several texts in one: EfB (what Best, Dynamic, Runs reach of them). -/
import Derived.Test.YtjeeiodpdfbgmaaDoorPm01
import Derived.Test.YtjeeiodpdfbgmaaDoorPm02
import Derived.Test.YtjeeiodpdfbgmaaDoorPm03
import Derived.Test.YtjeeiodpdfbgmaaDoorPm04
import Derived.Test.YtjeeiodpdfbgmaaDoorPm05
import Derived.Test.YtjeeiodpdfbgmaaDoorPm06
import Derived.Test.YtjeeiodpdfbgmaaDoorPm08
import Derived.Test.YtjeeiodpdfbgmaaDoorPm09
import Derived.Test.YtjeeiodpdfbgmaaDoorPm10
import Derived.Below
import Derived.BigQuiet
import Derived.BigRegion
import Derived.Deep.AppendLies
import Derived.Deep.CutRange
import Derived.Deep.DeepCutAuto
import Derived.Deep.Draws
import Derived.Deep.LoopGhost
import Derived.Deep.QuietTactic
import Derived.Deep.RegionLaw
import Derived.Deep.RegionWith
import Derived.Deep.Slices
import Derived.Laws.BitsAllLaws
import Derived.Laws.BitsLemmas
import Derived.Laws.CopyOwn
import Derived.Laws.IdiomStrings
import Derived.Laws.OwnMore
import Derived.Laws.Rows
import Derived.Lib.AppendStr
import Derived.Lib.Hide
import Derived.Lib.Strings
import Derived.LoopIn
import Derived.LoopNIn
import Derived.OneCell
import Derived.OpenShut
import Derived.Outline
import Derived.OwnWalk
import Derived.OwnWalkIn
import Derived.ProofKit
import Derived.RangeFuncBound
import Derived.RangeFuncCalls
import Derived.RangeFuncLeaves
import Derived.RangeFuncNested
import Derived.RegionTactic
import Derived.Shelf.Abstract
import Derived.Shelf.RegionOpen
import Derived.Shelf.SlSortCmp.QuietGrown
import Derived.StillTailTactics
import Derived.TacticsInMore
import Derived.Test.YtjeeiodpdfbgmaaDoorChecked
import Derived.WalkKit
import Derived.WalkLawsBesides
import Derived.WalkSpells
set_option maxRecDepth 100000
set_option linter.unusedVariables false
set_option maxRecDepth 100000
set_option linter.unusedVariables false
namespace Go.Proofs.YtjeeiodpdfbgmaaDoor
set_option maxRecDepth 100000
open Go Go.RowKit
theorem info_run : (Tryd.prog.info? 30).map (fun i => (i.zero, i.size, i.bytes)) = some (some (.agg #[.int .i64 0, .int .i64 0]), 2, 16) := by kernel_rfl
/-- Runs, in a slice of the call's own. -/
def GotQ (w : World) (L : List (Int × Nat)) (e : Ending) (w' : World) : Prop := ∃ v, e = .returned v ∧ OwnQ w' w.heap.size v L ∧ But [] w w'

section
variable {w : World}
set_option maxHeartbeats 2000000 in
theorem eruns_any {A : Option Addr} {n c : Nat} {l : List Int} (hl : Ints w A n l) (hn : n ≤ 1000) :
    Calls Tryd.prog 12 #[.slice A n c] w (GotQ w (runs l)) := by
  obtain ⟨i0, hi0, hz0, hz1, hz2⟩ := info_parts info_run
  have HI := Lib.hid hl
  have HLN := Lib.hid hl.1
  clear hl
  go_enter Tryd.func12, Tryd.ntmps12
  go_wp2
  go_loopw [3, 4] (fun ov iv wr => ∃ (i : Nat) (L : List (Int × Nat)), i ≤ n ∧ iv = .int .i64 i ∧ L.length ≤ i ∧ Hid (L ++ runsG l (l.length - i) i = runs l) ∧ Hid (OwnQ wr w.heap.size ov L) ∧ Hid (But [] w wr)) (fun _ iv _ => n - (intOf iv).toNat)
  case atStart => exact ⟨0, [], Nat.zero_le _, rfl, Nat.le_refl _, Lib.hid rfl, Lib.hid (OwnQ.nil _ _), Lib.hid (But.refl _ _)⟩
  case round =>
    obtain ⟨i, L, hin, rfl, hL, HR, HO, HB⟩ := hrel
    obtain ⟨wo, rfl⟩ : ∃ wo : World, wo = wr := ⟨_, rfl⟩
    by_cases hlt : i < n
    · obtain ⟨g, o, rfl, hg, hcell⟩ := HI.out.at hlt
      have hil : i < l.length := by have := HLN.out; omega
      have ex : l[i]'hil = l.getD i 0 := by rw [List.getD_eq_getElem?_getD, List.getElem?_eq_getElem hil]; rfl
      have hcell2 := HB.out.cell hcell (by simp)
      rw [ex] at hcell2
      have HST := Lib.hid (runs_step hil)
      have hrn := runN_in hil
      rw [HLN.out] at hrn
      have HRI := Lib.hid (runAt_in hil)
      obtain ⟨x, hx⟩ : ∃ x, x = l.getD i 0 := ⟨_, rfl⟩
      rw [← hx] at hcell2
      have HX := Lib.hid hx
      have k0 : (0 : Int) ≤ (i : Int) := by omega
      have k1 : (i : Int) < (n : Int) := by omega
      clear ex hx hcell
      obtain ⟨R, hR⟩ : ∃ R, R = runN l i := ⟨_, rfl⟩
      rw [← hR] at hrn
      have HRR := Lib.hid hR
      clear hR
      go_wp2
      go_loopw [5] (fun nv wr => ∃ (k q : Nat), 1 ≤ k ∧ i + k ≤ n ∧ nv = .int .i64 k ∧ Hid (eqRun l i (n + 1 - k) k = R) ∧ wr = wo.drewN q) (fun nv _ => 2000 - (intOf nv).toNat)
      case atStart => exact ⟨1, 0, Nat.le_refl _, by omega, rfl, Lib.hid (by rw [HRR.out, Nat.add_sub_cancel]; unfold runN; rw [HLN.out]), rfl⟩
      case round =>
        obtain ⟨k, q, hk1, hkn, rfl, HE, rfl⟩ := hrel
        by_cases hmore : i + k < n ∧ l.getD (i + k) 0 = l.getD i 0
        · obtain ⟨hm1, hm2⟩ := hmore
          obtain ⟨z, hz⟩ : ∃ z, z = i + k := ⟨_, rfl⟩
          obtain ⟨g2, o2, e2, _, hcz⟩ := HI.out.at (i := z) (by omega)
          injection e2 with e2
          injection e2 with e3 e4
          subst e3 e4
          have hzl : z < l.length := by have := HLN.out; omega
          have ez : l[z]'hzl = x := by
            rw [HX.out, ← hm2, ← hz, List.getD_eq_getElem?_getD, List.getElem?_eq_getElem hzl]; rfl
          rw [ez] at hcz
          have hcz2 := HB.out.cell hcz (by simp)
          have es : (i : Int) + (k : Int) = (z : Int) := by omega
          have wz : IntKind.i64.wrap (z : Int) = (z : Int) := IntWalk.i64_in _ (by omega)
          have dz : decide ((z : Int) < (n : Int)) = true := by simp; omega
          have dz2 : decide (z < n) = true := by simp; omega
          have dx : (x == x) = true := by simp
          have z0 : (0 : Int) ≤ (z : Int) := by omega
          have z1 : (z : Int) < (n : Int) := by omega
          have HN := Lib.hid (show eqRun l i (n + 1 - (k + 1)) (k + 1) = R by
            rw [← HE.out, show n + 1 - k = (n + 1 - (k + 1)) + 1 from by omega, eqRun, if_pos ⟨by rw [HLN.out]; exact hm1, hm2⟩])
          have hkn2 : i + (k + 1) ≤ n := by omega
          clear hcz ez hz hm1 hm2 hkn
          go_wp2
          go_quiet (fail)
          go_wp2
          go_roundw
          case rel => exact ⟨k + 1, q + nq, by omega, hkn2, by go_num, HN, by trivial⟩
          case measure => simp [intOf]; omega
        · have HKR := Lib.hid (show k = R by
            rw [← HE.out]
            by_cases h0 : n + 1 - k = 0
            · rw [h0]; rfl
            · rw [show n + 1 - k = (n + 1 - k - 1) + 1 from by omega, eqRun, if_neg (fun h => hmore ⟨by have := HLN.out; omega, h.2⟩)])
          go_upto_region 5 with (fail)
          go_cut [28] from 10 to 28 (fun v wx => v = .bool false ∧ ∃ q2, wx = wo.drewN q2)
          case first =>
            obtain ⟨z, hz⟩ : ∃ z, z = i + k := ⟨_, rfl⟩
            have es : (i : Int) + (k : Int) = (z : Int) := by omega
            have wz : IntKind.i64.wrap (z : Int) = (z : Int) := IntWalk.i64_in _ (by omega)
            by_cases hzn : z < n
            · obtain ⟨g2, o2, e2, _, hcz⟩ := HI.out.at (i := z) hzn
              injection e2 with e2
              injection e2 with e3 e4
              subst e3 e4
              have hzl : z < l.length := by have := HLN.out; omega
              obtain ⟨y, hy⟩ : ∃ y, y = l[z]'hzl := ⟨_, rfl⟩
              rw [← hy] at hcz
              have hcz2 := HB.out.cell hcz (by simp)
              have hyx : ¬ y = x := fun h => hmore ⟨by omega, by
                rw [← hz, ← HX.out, ← h, hy, List.getD_eq_getElem?_getD, List.getElem?_eq_getElem hzl]; rfl⟩
              have dyx : (y == x) = false := by simpa using hyx
              have dz : decide ((z : Int) < (n : Int)) = true := by simp; omega
              have dz2 : decide (z < n) = true := by simp; omega
              have z0 : (0 : Int) ≤ (z : Int) := by omega
              have z1 : (z : Int) < (n : Int) := by omega
              clear hcz hz hmore hy hyx
              go_quiet (fail)
              go_wp2
              go_meet
              exact ⟨rfl, q + nq, by first | rfl | exact wo.drewN_drewN q nq⟩
            · have dz : decide ((z : Int) < (n : Int)) = false := by simp; omega
              have dz2 : decide (z < n) = false := by simp; omega
              clear hz hmore
              go_quiet (fail)
              go_wp2
              go_meet
              exact ⟨rfl, q + nq, by first | rfl | exact wo.drewN_drewN q nq⟩
          case rest =>
          obtain ⟨rfl, q2, hw⟩ := hcut
          subst hw
          have hkR := HKR.out
          obtain rfl : k = R := hkR
          clear hmore HKR HE
          have HBW := Lib.hid (HB.out.drewN q2)
          have HOW := Lib.hid (HO.out.but ((But.refl [] wo).drewN q2))
          obtain ⟨ww, hww⟩ : ∃ ww, ww = wo.drewN q2 := ⟨_, rfl⟩
          have hc2 : ww.cell? ⟨g, o + i, none⟩ = some (.int .i64 x) := by rw [hww]; exact hcell2
          have hpre : ∀ j, j < n → ww.cell? ⟨g, o + j, none⟩ = some (.int .i64 (l.getD j 0)) := fun j hj => by
            obtain ⟨g2, o2, e2, _, hcz⟩ := HI.out.at (i := j) hj
            injection e2 with e2
            injection e2 with e3 e4
            subst e3 e4
            have hjl : j < l.length := by have := HLN.out; omega
            rw [hww, List.getD_eq_getElem?_getD, List.getElem?_eq_getElem hjl]
            exact HB.out.cell hcz (by simp)
          have HPRE := Lib.hid hpre
          rw [← hww] at HBW HOW ⊢
          have hszw := HBW.out.size
          clear hww hpre hcell2 HO HB
          by_cases hx0 : x = 0
          · have dx0 : (x == 0) = true := by simp [hx0]
            by_cases h11 : 11 ≤ k
            · have d11 : decide ((11 : Int) ≤ (k : Int)) = true := by simp; omega
              obtain ⟨m, hm⟩ : ∃ m, m = min k 138 := ⟨_, rfl⟩
              have hm1 : 11 ≤ m ∧ m ≤ 138 ∧ m ≤ k := by omega
              have HRA := Lib.hid (show runAt l i = ((18 : Int), m - 11, m) by
                unfold runAt; rw [← HRR.out, if_pos ⟨by rw [← HX.out]; exact hx0, h11⟩, hm])
              obtain ⟨y, hy⟩ : ∃ y, y = m - 11 := ⟨_, rfl⟩
              have ey : (m : Int) - 11 = (y : Int) := by omega
              rw [← hy] at HRA
              have HM := Lib.hid hm
              clear hm hy
              go_upto_region 10 with (fail)
              go_cut [5] from 49 to 50 (fun v wx => v = .int .i64 (m : Nat) ∧ ww = wx)
              case first =>
                rcases Nat.lt_or_ge 138 k with h5 | h5
                · have e : m = 138 := by have := HM.out; omega
                  subst e
                  go_wp2
                  all_goals (go_meet; exact ⟨rfl, rfl⟩)
                · have e : m = k := by have := HM.out; omega
                  subst e
                  go_wp2
                  all_goals (go_meet; exact ⟨rfl, rfl⟩)
              case rest =>
              obtain ⟨rfl, rfl⟩ := hcut
              go_wp2_with (at_builtin; refine wpList_append_own _ rfl _ _ 26 rfl w.heap.size 30 i0 (.agg #[.int .i64 0, .int .i64 0]) 2 16 Tryd.underlying26 hi0 hz0 hz1 hz2 rfl (by decide) _ L.length (qCells L) rfl (World.ownsRow.alloc HOW.out _) ⟨ww.heap.size, 0, none⟩ 1 1 [.int .i64 18, .int .i64 (y : Nat)] rfl rfl ?a1 ?a2 ?a3 ?a4 ?a5 ?_)
              case a1 => exact World.news_of_block (cs := #[.int .i64 18, .int .i64 (y : Nat)]) (t := 30) (fr := (0, 0)) (heap_alloc_new ww _)
              case a2 => simp [Value.oneCell']
              case a3 => unfold maxLen; omega
              case a4 => omega
              case a5 => simp; omega
              intro v' w2 hown2 hgrow2 _
              have HP := Lib.hid (OwnQ.pushed (x := ((18 : Int), y)) HBW.out HOW.out hown2 hgrow2)
              clear hown2 hgrow2
              go_wp2
              go_roundw
              case rel => exact ⟨i + m, L ++ [((18 : Int), y)], by omega, by go_num, by rw [List.length_append, List.length_singleton]; omega, Lib.hid (by rw [← HR.out, HST.out, HRA.out, List.append_assoc]; rfl), Lib.hid HP.out.1, Lib.hid HP.out.2⟩
              case measure => simp [intOf]; omega
            · have d11 : decide ((11 : Int) ≤ (k : Int)) = false := by simp; omega
              by_cases h3 : 3 ≤ k
              · have d3 : decide ((3 : Int) ≤ (k : Int)) = true := by simp; omega
                have HRA := Lib.hid (show runAt l i = ((17 : Int), k - 3, k) by
                  unfold runAt; rw [← HRR.out, if_neg (fun h => h11 h.2), if_pos ⟨by rw [← HX.out]; exact hx0, h3⟩])
                obtain ⟨y, hy⟩ : ∃ y, y = k - 3 := ⟨_, rfl⟩
                have ey : (k : Int) - 3 = (y : Int) := by omega
                rw [← hy] at HRA
                clear hy
                go_wp2_with (at_builtin; refine wpList_append_own _ rfl _ _ 26 rfl w.heap.size 30 i0 (.agg #[.int .i64 0, .int .i64 0]) 2 16 Tryd.underlying26 hi0 hz0 hz1 hz2 rfl (by decide) _ L.length (qCells L) rfl (World.ownsRow.alloc HOW.out _) ⟨ww.heap.size, 0, none⟩ 1 1 [.int .i64 17, .int .i64 (y : Nat)] rfl rfl ?b1 ?b2 ?b3 ?b4 ?b5 ?_)
                case b1 => exact World.news_of_block (cs := #[.int .i64 17, .int .i64 (y : Nat)]) (t := 30) (fr := (0, 0)) (heap_alloc_new ww _)
                case b2 => simp [Value.oneCell']
                case b3 => unfold maxLen; omega
                case b4 => omega
                case b5 => simp; omega
                intro v' w2 hown2 hgrow2 _
                have HP := Lib.hid (OwnQ.pushed (x := ((17 : Int), y)) HBW.out HOW.out hown2 hgrow2)
                clear hown2 hgrow2
                go_wp2
                go_roundw
                case rel => exact ⟨i + k, L ++ [((17 : Int), y)], by omega, by go_num, by rw [List.length_append, List.length_singleton]; omega, Lib.hid (by rw [← HR.out, HST.out, HRA.out, List.append_assoc]; rfl), Lib.hid HP.out.1, Lib.hid HP.out.2⟩
                case measure => simp [intOf]; omega
              · have d3 : decide ((3 : Int) ≤ (k : Int)) = false := by simp; omega
                have dn0 : (x != 0) = false := by simp [hx0]
                have HRA := Lib.hid (show runAt l i = (x, 0, 1) by
                  unfold runAt; rw [← HRR.out, if_neg (fun h => h11 h.2), if_neg (fun h => h3 h.2), if_neg (fun h => h.1 (by rw [← HX.out]; exact hx0)), ← HX.out])
                clear hx0
                go_upto_region 14 with (fail)
                go_cut [73] from 74 to 98 (fun v wx => v = .bool false ∧ ∃ q3, wx = ww.drewN q3)
                case first =>
                  go_quiet (fail)
                  go_wp2
                  go_meet
                  exact ⟨rfl, nq, rfl⟩
                case rest =>
                obtain ⟨rfl, q3, hw3⟩ := hcut
                obtain ⟨ww2, rfl⟩ : ∃ ww2 : World, ww2 = wc := ⟨_, rfl⟩
                have HBX : Hid (But [] w ww2) := Lib.hid (by rw [hw3]; exact HBW.out.drewN q3)
                have HOX := Lib.hid (HOW.out.but (w' := ww2) (by rw [hw3]; exact (But.refl [] ww).drewN q3))
                have hc3 : ww2.cell? ⟨g, o + i, none⟩ = some (.int .i64 x) := by rw [hw3]; exact hc2
                have hszx := HBX.out.size
                clear hw3 hc2
                go_wp2_with (at_builtin; refine wpList_append_own _ rfl _ _ 26 rfl w.heap.size 30 i0 (.agg #[.int .i64 0, .int .i64 0]) 2 16 Tryd.underlying26 hi0 hz0 hz1 hz2 rfl (by decide) _ L.length (qCells L) rfl (World.ownsRow.alloc HOX.out _) ⟨ww2.heap.size, 0, none⟩ 1 1 [.int .i64 x, .int .i64 0] rfl rfl ?c1 ?c2 ?c3 ?c4 ?c5 ?_)
                case c1 => exact World.news_of_block (cs := #[.int .i64 x, .int .i64 0]) (t := 30) (fr := (0, 0)) (heap_alloc_new ww2 _)
                case c2 => simp [Value.oneCell']
                case c3 => unfold maxLen; omega
                case c4 => omega
                case c5 => simp; omega
                intro v' w2 hown2 hgrow2 _
                have HP := Lib.hid (OwnQ.pushed (x := ((x : Int), 0)) HBX.out HOX.out hown2 hgrow2)
                clear hown2 hgrow2
                go_wp2
                go_roundw
                case rel => exact ⟨i + 1, L ++ [((x : Int), 0)], by omega, by go_num, by rw [List.length_append, List.length_singleton]; omega, Lib.hid (by rw [← HR.out, HST.out, HRA.out, List.append_assoc]; rfl), Lib.hid HP.out.1, Lib.hid HP.out.2⟩
                case measure => simp [intOf]; omega
          · have dx0 : (x == 0) = false := by simpa using hx0
            have dn0 : (x != 0) = true := by simpa using hx0
            have bi : IntKind.i64.wrap ((i : Int) - 1) = (i : Int) - 1 := IntWalk.i64_in _ (by omega)
            by_cases h16 : 0 < i ∧ l.getD (i - 1) 0 = x ∧ 3 ≤ k
            · obtain ⟨hi0', hpx, h3⟩ := h16
              have hp := HPRE.out (i - 1) (by omega)
              rw [hpx] at hp
              have d0 : decide ((0 : Int) < (i : Int)) = true := by simp; omega
              have d0' : decide (0 < i) = true := by simp; omega
              obtain ⟨j, hj⟩ : ∃ j, j = i - 1 := ⟨_, rfl⟩
              rw [← hj] at hp hpx
              have ej : (i : Int) - 1 = (j : Int) := by omega
              have wj : IntKind.i64.wrap (j : Int) = (j : Int) := IntWalk.i64_in _ (by omega)
              have j0 : (0 : Int) ≤ (j : Int) := by omega
              have j1 : (j : Int) < (n : Int) := by omega
              have dxx : (x == x) = true := by simp
              have d3 : decide ((3 : Int) ≤ (k : Int)) = true := by simp; omega
              obtain ⟨m, hm⟩ : ∃ m, m = min k 6 := ⟨_, rfl⟩
              have hm1 : 3 ≤ m ∧ m ≤ 6 ∧ m ≤ k := by omega
              have HRA := Lib.hid (show runAt l i = ((16 : Int), m - 3, m) by
                unfold runAt
                rw [← HRR.out, if_neg (fun h => hx0 (by rw [HX.out]; exact h.1)), if_neg (fun h => hx0 (by rw [HX.out]; exact h.1)), if_pos ⟨fun h => hx0 (by rw [HX.out]; exact h), hi0', by rw [← HX.out, ← hj]; exact hpx, h3⟩, hm])
              obtain ⟨y, hy⟩ : ∃ y, y = m - 3 := ⟨_, rfl⟩
              have ey : (m : Int) - 3 = (y : Int) := by omega
              rw [← hy] at HRA
              have HM := Lib.hid hm
              clear hm hy hj hpx bi
              go_upto_region 14 with (fail)
              go_cut [73] from 74 to 98 (fun v wx => v = .bool true ∧ ∃ q3, wx = ww.drewN q3)
              case first =>
                go_quiet (fail)
                go_wp2
                go_meet
                exact ⟨rfl, nq, rfl⟩
              case rest =>
              obtain ⟨rfl, q3, hw3⟩ := hcut
              obtain ⟨ww2, rfl⟩ : ∃ ww2 : World, ww2 = wc := ⟨_, rfl⟩
              have HBX : Hid (But [] w ww2) := Lib.hid (by rw [hw3]; exact HBW.out.drewN q3)
              have HOX := Lib.hid (HOW.out.but (w' := ww2) (by rw [hw3]; exact (But.refl [] ww).drewN q3))
              have hszx := HBX.out.size
              clear hw3 hc2 hp
              go_upto_region 15 with (fail)
              go_cut [5] from 99 to 100 (fun v wx => v = .int .i64 (m : Nat) ∧ ww2 = wx)
              case first =>
                rcases Nat.lt_or_ge 6 k with h5 | h5
                · have e : m = 6 := by have := HM.out; omega
                  subst e
                  go_wp2
                  all_goals (go_meet; exact ⟨rfl, rfl⟩)
                · have e : m = k := by have := HM.out; omega
                  subst e
                  go_wp2
                  all_goals (go_meet; exact ⟨rfl, rfl⟩)
              case rest =>
              obtain ⟨rfl, rfl⟩ := hcut
              go_wp2_with (at_builtin; refine wpList_append_own _ rfl _ _ 26 rfl w.heap.size 30 i0 (.agg #[.int .i64 0, .int .i64 0]) 2 16 Tryd.underlying26 hi0 hz0 hz1 hz2 rfl (by decide) _ L.length (qCells L) rfl (World.ownsRow.alloc HOX.out _) ⟨ww2.heap.size, 0, none⟩ 1 1 [.int .i64 16, .int .i64 (y : Nat)] rfl rfl ?d1 ?d2 ?d3 ?d4 ?d5 ?_)
              case d1 => exact World.news_of_block (cs := #[.int .i64 16, .int .i64 (y : Nat)]) (t := 30) (fr := (0, 0)) (heap_alloc_new ww2 _)
              case d2 => simp [Value.oneCell']
              case d3 => unfold maxLen; omega
              case d4 => omega
              case d5 => simp; omega
              intro v' w2 hown2 hgrow2 _
              have HP := Lib.hid (OwnQ.pushed (x := ((16 : Int), y)) HBX.out HOX.out hown2 hgrow2)
              clear hown2 hgrow2
              go_wp2
              go_roundw
              case rel => exact ⟨i + m, L ++ [((16 : Int), y)], by omega, by go_num, by rw [List.length_append, List.length_singleton]; omega, Lib.hid (by rw [← HR.out, HST.out, HRA.out, List.append_assoc]; rfl), Lib.hid HP.out.1, Lib.hid HP.out.2⟩
              case measure => simp [intOf]; omega
            · have HRA := Lib.hid (show runAt l i = (x, 0, 1) by
                unfold runAt
                rw [← HRR.out, if_neg (fun h => hx0 (by rw [HX.out]; exact h.1)), if_neg (fun h => hx0 (by rw [HX.out]; exact h.1)), if_neg (fun h => h16 ⟨h.2.1, by rw [h.2.2.1, ← HX.out], h.2.2.2⟩), ← HX.out])
              go_upto_region 14 with (fail)
              go_cut [73] from 74 to 98 (fun v wx => v = .bool false ∧ ∃ q3, wx = ww.drewN q3)
              case first =>
                by_cases hip : 0 < i
                · have d0 : decide ((0 : Int) < (i : Int)) = true := by simp; omega
                  have d0' : decide (0 < i) = true := by simp; omega
                  have hp := HPRE.out (i - 1) (by omega)
                  obtain ⟨j, hj⟩ : ∃ j, j = i - 1 := ⟨_, rfl⟩
                  rw [← hj] at hp
                  obtain ⟨y, hy⟩ : ∃ y, y = l.getD j 0 := ⟨_, rfl⟩
                  rw [← hy] at hp
                  have ej : (i : Int) - 1 = (j : Int) := by omega
                  have wj : IntKind.i64.wrap (j : Int) = (j : Int) := IntWalk.i64_in _ (by omega)
                  have j0 : (0 : Int) ≤ (j : Int) := by omega
                  have j1 : (j : Int) < (n : Int) := by omega
                  by_cases hyx : y = x
                  · have dyx : (y == x) = true := by simpa using hyx
                    have d3 : decide ((3 : Int) ≤ (k : Int)) = false := decide_eq_false (fun h => h16 ⟨hip, by rw [← hj, ← hy]; exact hyx, by omega⟩)
                    clear hy hj hyx h16 bi
                    go_quiet (fail)
                    go_wp2
                    go_meet
                    exact ⟨rfl, nq, rfl⟩
                  · have dyx : (y == x) = false := by simpa using hyx
                    clear hy hj hyx h16 bi
                    go_quiet (fail)
                    go_wp2
                    go_meet
                    exact ⟨rfl, nq, rfl⟩
                · have d0 : decide ((0 : Int) < (i : Int)) = false := by simp; omega
                  have d0' : decide (0 < i) = false := by simp; omega
                  clear h16 bi
                  go_quiet (fail)
                  go_wp2
                  go_meet
                  exact ⟨rfl, nq, rfl⟩
              case rest =>
              obtain ⟨rfl, q3, hw3⟩ := hcut
              obtain ⟨ww2, rfl⟩ : ∃ ww2 : World, ww2 = wc := ⟨_, rfl⟩
              have HBX : Hid (But [] w ww2) := Lib.hid (by rw [hw3]; exact HBW.out.drewN q3)
              have HOX := Lib.hid (HOW.out.but (w' := ww2) (by rw [hw3]; exact (But.refl [] ww).drewN q3))
              have hc3 : ww2.cell? ⟨g, o + i, none⟩ = some (.int .i64 x) := by rw [hw3]; exact hc2
              have hszx := HBX.out.size
              clear hw3 hc2
              go_wp2_with (at_builtin; refine wpList_append_own _ rfl _ _ 26 rfl w.heap.size 30 i0 (.agg #[.int .i64 0, .int .i64 0]) 2 16 Tryd.underlying26 hi0 hz0 hz1 hz2 rfl (by decide) _ L.length (qCells L) rfl (World.ownsRow.alloc HOX.out _) ⟨ww2.heap.size, 0, none⟩ 1 1 [.int .i64 x, .int .i64 0] rfl rfl ?f1 ?f2 ?f3 ?f4 ?f5 ?_)
              case f1 => exact World.news_of_block (cs := #[.int .i64 x, .int .i64 0]) (t := 30) (fr := (0, 0)) (heap_alloc_new ww2 _)
              case f2 => simp [Value.oneCell']
              case f3 => unfold maxLen; omega
              case f4 => omega
              case f5 => simp; omega
              intro v' w2 hown2 hgrow2 _
              have HP := Lib.hid (OwnQ.pushed (x := ((x : Int), 0)) HBX.out HOX.out hown2 hgrow2)
              clear hown2 hgrow2
              go_wp2
              go_roundw
              case rel => exact ⟨i + 1, L ++ [((x : Int), 0)], by omega, by go_num, by rw [List.length_append, List.length_singleton]; omega, Lib.hid (by rw [← HR.out, HST.out, HRA.out, List.append_assoc]; rfl), Lib.hid HP.out.1, Lib.hid HP.out.2⟩
              case measure => simp [intOf]; omega
    · go_wp2
      go_ret
      refine ⟨_, rfl, ?_, HB.out⟩
      have h := HR.out
      rw [show l.length - i = 0 by have := HLN.out; omega] at h
      have h2 : L ++ [] = runs l := h
      rw [List.append_nil] at h2
      rw [← h2]; exact HO.out
end
end Go.Proofs.YtjeeiodpdfbgmaaDoor
