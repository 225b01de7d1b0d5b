/- Several texts in one: DgG, DgH, LzA, DgA, LzC (what Back, Best, Dynamic, Fixed, Least, Runs, Stored reach of them). -/
import Derived.Test.YtjeeiodpdfbgmaaDoorPm01
import Derived.Test.YtjeeiodpdfbgmaaDoorPm02
import Derived.Test.YtjeeiodpdfbgmaaDoorPm03
import Derived.Test.YtjeeiodpdfbgmaaDoorPm04
import Derived.Test.YtjeeiodpdfbgmaaDoorPm05
import Derived.Test.YtjeeiodpdfbgmaaDoorPm06
import Derived.Test.YtjeeiodpdfbgmaaDoorPm07
import Derived.Test.YtjeeiodpdfbgmaaDoorPm08
import Derived.Test.YtjeeiodpdfbgmaaDoorPm09
import Derived.Test.YtjeeiodpdfbgmaaDoorPm10
import Derived.Below
import Derived.BigQuiet
import Derived.BigRegion
import Derived.Deep.AppendLies
import Derived.Deep.CutRange
import Derived.Deep.DeepCutAuto
import Derived.Deep.Draws
import Derived.Deep.LoopGhost
import Derived.Deep.QuietTactic
import Derived.Deep.RegionLaw
import Derived.Deep.RegionWith
import Derived.Deep.Slices
import Derived.Handy
import Derived.Laws.BitsAllLaws
import Derived.Laws.BitsLemmas
import Derived.Laws.CopyOwn
import Derived.Laws.IdiomStrings
import Derived.Laws.OwnMore
import Derived.Laws.Rows
import Derived.Laws.StructEq
import Derived.Lib.AppendStr
import Derived.Lib.Hide
import Derived.Lib.Strings
import Derived.LoopIn
import Derived.LoopNIn
import Derived.OneCell
import Derived.OpenShut
import Derived.Outline
import Derived.OwnWalk
import Derived.OwnWalkIn
import Derived.ProofKit
import Derived.RangeFuncBound
import Derived.RangeFuncCalls
import Derived.RangeFuncLeaves
import Derived.RangeFuncNested
import Derived.RegionTactic
import Derived.Shelf.Abstract
import Derived.Shelf.RegionOpen
import Derived.Shelf.SlSortCmp.QuietGrown
import Derived.StillTailTactics
import Derived.TacticsInMore
import Derived.Test.YtjeeiodpdfbgmaaDoorChecked
import Derived.WalkKit
import Derived.WalkLawsBesides
import Derived.WalkSpells
set_option maxRecDepth 100000
set_option linter.unusedVariables false
set_option maxRecDepth 100000
set_option linter.unusedVariables false
namespace Go.Proofs.YtjeeiodpdfbgmaaDoor
set_option maxRecDepth 100000
open Go Go.RowKit
theorem Ints.from_ {w : World} {g o n i : Nat} {l : List Int} (h : Ints w (some ⟨g, o, none⟩) n l) (hi : i < n) : Ints w (some ⟨g, o + i, none⟩) (n - i) (l.drop i) := by
  have hl := h.1
  refine ⟨by rw [List.length_drop]; omega, fun hp => ?_⟩
  obtain ⟨g2, o2, e, hg, hc⟩ := h.2 (by omega)
  injection e with e
  injection e with e1 e2
  subst e1 e2
  refine ⟨g, o + i, rfl, hg, fun j hj => ?_⟩
  have hj2 : i + j < l.length := by rw [List.length_drop] at hj; omega
  have := hc (i + j) hj2
  rw [List.getElem_drop, Nat.add_assoc]
  exact this
/-- A run, as a value. -/
def runVal (c : Int) (m k : Nat) : Value := .tuple #[.agg #[.int .i64 c, .int .i64 (m : Nat)], .int .i64 (k : Nat)]
set_option maxHeartbeats 2000000 in
theorem runAt_pany {w : World} {A : Option Addr} {n c i : Nat} {l : List Int} (hI : Ints w A n l) (hi : i < n) (hn : n ≤ 1000) (hc : n ≤ c) :
    Calls Tryd.prog 23 #[.slice A n c, .int .i64 i] w fun e w' => e = .returned (runVal (runAt l i).1 (runAt l i).2.1 (runAt l i).2.2) ∧ But [] w w' := by
  have hl := hI.1
  obtain ⟨g, o, rfl, hgl, hci⟩ := hI.at hi
  have hgi : l[i]'(by omega) = l.getD i 0 := by rw [List.getD_eq_getElem?_getD, List.getElem?_eq_getElem (by omega)]; rfl
  rw [hgi] at hci
  obtain ⟨x, hx⟩ : ∃ x, x = l.getD i 0 := ⟨_, rfl⟩
  rw [← hx] at hci
  obtain ⟨R, hR⟩ : ∃ R, R = runN l i := ⟨_, rfl⟩
  obtain ⟨N, hN⟩ : ∃ N, N = min R 138 := ⟨_, rfl⟩
  obtain ⟨W, hW⟩ : ∃ W, W = w.alloc (.cells #[.int .i64 0, .int .i64 0] 29) := ⟨_, rfl⟩
  have hBW : But [] w W := by rw [hW]; exact (But.refl [] w).alloc _
  have hIW : Is W w.heap.size 29 #[.int .i64 0, .int .i64 0] := by rw [hW]; exact Is.fresh w _ _
  have hcall := equal_pany (w := W) (c := c - i) hl ((hI.but hBW (by simp)).from_ hi) hi hn
  rw [← hR, ← hN] at hcall
  have hN8 : N ≤ 138 := by omega
  have hprev : 0 < i → w.cell? ⟨g, o + (i - 1), none⟩ = some (.int .i64 (l.getD (i - 1) 0)) := fun h0 => by
    obtain ⟨g2, o2, e, _, hc⟩ := hI.at (i := i - 1) (by omega)
    injection e with e
    injection e with e1 e2
    subst e1 e2
    rw [hc, List.getD_eq_getElem?_getD, List.getElem?_eq_getElem (by omega)]; rfl
  obtain ⟨ag, hag⟩ : ∃ ag : Bool, ag = decide (x ≠ 0 ∧ 0 < i ∧ l.getD (i - 1) 0 = x) := ⟨_, rfl⟩
  have dci : decide (c = i) = false := by simp; omega
  have HCALL := Lib.hid hcall
  have HBW := Lib.hid hBW
  have HIW := Lib.hid hIW
  have HX := Lib.hid hx
  have HR := Lib.hid hR
  have HN := Lib.hid hN
  have HAG := Lib.hid hag
  have HPREV := Lib.hid hprev
  have HCI := Lib.hid hci
  have i0 : (0 : Int) ≤ (i : Int) := by omega
  have i1 : (i : Int) < (n : Int) := by omega
  have ic : (i : Int) ≤ (c : Int) := by omega
  clear hcall hBW hIW hx hR hN hag hprev hci hgi hl hI
  by_cases hx0 : x = 0
  · have dx0 : (x == 0) = true := by simp [hx0]
    have HX0 := Lib.hid (show l.getD i 0 = 0 by rw [← HX.out]; exact hx0)
    clear hx0
    go_enter Tryd.func23, Tryd.ntmps23
    go_wp2_with fail
    rw [← hW]
    refine HCALL.out.mono ?_
    rintro e w1 ⟨rfl, hB1⟩
    have hI1 := HIW.out.but hB1 (by simp)
    have hci1 := (HBW.out.trans hB1).cell HCI.out (by simp)
    have hpv1 := fun h => (HBW.out.trans hB1).cell (HPREV.out h) (by simp)
    have HB1 := Lib.hid (HBW.out.trans hB1)
    have HI1 := Lib.hid hI1
    have HPV1 := Lib.hid hpv1
    clear hB1 hI1 HCALL hW hpv1 HPREV
    go_upto_region 3 with (fail)
    go_cut [8] from 18 to 35 (fun v wx => v = .bool false ∧ ∃ q, wx = w1.drewN q)
    case first =>
      go_quiet (fail)
      go_wp2
      go_meet
      exact ⟨rfl, nq, rfl⟩
    case rest =>
    obtain ⟨rfl, q, hw2⟩ := hcut
    obtain ⟨w2, rfl⟩ : ∃ w2 : World, w2 = wc := ⟨_, rfl⟩
    have HI2 : Hid (Is w2 w.heap.size 29 #[.int .i64 0, .int .i64 0]) := Lib.hid (by rw [hw2]; exact HI1.out.drewN q)
    have HB2 : Hid (But [] w w2) := Lib.hid (by rw [hw2]; exact HB1.out.drewN q)
    have hci2 : w2.cell? ⟨g, o + i, none⟩ = some (.int .i64 x) := by rw [hw2]; exact hci1
    clear hw2
    by_cases h11 : 11 ≤ N
    · have d11 : decide ((11 : Int) ≤ (N : Int)) = true := by simp; omega
      have HRA := Lib.hid (show runAt l i = ((18 : Int), N - 11, N) by
        unfold runAt
        rw [← HR.out, ← HN.out, if_pos ⟨HX0.out, by have := HN.out; omega⟩])
      obtain ⟨y, hy⟩ : ∃ y, y = N - 11 := ⟨_, rfl⟩
      have ey : (N : Int) - 11 = (y : Int) := by omega
      rw [← hy] at HRA
      clear hy
      have hI2 := HI2.out
      have c0 := hI2.cell 0
      have c1 := hI2.cell 1
      have f0 := hI2.free 0
      have f1 := hI2.free 1
      have hI3 := (hI2.put 0 (.int .i64 18)).put 1 (.int .i64 (y : Nat))
      have hB3 := ((HB2.out.setCell (p := ⟨w.heap.size, 0, none⟩) (.inr (Nat.le_refl _)) (.int .i64 18)).setCell (p := ⟨w.heap.size, 1, none⟩) (.inr (Nat.le_refl _)) (.int .i64 (y : Nat)))
      have e0 := hI3.cell 0
      have e1 := hI3.cell 1
      have HB3 := Lib.hid hB3
      clear hI2 hI3 hB3
      go_wp2
      refine bodyPost_ret (v := .tuple #[.agg #[.int .i64 18, .int .i64 (y : Nat)], .int .i64 (N : Nat)]) (by simp [results, Tryd.results23, go_sem, e0, e1]) rfl ?_
      exact ⟨by rw [HRA.out]; rfl, HB3.out⟩

    · have d11 : decide ((11 : Int) ≤ (N : Int)) = false := by simp; omega
      by_cases h3 : 3 ≤ N
      · have d3 : decide ((3 : Int) ≤ (N : Int)) = true := by simp; omega
        have HRA := Lib.hid (show runAt l i = ((17 : Int), N - 3, N) by
          have hRN : R = N := by have := HN.out; omega
          unfold runAt
          rw [← HR.out, hRN, if_neg (fun h => h11 h.2), if_pos ⟨HX0.out, h3⟩])
        obtain ⟨y, hy⟩ : ∃ y, y = N - 3 := ⟨_, rfl⟩
        have ey : (N : Int) - 3 = (y : Int) := by omega
        rw [← hy] at HRA
        clear hy
        have hI2 := HI2.out
        have c0 := hI2.cell 0
        have c1 := hI2.cell 1
        have f0 := hI2.free 0
        have f1 := hI2.free 1
        have hI3 := (hI2.put 0 (.int .i64 17)).put 1 (.int .i64 (y : Nat))
        have hB3 := ((HB2.out.setCell (p := ⟨w.heap.size, 0, none⟩) (.inr (Nat.le_refl _)) (.int .i64 17)).setCell (p := ⟨w.heap.size, 1, none⟩) (.inr (Nat.le_refl _)) (.int .i64 (y : Nat)))
        have e0 := hI3.cell 0
        have e1 := hI3.cell 1
        have HB3 := Lib.hid hB3
        clear hI2 hI3 hB3
        go_wp2
        refine bodyPost_ret (v := .tuple #[.agg #[.int .i64 17, .int .i64 (y : Nat)], .int .i64 (N : Nat)]) (by simp [results, Tryd.results23, go_sem, e0, e1]) rfl ?_
        exact ⟨by rw [HRA.out]; rfl, HB3.out⟩

      · have d3 : decide ((3 : Int) ≤ (N : Int)) = false := by simp; omega
        have HRA := Lib.hid (show runAt l i = (x, 0, 1) by
          have hRN : R = N := by have := HN.out; omega
          unfold runAt
          rw [← HR.out, hRN, if_neg (fun h => h11 h.2), if_neg (fun h => h3 h.2), if_neg (fun h => h3 h.2.2.2), ← HX.out])
        have hI2 := HI2.out
        have c0 := hI2.cell 0
        have c1 := hI2.cell 1
        have f0 := hI2.free 0
        have f1 := hI2.free 1
        have hI3 := (hI2.put 0 (.int .i64 x)).put 1 (.int .i64 0)
        have hB3 := ((HB2.out.setCell (p := ⟨w.heap.size, 0, none⟩) (.inr (Nat.le_refl _)) (.int .i64 x)).setCell (p := ⟨w.heap.size, 1, none⟩) (.inr (Nat.le_refl _)) (.int .i64 0))
        have e0 := hI3.cell 0
        have e1 := hI3.cell 1
        have HB3 := Lib.hid hB3
        clear hI2 hI3 hB3
        go_wp2
        refine bodyPost_ret (v := .tuple #[.agg #[.int .i64 x, .int .i64 0], .int .i64 1]) (by simp [results, Tryd.results23, go_sem, e0, e1]) rfl ?_
        exact ⟨by rw [HRA.out]; rfl, HB3.out⟩

  · have dx0 : (x == 0) = false := by simpa using hx0
    have HX0 := Lib.hid (show ¬ l.getD i 0 = 0 by rw [← HX.out]; exact hx0)
    go_enter Tryd.func23, Tryd.ntmps23
    go_wp2_with fail
    rw [← hW]
    refine HCALL.out.mono ?_
    rintro e w1 ⟨rfl, hB1⟩
    have hI1 := HIW.out.but hB1 (by simp)
    have hci1 := (HBW.out.trans hB1).cell HCI.out (by simp)
    have hpv1 := fun h => (HBW.out.trans hB1).cell (HPREV.out h) (by simp)
    have HB1 := Lib.hid (HBW.out.trans hB1)
    have HI1 := Lib.hid hI1
    have HPV1 := Lib.hid hpv1
    clear hB1 hI1 HCALL hW hpv1 HPREV
    go_upto_region 3 with (fail)
    go_cut [8] from 18 to 35 (fun v wx => v = .bool ag ∧ ∃ q, wx = w1.drewN q)
    case first =>
      by_cases hip : 0 < i
      · have d0 : decide ((0 : Int) < (i : Int)) = true := by simp; omega
        have d0' : decide (0 < i) = true := by simp; omega
        have hp := HPV1.out hip
        obtain ⟨j, hj⟩ : ∃ j, j = i - 1 := ⟨_, rfl⟩
        rw [← hj] at hp
        obtain ⟨y, hy⟩ : ∃ y, y = l.getD j 0 := ⟨_, rfl⟩
        rw [← hy] at hp
        have ej : (i : Int) - 1 = (j : Int) := by omega
        have wi : IntKind.i64.wrap ((i : Int) - 1) = (j : Int) := by rw [ej]; exact IntWalk.i64_in _ (by omega)
        have wj : IntKind.i64.wrap (j : Int) = (j : Int) := IntWalk.i64_in _ (by omega)
        have j0 : (0 : Int) ≤ (j : Int) := by omega
        have j1 : (j : Int) < (n : Int) := by omega
        by_cases hyx : y = x
        · have dyx : (x == x) = true := by simp
          have HA := Lib.hid (show ag = true by rw [HAG.out]; simp only [decide_eq_true_eq]; exact ⟨hx0, hip, by rw [← hj, ← hy]; exact hyx⟩)
          subst hyx
          clear hy hj hx0
          go_quiet (fail)
          go_wp2
          go_meet
          exact ⟨by rw [HA.out], nq, rfl⟩
        · have dyx : (y == x) = false := by simpa using hyx
          have HA := Lib.hid (show ag = false by rw [HAG.out]; simp only [decide_eq_false_iff_not]; exact fun h => hyx (by rw [hy, hj]; exact h.2.2))
          clear hy hj hyx hx0
          go_quiet (fail)
          go_wp2
          go_meet
          exact ⟨by rw [HA.out], nq, rfl⟩
      · have d0 : decide ((0 : Int) < (i : Int)) = false := by simp; omega
        have d0' : decide (0 < i) = false := by simp; omega
        have HA := Lib.hid (show ag = false by rw [HAG.out]; simp only [decide_eq_false_iff_not]; exact fun h => hip h.2.1)
        clear hx0
        go_quiet (fail)
        go_wp2
        go_meet
        exact ⟨by rw [HA.out], nq, rfl⟩
    case rest =>
    obtain ⟨rfl, q, hw2⟩ := hcut
    obtain ⟨w2, rfl⟩ : ∃ w2 : World, w2 = wc := ⟨_, rfl⟩
    have HI2 : Hid (Is w2 w.heap.size 29 #[.int .i64 0, .int .i64 0]) := Lib.hid (by rw [hw2]; exact HI1.out.drewN q)
    have HB2 : Hid (But [] w w2) := Lib.hid (by rw [hw2]; exact HB1.out.drewN q)
    have hci2 : w2.cell? ⟨g, o + i, none⟩ = some (.int .i64 x) := by rw [hw2]; exact hci1
    clear hw2
    clear hx0
    by_cases h16 : ag = true ∧ 3 ≤ N
    · obtain ⟨hag, h3⟩ := h16
      have d3 : decide ((3 : Int) ≤ (N : Int)) = true := by simp; omega
      have HA := HAG.out
      rw [hag] at HA
      have hA := of_decide_eq_true HA.symm
      obtain ⟨m, hm⟩ : ∃ m, m = min N 6 := ⟨_, rfl⟩
      have hm2 : m = min R 6 := by have := HN.out; omega
      have HRA := Lib.hid (show runAt l i = ((16 : Int), m - 3, m) by
        unfold runAt
        rw [← HR.out, if_neg (fun h => HX0.out h.1), if_neg (fun h => HX0.out h.1), if_pos ⟨HX0.out, hA.2.1, by rw [← HX.out]; exact hA.2.2, by have := HN.out; omega⟩, ← hm2])
      subst hag
      have hm1 : 3 ≤ m ∧ m ≤ 6 ∧ m ≤ N := by omega
      obtain ⟨y, hy⟩ : ∃ y, y = m - 3 := ⟨_, rfl⟩
      have ey : (m : Int) - 3 = (y : Int) := by omega
      rw [← hy] at HRA
      have HM := Lib.hid hm
      clear hy hm hm2 HA hA
      go_upto_region 9 with (fail)
      go_cut [6] from 62 to 63 (fun v wx => v = .int .i64 (m : Nat) ∧ w2 = wx)
      case first =>
        rcases Nat.lt_or_ge 6 N with h5 | h5
        · have e : m = 6 := by have := HM.out; omega
          subst e
          go_wp2
          all_goals (go_meet; exact ⟨rfl, rfl⟩)
        · have e : m = N := by have := HM.out; omega
          subst e
          go_wp2
          all_goals (go_meet; exact ⟨rfl, rfl⟩)
      case rest =>
      obtain ⟨rfl, rfl⟩ := hcut
      have hI2 := HI2.out
      have c0 := hI2.cell 0
      have c1 := hI2.cell 1
      have f0 := hI2.free 0
      have f1 := hI2.free 1
      have hI3 := (hI2.put 0 (.int .i64 16)).put 1 (.int .i64 (y : Nat))
      have hB3 := ((HB2.out.setCell (p := ⟨w.heap.size, 0, none⟩) (.inr (Nat.le_refl _)) (.int .i64 16)).setCell (p := ⟨w.heap.size, 1, none⟩) (.inr (Nat.le_refl _)) (.int .i64 (y : Nat)))
      have e0 := hI3.cell 0
      have e1 := hI3.cell 1
      have HB3 := Lib.hid hB3
      clear hI2 hI3 hB3
      go_wp2
      refine bodyPost_ret (v := .tuple #[.agg #[.int .i64 16, .int .i64 (y : Nat)], .int .i64 (m : Nat)]) (by simp [results, Tryd.results23, go_sem, e0, e1]) rfl ?_
      exact ⟨by rw [HRA.out]; rfl, HB3.out⟩

    · have HRA := Lib.hid (show runAt l i = (x, 0, 1) by
        unfold runAt
        rw [← HR.out, if_neg (fun h => HX0.out h.1), if_neg (fun h => HX0.out h.1), if_neg (fun h => h16 ⟨by rw [HAG.out]; simp only [decide_eq_true_eq]; exact ⟨by rw [HX.out]; exact h.1, h.2.1, by rw [HX.out]; exact h.2.2.1⟩, by have := HN.out; omega⟩), ← HX.out])
      cases ag with
      | true =>
        have d3 : decide ((3 : Int) ≤ (N : Int)) = false := decide_eq_false (fun h => h16 ⟨rfl, by omega⟩)
        clear h16
        have hI2 := HI2.out
        have c0 := hI2.cell 0
        have c1 := hI2.cell 1
        have f0 := hI2.free 0
        have f1 := hI2.free 1
        have hI3 := (hI2.put 0 (.int .i64 x)).put 1 (.int .i64 0)
        have hB3 := ((HB2.out.setCell (p := ⟨w.heap.size, 0, none⟩) (.inr (Nat.le_refl _)) (.int .i64 x)).setCell (p := ⟨w.heap.size, 1, none⟩) (.inr (Nat.le_refl _)) (.int .i64 0))
        have e0 := hI3.cell 0
        have e1 := hI3.cell 1
        have HB3 := Lib.hid hB3
        clear hI2 hI3 hB3
        go_wp2
        refine bodyPost_ret (v := .tuple #[.agg #[.int .i64 x, .int .i64 0], .int .i64 1]) (by simp [results, Tryd.results23, go_sem, e0, e1]) rfl ?_
        exact ⟨by rw [HRA.out]; rfl, HB3.out⟩

      | false =>
        clear h16
        have hI2 := HI2.out
        have c0 := hI2.cell 0
        have c1 := hI2.cell 1
        have f0 := hI2.free 0
        have f1 := hI2.free 1
        have hI3 := (hI2.put 0 (.int .i64 x)).put 1 (.int .i64 0)
        have hB3 := ((HB2.out.setCell (p := ⟨w.heap.size, 0, none⟩) (.inr (Nat.le_refl _)) (.int .i64 x)).setCell (p := ⟨w.heap.size, 1, none⟩) (.inr (Nat.le_refl _)) (.int .i64 0))
        have e0 := hI3.cell 0
        have e1 := hI3.cell 1
        have HB3 := Lib.hid hB3
        clear hI2 hI3 hB3
        go_wp2
        refine bodyPost_ret (v := .tuple #[.agg #[.int .i64 x, .int .i64 0], .int .i64 1]) (by simp [results, Tryd.results23, go_sem, e0, e1]) rfl ?_
        exact ⟨by rw [HRA.out]; rfl, HB3.out⟩

end Go.Proofs.YtjeeiodpdfbgmaaDoor
set_option maxRecDepth 100000
set_option linter.unusedVariables false
namespace Go.Proofs.YtjeeiodpdfbgmaaDoor
set_option maxRecDepth 100000
open Go Go.RowKit
/-- A slice of the program's runs of the call's own. -/
def OwnP (w : World) (base : Nat) (v : Value) (L : List (Int × Nat)) : Prop := w.ownsRow base 29 2 v L.length (qCells L)
theorem info_prun : (Tryd.prog.info? 29).map (fun i => (i.zero, i.size, i.bytes)) = some (some (.agg #[.int .i64 0, .int .i64 0]), 2, 16) := by kernel_rfl
theorem OwnP.nil (w : World) (base : Nat) : OwnP w base (.slice none 0 0) [] := World.ownsRow_nil _ _ _ _
theorem OwnP.but {w w' : World} {base : Nat} {v : Value} {L : List (Int × Nat)} (h : OwnP w base v L) (hw : But [] w w') : OwnP w' base v L := ownsRow_but h hw (by simp)
theorem OwnP.open {w : World} {base : Nat} {v : Value} {L : List (Int × Nat)} (h : OwnP w base v L) : ∃ A c, v = .slice A L.length c ∧ Qs w A L.length L := by
  unfold OwnP at h
  rcases h.2 with ⟨rfl, e⟩ | ⟨g, cap, cur, rfl, hg, hh, r⟩
  · have : L = [] := List.eq_nil_of_length_eq_zero e
    subst this
    exact ⟨none, 0, rfl, rfl, fun h => absurd h (by simp)⟩
  · refine ⟨some ⟨g, 0, none⟩, cap, rfl, rfl, fun hn => ⟨g, 0, rfl, (h.lt g rfl).2, fun i hi => ?_⟩⟩
    obtain ⟨h0, h1⟩ := qCells_at L i hi
    have c0 := h.cells (g := g) rfl (i * 2) _ h0
    have c1 := h.cells (g := g) rfl (i * 2 + 1) _ h1
    rw [Go.WideShapes.add_plain] at c0 c1
    exact ⟨c0, c1⟩
theorem OwnP.pushed {w wr w' : World} {v v' : Value} {L : List (Int × Nat)} {x : Int × Nat} {cs : Array Value} {t : TypeId} (hB : But [] w wr) (hO : OwnP wr w.heap.size v L)
    (h1 : w'.ownsRow w.heap.size 29 2 v' (L.length + 1) (qCells L ++ [.int .i64 x.1, .int .i64 (x.2 : Nat)])) (hg : (wr.alloc (.cells cs t)).grownBy w' v.ownBlock) :
    OwnP w' w.heap.size v' (L ++ [x]) ∧ But [] w w' := by
  refine ⟨?_, (hB.alloc _).grown hg (fun g e => .inr (hO.lt g e).1)⟩
  unfold OwnP
  rw [List.length_append, qCells_append]
  simpa [qCells] using h1
/-- Runs, in a slice of the call's own. -/
def GotRuns (w : World) (L : List (Int × Nat)) (e : Ending) (w' : World) : Prop := ∃ v, e = .returned v ∧ OwnP w' w.heap.size v L ∧ But [] w w'
section
variable {w : World}
set_option maxHeartbeats 2000000 in
theorem runs_pany {A : Option Addr} {n c : Nat} {l : List Int} (hl : Ints w A n l) (hn : n ≤ 1000) (hc : n ≤ c) :
    Calls Tryd.prog 11 #[.slice A n c] w (GotRuns w (runs l)) := by
  obtain ⟨i0, hi0, hz0, hz1, hz2⟩ := info_parts info_prun
  have HI := Lib.hid hl
  have HLN := Lib.hid hl.1
  clear hl
  go_enter Tryd.func11, Tryd.ntmps11
  go_wp2
  go_loopw [3, 4] (fun ov iv wr => ∃ (i : Nat) (L : List (Int × Nat)), i ≤ n ∧ iv = .int .i64 i ∧ L.length ≤ i ∧ Hid (L ++ runsG l (l.length - i) i = runs l) ∧ Hid (OwnP wr w.heap.size ov L) ∧ Hid (But [] w wr)) (fun _ iv _ => n - (intOf iv).toNat)
  case atStart => exact ⟨0, [], Nat.zero_le _, rfl, Nat.le_refl _, Lib.hid rfl, Lib.hid (OwnP.nil _ _), Lib.hid (But.refl _ _)⟩
  case round =>
    obtain ⟨i, L, hin, rfl, hL, HR, HO, HB⟩ := hrel
    by_cases hlt : i < n
    · have hil : i < l.length := by have := HLN.out; omega
      have HST := Lib.hid (runs_step hil)
      have hri := runAt_in hil
      rw [HLN.out] at hri
      have hpos := runAt_pos l i
      have hcall := runAt_pany (HI.out.but HB.out (by simp)) hlt hn hc
      obtain ⟨x, m, k, hx⟩ : ∃ (x : Int) (m k : Nat), runAt l i = (x, m, k) := ⟨_, _, _, rfl⟩
      rw [hx] at hcall hri hpos
      have HX := Lib.hid hx
      dsimp only at hcall hri hpos
      obtain ⟨hk1, hm127⟩ := hri
      have HCALL := Lib.hid hcall
      clear hx hcall hil
      go_wp2_with fail
      refine HCALL.out.mono ?_
      rintro e w1 ⟨rfl, hB1⟩
      unfold runVal
      have hI1 := Is.fresh w1 29 #[.int .i64 x, .int .i64 (m : Nat)]
      have hO1 := (HO.out.but hB1).but ((But.refl [] w1).alloc (.cells #[.int .i64 x, .int .i64 (m : Nat)] 29))
      have hB2 := (HB.out.trans hB1).alloc (.cells #[.int .i64 x, .int .i64 (m : Nat)] 29)
      go_upto_region 5 with (fail)
      obtain ⟨wb, hwb⟩ : ∃ W, W = w1.alloc (.cells #[.int .i64 x, .int .i64 (m : Nat)] 29) := ⟨_, rfl⟩
      rw [← hwb] at hI1 hO1 hB2 ⊢
      have c0 := hI1.cell 0
      have c1 := hI1.cell 1
      have HO1 := Lib.hid hO1
      have HB2 := Lib.hid hB2
      have hsz := hB2.size
      clear hI1 hO1 hB2 hB1 hwb HCALL
      go_wp2_with (at_builtin; go_loud (refine wpList_append_own _ rfl _ _ 24 rfl w.heap.size 29 i0 (.agg #[.int .i64 0, .int .i64 0]) 2 16 Tryd.underlying24 hi0 hz0 hz1 hz2 rfl (by decide) _ L.length (qCells L) rfl (World.ownsRow.alloc HO1.out _) ⟨wb.heap.size, 0, none⟩ 1 1 [.int .i64 x, .int .i64 (m : Nat)] rfl rfl ?a1 ?a2 ?a3 ?a4 ?a5 ?_))
      case a1 => exact World.news_of_block (cs := #[.int .i64 x, .int .i64 (m : Nat)]) (t := 29) (fr := (0, 0)) (heap_alloc_new wb _)
      case a2 => simp [Value.oneCell']
      case a3 => unfold maxLen; omega
      case a4 => omega
      case a5 => simp; omega
      intro v' w2 hown2 hgrow2 _
      have HP := Lib.hid (OwnP.pushed (x := (x, m)) HB2.out HO1.out hown2 hgrow2)
      clear hown2 hgrow2 c0 c1
      go_wp2
      go_roundw
      case rel => exact ⟨i + k, L ++ [(x, m)], by omega, by go_num, by rw [List.length_append, List.length_singleton]; omega, Lib.hid (by rw [← HR.out, HST.out, HX.out, List.append_assoc]; rfl), Lib.hid HP.out.1, Lib.hid HP.out.2⟩
      case measure => simp [intOf]; omega
    · go_wp2
      go_ret
      refine ⟨_, rfl, ?_, HB.out⟩
      have h := HR.out
      rw [show l.length - i = 0 by have := HLN.out; omega] at h
      have h2 : L ++ [] = runs l := h
      rw [List.append_nil] at h2
      rw [← h2]; exact HO.out
end
end Go.Proofs.YtjeeiodpdfbgmaaDoor
set_option maxRecDepth 100000
namespace Go.Proofs.YtjeeiodpdfbgmaaDoor
set_option maxRecDepth 100000
open Go Go.RowKit Go.ChangeShapes Go.WideShapes
theorem But.freshZ {w w1 w2 : World} {S : List Nat} (h : But [] w w1) (k : But S w1 w2) (hS : ∀ i ∈ S, w.heap.size ≤ i) : But [] w w2 :=
  ⟨k.os.trans h.os, k.tape.trans h.tape, k.output.trans h.output, Nat.le_trans h.size k.size, fun i hi _ =>
    (k.block i (Nat.lt_of_lt_of_le hi h.size) (fun e => by have := hS i e; omega)).trans (h.block i hi (by simp))⟩
theorem But.belowZ {w w' : World} (h : But [] w w') : Below w.heap.size w w' := ⟨h.os, h.tape, h.output, h.size, fun k hk => h.block k hk (by simp)⟩
/-- A token: its length, its distance, its byte. -/
abbrev T3 := Int × Int × Int
def tkVal (t : T3) : Value := .agg #[.int .i64 t.2.2, .int .i64 t.1, .int .i64 t.2.1]
theorem tok_eql (w : World) (a b c d e f : Int) : (binOp .eql 62 (.agg #[.int .i64 a, .int .i64 b, .int .i64 c]) (.agg #[.int .i64 d, .int .i64 e, .int .i64 f])).run Tryd.prog w = .ok (.bool (decide (a = d ∧ b = e ∧ c = f))) w := by
  rw [run_eql_struct, show (10000 : Nat) = 9998 + 1 + 1 from rfl, run_equalIn_agg w _ _ _ _ (by kernel_rfl) (by kernel_rfl)]
  have hf : (Tryd.prog.fieldsOf 62).toList = [⟨ "Byte", 3, 0, false, "", "", 0⟩, ⟨ "Len", 3, 1, false, "", "", 8⟩, ⟨ "Dist", 3, 2, false, "", "", 16⟩] := by kernel_rfl
  rw [hf]
  by_cases h1 : a = d <;> by_cases h2 : b = e <;> by_cases h3 : c = f <;> simp [go_sem, Op.eqFields, h1, h2, h3]
def tkCells (L : List T3) : List Value := L.flatMap fun t => [.int .i64 t.2.2, .int .i64 t.1, .int .i64 t.2.1]
theorem tkCells_append (L M : List T3) : tkCells (L ++ M) = tkCells L ++ tkCells M := by simp [tkCells]
theorem tkCells_at : ∀ (L : List T3) (i : Nat) (h : i < L.length), (tkCells L)[i * 3]? = some (.int .i64 L[i].2.2) ∧ (tkCells L)[i * 3 + 1]? = some (.int .i64 L[i].1) ∧ (tkCells L)[i * 3 + 2]? = some (.int .i64 L[i].2.1)
  | x :: L, 0, _ => by simp [tkCells]
  | x :: L, i + 1, h => by
    have := tkCells_at L i (by simpa using h)
    have e : tkCells (x :: L) = .int .i64 x.2.2 :: .int .i64 x.1 :: .int .i64 x.2.1 :: tkCells L := by simp [tkCells]
    rw [e, show (i + 1) * 3 = i * 3 + 1 + 1 + 1 from by omega, show i * 3 + 1 + 1 + 1 + 1 = i * 3 + 1 + 1 + 1 + 1 from rfl]
    simpa using this
theorem length_tkCells (L : List T3) : (tkCells L).length = L.length * 3 := by
  induction L with
  | nil => rfl
  | cons x L ih => simp only [tkCells, List.flatMap_cons, List.length_append] at ih ⊢; rw [ih]; simp; omega
/-- A slice reads as these tokens. -/
def Tks (w : World) (A : Option Addr) (n : Nat) (L : List T3) : Prop :=
  L.length = n ∧ (0 < n → ∃ g o, A = some ⟨g, o, none⟩ ∧ g < w.heap.size ∧ ∀ (i : Nat) (h : i < L.length), w.cell? ⟨g, o + i * 3, none⟩ = some (.int .i64 L[i].2.2) ∧ w.cell? ⟨g, o + i * 3 + 1, none⟩ = some (.int .i64 L[i].1) ∧ w.cell? ⟨g, o + i * 3 + 2, none⟩ = some (.int .i64 L[i].2.1))
theorem Tks.but {w w' : World} {A : Option Addr} {n : Nat} {L : List T3} (h : Tks w A n L) (hw : But [] w w') : Tks w' A n L :=
  ⟨h.1, fun hn => by
    obtain ⟨g, o, e, hg, hc⟩ := h.2 hn
    exact ⟨g, o, e, Nat.lt_of_lt_of_le hg hw.size, fun i hi => ⟨hw.cell (hc i hi).1 (by simp), hw.cell (hc i hi).2.1 (by simp), hw.cell (hc i hi).2.2 (by simp)⟩⟩⟩
theorem Tks.at {w : World} {A : Option Addr} {n : Nat} {L : List T3} (h : Tks w A n L) {i : Nat} (hi : i < n) :
    ∃ g o b x d, A = some ⟨g, o, none⟩ ∧ g < w.heap.size ∧ w.cell? ⟨g, o + i * 3, none⟩ = some (.int .i64 b) ∧ w.cell? ⟨g, o + i * 3 + 1, none⟩ = some (.int .i64 x) ∧ w.cell? ⟨g, o + i * 3 + 2, none⟩ = some (.int .i64 d) ∧ L[i]? = some (x, d, b) := by
  obtain ⟨g, o, e, hg, hc⟩ := h.2 (by omega)
  have hl : i < L.length := by have := h.1; omega
  exact ⟨g, o, _, _, _, e, hg, (hc i hl).1, (hc i hl).2.1, (hc i hl).2.2, List.getElem?_eq_getElem hl⟩
theorem Tks.nil (w : World) (A : Option Addr) : Tks w A 0 [] := ⟨rfl, fun h => absurd h (by omega)⟩
theorem Tks.news {w : World} {g o n : Nat} {L : List T3} (h : Tks w (some ⟨g, o, none⟩) n L) (hn : 0 < n) : ∀ j u, (tkCells L)[j]? = some u → w.cell? ((⟨g, o, none⟩ : Addr).add j) = some u := by
  intro j u hu
  obtain ⟨g', o', e, _, hc⟩ := h.2 hn
  injection e with e
  injection e with e1 e2
  subst e1 e2
  have hj : j < L.length * 3 := by
    have := (List.getElem?_eq_some_iff.1 hu).1
    rwa [length_tkCells] at this
  obtain ⟨h0, h1, h2⟩ := tkCells_at L (j / 3) (by omega)
  obtain ⟨c0, c1, c2⟩ := hc (j / 3) (by omega)
  rw [Go.WideShapes.add_plain]
  have hr : j = j / 3 * 3 ∨ j = j / 3 * 3 + 1 ∨ j = j / 3 * 3 + 2 := by omega
  rcases hr with e | e | e
  · rw [← e] at h0 c0; rw [c0, ← h0, hu]
  · rw [← e] at h1; rw [Nat.add_assoc, ← e] at c1; rw [c1, ← h1, hu]
  · rw [← e] at h2; rw [Nat.add_assoc, ← e] at c2; rw [c2, ← h2, hu]
/-- A slice of tokens of the call's own. -/
def OwnK (w : World) (base : Nat) (v : Value) (L : List T3) : Prop := w.ownsRow base 62 3 v L.length (tkCells L)
theorem info_tok : (Tryd.prog.info? 62).map (fun i => (i.zero, i.size, i.bytes)) = some (some (.agg #[.int .i64 0, .int .i64 0, .int .i64 0]), 3, 24) := by kernel_rfl
theorem OwnK.nil (w : World) (base : Nat) : OwnK w base (.slice none 0 0) [] := World.ownsRow_nil _ _ _ _
theorem OwnK.but {w w' : World} {base : Nat} {v : Value} {L : List T3} (h : OwnK w base v L) (hw : But [] w w') : OwnK w' base v L := by
  unfold OwnK at h ⊢
  refine ⟨h.1, ?_⟩
  rcases h.2 with h2 | ⟨g, cap, cur, hv, hg, hh, r⟩
  · exact .inl h2
  · refine .inr ⟨g, cap, cur, hv, hg, ?_, r⟩
    have hlt : g < w.heap.size := (h.lt g (by rw [hv]; rfl)).2
    rw [hw.block g hlt (by simp)]
    exact hh
theorem OwnK.open {w : World} {base : Nat} {v : Value} {L : List T3} (h : OwnK w base v L) : ∃ A c, v = .slice A L.length c ∧ Tks w A L.length L := by
  unfold OwnK at h
  rcases h.2 with ⟨rfl, e⟩ | ⟨g, cap, cur, rfl, hg, hh, r⟩
  · have : L = [] := List.eq_nil_of_length_eq_zero e
    subst this
    exact ⟨none, 0, rfl, Tks.nil _ _⟩
  · refine ⟨some ⟨g, 0, none⟩, cap, rfl, rfl, fun hn => ⟨g, 0, rfl, (h.lt g rfl).2, fun i hi => ?_⟩⟩
    obtain ⟨h0, h1, h2⟩ := tkCells_at L i hi
    have c0 := h.cells (g := g) rfl (i * 3) _ h0
    have c1 := h.cells (g := g) rfl (i * 3 + 1) _ h1
    have c2 := h.cells (g := g) rfl (i * 3 + 2) _ h2
    rw [Go.WideShapes.add_plain] at c0 c1 c2
    exact ⟨c0, c1, c2⟩
end Go.Proofs.YtjeeiodpdfbgmaaDoor
set_option maxRecDepth 100000
set_option linter.unusedVariables false
namespace Go.Proofs.YtjeeiodpdfbgmaaDoor
set_option maxRecDepth 100000
open Go Go.RowKit
/-- How many extra bits a value has: as the program counts them. -/
def covG (v g : Nat) : Nat → Nat → Nat
  | 0, e => e
  | f + 1, e => if 2 * g ≤ v / 2 ^ e then covG v g f (e + 1) else e
def cov (v g : Nat) : Nat := covG v g 12 0
theorem cov_len : ∀ n, n < 258 → 3 ≤ n → 4 * cov (n - 3) 4 + (n - 3) / 2 ^ cov (n - 3) 4 + 257 = lsym n ∧ (n - 3) % 2 ^ cov (n - 3) 4 = n - lenBase (lsym n) ∧ cov (n - 3) 4 = lenBits (lsym n) ∧ cov (n - 3) 4 ≤ 5 := by decide +kernel
theorem cov_far : ∀ n, n < 513 → 1 ≤ n → 2 * cov (n - 1) 2 + (n - 1) / 2 ^ cov (n - 1) 2 = dsym n ∧ (n - 1) % 2 ^ cov (n - 1) 2 = n - dstBase (dsym n) ∧ cov (n - 1) 2 = dstBits (dsym n) ∧ cov (n - 1) 2 ≤ 8 := by decide +kernel
theorem lsym_258 : lsym 258 = 285 ∧ lenBits 285 = 0 ∧ lenBase 285 = 258 := by decide +kernel
theorem cov_mask (v e : Nat) (he : e ≤ 11) : bits .and .i64 (v : Int) (wrap64 (wrap64 (2 ^ e) - 1)) = ((v % 2 ^ e : Nat) : Int) := by
  have h1 : wrap64 (wrap64 (2 ^ e) - 1) = 2 ^ e - 1 := by
    have : ∀ e, e < 12 → wrap64 (wrap64 (2 ^ e) - 1) = 2 ^ e - 1 := by decide +kernel
    exact this e (by omega)
  rw [h1, i64_mask _ _ (by omega)]; push_cast; rfl
/-- A symbol and its extra bits, as a value. -/
def codVal (s m e : Nat) : Value := .agg #[.int .i64 (s : Nat), .int .i64 (m : Nat), .int .i64 (e : Nat)]
set_option maxHeartbeats 1000000 in
theorem covering_any (w : World) {v g : Nat} (hv : v ≤ 600) (hg : 1 ≤ g) (hg4 : g ≤ 4) (hlt : cov v g ≤ 11) :
    Calls Tryd.prog 90 #[.int .i64 v, .int .i64 g] w fun e w' => e = .returned (codVal (g * cov v g + v / 2 ^ cov v g) (v % 2 ^ cov v g) (cov v g)) ∧ But [] w w' := by
  have HB0 : Hid (But [] w (w.alloc (.cells #[.int .i64 0, .int .i64 0, .int .i64 0] 112))) := Lib.hid ((But.refl [] w).alloc _)
  have HI0 : Hid (Is (w.alloc (.cells #[.int .i64 0, .int .i64 0, .int .i64 0] 112)) w.heap.size 112 #[.int .i64 0, .int .i64 0, .int .i64 0]) := Lib.hid (Is.fresh w _ _)
  go_enter Tryd.func90, Tryd.ntmps90
  go_wp2
  go_loop [5] (fun ev => ∃ (e f : Nat), e + f = 12 ∧ ev = .int .i64 e ∧ Hid (covG v g f e = cov v g)) (fun ev => 20 - (intOf ev).toNat)
  case atStart => exact ⟨0, 12, rfl, rfl, Lib.hid rfl⟩
  case round =>
    obtain ⟨e, f, hef, rfl, HE⟩ := hrel
    obtain ⟨q, hq⟩ : ∃ q : Nat, (v : Int) / 2 ^ e = (q : Int) := ⟨v / 2 ^ e, by push_cast; rfl⟩
    have hq2 : q = v / 2 ^ e := by have : (v : Int) / 2 ^ e = ((v / 2 ^ e : Nat) : Int) := by push_cast; rfl
                                   omega
    have HQ := Lib.hid hq2
    have hqv : q ≤ v := by rw [hq2]; exact Nat.div_le_self _ _
    clear hq2
    by_cases hge : 2 * g ≤ q
    · have dq : decide (2 * (g : Int) ≤ (q : Int)) = true := by simp; omega
      obtain ⟨f, rfl⟩ : ∃ f', f = f' + 1 := by
        rcases f with _ | f
        · exfalso; have h := HE.out; unfold covG at h; omega
        · exact ⟨f, rfl⟩
      have HE2 := Lib.hid (show covG v g f (e + 1) = cov v g by rw [← HE.out, covG, if_pos (by rw [← HQ.out]; exact hge)])
      go_wp2
      go_round
      case rel => exact ⟨e + 1, f, by omega, by go_num, HE2⟩
      case measure => simp [intOf]; omega
    · have dq : decide (2 * (g : Int) ≤ (q : Int)) = false := by simp; omega
      have HEC := Lib.hid (show e = cov v g by
        rw [← HE.out]
        rcases f with _ | f
        · rfl
        · rw [covG, if_neg (by rw [← HQ.out]; exact hge)])
      have he11 : e ≤ 11 := by have := HEC.out; omega
      obtain ⟨p, hp⟩ : ∃ p : Nat, (g : Int) * (e : Int) = (p : Int) := ⟨g * e, by push_cast; rfl⟩
      have HP := Lib.hid (show p = g * e by have : (g : Int) * (e : Int) = ((g * e : Nat) : Int) := by push_cast; rfl
                                            omega)
      have hp44 : p ≤ 44 := by rw [HP.out]; exact Nat.le_trans (Nat.mul_le_mul hg4 he11) (by decide)
      go_wp2
      go_region
      go_simp
      have hI := Is.fresh w 112 #[.int .i64 ((p : Int) + (q : Int)), .int .i64 (bits BinOp.and IntKind.i64 (v : Int) (wrap64 (wrap64 (2 ^ e) - 1))), .int .i64 (e : Int)]
      have hB := ((But.refl [] w).alloc (.cells #[.int .i64 ((p : Int) + (q : Int)), .int .i64 (bits BinOp.and IntKind.i64 (v : Int) (wrap64 (wrap64 (2 ^ e) - 1))), .int .i64 (e : Int)] 112)).drew
      go_wp2
      refine bodyPost_ret (results_cell_row rfl _ _ w.heap.size _ _ _ _ rfl hI.drew Tryd.underlying112 rfl (by kernel_rfl)) rfl ?_
      refine ⟨?_, hB⟩
      rw [cov_mask _ _ he11]
      unfold codVal
      rw [← HEC.out, ← HP.out, ← HQ.out]
      push_cast
      rfl

theorem symbolOf_lit (w : World) (y z : Nat) :
    Calls Tryd.prog 69 #[tkVal (0, (z : Int), (y : Int))] w fun e w' => e = .returned (codVal y 0 0) ∧ But [] w w' := by
  unfold tkVal
  have hB := ((But.refl [] w).alloc (.cells #[.int .i64 y, .int .i64 0, .int .i64 z] 62)).alloc (.cells #[.int .i64 y, .int .i64 0, .int .i64 0] 112)
  have hI := Is.fresh (w.alloc (.cells #[.int .i64 y, .int .i64 0, .int .i64 z] 62)) 112 #[.int .i64 y, .int .i64 0, .int .i64 0]
  have hs : (w.alloc (.cells #[.int .i64 y, .int .i64 0, .int .i64 z] 62)).heap.size = w.heap.size + 1 := by simp
  rw [hs] at hI
  have HB := Lib.hid hB
  have HI := Lib.hid hI
  clear hB hI hs
  go_enter Tryd.func69, Tryd.ntmps69
  go_wp2
  refine bodyPost_ret (results_cell_row rfl _ _ (w.heap.size + 1) _ _ _ _ rfl HI.out Tryd.underlying112 rfl (by kernel_rfl)) rfl ?_
  exact ⟨rfl, HB.out⟩
theorem symbolOf_258 (w : World) (z y : Nat) :
    Calls Tryd.prog 69 #[tkVal (258, (z : Int), (y : Int))] w fun e w' => e = .returned (codVal 285 0 0) ∧ But [] w w' := by
  unfold tkVal
  have hB := ((But.refl [] w).alloc (.cells #[.int .i64 y, .int .i64 258, .int .i64 z] 62)).alloc (.cells #[.int .i64 285, .int .i64 0, .int .i64 0] 112)
  have hI := Is.fresh (w.alloc (.cells #[.int .i64 y, .int .i64 258, .int .i64 z] 62)) 112 #[.int .i64 285, .int .i64 0, .int .i64 0]
  have hs : (w.alloc (.cells #[.int .i64 y, .int .i64 258, .int .i64 z] 62)).heap.size = w.heap.size + 1 := by simp
  rw [hs] at hI
  have HB := Lib.hid hB
  have HI := Lib.hid hI
  clear hB hI hs
  go_enter Tryd.func69, Tryd.ntmps69
  go_wp2
  refine bodyPost_ret (results_cell_row rfl _ _ (w.heap.size + 1) _ _ _ _ rfl HI.out Tryd.underlying112 rfl (by kernel_rfl)) rfl ?_
  exact ⟨rfl, HB.out⟩
set_option maxHeartbeats 1000000 in
theorem symbolOf_mid (w : World) (x z y : Nat) (h3 : 3 ≤ x) (h257 : x ≤ 257) (hcv : cov (x - 3) 4 ≤ 5) :
    Calls Tryd.prog 69 #[tkVal ((x : Int), (z : Int), (y : Int))] w fun e w' => e = .returned (codVal (4 * cov (x - 3) 4 + (x - 3) / 2 ^ cov (x - 3) 4 + 257) ((x - 3) % 2 ^ cov (x - 3) 4) (cov (x - 3) 4)) ∧ But [] w w' := by
  unfold tkVal
  obtain ⟨v, hv⟩ : ∃ v, v = x - 3 := ⟨_, rfl⟩
  rw [← hv] at hcv ⊢
  have ev : (x : Int) - 3 = (v : Int) := by omega
  obtain ⟨W, hW⟩ : ∃ W, W = (w.alloc (.cells #[.int .i64 y, .int .i64 x, .int .i64 z] 62)).alloc (.cells #[.int .i64 0, .int .i64 0, .int .i64 0] 112) := ⟨_, rfl⟩
  have hC := covering_any W (v := v) (g := 4) (by omega) (by omega) (by omega) (by omega)
  obtain ⟨s, hs⟩ : ∃ s, s = 4 * cov v 4 + v / 2 ^ cov v 4 := ⟨_, rfl⟩
  obtain ⟨m, hm⟩ : ∃ s, s = v % 2 ^ cov v 4 := ⟨_, rfl⟩
  obtain ⟨e, he⟩ : ∃ s, s = cov v 4 := ⟨_, rfl⟩
  have hs600 : s ≤ 600 := by
    have := Nat.div_le_self v (2 ^ cov v 4)
    omega
  rw [← hs, ← hm, ← he] at hC
  rw [← hs, ← hm, ← he]
  have hB : But [] w W := by rw [hW]; exact ((But.refl [] w).alloc _).alloc _
  have hI : Is W (w.heap.size + 1) 112 #[.int .i64 0, .int .i64 0, .int .i64 0] := by
    have h := Is.fresh (w.alloc (.cells #[.int .i64 y, .int .i64 x, .int .i64 z] 62)) 112 #[.int .i64 0, .int .i64 0, .int .i64 0]
    rw [hW]; simpa using h
  have HB := Lib.hid hB
  have HI := Lib.hid hI
  have HC := Lib.hid hC
  have dx : ((x : Int) == 0) = false := by simp; omega
  have dx2 : ((x : Int) == 258) = false := by simp; omega
  clear hB hI hC hs hm he hcv hv
  go_enter Tryd.func69, Tryd.ntmps69
  go_wp2_with fail
  rw [← hW]
  refine HC.out.mono ?_
  rintro er w1 ⟨rfl, hB1⟩
  have HB1 := Lib.hid hB1
  have hI1 := (HI.out.but hB1 (by simp)).alloc (.cells #[.int .i64 ((s : Int) + 257), .int .i64 m, .int .i64 e] 112)
  have hsz := hI1.lt
  obtain ⟨W2, hW2⟩ : ∃ W2, W2 = w1.alloc (.cells #[.int .i64 ((s : Int) + 257), .int .i64 m, .int .i64 e] 112) := ⟨_, rfl⟩
  rw [← hW2] at hI1
  have c0 := hI1.cell 0
  have c1 := hI1.cell 1
  have c2 := hI1.cell 2
  have f0 := hI1.free 0
  have f1 := hI1.free 1
  have f2 := hI1.free 2
  rw [hW2] at c0 c1 c2 f0 f1 f2
  have hI2 := ((hI1.put 0 (.int .i64 ((s : Int) + 257))).put 1 (.int .i64 m)).put 2 (.int .i64 e)
  have hB2 : But [] w (((W2.setCell ⟨w.heap.size + 1, 0, none⟩ (.int .i64 ((s : Int) + 257))).setCell ⟨w.heap.size + 1, 1, none⟩ (.int .i64 m)).setCell ⟨w.heap.size + 1, 2, none⟩ (.int .i64 e)) := by
    rw [hW2]
    exact ((((HB.out.trans HB1.out).alloc _).setCell (.inr (Nat.le_succ _)) _).setCell (.inr (Nat.le_succ _)) _).setCell (.inr (Nat.le_succ _)) _
  rw [hW2] at hI2 hB2
  have HI2 := Lib.hid hI2
  have HB2 := Lib.hid hB2
  clear hB1 hI1 hI2 hB2 hsz hW2 hW
  unfold codVal
  go_wp2
  refine bodyPost_ret (results_cell_row rfl _ _ (w.heap.size + 1) _ _ _ _ rfl HI2.out Tryd.underlying112 rfl (by kernel_rfl)) rfl ?_
  exact ⟨by push_cast; rfl, HB2.out⟩
/-- The program's symbol of a token. -/
theorem symbolOf_mat (w : World) (x z y : Nat) (h3 : 3 ≤ x) (h258 : x ≤ 258) :
    Calls Tryd.prog 69 #[tkVal ((x : Int), (z : Int), (y : Int))] w fun e w' => e = .returned (codVal (lsym x) (x - lenBase (lsym x)) (lenBits (lsym x))) ∧ But [] w w' := by
  by_cases h : x = 258
  · subst h
    obtain ⟨a, b, c⟩ := lsym_258
    rw [a, b, c]
    exact symbolOf_258 w z y
  · obtain ⟨a, b, c, d⟩ := cov_len x (by omega) h3
    have := symbolOf_mid w x z y h3 (by omega) d
    rw [a, b] at this
    rw [← c]
    exact this
theorem distanceOf_any (w : World) (x z y : Nat) (h1 : 1 ≤ z) (h512 : z ≤ 512) :
    Calls Tryd.prog 70 #[tkVal ((x : Int), (z : Int), (y : Int))] w fun e w' => e = .returned (codVal (dsym z) (z - dstBase (dsym z)) (dstBits (dsym z))) ∧ But [] w w' := by
  obtain ⟨a, b, c, d⟩ := cov_far z (by omega) h1
  unfold tkVal
  obtain ⟨v, hv⟩ : ∃ v, v = z - 1 := ⟨_, rfl⟩
  rw [← hv] at a b c d
  have ev : (z : Int) - 1 = (v : Int) := by omega
  obtain ⟨W, hW⟩ : ∃ W, W = (w.alloc (.cells #[.int .i64 y, .int .i64 x, .int .i64 z] 62)).alloc (.cells #[.int .i64 0, .int .i64 0, .int .i64 0] 112) := ⟨_, rfl⟩
  have hC := covering_any W (v := v) (g := 2) (by omega) (by omega) (by omega) (by omega)
  rw [a, b, c] at hC
  obtain ⟨s, hs⟩ : ∃ s, s = dsym z := ⟨_, rfl⟩
  rw [← hs] at hC ⊢
  obtain ⟨m, hm⟩ : ∃ m, m = z - dstBase s := ⟨_, rfl⟩
  obtain ⟨e, he⟩ : ∃ e, e = dstBits s := ⟨_, rfl⟩
  rw [← hm, ← he] at hC ⊢
  have hB : But [] w W := by rw [hW]; exact ((But.refl [] w).alloc _).alloc _
  have hI : Is W (w.heap.size + 1) 112 #[.int .i64 0, .int .i64 0, .int .i64 0] := by
    have h := Is.fresh (w.alloc (.cells #[.int .i64 y, .int .i64 x, .int .i64 z] 62)) 112 #[.int .i64 0, .int .i64 0, .int .i64 0]
    rw [hW]; simpa using h
  have HB := Lib.hid hB
  have HI := Lib.hid hI
  have HC := Lib.hid hC
  clear hB hI hC hs hm he hv a b c d
  go_enter Tryd.func70, Tryd.ntmps70
  go_wp2_with fail
  rw [← hW]
  refine HC.out.mono ?_
  rintro er w1 ⟨rfl, hB1⟩
  have hI1 := HI.out.but hB1 (by simp)
  have c0 := hI1.cell 0
  have c1 := hI1.cell 1
  have c2 := hI1.cell 2
  have f0 := hI1.free 0
  have f1 := hI1.free 1
  have f2 := hI1.free 2
  have hI2 := ((hI1.put 0 (.int .i64 s)).put 1 (.int .i64 m)).put 2 (.int .i64 e)
  have hB2 : But [] w (((w1.setCell ⟨w.heap.size + 1, 0, none⟩ (.int .i64 s)).setCell ⟨w.heap.size + 1, 1, none⟩ (.int .i64 m)).setCell ⟨w.heap.size + 1, 2, none⟩ (.int .i64 e)) :=
    (((HB.out.trans hB1).setCell (.inr (Nat.le_succ _)) _).setCell (.inr (Nat.le_succ _)) _).setCell (.inr (Nat.le_succ _)) _
  have HI2 := Lib.hid hI2
  have HB2 := Lib.hid hB2
  clear hB1 hI1 hI2 hB2 hW
  unfold codVal
  go_wp2
  refine bodyPost_ret (results_cell_row rfl _ _ (w.heap.size + 1) _ _ _ _ rfl HI2.out Tryd.underlying112 rfl (by kernel_rfl)) rfl ?_
  exact ⟨rfl, HB2.out⟩
end Go.Proofs.YtjeeiodpdfbgmaaDoor
set_option maxRecDepth 100000
set_option linter.unusedVariables false
namespace Go.Proofs.YtjeeiodpdfbgmaaDoor
set_option maxRecDepth 100000
open Go Go.RowKit
/-- The bytes of a string as LzM reads them. -/
theorem byteZ_at (s : ByteArray) {i : Nat} (h : i < s.size) : s.data.toList.getD i 0 = s[i] := by
  rw [List.getD_eq_getElem?_getD, Array.getElem?_toList, Array.getElem?_eq_getElem (by simpa using h)]; rfl
theorem len_data (s : ByteArray) : s.data.toList.length = s.size := by simp
theorem runG_end (l : List UInt8) (i d f n : Nat) (h : l.length ≤ i + n) : runG l i d f n = n := by
  cases f with
  | zero => rfl
  | succ f => rw [runG, if_neg (by omega)]
theorem u8_ne {x y : UInt8} (h : ¬ x = y) : ¬ (x.toNat : Int) = (y.toNat : Int) := fun e => h (UInt8.toNat_inj.1 (by omega))
/-- Two texts that lie in one, one d ahead of the other. -/
structure Cuts (s a b : ByteArray) (at' d m : Nat) : Prop where
  la : a.size = s.size - (at' - d)
  lb : b.size = m
  ga : ∀ i (h : i < a.size), s.data.toList.getD (at' + i - d) 0 = a[i]
  gb : ∀ i (h : i < b.size), s.data.toList.getD (at' + i) 0 = b[i]
theorem common_any (w : World) {s a b : ByteArray} {at' d m : Nat} (hc : Cuts s a b at' d m) (hd : 1 ≤ d) (hda : d ≤ at') (hat : at' < s.size) (hm : m = min 258 (s.size - at')) (hs : s.size ≤ 1000000) :
    Calls Tryd.prog 72 #[.string a, .string b] w fun e w' => e = .returned (.int .i64 (runLen s.data.toList at' d)) ∧ ∃ n, w' = w.drewN n := by
  obtain ⟨la, lb, ga, gb⟩ := hc
  have GA := Lib.hid ga
  have GB := Lib.hid gb
  have HM := Lib.hid hm
  have hl := len_data s
  have HL := Lib.hid hl
  clear ga gb hl
  have hml : m ≤ 258 := by omega
  have hma : m ≤ a.size := by omega
  have hmm : m ≤ s.size - at' := by omega
  have LA := Lib.hid la
  have LB := Lib.hid lb
  clear hm la
  go_enter Tryd.func72, Tryd.ntmps72
  go_wp2
  go_loopw [5, 8] (fun _ iv wr => ∃ (i : Nat) (n : Nat), i ≤ m ∧ iv = .int .i64 i ∧ runG s.data.toList at' d (258 - i) i = runLen s.data.toList at' d ∧ wr = w.drewN n) (fun _ iv _ => m - (intOf iv).toNat)
  case atStart => exact ⟨0, 0, Nat.zero_le _, rfl, rfl, rfl⟩
  case round =>
    obtain ⟨i, n, hi, rfl, hr, rfl⟩ := hrel
    have HR := Lib.hid hr
    clear hr
    by_cases hlt : i < m
    · have h1 : i < a.size := by omega
      have h2 : i < b.size := by omega
      have HX := Lib.hid (GA.out i h1)
      have HY := Lib.hid (GB.out i h2)
      by_cases he : a[i] = b[i]
      · have HN := Lib.hid (show runG s.data.toList at' d (258 - (i + 1)) (i + 1) = runLen s.data.toList at' d by
          rw [← HR.out, show 258 - i = 258 - (i + 1) + 1 from by omega, runG, if_pos ⟨by rw [HL.out]; omega, by rw [HX.out, HY.out]; exact he.symm⟩])
        have hn2 : ((a[i].toNat : Int) != (b[i].toNat : Int)) = false := by rw [he]; simp
        clear he
        go_wp2
        go_quiet (fail)
        go_wp2
        go_roundw
        case rel => exact ⟨i + 1, n + nq, by omega, by go_num, HN.out, rfl⟩
        case measure => simp [intOf]; omega
      · have HN := Lib.hid (show runLen s.data.toList at' d = i by
          rw [← HR.out, show 258 - i = 258 - (i + 1) + 1 from by omega, runG, if_neg (by rw [HX.out, HY.out]; intro h; exact he h.2.symm)])
        have hne := u8_ne he
        have hn2 : ((a[i].toNat : Int) != (b[i].toNat : Int)) = true := by simpa using hne
        clear he hne
        go_wp2
        go_quiet (fail)
        go_wp2
        go_ret
        exact ⟨by rw [HN.out]; rfl, (by first | exact ⟨n + nq, (w.drewN_drewN n nq)⟩ | exact ⟨n, rfl⟩)⟩
    · obtain rfl : i = m := by omega
      have HN := Lib.hid (show runLen s.data.toList at' d = i by
        rw [← HR.out]
        by_cases h : i = 258
        · subst h; rfl
        · exact runG_end _ _ _ _ _ (by rw [HL.out]; have := HM.out; omega))
      go_wp2
      go_ret
      exact ⟨by rw [HN.out]; rfl, _, rfl⟩
/-- The program's best so far: nothing below three counts. -/
def bst (l : List UInt8) (i D : Nat) : Nat × Nat := if 3 ≤ (bestG l i D).1 then bestG l i D else (2, 0)
section
variable {l : List UInt8} {i D : Nat}
theorem bst_two : 2 ≤ (bst l i D).1 := by
  unfold bst; split
  · omega
  · exact Nat.le_refl 2
theorem bst_skip (h : runLen l i (D + 1) ≤ (bst l i D).1) : bst l i (D + 1) = bst l i D := by
  unfold bst at *
  rw [bestG]
  by_cases h1 : 3 ≤ (bestG l i D).1
  · rw [if_pos h1] at h ⊢
    rw [if_neg (show ¬ (bestG l i D).1 < runLen l i (D + 1) by omega), if_pos h1]
  · rw [if_neg h1] at h ⊢
    dsimp only at h
    by_cases h2 : (bestG l i D).1 < runLen l i (D + 1)
    · rw [if_pos h2, if_neg (by dsimp only; omega)]
    · rw [if_neg h2, if_neg h1]
theorem bst_take (h : (bst l i D).1 < runLen l i (D + 1)) : bst l i (D + 1) = (runLen l i (D + 1), D + 1) := by
  unfold bst at *
  rw [bestG]
  by_cases h1 : 3 ≤ (bestG l i D).1
  · rw [if_pos h1] at h
    rw [if_pos h, if_pos (by dsimp only; omega)]
  · rw [if_neg h1] at h
    dsimp only at h
    rw [if_pos (show (bestG l i D).1 < runLen l i (D + 1) by omega), if_pos (by dsimp only; omega)]
theorem run_most (d : Nat) (hi : i ≤ l.length) : runLen l i d ≤ min 258 (l.length - i) := by
  have h1 := runLen_le l i d
  have h2 := runG_in l i d 258 0 (by omega)
  unfold runLen at *; omega
theorem best_in (hi : i ≤ l.length) : (bestG l i D).1 ≤ min 258 (l.length - i) := by
  rcases bestG_is l i D with h | ⟨_, _, h, _⟩
  · rw [h]; exact Nat.zero_le _
  · rw [h]; exact run_most _ hi
theorem bst_full (hi : i ≤ l.length) (h : min 258 (l.length - i) ≤ (bst l i D).1) : ∀ k, bst l i (D + k) = bst l i D
  | 0 => rfl
  | k + 1 => by
    have e := bst_full hi h k
    rw [← Nat.add_assoc, bst_skip (by rw [e]; exact Nat.le_trans (run_most _ hi) h), e]
theorem bst_bounds (hi : i ≤ l.length) : (bst l i D).1 ≤ 258 ∧ (bst l i D).2 ≤ D := by
  unfold bst
  split
  · have h1 := best_in (D := D) hi
    refine ⟨by omega, ?_⟩
    rcases bestG_is l i D with h | ⟨_, h, _, _⟩
    · rw [h]; exact Nat.zero_le _
    · exact h
  · exact ⟨by dsimp only; omega, Nat.zero_le _⟩
end
/-- What the program's function tells of a position. -/
def lgAt (l : List UInt8) (i : Nat) : T3 := if 3 ≤ (bestAt l i).1 then ((bestAt l i).1, (bestAt l i).2, 0) else (0, 0, 0)
theorem lgAt_of {l : List UInt8} {i : Nat} : lgAt l i = if (bst l i (min 512 i)).2 = 0 then (0, 0, 0) else (((bst l i (min 512 i)).1 : Int), ((bst l i (min 512 i)).2 : Int), 0) := by
  unfold lgAt bestAt bst
  by_cases h : 3 ≤ (bestG l i (min 512 i)).1
  · have h2 : ¬ (bestG l i (min 512 i)).2 = 0 := by
      rcases bestG_is l i (min 512 i) with e | ⟨e, _⟩
      · rw [e] at h; simp at h
      · omega
    rw [if_pos h, if_pos h, if_neg h2]
  · rw [if_neg h, if_neg h, if_pos rfl]
theorem cuts_of (s : ByteArray) {i d m : Nat} (hd : d ≤ i) (hm : i + m ≤ s.size) : Cuts s (s.extract (i - d) s.size) (s.extract i (i + m)) i d m := by
  refine ⟨by rw [ByteArray.size_extract]; omega, by rw [ByteArray.size_extract]; omega, fun j h => ?_, fun j h => ?_⟩
  · rw [ByteArray.size_extract] at h
    rw [byteZ_at s (by omega), ByteArray.getElem_extract]
    congr 1; omega
  · rw [ByteArray.size_extract] at h
    rw [byteZ_at s (by omega), ByteArray.getElem_extract]
end Go.Proofs.YtjeeiodpdfbgmaaDoor
