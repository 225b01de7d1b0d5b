/- Several texts in one: Ints, DgU, OpenC (what Runs reach of them). -/
import Derived.Test.YtjeeiodpdfbgmaaDoorPm01
import Derived.Test.YtjeeiodpdfbgmaaDoorPm02
import Derived.Test.YtjeeiodpdfbgmaaDoorPm03
import Derived.Test.YtjeeiodpdfbgmaaDoorPm04
import Derived.Test.YtjeeiodpdfbgmaaDoorPm05
import Derived.Test.YtjeeiodpdfbgmaaDoorPm06
import Derived.Test.YtjeeiodpdfbgmaaDoorPm08
import Derived.Test.YtjeeiodpdfbgmaaDoorPm09
import Derived.Test.YtjeeiodpdfbgmaaDoorPm10
import Derived.Test.YtjeeiodpdfbgmaaDoorPm11
import Derived.Test.YtjeeiodpdfbgmaaDoorPm12
import Derived.Test.YtjeeiodpdfbgmaaDoorPm13
import Derived.Test.YtjeeiodpdfbgmaaDoorPm14
import Derived.Test.YtjeeiodpdfbgmaaDoorPm16
import Derived.Test.YtjeeiodpdfbgmaaDoorPm23
import Derived.Below
import Derived.BigQuiet
import Derived.BigRegion
import Derived.Deep.AppendLies
import Derived.Deep.CutBlock
import Derived.Deep.CutRange
import Derived.Deep.DeepCutAuto
import Derived.Deep.Draws
import Derived.Deep.LoopGhost
import Derived.Deep.QuietTactic
import Derived.Deep.RegionLaw
import Derived.Deep.RegionWith
import Derived.Deep.Slices
import Derived.Handy
import Derived.Laws.BitsAllLaws
import Derived.Laws.BitsLemmas
import Derived.Laws.CopyOwn
import Derived.Laws.IdiomStrings
import Derived.Laws.OwnMore
import Derived.Laws.Rows
import Derived.Laws.Strings2
import Derived.Laws.Strings3
import Derived.Laws.StructEq
import Derived.Lib.AppendStr
import Derived.Lib.AppendZeros
import Derived.Lib.Hide
import Derived.Lib.Strings
import Derived.LoopIn
import Derived.LoopNIn
import Derived.OneCell
import Derived.OpenShut
import Derived.Outline
import Derived.OwnWalk
import Derived.OwnWalkIn
import Derived.ProofKit
import Derived.RangeFuncBound
import Derived.RangeFuncCalls
import Derived.RangeFuncLeaves
import Derived.RangeFuncNested
import Derived.RegionTactic
import Derived.ScopeJumps
import Derived.Shelf.Abstract
import Derived.Shelf.RegionOpen
import Derived.Shelf.SlSortCmp.QuietGrown
import Derived.SizedLaws
import Derived.StillTailTactics
import Derived.TacticsInMore
import Derived.Test.YtjeeiodpdfbgmaaDoorChecked
import Derived.WalkKit
import Derived.WalkLawsBesides
import Derived.WalkMore
import Derived.WalkSpells
set_option maxRecDepth 100000
set_option linter.unusedVariables false
namespace Go.Proofs.YtjeeiodpdfbgmaaDoor
set_option maxRecDepth 100000
open Go Go.RowKit Go.ChangeShapes Go.WideShapes
/-- The numbers fit. -/
def Fits (l : List Int) : Prop := ∀ x ∈ l, -9223372036854775808 ≤ x ∧ x ≤ 9223372036854775807

end Go.Proofs.YtjeeiodpdfbgmaaDoor
set_option maxRecDepth 100000
set_option linter.unusedVariables false
namespace Go.Proofs.YtjeeiodpdfbgmaaDoor
set_option maxRecDepth 100000
open Go Go.RowKit
attribute [local irreducible] textX storX fixedX bestX dynL runs
set_option maxHeartbeats 1000000 in
theorem deflateRuns_walk {A : Option Addr} {len cap : Nat} {l : List Int} {w : World} (hl : Ints w A len l) (hb : len * 8 ≤ 140737488351232) (_hnil : A = none → cap = 0) (_hf : Fits l) (hcap : len ≤ cap) (hG : GD w) :
    Calls Tryd.prog 3 #[.slice A len cap] w fun e w' => e = .returned (.bool true) ∧ Below w.heap.size w w' := by
  have HA := Lib.hid (fun (v : World) (h : GD v) => awake5_any v h)
  have HG := Lib.hid hG
  clear hG
  by_cases h1000 : len ≤ 1000
  · have d1 : decide ((1000 : Int) < (len : Int)) = false := by simp; omega
    have HP := Lib.hid (runs_pany hl h1000 hcap)
    have HI := Lib.hid hl
    have HRL := Lib.hid (runs_few l)
    have hll := hl.1
    have HLL := Lib.hid hll
    clear hl hll _hnil _hf
    go_enter Tryd.func3, Tryd.ntmps3
    go_wp2_with fail
    refine HP.out.mono ?_
    rintro e w1 ⟨v1, rfl, hO1, hB1⟩
    obtain ⟨A1, c1, rfl, hQ1⟩ := hO1.open
    have HR := Lib.hid (eruns_any (c := cap) (HI.out.but hB1 (by simp)) h1000)
    obtain ⟨n, hn⟩ : ∃ n, n = (runs l).length := ⟨_, rfl⟩
    rw [← hn] at hQ1 ⊢
    have HQ1 := Lib.hid hQ1
    have HB1 := Lib.hid hB1
    have HN := Lib.hid hn
    have hn1000 : n ≤ 1000 := by have := HRL.out; have := HLL.out; omega
    clear hO1 hQ1 hB1 hn HP HI
    go_wp2_with fail
    refine HR.out.mono ?_
    rintro e w2 ⟨v2, rfl, hO2, hB2⟩
    obtain ⟨A2, c2, rfl, hQ2⟩ := hO2.open
    rw [← HN.out] at hQ2 ⊢
    have HQ2 := Lib.hid hQ2
    have HQ1 := Lib.hid (HQ1.out.but hB2)
    have HB2 := Lib.hid (HB1.out.trans hB2)
    clear hO2 hQ2 hB2 HR
    go_wp2
    go_loopw [5] (fun iv wr => ∃ k q : Nat, k ≤ n ∧ iv = .int .i64 k ∧ wr = w2.drewN q) (fun iv _ => n - (intOf iv).toNat)
    case atStart => exact ⟨0, 0, Nat.zero_le _, rfl, rfl⟩
    case round =>
      obtain ⟨k, q, hk, rfl, rfl⟩ := hrel
      by_cases hlt : k < n
      · obtain ⟨g, o, x, m, rfl, hg, c00, c01, h1⟩ := HQ1.out.at hlt
        obtain ⟨g', o', x', m', rfl, hg', d00, d01, h2⟩ := HQ2.out.at hlt
        rw [h1] at h2
        injection h2 with h2
        injection h2 with e1 e2
        subst e1 e2
        have dx : (x != x) = false := by simp
        have dm : ((m : Int) != (m : Int)) = false := by simp
        have k0 : (0 : Int) ≤ (k : Int) := by omega
        have k1 : (k : Int) < (n : Int) := by omega
        clear h1 hg hg'
        go_wp2
        go_quiet (fail)
        go_wp2
        go_roundw
        case rel => exact ⟨k + 1, q + nq, by omega, by go_num, by first | rfl | trivial⟩
        case measure => simp [intOf]; omega
      · go_wp2_with fail
        refine (HA.out _ (HG.out.but (HB2.out.drewN q))).mono ?_
        rintro e w3 ⟨rfl, hB3⟩
        have HB3 := Lib.hid ((HB2.out.drewN q).trans hB3)
        clear hB3
        go_wp2
        go_ret
        exact ⟨rfl, HB3.out.belowZ⟩
  · have d1 : decide ((1000 : Int) < (len : Int)) = true := by simp; omega
    clear hl _hnil _hf
    go_enter Tryd.func3, Tryd.ntmps3
    go_wp2_with fail
    refine (HA.out _ HG.out).mono ?_
    rintro e w3 ⟨rfl, hB3⟩
    have HB3 := Lib.hid hB3
    clear hB3
    go_wp2
    go_ret
    exact ⟨rfl, HB3.out.belowZ⟩
end Go.Proofs.YtjeeiodpdfbgmaaDoor
namespace Go.Proofs.YtjeeiodpdfbgmaaDoor
set_option maxRecDepth 100000
open Go Go.RowKit Go.ChangeShapes Go.WideShapes
theorem open_numsC {H : Type} {enc : TypeId × Value → H} {W : World} {base : Nat} {v : Value} {d : DataW H} {p : List MemPlace} (hv : Value.okWide Tryd.prog W .any base 22 v)
    (hk : DataW.Trod enc Tryd.prog W 0 (fun _ => true) true 22 v d p) {ts : List TypeId} {ds : List (DataW H)} (hsz : (DataW.weightsEach Tryd.prog ts ds).all (· ≤ reachBytes) = true) {j : Nat} (ht : ts[j]? = some 22) (hd : ds[j]? = some d) :
    ∃ A len cap l, v = .slice A len cap ∧ Ints W A len l ∧ len * 8 ≤ 140737488351232 ∧ (A = none → cap = 0) ∧ Fits l ∧ len ≤ cap := by
  obtain ⟨a0, len, cap, rfl⟩ := okWide_slice Tryd.underlying22 hv
  obtain ⟨fuel, hf⟩ := hk
  rcases open_ints Tryd.underlying22 Tryd.underlying3 (by kernel_rfl) hf with ⟨hcs, _⟩ | ⟨a, len', cap', zs, hcs, hb, hl, hm, hzs, hx, hc, hwf⟩
  · simp [Value.cells] at hcs
    obtain ⟨rfl, rfl, rfl⟩ := hcs
    exact ⟨none, 0, 0, [], rfl, ⟨rfl, fun h => absurd h (by omega)⟩, by omega, fun _ => rfl, (by intro x hx; cases hx), Nat.le_refl _⟩
  · simp [Value.cells] at hcs
    obtain ⟨rfl, rfl, rfl⟩ := hcs
    have hzl : zs.length = cap := by simpa using hzs
    have hde : d = .slice (lits .i64 (zs.take len)) (lits .i64 (zs.drop len)) := by injection hx
    have hbound : len * 8 ≤ 140737488351232 := by
      have h := sized_slice hsz (e := 3) ht (by rw [hd, hde]) Tryd.underlying22
      have hb8 : Tryd.prog.bytesOf 3 = 8 := by kernel_rfl
      rw [hb8] at h
      have hr : reachBytes = 140737488351232 := rfl
      rw [hr] at h
      simp only [lits, List.length_map, List.length_take, List.length_drop] at h
      omega
    refine ⟨some a, len, cap, zs.take len, rfl, ⟨by rw [List.length_take]; omega, fun hn => ?_⟩, hbound, (fun e => by cases e), fun x hx' => bounds_i64 (hwf x (List.mem_of_mem_take hx')), by omega⟩
    obtain ⟨g, o, rfl, hg⟩ := ints_at hc (by omega)
    refine ⟨g, o, rfl, ?_, fun i hi => ?_⟩
    · have := World.block_lt_of_cell? W _ (hg 0 (by omega))
      exact this
    · rw [List.length_take] at hi
      rw [hg i (by omega), List.getElem_take, List.getD_eq_getElem?_getD, List.getElem?_eq_getElem (by omega)]; rfl
end Go.Proofs.YtjeeiodpdfbgmaaDoor
