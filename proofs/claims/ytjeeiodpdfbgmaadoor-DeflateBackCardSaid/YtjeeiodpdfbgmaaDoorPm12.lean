/- Several texts in one: LzD, LzE, EfC, EfD, RfD, RfM, EfE, EfF, ThingM, Things, SymA (what Back, Best, Dynamic, Fixed, Least, Runs, Stored reach of them). -/
import Derived.Test.YtjeeiodpdfbgmaaDoorPm01
import Derived.Test.YtjeeiodpdfbgmaaDoorPm02
import Derived.Test.YtjeeiodpdfbgmaaDoorPm03
import Derived.Test.YtjeeiodpdfbgmaaDoorPm04
import Derived.Test.YtjeeiodpdfbgmaaDoorPm05
import Derived.Test.YtjeeiodpdfbgmaaDoorPm06
import Derived.Test.YtjeeiodpdfbgmaaDoorPm07
import Derived.Test.YtjeeiodpdfbgmaaDoorPm08
import Derived.Test.YtjeeiodpdfbgmaaDoorPm09
import Derived.Test.YtjeeiodpdfbgmaaDoorPm10
import Derived.Test.YtjeeiodpdfbgmaaDoorPm11
import Derived.Below
import Derived.BigQuiet
import Derived.BigRegion
import Derived.Deep.AppendLies
import Derived.Deep.CutRange
import Derived.Deep.DeepCutAuto
import Derived.Deep.Draws
import Derived.Deep.LoopGhost
import Derived.Deep.QuietTactic
import Derived.Deep.RegionLaw
import Derived.Deep.RegionWith
import Derived.Deep.Slices
import Derived.Handy
import Derived.Laws.BitsAllLaws
import Derived.Laws.BitsLemmas
import Derived.Laws.CopyOwn
import Derived.Laws.IdiomStrings
import Derived.Laws.OwnMore
import Derived.Laws.Rows
import Derived.Laws.Strings2
import Derived.Laws.Strings3
import Derived.Laws.StructEq
import Derived.Lib.AppendStr
import Derived.Lib.Hide
import Derived.Lib.Strings
import Derived.LoopIn
import Derived.LoopNIn
import Derived.OneCell
import Derived.OpenShut
import Derived.Outline
import Derived.OwnWalk
import Derived.OwnWalkIn
import Derived.ProofKit
import Derived.RangeFuncBound
import Derived.RangeFuncCalls
import Derived.RangeFuncLeaves
import Derived.RangeFuncNested
import Derived.RegionTactic
import Derived.ScopeJumps
import Derived.Shelf.Abstract
import Derived.Shelf.RegionOpen
import Derived.Shelf.SlSortCmp.QuietGrown
import Derived.StillTailTactics
import Derived.TacticsInMore
import Derived.Test.YtjeeiodpdfbgmaaDoorChecked
import Derived.WalkKit
import Derived.WalkLawsBesides
import Derived.WalkMore
import Derived.WalkSpells
set_option maxRecDepth 100000
set_option linter.unusedVariables false
set_option maxRecDepth 100000
set_option linter.unusedVariables false
namespace Go.Proofs.YtjeeiodpdfbgmaaDoor
set_option maxRecDepth 100000
open Go Go.RowKit
theorem skip_of {l : List UInt8} {i d b : Nat} (hi : i + b < l.length) (hb : b < 258) (h : l.getD (i + b) 0 ≠ l.getD (i + b - d) 0) : runLen l i d ≤ b := by
  refine Nat.le_of_not_lt fun hlt => h ?_
  exact runG_same l i d 258 0 b (Nat.zero_le _) hlt
set_option maxHeartbeats 2000000 in
theorem longest_any (w : World) {s : ByteArray} {i : Nat} (hi : i < s.size) (hs : s.size ≤ 1000000) :
    Calls Tryd.prog 53 #[.string s, .int .i64 i] w fun e w' => e = .returned (tkVal (lgAt s.data.toList i)) ∧ But [] w w' := by
  obtain ⟨m, hm⟩ : ∃ m, m = min 258 (s.size - i) := ⟨_, rfl⟩
  have hm1 : i + m ≤ s.size := by omega
  have hm2 : m ≤ 258 := by omega
  have HM := Lib.hid hm
  have HB0 : Hid (But [] w (w.alloc (.cells #[.int .i64 0, .int .i64 0, .int .i64 0] 62))) := Lib.hid ((But.refl [] w).alloc _)
  have HI0 : Hid (Is (w.alloc (.cells #[.int .i64 0, .int .i64 0, .int .i64 0] 62)) w.heap.size 62 #[.int .i64 0, .int .i64 0, .int .i64 0]) := Lib.hid (Is.fresh w _ _)
  obtain ⟨b, hb⟩ : ∃ b, b = s.extract i (i + m) := ⟨_, rfl⟩
  have hbs : b.size = m := by rw [hb, ByteArray.size_extract]; omega
  have HBE := Lib.hid hb
  have hll := len_data s
  have HLL := Lib.hid hll
  clear hll hb hm
  go_enter Tryd.func53, Tryd.ntmps53
  go_upto_region 1 with (fail)
  go_cut [5] from 10 to 17 (fun v wx => v = .string b ∧ wx = w.alloc (.cells #[.int .i64 0, .int .i64 0, .int .i64 0] 62))
  case first =>
    by_cases hc : i + 258 ≤ s.size
    · have e : m = 258 := by have := HM.out; omega
      have hsl : ∀ w, (Instr.slice 9 (.string s) (some (.int .i64 (i : Int))) (some (.int .i64 ((i : Int) + 258))) none).run Tryd.prog w = .ok (.string b) w := fun w => by
        rw [run_slice_string w 9 s .i64 .i64 _ _ Tryd.underlying9 (by omega) (by omega) (by omega), HBE.out, e]; rfl
      clear e
      go_wp2
      all_goals (go_meet; exact ⟨rfl, rfl⟩)
    · have hsl : ∀ w, (Instr.slice 9 (.string s) (some (.int .i64 (i : Int))) (some (.int .i64 (s.size : Int))) none).run Tryd.prog w = .ok (.string b) w := fun w => by
        rw [run_slice_string w 9 s .i64 .i64 _ _ Tryd.underlying9 (by omega) (by omega) (by omega), HBE.out, show i + m = s.size by have := HM.out; omega]; rfl
      go_wp2
      all_goals (go_meet; exact ⟨rfl, rfl⟩)
  case rest =>
  obtain ⟨rfl, rfl⟩ := hcut
  by_cases h3 : m < 3
  · go_wp2
    refine bodyPost_ret (results_cell_row rfl _ _ w.heap.size _ _ _ _ rfl HI0.out Tryd.underlying62 rfl (by kernel_rfl)) rfl ?_
    refine ⟨?_, HB0.out⟩
    have hz : ¬ 3 ≤ (bestAt s.data.toList i).1 := by
      have h := best_in (l := s.data.toList) (i := i) (D := min 512 i) (by rw [HLL.out]; omega)
      rw [HLL.out, ← HM.out] at h
      show ¬ 3 ≤ (bestG s.data.toList i (min 512 i)).1
      omega
    unfold lgAt; rw [if_neg hz]; rfl
  · have HB1 : Hid (But [] w ((w.alloc (.cells #[.int .i64 0, .int .i64 0, .int .i64 0] 62)).alloc (.cells #[.int .i64 0, .int .i64 2, .int .i64 0] 62))) := Lib.hid (HB0.out.alloc _)
    have HI1 : Hid (Is ((w.alloc (.cells #[.int .i64 0, .int .i64 0, .int .i64 0] 62)).alloc (.cells #[.int .i64 0, .int .i64 2, .int .i64 0] 62)) w.heap.size 62 #[.int .i64 0, .int .i64 0, .int .i64 0]) := Lib.hid (HI0.out.alloc _)
    have HJ1 : Hid (Is ((w.alloc (.cells #[.int .i64 0, .int .i64 0, .int .i64 0] 62)).alloc (.cells #[.int .i64 0, .int .i64 2, .int .i64 0] 62)) (w.heap.size + 1) 62 #[.int .i64 0, .int .i64 2, .int .i64 0]) := Lib.hid (by
      have h := Is.fresh (w.alloc (.cells #[.int .i64 0, .int .i64 0, .int .i64 0] 62)) 62 #[.int .i64 0, .int .i64 2, .int .i64 0]
      simpa using h)
    have HS0 : Hid (bst s.data.toList i 0 = (2, 0)) := Lib.hid (by unfold bst; rw [if_neg (by show ¬ 3 ≤ (0 : Nat); omega)])
    obtain ⟨mn, hmn⟩ : ∃ x, x = min 512 i := ⟨_, rfl⟩
    have HMN := Lib.hid hmn
    have hmn5 : mn ≤ 512 := by omega
    have hmni : mn ≤ i := by omega
    clear hmn
    go_wp2
    go_loopw [7] (fun dv wr => ∃ D : Nat, D ≤ mn ∧ dv = .int .i64 ((D : Int) + 1) ∧ Hid (Is wr w.heap.size 62 #[.int .i64 0, .int .i64 0, .int .i64 0]) ∧ Hid (Is wr (w.heap.size + 1) 62 #[.int .i64 0, .int .i64 (bst s.data.toList i D).1, .int .i64 (bst s.data.toList i D).2]) ∧ Hid (But [] w wr)) (fun dv _ => 600 - (intOf dv).toNat)
    case atStart => exact ⟨0, Nat.zero_le _, rfl, HI1, by rw [HS0.out]; exact HJ1, HB1⟩
    case round =>
      obtain ⟨D, hD, rfl, hI, hJ, hB⟩ := hrel
      have hbb := bst_bounds (l := s.data.toList) (i := i) (D := D) (by rw [HLL.out]; omega)
      have hb2 := bst_two (l := s.data.toList) (i := i) (D := D)
      obtain ⟨bl, hbl⟩ : ∃ x, x = (bst s.data.toList i D).1 := ⟨_, rfl⟩
      obtain ⟨bd, hbd⟩ : ∃ x, x = (bst s.data.toList i D).2 := ⟨_, rfl⟩
      rw [← hbl, ← hbd] at hJ hbb
      rw [← hbl] at hb2
      have HBL := Lib.hid hbl
      have HBD := Lib.hid hbd
      obtain ⟨hb3, hb4⟩ := hbb
      have c1 : wr.cell? ⟨w.heap.size + 1, 1, none⟩ = some (.int .i64 bl) := hJ.out.cell 1
      have c2 : wr.cell? ⟨w.heap.size + 1, 2, none⟩ = some (.int .i64 bd) := hJ.out.cell 2
      clear hbl hbd HI1 HJ1 HB1 HI0 HB0 HS0
      by_cases hcont : D + 1 ≤ mn ∧ bl < m
      · obtain ⟨hD1, hblm⟩ := hcont
        go_upto_region 6 with (fail)
        go_cut [33] from 23 to 33 (fun v wx => v = .bool true ∧ wr = wx)
        case first =>
          rcases Nat.lt_or_ge 512 i with h5 | h5
          · have e : mn = 512 := by have := HMN.out; omega
            subst e
            go_wp2
            all_goals (go_meet; exact ⟨rfl, rfl⟩)
          · have e : mn = i := by have := HMN.out; omega
            subst e
            go_wp2
            all_goals (go_meet; exact ⟨rfl, rfl⟩)
        case rest =>
        obtain ⟨rfl, rfl⟩ := hcut
        obtain ⟨a, ha⟩ : ∃ a, a = s.extract (i - (D + 1)) s.size := ⟨_, rfl⟩
        have hcuts : Cuts s a b i (D + 1) m := by
          rw [ha, HBE.out]; exact cuts_of s (by omega) (by omega)
        have has : bl < a.size := by rw [hcuts.la]; omega
        have hsl : ∀ w, (Instr.slice 9 (.string s) (some (.int .i64 ((i : Int) - ((D : Int) + 1)))) none none).run Tryd.prog w = .ok (.string a) w := fun w => by
          rw [run_slice_string_from_if w 9 s .i64 _ Tryd.underlying9, if_pos (by omega), ha, show ((i : Int) - ((D : Int) + 1)).toNat = i - (D + 1) by omega]
        have hbbs : bl < b.size := by omega
        have e1 : s.data.toList.getD (i + bl - (D + 1)) 0 = a[bl] := hcuts.ga bl has
        have e2 : s.data.toList.getD (i + bl) 0 = b[bl] := hcuts.gb bl hbbs
        have HC := Lib.hid hcuts
        clear ha hcuts
        by_cases he : a[bl] = b[bl]
        · have hn2 : ((a[bl].toNat : Int) != (b[bl].toNat : Int)) = false := by rw [he]; simp
          clear he e1 e2
          go_wp2
          go_quiet (fail)
          go_wp2_with fail
          refine (common_any (wr.drewN nq) HC.out (by omega) (by omega) hi HM.out hs).mono ?_
          rintro e w2 ⟨rfl, n2, rfl⟩
          have hrl := run_most (l := s.data.toList) (i := i) (D + 1) (by rw [HLL.out]; omega)
          obtain ⟨rl, hrl2⟩ : ∃ x, x = runLen s.data.toList i (D + 1) := ⟨_, rfl⟩
          rw [← hrl2] at hrl ⊢
          have HRL := Lib.hid hrl2
          have hrl3 : rl ≤ 258 := by omega
          clear hrl hrl2
          by_cases hgt : bl < rl
          · have HTK := Lib.hid (show bst s.data.toList i (D + 1) = (rl, D + 1) by rw [HRL.out]; exact bst_take (by rw [← HBL.out, ← HRL.out]; exact hgt))
            have c0 : wr.cell? ⟨w.heap.size + 1, 0, none⟩ = some (.int .i64 0) := hJ.out.cell 0
            have f0 : wr.frozen? ⟨w.heap.size + 1, 0, none⟩ = false := hJ.out.free 0
            have f1 : wr.frozen? ⟨w.heap.size + 1, 1, none⟩ = false := hJ.out.free 1
            have f2 : wr.frozen? ⟨w.heap.size + 1, 2, none⟩ = false := hJ.out.free 2
            go_wp2
            go_roundw
            case rel =>
              have hJ2 : Hid (Is ((((wr.drewN (nq + n2)).setCell ⟨w.heap.size + 1, 0, none⟩ (.int .i64 0)).setCell ⟨w.heap.size + 1, 1, none⟩ (.int .i64 rl)).setCell ⟨w.heap.size + 1, 2, none⟩ (.int .i64 ((D : Int) + 1))) (w.heap.size + 1) 62 #[.int .i64 0, .int .i64 (rl : Nat), .int .i64 ((D + 1 : Nat) : Int)]) :=
                Lib.hid ((((hJ.out.drewN (nq + n2)).put 0 (.int .i64 0)).put 1 (.int .i64 rl)).put 2 (.int .i64 ((D : Int) + 1)))
              refine ⟨D + 1, hD1, by go_num, Lib.hid ((((hI.out.drewN (nq + n2)).far (by simp) _).far (by simp) _).far (by simp) _), ?_, Lib.hid ((((hB.out.drewN (nq + n2)).setCell (.inr (by simp)) _).setCell (.inr (by simp)) _).setCell (.inr (by simp)) _)⟩
              rw [HTK.out]; exact hJ2
            case measure => simp [intOf]; omega
          · have HSK := Lib.hid (show bst s.data.toList i (D + 1) = bst s.data.toList i D from bst_skip (by rw [← HBL.out, ← HRL.out]; omega))
            go_wp2
            go_roundw
            case rel => exact ⟨D + 1, hD1, by go_num, Lib.hid (hI.out.drewN (nq + n2)), by rw [HSK.out, ← HBL.out, ← HBD.out]; exact Lib.hid (hJ.out.drewN (nq + n2)), Lib.hid (hB.out.drewN (nq + n2))⟩
            case measure => simp [intOf]; omega
        · have hn2 : ((a[bl].toNat : Int) != (b[bl].toNat : Int)) = true := by simpa using u8_ne he
          have HSK := Lib.hid (show bst s.data.toList i (D + 1) = bst s.data.toList i D from bst_skip (by rw [← HBL.out]; exact skip_of (by rw [HLL.out]; omega) (by omega) (by rw [e1, e2]; exact fun h => he h.symm)))
          clear he e1 e2
          go_wp2
          go_quiet (fail)
          go_wp2
          go_roundw
          case rel => exact ⟨D + 1, hD1, by go_num, Lib.hid (hI.out.drewN nq), by rw [HSK.out, ← HBL.out, ← HBD.out]; exact Lib.hid (hJ.out.drewN nq), Lib.hid (hB.out.drewN nq)⟩
          case measure => simp [intOf]; omega
      · have HEND := Lib.hid (show lgAt s.data.toList i = if bd = 0 then (0, 0, 0) else ((bl : Int), (bd : Int), 0) by
          rw [lgAt_of, ← HMN.out]
          have : bst s.data.toList i mn = bst s.data.toList i D := by
            by_cases h : D + 1 ≤ mn
            · have := bst_full (l := s.data.toList) (i := i) (D := D) (by rw [HLL.out]; omega) (by rw [HLL.out, ← HM.out, ← HBL.out]; omega) (mn - D)
              rw [show D + (mn - D) = mn by omega] at this; exact this
            · rw [show mn = D by omega]
          rw [this, ← HBL.out, ← HBD.out])
        go_upto_region 6 with (fail)
        go_cut [33] from 23 to 33 (fun v wx => v = .bool false ∧ wr = wx)
        case first =>
          rcases Nat.lt_or_ge 512 i with h5 | h5
          · have e : mn = 512 := by have := HMN.out; omega
            subst e
            by_cases h6 : D + 1 ≤ 512
            · have h7 : ¬ bl < m := fun h => hcont ⟨h6, h⟩
              go_wp2
              all_goals (go_meet; exact ⟨rfl, rfl⟩)
            · go_wp2
              all_goals (go_meet; exact ⟨rfl, rfl⟩)
          · have e : mn = i := by have := HMN.out; omega
            subst e
            by_cases h6 : D + 1 ≤ mn
            · have h7 : ¬ bl < m := fun h => hcont ⟨h6, h⟩
              go_wp2
              all_goals (go_meet; exact ⟨rfl, rfl⟩)
            · go_wp2
              all_goals (go_meet; exact ⟨rfl, rfl⟩)
        case rest =>
        obtain ⟨rfl, rfl⟩ := hcut
        by_cases hz : bd = 0
        · have hz' : ((bd : Int) == 0) = true := by subst hz; rfl
          have HE2 := Lib.hid (show lgAt s.data.toList i = (0, 0, 0) by rw [HEND.out, if_pos hz])
          clear hz
          have g0 : wr.cell? ⟨w.heap.size, 0, none⟩ = some (.int .i64 0) := hI.out.cell 0
          have g1 : wr.cell? ⟨w.heap.size, 1, none⟩ = some (.int .i64 0) := hI.out.cell 1
          have g2 : wr.cell? ⟨w.heap.size, 2, none⟩ = some (.int .i64 0) := hI.out.cell 2
          have f0 : wr.frozen? ⟨w.heap.size, 0, none⟩ = false := hI.out.free 0
          have f1 : wr.frozen? ⟨w.heap.size, 1, none⟩ = false := hI.out.free 1
          have f2 : wr.frozen? ⟨w.heap.size, 2, none⟩ = false := hI.out.free 2
          go_wp2
          (try simp only [Exit.inBlock, Exit.then])
          refine bodyPost_ret (results_cell_row rfl _ _ w.heap.size _ _ _ _ rfl (((hI.out.put 0 (.int .i64 0)).put 1 (.int .i64 0)).put 2 (.int .i64 0)) Tryd.underlying62 rfl (by kernel_rfl)) rfl ?_
          exact ⟨by rw [HE2.out]; rfl, ((hB.out.setCell (.inr (by simp)) _).setCell (.inr (by simp)) _).setCell (.inr (by simp)) _⟩
        · have hz' : ((bd : Int) == 0) = false := by simp; omega
          have HE2 := Lib.hid (show lgAt s.data.toList i = ((bl : Int), (bd : Int), 0) by rw [HEND.out, if_neg hz])
          clear hz
          have c0 : wr.cell? ⟨w.heap.size + 1, 0, none⟩ = some (.int .i64 0) := hJ.out.cell 0
          have g0 : wr.cell? ⟨w.heap.size, 0, none⟩ = some (.int .i64 0) := hI.out.cell 0
          have g1 : wr.cell? ⟨w.heap.size, 1, none⟩ = some (.int .i64 0) := hI.out.cell 1
          have g2 : wr.cell? ⟨w.heap.size, 2, none⟩ = some (.int .i64 0) := hI.out.cell 2
          have f0 : wr.frozen? ⟨w.heap.size, 0, none⟩ = false := hI.out.free 0
          have f1 : wr.frozen? ⟨w.heap.size, 1, none⟩ = false := hI.out.free 1
          have f2 : wr.frozen? ⟨w.heap.size, 2, none⟩ = false := hI.out.free 2
          go_wp2
          (try simp only [Exit.inBlock, Exit.then])
          refine bodyPost_ret (results_cell_row rfl _ _ w.heap.size _ _ _ _ rfl (((hI.out.put 0 (.int .i64 0)).put 1 (.int .i64 bl)).put 2 (.int .i64 bd)) Tryd.underlying62 rfl (by kernel_rfl)) rfl ?_
          exact ⟨by rw [HE2.out]; rfl, ((hB.out.setCell (.inr (by simp)) _).setCell (.inr (by simp)) _).setCell (.inr (by simp)) _⟩
end Go.Proofs.YtjeeiodpdfbgmaaDoor
set_option maxRecDepth 100000
set_option linter.unusedVariables false
namespace Go.Proofs.YtjeeiodpdfbgmaaDoor
set_option maxRecDepth 100000
open Go Go.RowKit
theorem OwnK.pushed {w wr w' : World} {v v' : Value} {L : List T3} {x : T3} {cs : Array Value} {t : TypeId} (hB : But [] w wr) (hO : OwnK wr w.heap.size v L)
    (h1 : w'.ownsRow w.heap.size 62 3 v' (L.length + 1) (tkCells L ++ [.int .i64 x.2.2, .int .i64 x.1, .int .i64 x.2.1])) (hg : (wr.alloc (.cells cs t)).grownBy w' v.ownBlock) :
    OwnK w' w.heap.size v' (L ++ [x]) ∧ But [] w w' := by
  refine ⟨?_, (hB.alloc _).grown hg (fun g e => .inr (hO.lt g e).1)⟩
  unfold OwnK
  rw [List.length_append, tkCells_append]
  simpa [tkCells] using h1
/-- Tokens, in a slice of the call's own. -/
def GotK (w : World) (L : List T3) (e : Ending) (w' : World) : Prop := ∃ v, e = .returned v ∧ OwnK w' w.heap.size v L ∧ But [] w w'
theorem toks_step_m {l : List UInt8} {i : Nat} (hi : i < l.length) (h : 3 ≤ (bestAt l i).1) : (toksG l (l.length - i) i).map tkI = (((bestAt l i).1 : Int), ((bestAt l i).2 : Int), (0 : Int)) :: (toksG l (l.length - (i + (bestAt l i).1)) (i + (bestAt l i).1)).map tkI := by
  obtain ⟨f, hf⟩ : ∃ f, l.length - i = f + 1 := ⟨l.length - i - 1, by omega⟩
  rw [hf, toksG, if_pos hi, if_pos h, List.map_cons, toksG_more l (l.length - (i + (bestAt l i).1)) f _ (by omega) (by omega)]; rfl
theorem toks_step_l {l : List UInt8} {i : Nat} (hi : i < l.length) (h : ¬ 3 ≤ (bestAt l i).1) : (toksG l (l.length - i) i).map tkI = ((0 : Int), (0 : Int), ((l.getD i 0).toNat : Int)) :: (toksG l (l.length - (i + 1)) (i + 1)).map tkI := by
  obtain ⟨f, hf⟩ : ∃ f, l.length - i = f + 1 := ⟨l.length - i - 1, by omega⟩
  rw [hf, toksG, if_pos hi, if_neg h, List.map_cons, toksG_more l (l.length - (i + 1)) f _ (by omega) (by omega)]; rfl
theorem toks_step_e {l : List UInt8} {i : Nat} (hi : ¬ i < l.length) : (toksG l (l.length - i) i).map tkI = [] := by
  rw [show l.length - i = 0 by omega]; rfl
set_option maxHeartbeats 2000000 in
theorem tokens_any (w : World) {s : ByteArray} (hs : s.size ≤ 1000000) :
    Calls Tryd.prog 32 #[.string s] w (GotK w ((toks s.data.toList).map tkI)) := by
  obtain ⟨i0, hi0, hz0, hz1, hz2⟩ := info_parts info_tok
  have he := tok_eql
  have HLL := Lib.hid (len_data s)
  go_enter Tryd.func32, Tryd.ntmps32
  go_wp2
  go_step3
  go_wp2
  go_step3
  go_wp2
  go_loopw [3, 4] (fun tv av wr => ∃ (i : Nat) (L : List T3), i ≤ s.size ∧ av = .int .i64 i ∧ L.length ≤ i ∧ Hid (L ++ (toksG s.data.toList (s.data.toList.length - i) i).map tkI = (toks s.data.toList).map tkI) ∧ Hid (OwnK wr w.heap.size tv L) ∧ Hid (But [] w wr)) (fun _ av _ => s.size - (intOf av).toNat)
  case atStart => exact ⟨0, [], Nat.zero_le _, rfl, Nat.le_refl _, Lib.hid rfl, Lib.hid (OwnK.nil _ _), Lib.hid (But.refl _ _)⟩
  case round =>
    obtain ⟨i, L, hi, rfl, hL, HM, HO, HB⟩ := hrel
    have hsz := HB.out.size
    by_cases hlt : i < s.size
    · go_wp2_with fail
      refine (longest_any wr hlt hs).mono ?_
      rintro e w1 ⟨rfl, hB1⟩
      have HB1 := Lib.hid (HB.out.freshZ hB1 (by simp))
      have HO1 := Lib.hid (HO.out.but hB1)
      have hsz1 := HB1.out.size
      clear hB1
      by_cases h3 : 3 ≤ (bestAt s.data.toList i).1
      · have HST := Lib.hid (toks_step_m (l := s.data.toList) (i := i) (by rw [HLL.out]; exact hlt) h3)
        obtain ⟨b1, b2, b3, b4, b5, b6⟩ := best_match (l := s.data.toList) (i := i) (by rw [HLL.out]; exact hlt) h3
        have hlg : lgAt s.data.toList i = (((bestAt s.data.toList i).1 : Int), ((bestAt s.data.toList i).2 : Int), (0 : Int)) := by unfold lgAt; rw [if_pos h3]
        rw [hlg]
        rw [HLL.out] at b5
        generalize (bestAt s.data.toList i).1 = n at *
        generalize (bestAt s.data.toList i).2 = d at *
        clear hlg b6
        unfold tkVal
        have hd0 : decide ((0 : Int) = 0 ∧ (n : Int) = 0 ∧ (d : Int) = 0) = false := by simp; omega
        have hd1 : decide ((n : Int) = 0 ∧ (d : Int) = 0) = false := by simp; omega
        have HB2 := Lib.hid (HB1.out.alloc (.cells #[.int .i64 0, .int .i64 n, .int .i64 d] 62))
        have HO2 : Hid (OwnK (w1.alloc (.cells #[.int .i64 0, .int .i64 n, .int .i64 d] 62)) w.heap.size u3 L) := Lib.hid (HO1.out.but ((But.refl [] w1).alloc _))
        have HI2 : Hid (Is (w1.alloc (.cells #[.int .i64 0, .int .i64 n, .int .i64 d] 62)) w1.heap.size 62 #[.int .i64 0, .int .i64 n, .int .i64 d]) := Lib.hid (Is.fresh w1 _ _)
        go_wp2_with (at_builtin; refine wpList_append_own _ rfl _ _ 53 rfl w.heap.size 62 i0 (.agg #[.int .i64 0, .int .i64 0, .int .i64 0]) 3 24 Tryd.underlying53 hi0 hz0 hz1 hz2 rfl (by decide) _ L.length (tkCells L) rfl (World.ownsRow.alloc HO2.out _) ⟨w1.heap.size + 1, 0, none⟩ 1 1 [.int .i64 0, .int .i64 n, .int .i64 d] rfl rfl ?c1 ?c2 ?c3 ?c4 ?c5 ?_)
        case c1 => exact World.news_of_block (cs := #[.int .i64 0, .int .i64 n, .int .i64 d]) (t := 62) (fr := (0, 0)) (heap_alloc2_new w1 _ _)
        case c2 => simp [Value.oneCell']
        case c3 => unfold maxLen; omega
        case c4 => omega
        case c5 => simp; omega
        intro v' w2 hown2 hgrow2 _
        have hP := OwnK.pushed (x := ((n : Int), (d : Int), (0 : Int))) HB2.out HO2.out hown2 hgrow2
        have HP := Lib.hid hP
        have hI3 : Is w2 w1.heap.size 62 #[.int .i64 0, .int .i64 n, .int .i64 d] := (HI2.out.alloc _).grown hgrow2 (by
          intro e
          have := (HO1.out.lt _ e.symm).2
          omega)
        have c1 : w2.cell? ⟨w1.heap.size, 1, none⟩ = some (.int .i64 n) := hI3.cell 1
        clear hown2 hgrow2 hP hI3
        go_wp2
        go_roundw
        case rel => exact ⟨i + n, L ++ [((n : Int), (d : Int), (0 : Int))], by omega, by go_num, by rw [List.length_append, List.length_singleton]; omega, Lib.hid (by rw [← HM.out, HST.out, List.append_assoc]; rfl), Lib.hid HP.out.1, Lib.hid HP.out.2⟩
        case measure => simp [intOf]; omega
      · have HST := Lib.hid (toks_step_l (l := s.data.toList) (i := i) (by rw [HLL.out]; exact hlt) h3)
        have hlg : lgAt s.data.toList i = ((0 : Int), (0 : Int), (0 : Int)) := by unfold lgAt; rw [if_neg h3]
        have HBA := Lib.hid (byteZ_at s hlt)
        have hwr : wrap64 (s[i].toNat : Int) = (s[i].toNat : Int) := by have := s[i].toNat_lt; unfold wrap64; omega
        rw [hlg]
        unfold tkVal
        have hd0 : decide ((0 : Int) = 0 ∧ (0 : Int) = 0 ∧ (0 : Int) = 0) = true := by simp
        have hi1 : (0 : Int) ≤ (i : Int) := by omega
        clear hlg h3
        have HB2 := Lib.hid (HB1.out.alloc (.cells #[.int .i64 0, .int .i64 0, .int .i64 0] 62))
        have HO2 : Hid (OwnK (w1.alloc (.cells #[.int .i64 0, .int .i64 0, .int .i64 0] 62)) w.heap.size u3 L) := Lib.hid (HO1.out.but ((But.refl [] w1).alloc _))
        go_wp2_with (at_builtin; refine wpList_append_own _ rfl _ _ 53 rfl w.heap.size 62 i0 (.agg #[.int .i64 0, .int .i64 0, .int .i64 0]) 3 24 Tryd.underlying53 hi0 hz0 hz1 hz2 rfl (by decide) _ L.length (tkCells L) rfl (World.ownsRow.alloc HO2.out _) ⟨w1.heap.size + 1, 0, none⟩ 1 1 [.int .i64 s[i].toNat, .int .i64 0, .int .i64 0] rfl rfl ?d1 ?d2 ?d3 ?d4 ?d5 ?_)
        case d1 => exact World.news_of_block (cs := #[.int .i64 s[i].toNat, .int .i64 0, .int .i64 0]) (t := 62) (fr := (0, 0)) (heap_alloc2_new w1 _ _)
        case d2 => simp [Value.oneCell']
        case d3 => unfold maxLen; omega
        case d4 => omega
        case d5 => simp; omega
        intro v' w2 hown2 hgrow2 _
        have hP := OwnK.pushed (x := ((0 : Int), (0 : Int), (s[i].toNat : Int))) HB2.out HO2.out hown2 hgrow2
        have HP := Lib.hid hP
        clear hown2 hgrow2 hP
        go_wp2
        go_roundw
        case rel => exact ⟨i + 1, L ++ [((0 : Int), (0 : Int), (s[i].toNat : Int))], by omega, by go_num, by rw [List.length_append, List.length_singleton]; omega, Lib.hid (by rw [← HM.out, HST.out, HBA.out, List.append_assoc]; rfl), Lib.hid HP.out.1, Lib.hid HP.out.2⟩
        case measure => simp [intOf]; omega
    · go_wp2
      (try rw [Exit.noGoto_ret])
      go_ret
      have e : i = s.size := by omega
      refine ⟨_, rfl, ?_, HB.out⟩
      have h := HM.out
      rw [toks_step_e (by rw [HLL.out]; exact hlt), List.append_nil] at h
      rw [← h]; exact HO.out
end Go.Proofs.YtjeeiodpdfbgmaaDoor
set_option maxRecDepth 100000
set_option linter.unusedVariables false
namespace Go.Proofs.YtjeeiodpdfbgmaaDoor
set_option maxRecDepth 100000
open Go Go.RowKit
/-- What the document's writer does to the world: its own blocks alone. -/
def WroteF (w w' : World) (lo b : Nat) (og : Option Nat) (r : Nat × Nat) : Prop := ∃ og', FW w' lo b og' r.1 r.2 ∧ (∀ g, og' = some g → og = some g ∨ w.heap.size ≤ g) ∧ But (b :: og.toList) w w'
section
variable {w w1 w' : World} {lo b : Nat} {og : Option Nat} {r : Nat × Nat}
theorem WroteF.refl (h : FW w lo b og r.1 r.2) : WroteF w w lo b og r := ⟨og, h, fun _ h => .inl h, But.refl _ _⟩
theorem WroteF.but (h : WroteF w w' lo b og r) : But (b :: og.toList) w w' := by
  obtain ⟨_, _, _, h⟩ := h; exact h
theorem WroteF.keep {Q : World → Prop} (h : WroteF w w' lo b og r) (k : Keep (b :: og.toList) w Q) : Q w' := k w' h.but
theorem WroteF.step {r' : Nat × Nat} {og' og2 : Option Nat} (hg : ∀ g, og' = some g → og = some g ∨ w.heap.size ≤ g) (hB : But (b :: og.toList) w w1)
    (h2 : FW w' lo b og2 r'.1 r'.2) (hg2 : ∀ g, og2 = some g → og' = some g ∨ w1.heap.size ≤ g) (hB2 : But (b :: og'.toList) w1 w') : WroteF w w' lo b og r' := by
  refine ⟨og2, h2, fun g e => ?_, hB.join hB2 fun i hi => ?_⟩
  · rcases hg2 g e with h | h
    · exact hg g h
    · exact .inr (Nat.le_trans hB.size h)
  · simp only [List.mem_cons, Option.mem_toList] at hi ⊢
    rcases hi with h | h
    · exact .inl (.inl h)
    · rcases hg i h with h | h
      · exact .inl (.inr h)
      · exact .inr h
theorem WroteF.bits (h : WroteF w w1 lo b og r) (hlo : lo ≤ w.heap.size) (hN : r.2 ≤ 100000000000) (v n : Nat) :
    Calls Tryd.prog 28 #[.pointer (some ⟨b, 0, none⟩), .int .i64 v, .int .i64 n] w1 fun e w' => e = .returned (.tuple #[]) ∧ WroteF w w' lo b og (layB r v n) := by
  obtain ⟨og', hW, hg, hB⟩ := h
  refine (hW.bits (Nat.le_trans hlo hB.size) (by omega) v n).mono ?_
  rintro e w' ⟨rfl, og2, hW2, hg2, hB2⟩
  exact ⟨rfl, WroteF.step hg hB hW2 hg2 hB2⟩
theorem WroteF.bitsI (h : WroteF w w1 lo b og r) (hlo : lo ≤ w.heap.size) (hN : r.2 ≤ 100000000000) (v n : Int) :
    Calls Tryd.prog 28 #[.pointer (some ⟨b, 0, none⟩), .int .i64 v, .int .i64 n] w1 fun e w' => e = .returned (.tuple #[]) ∧ WroteF w w' lo b og (layX r.1 r.2 v n, layN r.2 n) := by
  obtain ⟨og', hW, hg, hB⟩ := h
  refine (hW.bits (Nat.le_trans hlo hB.size) (by omega) v n).mono ?_
  rintro e w' ⟨rfl, og2, hW2, hg2, hB2⟩
  exact ⟨rfl, WroteF.step hg hB hW2 hg2 hB2⟩
theorem WroteF.bytes (h : WroteF w w1 lo b og r) (hlo : lo ≤ w.heap.size) (hN : r.2 ≤ 100000000000) (s : ByteArray) (hs : s.size ≤ 70368744177664) :
    Calls Tryd.prog 29 #[.pointer (some ⟨b, 0, none⟩), .string s] w1 fun e w' => e = .returned (.tuple #[]) ∧ WroteF w w' lo b og (bytesX r.1 r.2 s, bytesN r.2 s) := by
  obtain ⟨og', hW, hg, hB⟩ := h
  refine (hW.bytes (Nat.le_trans hlo hB.size) (by omega) s hs).mono ?_
  rintro e w' ⟨rfl, og2, hW2, hg2, hB2⟩
  exact ⟨rfl, WroteF.step hg hB hW2 hg2 hB2⟩
theorem WroteF.text (h : WroteF w w1 lo b og r) : Calls Tryd.prog 30 #[.pointer (some ⟨b, 0, none⟩)] w1 fun e w' => e = .returned (.string (textX r)) ∧ w1 = w' := by
  obtain ⟨og', hW, hg, hB⟩ := h
  exact hW.text
end
end Go.Proofs.YtjeeiodpdfbgmaaDoor
set_option maxRecDepth 100000
set_option linter.unusedVariables false
namespace Go.Proofs.YtjeeiodpdfbgmaaDoor
set_option maxRecDepth 100000
open Go Go.RowKit
theorem okl {l : List Int} (hc : chk l = 0) : ∀ x ∈ l, 0 ≤ x ∧ x ≤ 15 := fun x hx => chk_okay hc x hx
theorem layC_few {l : List Int} (hok : ∀ x ∈ l, 0 ≤ x ∧ x ≤ 15) (q : Nat × Nat) (t : Nat) : (layC l q t).2 ≤ q.2 + 15 := by
  unfold layC layS
  by_cases hh : has l t
  · rw [if_pos hh, layG_len, Int.toNat_natCast]
    have h8 : (t : Int) < l.length := hh.2.1
    have h9 := hok _ (List.getElem_mem (show t < l.length by omega))
    rw [← getD_get (show t < l.length by omega)] at h9
    omega
  · rw [if_neg hh]; omega
theorem layB_few (q : Nat × Nat) (v n : Nat) : (layB q v n).2 ≤ q.2 + n := by
  unfold layB layN
  dsimp only
  split
  · omega
  · rw [Int.toNat_natCast]; exact Nat.le_refl _
theorem layT_few {l d : List Int} (hl : ∀ x ∈ l, 0 ≤ x ∧ x ≤ 15) (hd : ∀ x ∈ d, 0 ≤ x ∧ x ≤ 15) {t : Tk} (ht : tkHas l d t) (q : Nat × Nat) : (layT l d q t).2 ≤ q.2 + 60 := by
  unfold tkHas at ht
  unfold layT
  by_cases h0 : t.1 = 0
  · rw [if_pos h0]; have := layC_few hl q t.2.2; omega
  · rw [if_neg h0] at ht ⊢
    obtain ⟨a1, a2, a3, a4, a5, a6⟩ := ht
    obtain ⟨b1, b2, b3, b4⟩ := lsym_all t.1 (by omega) a1
    obtain ⟨c1, c2, c3⟩ := dsym_all t.2.1 (by omega) a3
    have e1 := layC_few hl q (lsym t.1)
    have e2 := layB_few (layC l q (lsym t.1)) (t.1 - lenBase (lsym t.1)) (lenBits (lsym t.1))
    have e3 := layC_few hd (layB (layC l q (lsym t.1)) (t.1 - lenBase (lsym t.1)) (lenBits (lsym t.1))) (dsym t.2.1)
    have e4 := layB_few (layC d (layB (layC l q (lsym t.1)) (t.1 - lenBase (lsym t.1)) (lenBits (lsym t.1))) (dsym t.2.1)) (t.2.1 - dstBase (dsym t.2.1)) (dstBits (dsym t.2.1))
    have e5 := lenBase_few (lsym t.1) (by omega) b1
    have e6 := dstBase_few (dsym t.2.1) (by omega)
    omega
theorem layTs_snoc (l d : List Int) (q : Nat × Nat) (ts : List Tk) (t : Tk) : layTs l d q (ts ++ [t]) = layT l d (layTs l d q ts) t := by
  unfold layTs; rw [List.foldl_append]; rfl
section
variable {w w1 w' : World} {lo b : Nat} {og : Option Nat} {r : Nat × Nat}
end
end Go.Proofs.YtjeeiodpdfbgmaaDoor
namespace Go.Proofs.YtjeeiodpdfbgmaaDoor
set_option maxRecDepth 100000
open Go Go.RowKit
def ordCells : Array Value := #[.int .i64 16, .int .i64 17, .int .i64 18, .int .i64 0, .int .i64 8, .int .i64 7, .int .i64 9, .int .i64 6, .int .i64 10, .int .i64 5, .int .i64 11, .int .i64 4, .int .i64 12, .int .i64 3, .int .i64 13, .int .i64 2, .int .i64 14, .int .i64 1, .int .i64 15]
end Go.Proofs.YtjeeiodpdfbgmaaDoor
namespace Go.Proofs.YtjeeiodpdfbgmaaDoor
set_option maxRecDepth 100000
open Go Go.RowKit
/-- The document's table of lengths lies in block b, and all its memory from block lo on. -/
def NewRT (lo : Nat) (w : World) (b : Nat) (l : List Int) : Prop :=
  ∃ Al cl Ac cc, Is w b 90 #[.slice Al l.length cl, .slice Ac l.length cc] ∧ Ints w Al l.length l ∧ Ints w Ac l.length (codes l) ∧ lo ≤ b ∧ (∀ a, Al = some a → lo ≤ a.block) ∧ (∀ a, Ac = some a → lo ≤ a.block)
theorem NewRT.rt {lo b : Nat} {w : World} {l : List Int} (h : NewRT lo w b l) : RT w b l := by
  obtain ⟨Al, cl, Ac, cc, h1, h2, h3, _⟩ := h
  exact ⟨Al, cl, Ac, cc, h1, h2, h3⟩
theorem NewRT.but {lo b : Nat} {w w' : World} {l : List Int} {S : List Nat} (h : NewRT lo w b l) (hw : But S w w') (hS : ∀ k ∈ S, k < lo) : NewRT lo w' b l := by
  obtain ⟨Al, cl, Ac, cc, h1, h3, h4, h5, h7, h8⟩ := h
  have off : ∀ A : Option Addr, (∀ a, A = some a → lo ≤ a.block) → ∀ k ∈ S, Off A k := fun A hA k hk a e => by
    have := hA a e; have := hS k hk; omega
  exact ⟨Al, cl, Ac, cc, h1.but hw (fun hb => by have := hS b hb; omega), h3.but hw (off _ h7), h4.but hw (off _ h8), h5, h7, h8⟩
end Go.Proofs.YtjeeiodpdfbgmaaDoor
set_option maxRecDepth 100000
set_option linter.unusedVariables false
namespace Go.Proofs.YtjeeiodpdfbgmaaDoor
set_option maxRecDepth 100000
open Go Go.RowKit
attribute [local irreducible] layTs layC layB fixL fixD toks textX fixedX
theorem NewRT.keep {lo b : Nat} {w : World} {l : List Int} (h : NewRT lo w b l) {S : List Nat} (hS : ∀ k ∈ S, k < lo) : Keep S w fun w' => RT w' b l := fun w' hB => (h.but hB hS).rt
theorem OwnK.keep {w : World} {base n c m : Nat} {A : Option Addr} {L : List T3} (h : OwnK w base (.slice A n c) L) {S : List Nat} (hS : ∀ k ∈ S, k < base) (hn : L.length = m) : Keep S w fun w' => Tks w' A m L := fun w' hB => by
  have h2 : OwnK w' base (.slice A n c) L := ownsRow_but h hB fun g e hg => by have := (h.lt g e).1; have := hS g hg; omega
  obtain ⟨A2, c2, e, hT⟩ := h2.open
  injection e with e1 e2 e3
  subst e1
  rw [← hn]
  exact hT
/-- The writer's blocks. -/
theorem WroteF.out {w w' : World} {lo b : Nat} {og : Option Nat} {r : Nat × Nat} (h : WroteF w w' lo b og r) (hb : b < w.heap.size) : ∃ og', FW w' lo b og' r.1 r.2 ∧ ∀ k ∈ b :: og'.toList, k < w'.heap.size := by
  obtain ⟨og', hF, hg, hB⟩ := h
  refine ⟨og', hF, fun k hk => ?_⟩
  simp only [List.mem_cons, Option.mem_toList] at hk
  rcases hk with rfl | hk
  · exact hF.lt.1
  · exact (hF.lt.2 k hk).1
end Go.Proofs.YtjeeiodpdfbgmaaDoor
set_option maxRecDepth 100000
set_option linter.unusedVariables false
namespace Go.Proofs.YtjeeiodpdfbgmaaDoor
set_option maxRecDepth 100000
open Go Go.RowKit
theorem conv_at {W : World} {g cap : Nat} {L : List UInt8} (h : ∀ j (hj : j < L.length), W.cell? ⟨g, j, none⟩ = some (.int .u8 (L[j].toNat : Int))) :
    (convert 47 9 (.slice (some ⟨g, 0, none⟩) L.length cap)).run Tryd.prog W = .ok (.string ⟨L.toArray⟩) W := by
  refine run_convert_bytes_back W 47 9 5 ⟨g, 0, none⟩ cap L Tryd.underlying47 Tryd.underlying5 Tryd.underlying9 (fun j hj => ?_)
  have e2 : (⟨g, 0, none⟩ : Addr).add j = ⟨g, j, none⟩ := by unfold Addr.add; split <;> simp_all
  rw [e2]; exact h j hj
theorem head_len (n : Nat) : (headY n).length = 4 := rfl
attribute [local irreducible] layB layY storX textX headY
theorem WroteF.other {w w1 w2 : World} {lo b : Nat} {og : Option Nat} {r : Nat × Nat} (h : WroteF w w1 lo b og r) (hB : But [] w1 w2) : WroteF w w2 lo b og r := by
  obtain ⟨og', hF, hg, hB1⟩ := h
  exact WroteF.step hg hB1 (hF.but hB (by simp) (by simp)) (fun g e => .inl e) (hB.more (by simp))
theorem wrapi {a : Int} (h0 : 0 ≤ a) (h1 : a < 100000) : IntKind.i64.wrap a = a := by simp [IntKind.wrap_i64]; omega
end Go.Proofs.YtjeeiodpdfbgmaaDoor
namespace Go.Proofs.YtjeeiodpdfbgmaaDoor
set_option maxRecDepth 100000
section
variable {α β : Type}
end
/-- Weights, and how often each symbol stands in them. -/
abbrev Tg := Nat × List Int
def Bnd (B W : Nat) (L : List Tg) : Prop := ∀ x ∈ L, x.1 ≤ W ∧ ∀ s, 0 ≤ x.2.getD s 0 ∧ x.2.getD s 0 ≤ (B : Int)
theorem Bnd.more {B B' W W' : Nat} {L : List Tg} (h : Bnd B W L) (hB : B ≤ B') (hW : W ≤ W') : Bnd B' W' L := fun x hx => ⟨by have := (h x hx).1; omega, fun s => by have := (h x hx).2 s; omega⟩
end Go.Proofs.YtjeeiodpdfbgmaaDoor
namespace Go.Proofs.YtjeeiodpdfbgmaaDoor
set_option maxRecDepth 100000
open Go Go.RowKit
/-- A thing: its weight, whether it is a coin, where its numbers lie, and these. -/
structure Th where
  n : Nat
  b : Bool
  a : Option Addr
  c : Nat
  v : List Int
def thCells (len : Nat) (L : List Th) : List Value := L.flatMap fun x => [.int .i64 x.n, .bool x.b, .slice x.a len x.c]
theorem thCells_at (len : Nat) : ∀ (L : List Th) (i : Nat) (h : i < L.length), (thCells len L)[i * 3]? = some (.int .i64 L[i].n) ∧ (thCells len L)[i * 3 + 1]? = some (.bool L[i].b) ∧ (thCells len L)[i * 3 + 2]? = some (.slice L[i].a len L[i].c)
  | x :: L, 0, _ => by simp [thCells]
  | x :: L, i + 1, h => by
    have := thCells_at len L i (by simpa using h)
    have e : thCells len (x :: L) = .int .i64 x.n :: .bool x.b :: .slice x.a len x.c :: thCells len L := by simp [thCells]
    rw [e, show (i + 1) * 3 = i * 3 + 1 + 1 + 1 from by omega, show i * 3 + 1 + 1 + 1 + 1 = i * 3 + 1 + 1 + 1 + 1 from rfl]
    simpa using this
theorem length_thCells (len : Nat) (L : List Th) : (thCells len L).length = L.length * 3 := by
  induction L with
  | nil => rfl
  | cons x L ih => simp only [thCells, List.flatMap_cons, List.length_append] at ih ⊢; rw [ih]; simp; omega
/-- The numbers of things. -/
def Vecs (w : World) (len : Nat) (L : List Th) : Prop := ∀ x ∈ L, Ints w x.a len x.v
theorem Vecs.but {w w' : World} {len : Nat} {L : List Th} (h : Vecs w len L) (hw : But [] w w') : Vecs w' len L := fun x hx => (h x hx).but hw (by simp)
/-- A slice reads as these things. -/
def Things (w : World) (A : Option Addr) (n len : Nat) (L : List Th) : Prop :=
  L.length = n ∧ (0 < n → ∃ g o, A = some ⟨g, o, none⟩ ∧ g < w.heap.size ∧ ∀ (i : Nat) (h : i < L.length), w.cell? ⟨g, o + i * 3, none⟩ = some (.int .i64 L[i].n) ∧ w.cell? ⟨g, o + i * 3 + 1, none⟩ = some (.bool L[i].b) ∧ w.cell? ⟨g, o + i * 3 + 2, none⟩ = some (.slice L[i].a len L[i].c)) ∧ Vecs w len L
theorem Things.but {w w' : World} {A : Option Addr} {n len : Nat} {L : List Th} (h : Things w A n len L) (hw : But [] w w') : Things w' A n len L :=
  ⟨h.1, fun hn => by
    obtain ⟨g, o, e, hg, hc⟩ := h.2.1 hn
    exact ⟨g, o, e, Nat.lt_of_lt_of_le hg hw.size, fun i hi => ⟨hw.cell (hc i hi).1 (by simp), hw.cell (hc i hi).2.1 (by simp), hw.cell (hc i hi).2.2 (by simp)⟩⟩, h.2.2.but hw⟩
theorem Things.at {w : World} {A : Option Addr} {n len : Nat} {L : List Th} (h : Things w A n len L) {i : Nat} (hi : i < n) :
    ∃ g o, A = some ⟨g, o, none⟩ ∧ g < w.heap.size ∧ w.cell? ⟨g, o + i * 3, none⟩ = some (.int .i64 (L[i]'(by have := h.1; omega)).n) ∧ w.cell? ⟨g, o + i * 3 + 1, none⟩ = some (.bool (L[i]'(by have := h.1; omega)).b) ∧ w.cell? ⟨g, o + i * 3 + 2, none⟩ = some (.slice (L[i]'(by have := h.1; omega)).a len (L[i]'(by have := h.1; omega)).c) := by
  obtain ⟨g, o, e, hg, hc⟩ := h.2.1 (by omega)
  exact ⟨g, o, e, hg, hc i (by have := h.1; omega)⟩
theorem Things.nil (w : World) (A : Option Addr) (len : Nat) : Things w A 0 len [] := ⟨rfl, fun h => absurd h (by omega), fun x hx => by cases hx⟩
theorem Things.news {w : World} {g o n len : Nat} {L : List Th} (h : Things w (some ⟨g, o, none⟩) n len L) (hn : 0 < n) : ∀ j u, (thCells len L)[j]? = some u → w.cell? ((⟨g, o, none⟩ : Addr).add j) = some u := by
  intro j u hu
  obtain ⟨g', o', e, _, hc⟩ := h.2.1 hn
  injection e with e
  injection e with e1 e2
  subst e1 e2
  have hj : j < L.length * 3 := by
    have := (List.getElem?_eq_some_iff.1 hu).1
    rwa [length_thCells] at this
  obtain ⟨h0, h1, h2⟩ := thCells_at len L (j / 3) (by omega)
  obtain ⟨c0, c1, c2⟩ := hc (j / 3) (by omega)
  rw [Go.WideShapes.add_plain]
  have hr : j = j / 3 * 3 ∨ j = j / 3 * 3 + 1 ∨ j = j / 3 * 3 + 2 := by omega
  rcases hr with e | e | e
  · rw [← e] at h0 c0; rw [c0, ← h0, hu]
  · rw [← e] at h1; rw [Nat.add_assoc, ← e] at c1; rw [c1, ← h1, hu]
  · rw [← e] at h2; rw [Nat.add_assoc, ← e] at c2; rw [c2, ← h2, hu]
/-- A slice of things of the call's own. -/
def OwnT (w : World) (base len : Nat) (v : Value) (L : List Th) : Prop := w.ownsRow base 98 3 v L.length (thCells len L)
theorem OwnT.nil (w : World) (base len : Nat) : OwnT w base len (.slice none 0 0) [] := World.ownsRow_nil _ _ _ _
theorem OwnT.but {w w' : World} {base len : Nat} {v : Value} {L : List Th} (h : OwnT w base len v L) (hw : But [] w w') : OwnT w' base len v L := by
  unfold OwnT at h ⊢
  refine ⟨h.1, ?_⟩
  rcases h.2 with h2 | ⟨g, cap, cur, hv, hg, hh, r⟩
  · exact .inl h2
  · refine .inr ⟨g, cap, cur, hv, hg, ?_, r⟩
    have hlt : g < w.heap.size := (h.lt g (by rw [hv]; rfl)).2
    rw [hw.block g hlt (by simp)]
    exact hh
theorem OwnT.open {w : World} {base len : Nat} {v : Value} {L : List Th} (h : OwnT w base len v L) (hv : Vecs w len L) : ∃ A c, v = .slice A L.length c ∧ Things w A L.length len L := by
  unfold OwnT at h
  rcases h.2 with ⟨rfl, e⟩ | ⟨g, cap, cur, rfl, hg, hh, r⟩
  · have : L = [] := List.eq_nil_of_length_eq_zero e
    subst this
    exact ⟨none, 0, rfl, Things.nil _ _ _⟩
  · refine ⟨some ⟨g, 0, none⟩, cap, rfl, rfl, fun hn => ⟨g, 0, rfl, (h.lt g rfl).2, fun i hi => ?_⟩, hv⟩
    obtain ⟨h0, h1, h2⟩ := thCells_at len L i hi
    have c0 := h.cells (g := g) rfl (i * 3) _ h0
    have c1 := h.cells (g := g) rfl (i * 3 + 1) _ h1
    have c2 := h.cells (g := g) rfl (i * 3 + 2) _ h2
    rw [Go.WideShapes.add_plain] at c0 c1 c2
    exact ⟨c0, c1, c2⟩
end Go.Proofs.YtjeeiodpdfbgmaaDoor
namespace Go.Proofs.YtjeeiodpdfbgmaaDoor
set_option maxRecDepth 100000
open Go Go.RowKit
theorem getD_mid {d A X B : List (Nat × Nat)} {i : Nat} (h : d = A ++ X ++ B) (h1 : A.length ≤ i) (h2 : i < A.length + X.length) : d.getD i (0, 0) = X[i - A.length]'(by omega) := by
  subst h
  rw [List.getD_eq_getElem?_getD, List.append_assoc, List.getElem?_append_right h1, List.getElem?_append_left (by omega), List.getElem?_eq_getElem (by omega)]; rfl
theorem last_take {X : List (Nat × Nat)} {k : Nat} (h : k < X.length) : (X.take (k + 1)).getLast? = some X[k] := by
  rw [List.take_succ_eq_append_getElem h]; exact List.getLast?_concat
theorem head_drop {X : List (Nat × Nat)} {k : Nat} (h : k < X.length) : (X.drop k).head? = some X[k] := by
  rw [List.drop_eq_getElem_cons h]; rfl
theorem head_all {X : List (Nat × Nat)} {x : Nat × Nat} (h : Srt X) (hh : ∀ y, X.head? = some y → lx x y) : ∀ y ∈ X, lx x y := by
  intro y hy
  cases X with
  | nil => cases hy
  | cons z X =>
    have hz := hh z rfl
    rcases List.mem_cons.1 hy with rfl | hy
    · exact hz
    · exact lx_trans hz ((List.pairwise_cons.1 h).1 y hy)
set_option maxRecDepth 1000000 in
set_option maxHeartbeats 4000000 in
theorem sym_left {w : World} {g o n cap a m b : Nat} {A Y B : List (Nat × Nat)} {x : Nat × Nat} (hd : CL w g o (A ++ x :: Y ++ B)) (hdl : (A ++ x :: Y ++ B).length = n) (hn : n ≤ 1000) (hgl : g < w.heap.size)
    (ha : a = A.length) (hm : m = a + 1) (hb : b = m + Y.length) (hY : Srt Y) (hc : ∀ y ∈ Y, x.1 < y.1) :
    Calls Tryd.prog 116 #[.slice (some ⟨g, o, none⟩) n cap, .int .i64 a, .int .i64 m, .int .i64 b, .func (.func 105) #[] #[]] w fun e w' => e = .returned (.tuple #[]) ∧ (∃ S, Srt S ∧ S.Perm (x :: Y) ∧ CL w' g o (A ++ S ++ B)) ∧ But [g] w w' := by
  have mixed : Tryd.prog.follows .mixedOrders = true := by kernel_rfl
  have hbn : b ≤ n := by simp at hdl; omega
  have hma : (m : Int) - (a : Int) = 1 := by omega
  have hma2 : a < m := by omega
  have hmb : m ≤ b := by omega
  have HA := Lib.hid ha
  have HM := Lib.hid hm
  have HBB := Lib.hid hb
  have HDL := Lib.hid hdl
  have HSY := Lib.hid hY
  clear ha hm hb hdl hY
  go_enter Tryd.func116, Tryd.ntmps116
  go_wp2
  go_loopw [10, 11] (fun iv jv wr => ∃ i j : Nat, m ≤ i ∧ i ≤ j ∧ j ≤ b ∧ iv = .int .i64 i ∧ jv = .int .i64 j ∧ (∀ y, (Y.take (i - m)).getLast? = some y → lx y x) ∧ (∀ y, (Y.drop (j - m)).head? = some y → lx x y) ∧ CL wr g o (A ++ x :: Y ++ B) ∧ But [g] w wr) (fun iv jv _ => (intOf jv).toNat - (intOf iv).toNat)
  case atStart => exact ⟨m, b, Nat.le_refl _, hmb, Nat.le_refl _, rfl, rfl, by simp, by have := HBB.out; rw [List.drop_of_length_le (by omega)]; simp, hd, But.refl _ _⟩
  case round =>
    obtain ⟨i, j, hmi, hij, hjb, rfl, rfl, h1, h2, hd', hB⟩ := hrel
    clear hd hma
    have hgj : g < wr.heap.size := Nat.lt_of_lt_of_le hgl hB.size
    by_cases hlt : i < j
    · obtain ⟨h, hh⟩ : ∃ h, h = (i + j) / 2 := ⟨_, rfl⟩
      have hhi : ((i : Int) + (j : Int)) / 2 = (h : Int) := by omega
      have hih : i ≤ h ∧ h < j := by omega
      have hhn : h < n := by omega
      have hgx := getD_at (d := A ++ x :: Y ++ B) (A := A) (x := x) (B := Y ++ B) (i := a) (by simp) HA.out
      have hym : h - m < Y.length := by have := HBB.out; omega
      have hgy : (A ++ x :: Y ++ B).getD h (0, 0) = Y[h - m]'hym := by
        have := getD_mid (d := A ++ x :: Y ++ B) (A := A ++ [x]) (X := Y) (B := B) (i := h) (by simp) (by have := HA.out; have := HM.out; simp; omega) (by have := HA.out; have := HM.out; have := HBB.out; simp; omega)
        rw [this]; congr 1; have := HA.out; have := HM.out; simp; omega
      have hlt1 := last_take hym
      have hhd1 := head_drop hym
      have hcy := hc _ (List.getElem_mem hym)
      generalize Y[h - m]'hym = y at *
      have x0' := fun n' os => ((hd'.grow hgj n' os).get (i := a) (by have := HDL.out; omega) hgx).1
      have x1' := fun n' os => ((hd'.grow hgj n' os).get (i := a) (by have := HDL.out; omega) hgx).2.1
      have y0' := fun n' os => ((hd'.grow hgj n' os).get (i := h) (by have := HDL.out; omega) hgy).1
      have y1' := fun n' os => ((hd'.grow hgj n' os).get (i := h) (by have := HDL.out; omega) hgy).2.1
      have hcg := fun n' os => cmp_coins y.1 y.2 x.1 x.2 (Sort.grow (wr.drewN n') os)
      have hz0 : (0 : Int) ≤ (h : Int) := by omega
      have hz1 : (h : Int) < (n : Int) := by omega
      have hz2 : (0 : Int) ≤ (a : Int) := by omega
      have hz3 : (a : Int) < (n : Int) := by omega
      have HD := Lib.hid hd'
      have HB := Lib.hid hB
      have H1 := Lib.hid h1
      have H2 := Lib.hid h2
      have HL1 := Lib.hid hlt1
      have HL2 := Lib.hid hhd1
      have HC := Lib.hid hc
      have HCY := Lib.hid hcy
      clear hd' hB h1 h2 hlt1 hhd1 hgx hgy hh hc hcy
      by_cases hlv : (y.2 : Int) < (x.2 : Int)
      · have hcv := cmp_neg hlv
        generalize cmpOf (y.2 : Int) (x.2 : Int) = cv at *
        go_wp2_with fail
        go_quiet_grown (first | (go_at_call 105; refine Calls.grown_of (hcg _ _)))
        go_wp2
        go_roundw
        case rel =>
          refine ⟨h + 1, j, by omega, by omega, hjb, by go_num, rfl, ?_, H2.out, HD.out.grow hgj nq osq, HB.out.grow nq osq⟩
          intro z hz
          rw [show h + 1 - m = (h - m) + 1 from by omega, HL1.out] at hz
          obtain rfl := Option.some.inj hz
          exact .inl (by omega)
        case measure => simp [intOf]; omega
      · have hcv := cmp_not hlv
        generalize cmpOf (y.2 : Int) (x.2 : Int) = cv at *
        go_wp2_with fail
        go_quiet_grown (first | (go_at_call 105; refine Calls.grown_of (hcg _ _)))
        go_wp2
        go_roundw
        case rel =>
          refine ⟨i, h, hmi, by omega, by omega, rfl, rfl, H1.out, ?_, HD.out.grow hgj nq osq, HB.out.grow nq osq⟩
          intro z hz
          rw [HL2.out] at hz
          obtain rfl := Option.some.inj hz
          have := HCY.out
          unfold lx; omega
        case measure => simp [intOf]; omega
    · obtain rfl : i = j := by omega
      have HD := Lib.hid hd'
      have HB := Lib.hid hB
      have H1 := Lib.hid h1
      have H2 := Lib.hid h2
      have HC := Lib.hid hc
      have hi1 : i - m ≤ Y.length := by have := HBB.out; omega
      clear hd' hB h1 h2 hc
      obtain ⟨wo, rfl⟩ : ∃ wo : World, wo = wr := ⟨_, rfl⟩
      go_wp2
      go_loopw [13] (fun kv wr => ∃ (k : Nat) (P Q : List (Nat × Nat)), kv = .int .i64 k ∧ A.length + P.length = k ∧ P ++ Q = Y ∧ P.length ≤ i - m ∧ CL wr g o (A ++ P ++ x :: Q ++ B) ∧ But [g] w wr) (fun kv _ => i - (intOf kv).toNat)
      case atStart => exact ⟨a, [], Y, rfl, by have := HA.out; simp; omega, rfl, by simp, by simpa using HD.out, HB.out⟩
      case round =>
        obtain ⟨k, P, Q, rfl, hkl, hPQ, hPl, hdk, hBk⟩ := hrel
        have hLk : (A ++ P ++ x :: Q ++ B).length = n := by rw [← HDL.out, ← hPQ]; simp; omega
        by_cases hkt : P.length < i - m
        · have hk1 : (k : Int) < (i : Int) - 1 := by have := HA.out; have := HM.out; omega
          obtain ⟨y, Q, rfl⟩ : ∃ y Q', Q = y :: Q' := by
            cases Q with
            | nil => exfalso; have := congrArg List.length hPQ; simp at this; omega
            | cons y Q => exact ⟨y, Q, rfl⟩
          have hx := getD_at (d := A ++ P ++ x :: (y :: Q) ++ B) (A := A ++ P) (x := x) (B := y :: Q ++ B) (i := k) (by simp) (by simp; omega)
          have hy := getD_at (d := A ++ P ++ x :: (y :: Q) ++ B) (A := A ++ P ++ [x]) (x := y) (B := Q ++ B) (i := k + 1) (by simp) (by simp; omega)
          have hkn : k + 1 < n := by simp at hLk; omega
          obtain ⟨x0', x1', x2', x3'⟩ := hdk.get (i := k) (by omega) hx
          obtain ⟨y0', y1', y2', y3'⟩ := hdk.get (i := k + 1) (by omega) hy
          obtain ⟨xs, xc⟩ := x
          obtain ⟨ys, yc⟩ := y
          dsimp only at x0' x1' y0' y1'
          have p0 : (0 : Int) ≤ (k : Int) := by omega
          have p1 : (k : Int) < (n : Int) := by omega
          have q0 : (0 : Int) ≤ (k : Int) + 1 := by omega
          have q1 : (k : Int) + 1 < (n : Int) := by omega
          have e0 : ((k : Int) + 1).toNat = k + 1 := by omega
          have HX := Lib.hid hx
          have HY := Lib.hid hy
          have HQ := Lib.hid hdk
          have HBQ := Lib.hid hBk
          have HPQ := Lib.hid hPQ
          have HLK := Lib.hid hLk
          have HKL := Lib.hid hkl
          clear hx hy hdk hBk hPQ hLk hkl
          go_wp2
          go_region
          go_wp2
          go_roundw
          case rel =>
            refine ⟨k + 1, P ++ [(ys, yc)], Q, by go_num, by have := HKL.out; simp; omega, by rw [← HPQ.out]; simp, by simp; omega, ?_, (HBQ.out.swap _ _ _ _).drew⟩
            have e : sw (A ++ P ++ (xs, xc) :: ((ys, yc) :: Q) ++ B) k (k + 1) = A ++ (P ++ [(ys, yc)]) ++ (xs, xc) :: Q ++ B := by
              have := sw_next (A ++ P) (Q ++ B) (xs, xc) (ys, yc) k (k + 1) (by have := HKL.out; simp; omega) rfl
              simpa using this
            rw [← e]
            exact (HQ.out.swap (by have := HLK.out; omega) (by have := HLK.out; omega) (by omega) HX.out HY.out).heap rfl
          case measure => simp [intOf]; omega
        · have hk1 : ¬ (k : Int) < (i : Int) - 1 := by have := HA.out; have := HM.out; omega
          have hP : P = Y.take (i - m) := by rw [← hPQ, List.take_left' (by omega)]
          have hQ : Q = Y.drop (i - m) := by rw [← hPQ, List.drop_left' (by omega)]
          go_wp2
          refine bodyPost_ret (results_none rfl _ _ _) rfl ⟨rfl, ⟨P ++ x :: Q, srt_insert (by rw [hPQ]; exact HSY.out) (by rw [hP]; exact H1.out) ?_, ?_, by simpa using hdk⟩, hBk⟩
          · rw [hQ]
            have hs := HSY.out
            rw [← List.take_append_drop (i - m) Y] at hs
            exact head_all (List.pairwise_append.1 hs).2.1 H2.out
          · rw [← hPQ]
            exact List.perm_middle
end Go.Proofs.YtjeeiodpdfbgmaaDoor
