/- The longest match at a position, as the program tells it. -/
import Derived.Test.YtbdackcfedcmkaaLzC
import Derived.Laws.Strings2
import Derived.Laws.Strings3
set_option maxRecDepth 100000
set_option linter.unusedVariables false
namespace Go.Proofs.Ytbdackcfedcmkaa
set_option maxRecDepth 100000
open Go Go.RowKit

theorem skip_of {l : List UInt8} {i d b : Nat} (hi : i + b < l.length) (hb : b < 258) (h : l.getD (i + b) 0 ≠ l.getD (i + b - d) 0) : runLen l i d ≤ b := by
  refine Nat.le_of_not_lt fun hlt => h ?_
  exact runG_same l i d 258 0 b (Nat.zero_le _) hlt
set_option maxHeartbeats 2000000 in
theorem longest_any (w : World) {s : ByteArray} {i : Nat} (hi : i < s.size) (hs : s.size ≤ 1000000) :
    Calls Try.prog 14 #[.string s, .int .i64 i] w fun e w' => e = .returned (tkVal (lgAt s.data.toList i)) ∧ But [] w w' := by
  obtain ⟨m, hm⟩ : ∃ m, m = min 258 (s.size - i) := ⟨_, rfl⟩
  have hm1 : i + m ≤ s.size := by omega
  have hm2 : m ≤ 258 := by omega
  have HM := Lib.hid hm
  have HB0 : Hid (But [] w (w.alloc (.cells #[.int .i64 0, .int .i64 0, .int .i64 0] 34))) := Lib.hid ((But.refl [] w).alloc _)
  have HI0 : Hid (Is (w.alloc (.cells #[.int .i64 0, .int .i64 0, .int .i64 0] 34)) w.heap.size 34 #[.int .i64 0, .int .i64 0, .int .i64 0]) := Lib.hid (Is.fresh w _ _)
  obtain ⟨b, hb⟩ : ∃ b, b = s.extract i (i + m) := ⟨_, rfl⟩
  have hbs : b.size = m := by rw [hb, ByteArray.size_extract]; omega
  have HBE := Lib.hid hb
  have hll := len_data s
  have HLL := Lib.hid hll
  clear hll hb hm
  go_enter Try.func14, Try.ntmps14
  go_upto_region 1 with (fail)
  go_cut [5] from 10 to 17 (fun v wx => v = .string b ∧ wx = w.alloc (.cells #[.int .i64 0, .int .i64 0, .int .i64 0] 34))
  case first =>
    by_cases hc : i + 258 ≤ s.size
    · have e : m = 258 := by have := HM.out; omega
      have hsl : ∀ w, (Instr.slice 9 (.string s) (some (.int .i64 (i : Int))) (some (.int .i64 ((i : Int) + 258))) none).run Try.prog w = .ok (.string b) w := fun w => by
        rw [run_slice_string w 9 s .i64 .i64 _ _ Try.underlying9 (by omega) (by omega) (by omega), HBE.out, e]; rfl
      clear e
      go_wp2
      all_goals (go_meet; exact ⟨rfl, rfl⟩)
    · have hsl : ∀ w, (Instr.slice 9 (.string s) (some (.int .i64 (i : Int))) (some (.int .i64 (s.size : Int))) none).run Try.prog w = .ok (.string b) w := fun w => by
        rw [run_slice_string w 9 s .i64 .i64 _ _ Try.underlying9 (by omega) (by omega) (by omega), HBE.out, show i + m = s.size by have := HM.out; omega]; rfl
      go_wp2
      all_goals (go_meet; exact ⟨rfl, rfl⟩)
  case rest =>
  obtain ⟨rfl, rfl⟩ := hcut
  by_cases h3 : m < 3
  · go_wp2
    refine bodyPost_ret (results_cell_row rfl _ _ w.heap.size _ _ _ _ rfl HI0.out Try.underlying34 rfl (by kernel_rfl)) rfl ?_
    refine ⟨?_, HB0.out⟩
    have hz : ¬ 3 ≤ (bestAt s.data.toList i).1 := by
      have h := best_in (l := s.data.toList) (i := i) (D := min 512 i) (by rw [HLL.out]; omega)
      rw [HLL.out, ← HM.out] at h
      show ¬ 3 ≤ (bestG s.data.toList i (min 512 i)).1
      omega
    unfold lgAt; rw [if_neg hz]; rfl
  · have HB1 : Hid (But [] w ((w.alloc (.cells #[.int .i64 0, .int .i64 0, .int .i64 0] 34)).alloc (.cells #[.int .i64 0, .int .i64 2, .int .i64 0] 34))) := Lib.hid (HB0.out.alloc _)
    have HI1 : Hid (Is ((w.alloc (.cells #[.int .i64 0, .int .i64 0, .int .i64 0] 34)).alloc (.cells #[.int .i64 0, .int .i64 2, .int .i64 0] 34)) w.heap.size 34 #[.int .i64 0, .int .i64 0, .int .i64 0]) := Lib.hid (HI0.out.alloc _)
    have HJ1 : Hid (Is ((w.alloc (.cells #[.int .i64 0, .int .i64 0, .int .i64 0] 34)).alloc (.cells #[.int .i64 0, .int .i64 2, .int .i64 0] 34)) (w.heap.size + 1) 34 #[.int .i64 0, .int .i64 2, .int .i64 0]) := Lib.hid (by
      have h := Is.fresh (w.alloc (.cells #[.int .i64 0, .int .i64 0, .int .i64 0] 34)) 34 #[.int .i64 0, .int .i64 2, .int .i64 0]
      simpa using h)
    have HS0 : Hid (bst s.data.toList i 0 = (2, 0)) := Lib.hid (by unfold bst; rw [if_neg (by show ¬ 3 ≤ (0 : Nat); omega)])
    obtain ⟨mn, hmn⟩ : ∃ x, x = min 512 i := ⟨_, rfl⟩
    have HMN := Lib.hid hmn
    have hmn5 : mn ≤ 512 := by omega
    have hmni : mn ≤ i := by omega
    clear hmn
    go_wp2
    go_loopw [7] (fun dv wr => ∃ D : Nat, D ≤ mn ∧ dv = .int .i64 ((D : Int) + 1) ∧ Hid (Is wr w.heap.size 34 #[.int .i64 0, .int .i64 0, .int .i64 0]) ∧ Hid (Is wr (w.heap.size + 1) 34 #[.int .i64 0, .int .i64 (bst s.data.toList i D).1, .int .i64 (bst s.data.toList i D).2]) ∧ Hid (But [] w wr)) (fun dv _ => 600 - (intOf dv).toNat)
    case atStart => exact ⟨0, Nat.zero_le _, rfl, HI1, by rw [HS0.out]; exact HJ1, HB1⟩
    case round =>
      obtain ⟨D, hD, rfl, hI, hJ, hB⟩ := hrel
      have hbb := bst_bounds (l := s.data.toList) (i := i) (D := D) (by rw [HLL.out]; omega)
      have hb2 := bst_two (l := s.data.toList) (i := i) (D := D)
      obtain ⟨bl, hbl⟩ : ∃ x, x = (bst s.data.toList i D).1 := ⟨_, rfl⟩
      obtain ⟨bd, hbd⟩ : ∃ x, x = (bst s.data.toList i D).2 := ⟨_, rfl⟩
      rw [← hbl, ← hbd] at hJ hbb
      rw [← hbl] at hb2
      have HBL := Lib.hid hbl
      have HBD := Lib.hid hbd
      obtain ⟨hb3, hb4⟩ := hbb
      have c1 : wr.cell? ⟨w.heap.size + 1, 1, none⟩ = some (.int .i64 bl) := hJ.out.cell 1
      have c2 : wr.cell? ⟨w.heap.size + 1, 2, none⟩ = some (.int .i64 bd) := hJ.out.cell 2
      clear hbl hbd HI1 HJ1 HB1 HI0 HB0 HS0
      by_cases hcont : D + 1 ≤ mn ∧ bl < m
      · obtain ⟨hD1, hblm⟩ := hcont
        go_upto_region 6 with (fail)
        go_cut [33] from 23 to 33 (fun v wx => v = .bool true ∧ wr = wx)
        case first =>
          rcases Nat.lt_or_ge 512 i with h5 | h5
          · have e : mn = 512 := by have := HMN.out; omega
            subst e
            go_wp2
            all_goals (go_meet; exact ⟨rfl, rfl⟩)
          · have e : mn = i := by have := HMN.out; omega
            subst e
            go_wp2
            all_goals (go_meet; exact ⟨rfl, rfl⟩)
        case rest =>
        obtain ⟨rfl, rfl⟩ := hcut
        obtain ⟨a, ha⟩ : ∃ a, a = s.extract (i - (D + 1)) s.size := ⟨_, rfl⟩
        have hcuts : Cuts s a b i (D + 1) m := by
          rw [ha, HBE.out]; exact cuts_of s (by omega) (by omega)
        have has : bl < a.size := by rw [hcuts.la]; omega
        have hsl : ∀ w, (Instr.slice 9 (.string s) (some (.int .i64 ((i : Int) - ((D : Int) + 1)))) none none).run Try.prog w = .ok (.string a) w := fun w => by
          rw [run_slice_string_from_if w 9 s .i64 _ Try.underlying9, if_pos (by omega), ha, show ((i : Int) - ((D : Int) + 1)).toNat = i - (D + 1) by omega]
        have hbbs : bl < b.size := by omega
        have e1 : s.data.toList.getD (i + bl - (D + 1)) 0 = a[bl] := hcuts.ga bl has
        have e2 : s.data.toList.getD (i + bl) 0 = b[bl] := hcuts.gb bl hbbs
        have HC := Lib.hid hcuts
        clear ha hcuts
        by_cases he : a[bl] = b[bl]
        · have hn2 : ((a[bl].toNat : Int) != (b[bl].toNat : Int)) = false := by rw [he]; simp
          clear he e1 e2
          go_wp2
          go_quiet (fail)
          go_wp2_with fail
          refine (common_any (wr.drewN nq) HC.out (by omega) (by omega) hi HM.out hs).mono ?_
          rintro e w2 ⟨rfl, n2, rfl⟩
          have hrl := run_most (l := s.data.toList) (i := i) (D + 1) (by rw [HLL.out]; omega)
          obtain ⟨rl, hrl2⟩ : ∃ x, x = runLen s.data.toList i (D + 1) := ⟨_, rfl⟩
          rw [← hrl2] at hrl ⊢
          have HRL := Lib.hid hrl2
          have hrl3 : rl ≤ 258 := by omega
          clear hrl hrl2
          by_cases hgt : bl < rl
          · have HTK := Lib.hid (show bst s.data.toList i (D + 1) = (rl, D + 1) by rw [HRL.out]; exact bst_take (by rw [← HBL.out, ← HRL.out]; exact hgt))
            have c0 : wr.cell? ⟨w.heap.size + 1, 0, none⟩ = some (.int .i64 0) := hJ.out.cell 0
            have f0 : wr.frozen? ⟨w.heap.size + 1, 0, none⟩ = false := hJ.out.free 0
            have f1 : wr.frozen? ⟨w.heap.size + 1, 1, none⟩ = false := hJ.out.free 1
            have f2 : wr.frozen? ⟨w.heap.size + 1, 2, none⟩ = false := hJ.out.free 2
            go_wp2
            go_roundw
            case rel =>
              have hJ2 : Hid (Is ((((wr.drewN (nq + n2)).setCell ⟨w.heap.size + 1, 0, none⟩ (.int .i64 0)).setCell ⟨w.heap.size + 1, 1, none⟩ (.int .i64 rl)).setCell ⟨w.heap.size + 1, 2, none⟩ (.int .i64 ((D : Int) + 1))) (w.heap.size + 1) 34 #[.int .i64 0, .int .i64 (rl : Nat), .int .i64 ((D + 1 : Nat) : Int)]) :=
                Lib.hid ((((hJ.out.drewN (nq + n2)).put 0 (.int .i64 0)).put 1 (.int .i64 rl)).put 2 (.int .i64 ((D : Int) + 1)))
              refine ⟨D + 1, hD1, by go_num, Lib.hid ((((hI.out.drewN (nq + n2)).far (by simp) _).far (by simp) _).far (by simp) _), ?_, Lib.hid ((((hB.out.drewN (nq + n2)).setCell (.inr (by simp)) _).setCell (.inr (by simp)) _).setCell (.inr (by simp)) _)⟩
              rw [HTK.out]; exact hJ2
            case measure => simp [intOf]; omega
          · have HSK := Lib.hid (show bst s.data.toList i (D + 1) = bst s.data.toList i D from bst_skip (by rw [← HBL.out, ← HRL.out]; omega))
            go_wp2
            go_roundw
            case rel => exact ⟨D + 1, hD1, by go_num, Lib.hid (hI.out.drewN (nq + n2)), by rw [HSK.out, ← HBL.out, ← HBD.out]; exact Lib.hid (hJ.out.drewN (nq + n2)), Lib.hid (hB.out.drewN (nq + n2))⟩
            case measure => simp [intOf]; omega
        · have hn2 : ((a[bl].toNat : Int) != (b[bl].toNat : Int)) = true := by simpa using u8_ne he
          have HSK := Lib.hid (show bst s.data.toList i (D + 1) = bst s.data.toList i D from bst_skip (by rw [← HBL.out]; exact skip_of (by rw [HLL.out]; omega) (by omega) (by rw [e1, e2]; exact fun h => he h.symm)))
          clear he e1 e2
          go_wp2
          go_quiet (fail)
          go_wp2
          go_roundw
          case rel => exact ⟨D + 1, hD1, by go_num, Lib.hid (hI.out.drewN nq), by rw [HSK.out, ← HBL.out, ← HBD.out]; exact Lib.hid (hJ.out.drewN nq), Lib.hid (hB.out.drewN nq)⟩
          case measure => simp [intOf]; omega
      · have HEND := Lib.hid (show lgAt s.data.toList i = if bd = 0 then (0, 0, 0) else ((bl : Int), (bd : Int), 0) by
          rw [lgAt_of, ← HMN.out]
          have : bst s.data.toList i mn = bst s.data.toList i D := by
            by_cases h : D + 1 ≤ mn
            · have := bst_full (l := s.data.toList) (i := i) (D := D) (by rw [HLL.out]; omega) (by rw [HLL.out, ← HM.out, ← HBL.out]; omega) (mn - D)
              rw [show D + (mn - D) = mn by omega] at this; exact this
            · rw [show mn = D by omega]
          rw [this, ← HBL.out, ← HBD.out])
        go_upto_region 6 with (fail)
        go_cut [33] from 23 to 33 (fun v wx => v = .bool false ∧ wr = wx)
        case first =>
          rcases Nat.lt_or_ge 512 i with h5 | h5
          · have e : mn = 512 := by have := HMN.out; omega
            subst e
            by_cases h6 : D + 1 ≤ 512
            · have h7 : ¬ bl < m := fun h => hcont ⟨h6, h⟩
              go_wp2
              all_goals (go_meet; exact ⟨rfl, rfl⟩)
            · go_wp2
              all_goals (go_meet; exact ⟨rfl, rfl⟩)
          · have e : mn = i := by have := HMN.out; omega
            subst e
            by_cases h6 : D + 1 ≤ mn
            · have h7 : ¬ bl < m := fun h => hcont ⟨h6, h⟩
              go_wp2
              all_goals (go_meet; exact ⟨rfl, rfl⟩)
            · go_wp2
              all_goals (go_meet; exact ⟨rfl, rfl⟩)
        case rest =>
        obtain ⟨rfl, rfl⟩ := hcut
        by_cases hz : bd = 0
        · have hz' : ((bd : Int) == 0) = true := by subst hz; rfl
          have HE2 := Lib.hid (show lgAt s.data.toList i = (0, 0, 0) by rw [HEND.out, if_pos hz])
          clear hz
          have g0 : wr.cell? ⟨w.heap.size, 0, none⟩ = some (.int .i64 0) := hI.out.cell 0
          have g1 : wr.cell? ⟨w.heap.size, 1, none⟩ = some (.int .i64 0) := hI.out.cell 1
          have g2 : wr.cell? ⟨w.heap.size, 2, none⟩ = some (.int .i64 0) := hI.out.cell 2
          have f0 : wr.frozen? ⟨w.heap.size, 0, none⟩ = false := hI.out.free 0
          have f1 : wr.frozen? ⟨w.heap.size, 1, none⟩ = false := hI.out.free 1
          have f2 : wr.frozen? ⟨w.heap.size, 2, none⟩ = false := hI.out.free 2
          go_wp2
          (try simp only [Exit.inBlock, Exit.then])
          refine bodyPost_ret (results_cell_row rfl _ _ w.heap.size _ _ _ _ rfl (((hI.out.put 0 (.int .i64 0)).put 1 (.int .i64 0)).put 2 (.int .i64 0)) Try.underlying34 rfl (by kernel_rfl)) rfl ?_
          exact ⟨by rw [HE2.out]; rfl, ((hB.out.setCell (.inr (by simp)) _).setCell (.inr (by simp)) _).setCell (.inr (by simp)) _⟩
        · have hz' : ((bd : Int) == 0) = false := by simp; omega
          have HE2 := Lib.hid (show lgAt s.data.toList i = ((bl : Int), (bd : Int), 0) by rw [HEND.out, if_neg hz])
          clear hz
          have c0 : wr.cell? ⟨w.heap.size + 1, 0, none⟩ = some (.int .i64 0) := hJ.out.cell 0
          have g0 : wr.cell? ⟨w.heap.size, 0, none⟩ = some (.int .i64 0) := hI.out.cell 0
          have g1 : wr.cell? ⟨w.heap.size, 1, none⟩ = some (.int .i64 0) := hI.out.cell 1
          have g2 : wr.cell? ⟨w.heap.size, 2, none⟩ = some (.int .i64 0) := hI.out.cell 2
          have f0 : wr.frozen? ⟨w.heap.size, 0, none⟩ = false := hI.out.free 0
          have f1 : wr.frozen? ⟨w.heap.size, 1, none⟩ = false := hI.out.free 1
          have f2 : wr.frozen? ⟨w.heap.size, 2, none⟩ = false := hI.out.free 2
          go_wp2
          (try simp only [Exit.inBlock, Exit.then])
          refine bodyPost_ret (results_cell_row rfl _ _ w.heap.size _ _ _ _ rfl (((hI.out.put 0 (.int .i64 0)).put 1 (.int .i64 bl)).put 2 (.int .i64 bd)) Try.underlying34 rfl (by kernel_rfl)) rfl ?_
          exact ⟨by rw [HE2.out]; rfl, ((hB.out.setCell (.inr (by simp)) _).setCell (.inr (by simp)) _).setCell (.inr (by simp)) _⟩
end Go.Proofs.Ytbdackcfedcmkaa
