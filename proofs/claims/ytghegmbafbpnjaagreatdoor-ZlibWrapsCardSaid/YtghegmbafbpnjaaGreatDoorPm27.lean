/- Several texts in one: LzF, EfE, EfF, ThingM (what Wraps reach of them). -/
import Derived.Test.YtghegmbafbpnjaaGreatDoorPm01
import Derived.Test.YtghegmbafbpnjaaGreatDoorPm02
import Derived.Test.YtghegmbafbpnjaaGreatDoorPm03
import Derived.Test.YtghegmbafbpnjaaGreatDoorPm04
import Derived.Test.YtghegmbafbpnjaaGreatDoorPm05
import Derived.Test.YtghegmbafbpnjaaGreatDoorPm06
import Derived.Test.YtghegmbafbpnjaaGreatDoorPm07
import Derived.Test.YtghegmbafbpnjaaGreatDoorPm08
import Derived.Test.YtghegmbafbpnjaaGreatDoorPm09
import Derived.Test.YtghegmbafbpnjaaGreatDoorPm10
import Derived.Test.YtghegmbafbpnjaaGreatDoorPm11
import Derived.Test.YtghegmbafbpnjaaGreatDoorPm12
import Derived.Test.YtghegmbafbpnjaaGreatDoorPm13
import Derived.Test.YtghegmbafbpnjaaGreatDoorPm14
import Derived.Test.YtghegmbafbpnjaaGreatDoorPm15
import Derived.Test.YtghegmbafbpnjaaGreatDoorPm26
import Derived.Below
import Derived.BigQuiet
import Derived.BigRegion
import Derived.Deep.AppendLies
import Derived.Deep.CutRange
import Derived.Deep.DeepCutAuto
import Derived.Deep.Draws
import Derived.Deep.LoopGhost
import Derived.Deep.QuietTactic
import Derived.Deep.RegionLaw
import Derived.Deep.RegionWith
import Derived.Deep.Slices
import Derived.Handy
import Derived.Laws.BitsAllLaws
import Derived.Laws.BitsLemmas
import Derived.Laws.CopyOwn
import Derived.Laws.IdiomStrings
import Derived.Laws.OwnMore
import Derived.Laws.Rows
import Derived.Laws.Strings2
import Derived.Laws.Strings3
import Derived.Laws.StructEq
import Derived.Lib.AppendStr
import Derived.Lib.Hide
import Derived.Lib.Strings
import Derived.LoopIn
import Derived.LoopNIn
import Derived.OneCell
import Derived.OpenShut
import Derived.Outline
import Derived.OwnWalk
import Derived.OwnWalkIn
import Derived.ProofKit
import Derived.RangeFuncBound
import Derived.RangeFuncCalls
import Derived.RangeFuncLeaves
import Derived.RangeFuncNested
import Derived.RegionTactic
import Derived.ScopeJumps
import Derived.Shelf.Abstract
import Derived.Shelf.RegionOpen
import Derived.Shelf.SlSortCmp.QuietGrown
import Derived.StillTailTactics
import Derived.TacticsInMore
import Derived.Test.YtghegmbafbpnjaaGreatDoorChecked
import Derived.WalkKit
import Derived.WalkLawsBesides
import Derived.WalkMore
import Derived.WalkSpells
set_option maxRecDepth 100000
set_option linter.unusedVariables false
set_option maxRecDepth 100000
set_option linter.unusedVariables false
namespace Go.Proofs.YtghegmbafbpnjaaGreatDoor
set_option maxRecDepth 100000
open Go Go.RowKit
set_option maxHeartbeats 2000000 in
theorem rtokens_any (w : World) {s : ByteArray} (hs : s.size ≤ 1000000) :
    Calls Tryz.prog 53 #[.string s] w (GotK w ((toks s.data.toList).map tkI)) := by
  obtain ⟨i0, hi0, hz0, hz1, hz2⟩ := info_parts info_tok
  have HLL := Lib.hid (len_data s)
  go_enter Tryz.func53, Tryz.ntmps53
  go_wp2
  go_loopw [3, 4] (fun tv av wr => ∃ (i : Nat) (L : List T3), i ≤ s.size ∧ av = .int .i64 i ∧ L.length ≤ i ∧ Hid (L ++ (toksG s.data.toList (s.data.toList.length - i) i).map tkI = (toks s.data.toList).map tkI) ∧ Hid (OwnK wr w.heap.size tv L) ∧ Hid (But [] w wr)) (fun _ av _ => s.size - (intOf av).toNat)
  case atStart => exact ⟨0, [], Nat.zero_le _, rfl, Nat.le_refl _, Lib.hid rfl, Lib.hid (OwnK.nil _ _), Lib.hid (But.refl _ _)⟩
  case round =>
    obtain ⟨i, L, hi, rfl, hL, HM, HO, HB⟩ := hrel
    have hsz := HB.out.size
    by_cases hlt : i < s.size
    · obtain ⟨mn, hmn⟩ : ∃ x, x = min 512 i := ⟨_, rfl⟩
      have HMN := Lib.hid hmn
      have hmn5 : mn ≤ 512 := by omega
      have hmni : mn ≤ i := by omega
      have hbb : ∀ D, (bestG s.data.toList i D).1 ≤ 258 := fun D => by
        have := best_in (l := s.data.toList) (i := i) (D := D) (by rw [HLL.out]; omega)
        omega
      have hbd : ∀ D, (bestG s.data.toList i D).2 ≤ D := fun D => by
        rcases bestG_is s.data.toList i D with h | ⟨_, h, _⟩
        · rw [h]; exact Nat.zero_le _
        · exact h
      have HBB := Lib.hid hbb
      have HBD := Lib.hid hbd
      clear hmn hbb hbd
      go_wp2
      go_loopw [5, 6, 7] (fun bv fv dv wx => ∃ (D n : Nat), D ≤ mn ∧ dv = .int .i64 ((D : Int) + 1) ∧ bv = .int .i64 (bestG s.data.toList i D).1 ∧ fv = .int .i64 (bestG s.data.toList i D).2 ∧ wx = wr.drewN n) (fun _ _ dv _ => 600 - (intOf dv).toNat)
      case atStart => exact ⟨0, 0, Nat.zero_le _, rfl, rfl, rfl, rfl⟩
      case round =>
        obtain ⟨D, q, hD, rfl, rfl, rfl, rfl⟩ := hrel
        obtain ⟨B, hB⟩ : ∃ B, B = (bestG s.data.toList i D).1 := ⟨_, rfl⟩
        obtain ⟨F, hF⟩ : ∃ F, F = (bestG s.data.toList i D).2 := ⟨_, rfl⟩
        have hB1 : B ≤ 258 := by rw [hB]; exact HBB.out D
        have hF1 : F ≤ D := by rw [hF]; exact HBD.out D
        rw [← hB, ← hF]
        have HBE := Lib.hid hB
        have HFE := Lib.hid hF
        clear hB hF
        by_cases hcont : D + 1 ≤ mn
        · go_upto_region 7 with (fail)
          go_cut [19] from 13 to 19 (fun v wx => v = .bool true ∧ wx = wr.drewN q)
          case first =>
            have d1 : decide ((D : Int) + 1 ≤ 512) = true := by simp; omega
            have d2 : decide ((D : Int) + 1 ≤ (i : Int)) = true := by simp; omega
            go_wp2
            all_goals (go_meet; exact ⟨rfl, rfl⟩)
          case rest =>
          obtain ⟨rfl, rfl⟩ := hcut
          go_wp2
          go_loopw [8] (fun nv wx => ∃ (n q2 : Nat), n ≤ 258 ∧ i + n ≤ s.size ∧ nv = .int .i64 n ∧ Hid (runG s.data.toList i (D + 1) (258 - n) n = runLen s.data.toList i (D + 1)) ∧ wx = wr.drewN (q + q2)) (fun nv _ => 600 - (intOf nv).toNat)
          case atStart => exact ⟨0, 0, Nat.zero_le _, by omega, rfl, Lib.hid rfl, rfl⟩
          case round =>
            obtain ⟨n, q2, hn, hin, rfl, HR, rfl⟩ := hrel
            by_cases hmore : (n < 258 ∧ i + n < s.size) ∧ s.data.toList.getD (i + n) 0 = s.data.toList.getD (i + n - (D + 1)) 0
            · obtain ⟨⟨hn1, hn2⟩, he⟩ := hmore
              obtain ⟨z, hz⟩ : ∃ z, z = i + n := ⟨_, rfl⟩
              obtain ⟨y, hy⟩ : ∃ y, y = i + n - (D + 1) := ⟨_, rfl⟩
              have zl : z < s.size := by omega
              have yl : y < s.size := by omega
              have ez : (i : Int) + (n : Int) = (z : Int) := by omega
              have ey : (z : Int) - ((D : Int) + 1) = (y : Int) := by omega
              have wz : IntKind.i64.wrap (z : Int) = (z : Int) := IntWalk.i64_in _ (by omega)
              have wy : IntKind.i64.wrap (y : Int) = (y : Int) := IntWalk.i64_in _ (by omega)
              have d1 : decide ((n : Int) < 258) = true := by simp; omega
              have d2 : decide ((z : Int) < (s.size : Int)) = true := by simp; omega
              have d2' : decide (z < s.size) = true := by simpa using zl
              have hq : n + 1 ≤ 258 := hn1
              have hq2 : i + (n + 1) ≤ s.size := by omega
              have HN := Lib.hid (show runG s.data.toList i (D + 1) (258 - (n + 1)) (n + 1) = runLen s.data.toList i (D + 1) by
                rw [← HR.out, show 258 - n = 258 - (n + 1) + 1 from by omega, runG, if_pos ⟨by rw [HLL.out]; exact hq2, he⟩])
              have de : ((s[z].toNat : Int) == (s[y].toNat : Int)) = true := by
                rw [← hy, ← hz, byteZ_at s zl, byteZ_at s yl] at he
                rw [he]; simp
              clear he hz hy hn2 hin
              go_wp2
              go_quiet (fail)
              go_wp2
              go_roundw
              case rel => exact ⟨n + 1, q2 + nq, hq, hq2, by go_num, HN, by rw [Nat.add_assoc]⟩
              case measure => simp [intOf]; omega
            · have HN := Lib.hid (show runLen s.data.toList i (D + 1) = n by
                rw [← HR.out]
                by_cases h1 : n < 258
                · rw [show 258 - n = 258 - (n + 1) + 1 from by omega, runG, if_neg (fun h => hmore ⟨⟨h1, by rw [← HLL.out]; exact h.1⟩, h.2⟩)]
                · rw [show 258 - n = 0 from by omega]; rfl)
              have HMO := Lib.hid hmore
              clear hmore
              go_upto_region 10 with (fail)
              go_cut [46] from 22 to 46 (fun v wx => v = .bool false ∧ ∃ q3, wx = wr.drewN q3)
              case first =>
                by_cases h1 : n < 258
                · have d1 : decide ((n : Int) < 258) = true := by simp; omega
                  obtain ⟨z, hz⟩ : ∃ z, z = i + n := ⟨_, rfl⟩
                  have ez : (i : Int) + (n : Int) = (z : Int) := by omega
                  have wz : IntKind.i64.wrap (z : Int) = (z : Int) := IntWalk.i64_in _ (by omega)
                  by_cases h2 : z < s.size
                  · obtain ⟨y, hy⟩ : ∃ y, y = i + n - (D + 1) := ⟨_, rfl⟩
                    have yl : y < s.size := by omega
                    have ey : (z : Int) - ((D : Int) + 1) = (y : Int) := by omega
                    have wy : IntKind.i64.wrap (y : Int) = (y : Int) := IntWalk.i64_in _ (by omega)
                    have d2 : decide ((z : Int) < (s.size : Int)) = true := by simp; omega
                    have d2' : decide (z < s.size) = true := by simpa using h2
                    have he : ¬ s[z] = s[y] := fun h => HMO.out ⟨⟨h1, by omega⟩, by rw [← hy, ← hz, byteZ_at s h2, byteZ_at s yl]; exact h⟩
                    have de : ((s[z].toNat : Int) == (s[y].toNat : Int)) = false := by simpa using u8_ne he
                    clear he hz hy
                    go_quiet (fail)
                    go_wp2
                    all_goals (go_meet; exact ⟨rfl, q + q2 + nq, wr.drewN_drewN (q + q2) nq⟩)
                  · have d2 : decide ((z : Int) < (s.size : Int)) = false := by simp; omega
                    have d2' : decide (z < s.size) = false := by simp; omega
                    clear hz
                    go_quiet (fail)
                    go_wp2
                    all_goals (go_meet; exact ⟨rfl, q + q2 + nq, wr.drewN_drewN (q + q2) nq⟩)
                · have d1 : decide ((n : Int) < 258) = false := by simp; omega
                  go_quiet (fail)
                  go_wp2
                  all_goals (go_meet; exact ⟨rfl, q + q2 + nq, wr.drewN_drewN (q + q2) nq⟩)
              case rest =>
              obtain ⟨rfl, q3, hw⟩ := hcut
              subst hw
              by_cases hgt : B < n
              · have HG := Lib.hid (show bestG s.data.toList i (D + 1) = (n, D + 1) by rw [bestG, if_pos (by rw [HN.out, ← HBE.out]; exact hgt), HN.out])
                go_wp2
                go_roundw
                case rel => exact ⟨D + 1, q3, hcont, by go_num, by rw [HG.out], by rw [HG.out]; go_num, rfl⟩
                case measure => simp [intOf]; omega
              · have HG := Lib.hid (show bestG s.data.toList i (D + 1) = bestG s.data.toList i D by rw [bestG, if_neg (by rw [HN.out, ← HBE.out]; exact hgt)])
                go_wp2
                go_roundw
                case rel => exact ⟨D + 1, q3, hcont, by go_num, by rw [HG.out, ← HBE.out], by rw [HG.out, ← HFE.out], rfl⟩
                case measure => simp [intOf]; omega
        · have hDe : D = mn := by omega
          have HBA := Lib.hid (show (bestAt s.data.toList i) = (B, F) by
            show bestG s.data.toList i (min 512 i) = (B, F)
            rw [← HMN.out, ← hDe, HBE.out, HFE.out])
          have HDE := Lib.hid hDe
          clear HBB HBD hDe
          go_upto_region 7 with (fail)
          go_cut [19] from 13 to 19 (fun v wx => v = .bool false ∧ wx = wr.drewN q)
          case first =>
            rcases Nat.lt_or_ge 512 (D + 1) with h5 | h5
            · have d1 : decide ((D : Int) + 1 ≤ 512) = false := by simp; omega
              go_wp2
              all_goals (go_meet; exact ⟨rfl, rfl⟩)
            · have d1 : decide ((D : Int) + 1 ≤ 512) = true := by simp; omega
              have d2 : decide ((D : Int) + 1 ≤ (i : Int)) = false := by have := HMN.out; have := HDE.out; simp; omega
              go_wp2
              all_goals (go_meet; exact ⟨rfl, rfl⟩)
          case rest =>
          obtain ⟨rfl, rfl⟩ := hcut
          have HBw := Lib.hid (HB.out.drewN q)
          have HOw := Lib.hid (HO.out.but ((But.refl [] wr).drewN q))
          obtain ⟨w1, hw1⟩ : ∃ w1, w1 = wr.drewN q := ⟨_, rfl⟩
          rw [← hw1] at HBw HOw ⊢
          have hsz1 := HBw.out.size
          clear hw1
          by_cases h3 : 3 ≤ B
          · have hb3 : 3 ≤ (bestAt s.data.toList i).1 := by rw [HBA.out]; exact h3
            have HST := Lib.hid (toks_step_m (l := s.data.toList) (i := i) (by rw [HLL.out]; exact hlt) hb3)
            obtain ⟨b1, b2, b3, b4, b5, b6⟩ := best_match (l := s.data.toList) (i := i) (by rw [HLL.out]; exact hlt) hb3
            rw [HBA.out] at HST b5
            rw [HLL.out] at b5
            dsimp only at HST b5
            clear b1 b2 b3 b4 b6 hb3
            go_wp2_with (at_builtin; refine wpList_append_own _ rfl _ _ 35 rfl w.heap.size 63 i0 (.agg #[.int .i64 0, .int .i64 0, .int .i64 0]) 3 24 Tryz.underlying35 hi0 hz0 hz1 hz2 rfl (by decide) _ L.length (tkCells L) rfl (World.ownsRow.alloc HOw.out _) ⟨w1.heap.size, 0, none⟩ 1 1 [.int .i64 0, .int .i64 B, .int .i64 F] rfl rfl ?c1 ?c2 ?c3 ?c4 ?c5 ?_)
            case c1 => exact World.news_of_block (cs := #[.int .i64 0, .int .i64 B, .int .i64 F]) (t := 63) (fr := (0, 0)) (heap_alloc_new w1 _)
            case c2 => simp [Value.oneCell']
            case c3 => unfold maxLen; omega
            case c4 => omega
            case c5 => simp; omega
            intro v' w2 hown2 hgrow2 _
            have HP := Lib.hid (OwnK.pushed (x := ((B : Int), (F : Int), (0 : Int))) HBw.out HOw.out hown2 hgrow2)
            clear hown2 hgrow2
            go_wp2
            go_roundw
            case rel => exact ⟨i + B, L ++ [((B : Int), (F : Int), (0 : Int))], by omega, by go_num, by rw [List.length_append, List.length_singleton]; omega, Lib.hid (by rw [← HM.out, HST.out, List.append_assoc]; rfl), Lib.hid HP.out.1, Lib.hid HP.out.2⟩
            case measure => simp [intOf]; omega
          · have HST := Lib.hid (toks_step_l (l := s.data.toList) (i := i) (by rw [HLL.out]; exact hlt) (by rw [HBA.out]; exact h3))
            have HBY := Lib.hid (byteZ_at s hlt)
            have hwr : wrap64 (s[i].toNat : Int) = (s[i].toNat : Int) := by have := s[i].toNat_lt; unfold wrap64; omega
            have hi1 : (0 : Int) ≤ (i : Int) := by omega
            go_wp2_with (at_builtin; refine wpList_append_own _ rfl _ _ 35 rfl w.heap.size 63 i0 (.agg #[.int .i64 0, .int .i64 0, .int .i64 0]) 3 24 Tryz.underlying35 hi0 hz0 hz1 hz2 rfl (by decide) _ L.length (tkCells L) rfl (World.ownsRow.alloc HOw.out _) ⟨w1.heap.size, 0, none⟩ 1 1 [.int .i64 s[i].toNat, .int .i64 0, .int .i64 0] rfl rfl ?d1 ?d2 ?d3 ?d4 ?d5 ?_)
            case d1 => exact World.news_of_block (cs := #[.int .i64 s[i].toNat, .int .i64 0, .int .i64 0]) (t := 63) (fr := (0, 0)) (heap_alloc_new w1 _)
            case d2 => simp [Value.oneCell']
            case d3 => unfold maxLen; omega
            case d4 => omega
            case d5 => simp; omega
            intro v' w2 hown2 hgrow2 _
            have HP := Lib.hid (OwnK.pushed (x := ((0 : Int), (0 : Int), (s[i].toNat : Int))) HBw.out HOw.out hown2 hgrow2)
            clear hown2 hgrow2
            go_wp2
            go_roundw
            case rel => exact ⟨i + 1, L ++ [((0 : Int), (0 : Int), (s[i].toNat : Int))], by omega, by go_num, by rw [List.length_append, List.length_singleton]; omega, Lib.hid (by rw [← HM.out, HST.out, HBY.out, List.append_assoc]; rfl), Lib.hid HP.out.1, Lib.hid HP.out.2⟩
            case measure => simp [intOf]; omega
    · go_wp2
      (try rw [Exit.noGoto_ret])
      go_ret
      have e : i = s.size := by omega
      refine ⟨_, rfl, ?_, HB.out⟩
      have h := HM.out
      rw [toks_step_e (by rw [HLL.out]; exact hlt), List.append_nil] at h
      rw [← h]; exact HO.out
end Go.Proofs.YtghegmbafbpnjaaGreatDoor
set_option maxRecDepth 100000
set_option linter.unusedVariables false
namespace Go.Proofs.YtghegmbafbpnjaaGreatDoor
set_option maxRecDepth 100000
open Go Go.RowKit
theorem fixedX_eq (l : List UInt8) : fixedX l = layC fixL (layTs fixL fixD (layB (layB (0, 0) 1 1) 1 2) (toks l)) 256 := rfl
attribute [local irreducible] layTs layC layB fixL fixD toks textX fixedX
/-- A new writer of the document's. -/
theorem fwnew (w : World) : FW (w.alloc (.cells #[.slice none 0 0, .int .i64 0] 79)) (w.heap.size + 1) w.heap.size none ((0, 0) : Nat × Nat).1 ((0, 0) : Nat × Nat).2 := fw_new w _
theorem FW.ge {w : World} {lo b X N : Nat} {og : Option Nat} (h : FW w lo b og X N) {g : Nat} (hg : og = some g) : lo ≤ g := by
  obtain ⟨vv, LL, _, hown, hog, _⟩ := h
  exact (hown.lt g (by rw [hog]; exact hg)).1
theorem FW.new {w : World} {n b X N : Nat} {og : Option Nat} (h : FW w (n + 1) b og X N) (hb : n ≤ b) : ∀ k ∈ b :: og.toList, n ≤ k := by
  intro k hk
  simp only [List.mem_cons, Option.mem_toList] at hk
  rcases hk with rfl | hk
  · exact hb
  · exact Nat.le_trans (Nat.le_succ n) (h.ge hk)
theorem fewB {q : Nat × Nat} {v n a : Nat} (hn : n ≤ 24) (hv : v < 2 ^ n) (h : q.2 ≤ a) : (layB q v n).2 ≤ a + n := by rw [layB_eq hn hv]; exact Nat.add_le_add_right h n
set_option maxHeartbeats 2000000 in
theorem efixed_any (w : World) {s : ByteArray} (hs : s.size ≤ 10000) :
    Calls Tryz.prog 26 #[.string s] w fun e w' => e = .returned (.string (textX (fixedX s.data.toList))) ∧ But [] w w' := by
  have hal := toks_few s.data.toList
  have hln := len_data s
  have hty := toks_fixed s.data.toList
  obtain ⟨P, hP⟩ : ∃ P, P = toks s.data.toList := ⟨_, rfl⟩
  have hTk := fun v => rtokens_any v (s := s) (by omega)
  obtain ⟨q1, hq1, hl1⟩ : ∃ q, q = layB (0, 0) 1 1 ∧ q.2 ≤ 0 + 1 := ⟨_, rfl, fewB (by omega) (by omega) (Nat.le_refl _)⟩
  obtain ⟨q2, hq2, hl2⟩ : ∃ q, q = layB q1 1 2 ∧ q.2 ≤ 0 + 1 + 2 := ⟨_, rfl, fewB (by omega) (by omega) hl1⟩
  have hX : fixedX s.data.toList = layC fixL (layTs fixL fixD q2 P) 256 := by rw [hq2, hq1, hP]; exact fixedX_eq _
  have HQ1 := Lib.hid hq1
  have HQ2 := Lib.hid hq2
  clear hq1 hq2
  rw [← hP] at hal hty hTk
  have HX := Lib.hid hX
  have HTY := Lib.hid hty
  have HTK := Lib.hid hTk
  have HAL := Lib.hid hal
  clear hP hty hTk hX hal hln
  have hW0 := WroteF.refl (fwnew w)
  have HW0 := Lib.hid hW0
  clear hW0
  have HB0 : Hid (But [] w (w.alloc (.cells #[.slice none 0 0, .int .i64 0] 79))) := Lib.hid ((But.refl [] w).alloc _)
  have hsa : (w.alloc (.cells #[.slice none 0 0, .int .i64 0] 79)).heap.size = w.heap.size + 1 := by simp
  have HSA := Lib.hid hsa
  clear hsa
  go_enter Tryz.func26, Tryz.ntmps26
  go_wp2_with fail
  refine (HW0.out.bits (by rw [HSA.out]; exact Nat.le_refl _) (Nat.zero_le _) 1 1).mono ?_
  rintro e w1 ⟨rfl, hW1⟩
  rw [← HQ1.out] at hW1
  have HW1 := Lib.hid hW1
  clear hW1
  go_wp2_with fail
  refine (HW1.out.bits (by rw [HSA.out]; exact Nat.le_refl _) (by omega) 1 2).mono ?_
  rintro e w2 ⟨rfl, hW2⟩
  rw [← HQ2.out] at hW2
  have hbut2 := HB0.out.fresh hW2.but (fun i hi => by simp at hi; omega)
  obtain ⟨og2, hF2, hlt2⟩ := hW2.out (by rw [HSA.out]; omega)
  have hsz2 := hW2.but.size
  rw [HSA.out] at hsz2
  have HB2 := Lib.hid hbut2
  have HNW := Lib.hid (hF2.new (Nat.le_refl _))
  have HF2 := Lib.hid hF2
  have HL2 := Lib.hid hlt2
  clear hW2 hbut2 hF2 hlt2 HW0 HW1
  go_wp2_with fail
  refine (fixed_any w2).mono ?_
  rintro e w3 ⟨A1, A2, cc1, cc2, rfl, hI1, hI2, hB3, _, _⟩
  have HI2 := Lib.hid hI2
  have HB3 := Lib.hid hB3
  have hmk := rmake_new (cap := cc1) hI1 (by omega) (fun e => by cases e) chk_fixL
  have HMK := Lib.hid hmk
  clear hI1 hI2 hB3 hmk
  go_wp2_with fail
  refine HMK.out.mono ?_
  rintro e w4 ⟨bt, rfl, hN4, hB4⟩
  have hmk2 := rmake_new (cap := cc2) (HI2.out.but hB4 (by simp)) (by omega) (fun e => by cases e) chk_fixD
  have HMK2 := Lib.hid hmk2
  have HN4 := Lib.hid hN4
  have HB4 := Lib.hid (HB3.out.trans hB4)
  have hs34 := HB3.out.size
  clear hN4 hB4 hmk2 HMK HI2
  go_wp2_with fail
  refine HMK2.out.mono ?_
  rintro e w5 ⟨bu, rfl, hN5, hB5⟩
  have HN45 := Lib.hid (HN4.out.but hB5 (by simp))
  have HN5 := Lib.hid hN5
  have HB5 := Lib.hid (HB4.out.trans hB5)
  have hs45 := HB4.out.size
  clear hN5 hB5 HMK2 HN4
  go_wp2_with fail
  refine (HTK.out w5).mono ?_
  rintro e w6 ⟨v, rfl, hO6, hB6⟩
  obtain ⟨A6, c6, rfl, hT6⟩ := hO6.open
  have hs56 := HB5.out.size
  have hF6 := HF2.out.but (HB5.out.trans hB6) (by simp) (by simp)
  have hlt6 : ∀ k ∈ w.heap.size :: og2.toList, k < w2.heap.size := HL2.out
  have hW6 := WroteF.refl hF6
  have hk1 := (HN45.out.but hB6 (by simp)).keep (S := w.heap.size :: og2.toList) (fun k hk => by have := hlt6 k hk; omega)
  have hk2 := (HN5.out.but hB6 (by simp)).keep (S := w.heap.size :: og2.toList) (fun k hk => by have := hlt6 k hk; omega)
  have hk3 := hO6.keep (m := P.length) (S := w.heap.size :: og2.toList) (fun k hk => by have := hlt6 k hk; omega) (by rw [List.length_map])
  have hPl : P.length ≤ 1000000 := by have := HAL.out; have := len_data s; omega
  have hsz6 := (HB5.out.trans hB6).size
  have hly := elay_any (c := c6) hk1 hk2 hk3 (okl chk_fixL) (okl chk_fixD) HTY.out (hasL (by omega)) hPl hW6 (by omega) (by omega)
  have HLY := Lib.hid hly
  have HB6 := Lib.hid (HB2.out.trans (HB5.out.trans hB6))
  have HS := Lib.hid (fun k hk => Nat.lt_of_lt_of_le (hlt6 k hk) hsz6)
  clear hO6 hB6 hT6 hF6 hlt6 hW6 hk1 hk2 hk3 hly HTK HN45 HN5 HB5
  go_wp2_with fail
  refine HLY.out.mono ?_
  rintro e w7 ⟨rfl, hW7⟩
  have hB7 : But [] w w7 := HB6.out.fresh hW7.but HNW.out
  have HB7 := Lib.hid hB7
  have HW7 := Lib.hid hW7
  clear hB7 hW7
  go_wp2_with fail
  refine HW7.out.text.mono ?_
  rintro e w8 ⟨rfl, rfl⟩
  go_wp2
  go_ret
  refine ⟨?_, HB7.out⟩
  rw [HX.out]
  rfl
end Go.Proofs.YtghegmbafbpnjaaGreatDoor
set_option maxRecDepth 100000
set_option linter.unusedVariables false
namespace Go.Proofs.YtghegmbafbpnjaaGreatDoor
set_option maxRecDepth 100000
open Go Go.RowKit
theorem conv_head (W : World) {n : Nat} {r1 n1 r2 n2 : Nat} (h1 : r1 = n % 256) (h2 : n1 = n / 256) (h3 : r2 = 255 - n % 256) (h4 : n2 = 255 - n / 256) (hn : n ≤ 65535) :
    (convert 40 9 (.slice (some ⟨W.heap.size, 0, none⟩) 4 4)).run Tryz.prog ((W.alloc (.cells #[.int .u8 r1, .int .u8 n1, .int .u8 r2, .int .u8 n2] 5)).drew) = .ok (.string ⟨(headY n).toArray⟩) ((W.alloc (.cells #[.int .u8 r1, .int .u8 n1, .int .u8 r2, .int .u8 n2] 5)).drew) := by
  refine conv_at (L := headY n) (cap := 4) fun j hj => ?_
  have a1 := UInt8.toNat_ofNat' (n := n)
  have a2 := u8n (n / 256) (by omega)
  have a3 := u8n (255 - n % 256) (by omega)
  have a4 := u8n (255 - n / 256) (by omega)
  show (W.alloc (.cells #[.int .u8 r1, .int .u8 n1, .int .u8 r2, .int .u8 n2] 5)).cell? ⟨W.heap.size, j, none⟩ = _
  rw [World.cell?_alloc_mark]
  rw [head_len] at hj
  unfold headY
  match j, hj with
  | 0, _ => show some (Value.int .u8 (r1 : Int)) = some (Value.int .u8 ((UInt8.ofNat n).toNat : Int)); rw [a1, h1]
  | 1, _ => show some (Value.int .u8 (n1 : Int)) = some (Value.int .u8 ((UInt8.ofNat (n / 256)).toNat : Int)); rw [a2, h2]
  | 2, _ => show some (Value.int .u8 (r2 : Int)) = some (Value.int .u8 ((UInt8.ofNat (255 - n % 256)).toNat : Int)); rw [a3, h3]
  | 3, _ => show some (Value.int .u8 (n2 : Int)) = some (Value.int .u8 ((UInt8.ofNat (255 - n / 256)).toNat : Int)); rw [a4, h4]
theorem stor_text {s : ByteArray} (h : s.size ≤ 65535) {q : Nat × Nat} (hq : q = layB (layB (0, 0) 1 1) 0 2) :
    (bytesX q.1 q.2 (⟨(headY s.size).toArray⟩ ++ s), bytesN q.2 (⟨(headY s.size).toArray⟩ ++ s)) = storX s.data.toList := by
  have hl := len_data s
  rw [storX_one (by omega)]
  unfold layZ
  rw [hl, ← hq]
  have e : (⟨(headY s.size).toArray⟩ : ByteArray) ++ s = ⟨(headY s.size ++ s.data.toList).toArray⟩ := by
    apply ByteArray.ext
    simp
  rw [e]
  rfl
attribute [local irreducible] layB layY storX textX headY
theorem wrapu {a : Int} (h0 : 0 ≤ a) (h1 : a < 256) : IntKind.u8.wrap a = a := by simp [IntKind.wrap_u8]; omega
set_option maxHeartbeats 1000000 in
theorem estored_any (w : World) {s : ByteArray} (hs : s.size ≤ 10000) :
    Calls Tryz.prog 25 #[.string s] w fun e w' => e = .returned (.string (textX (storX s.data.toList))) ∧ But [] w w' := by
  obtain ⟨q1, hq1, hl1⟩ : ∃ q, q = layB (0, 0) 1 1 ∧ q.2 ≤ 0 + 1 := ⟨_, rfl, fewB (by omega) (by omega) (Nat.le_refl _)⟩
  obtain ⟨q2, hq2, hl2⟩ : ∃ q, q = layB q1 0 2 ∧ q.2 ≤ 0 + 1 + 2 := ⟨_, rfl, fewB (by omega) (by omega) hl1⟩
  have HQ1 := Lib.hid hq1
  have HQ2 := Lib.hid hq2
  clear hq1 hq2
  have hW0 := WroteF.refl (fwnew w)
  have HW0 := Lib.hid hW0
  have HB0 : Hid (But [] w (w.alloc (.cells #[.slice none 0 0, .int .i64 0] 79))) := Lib.hid ((But.refl [] w).alloc _)
  have hsa : (w.alloc (.cells #[.slice none 0 0, .int .i64 0] 79)).heap.size = w.heap.size + 1 := by simp
  have HSA := Lib.hid hsa
  clear hsa hW0
  go_enter Tryz.func25, Tryz.ntmps25
  go_wp2
  go_loopw [0] (fun sv wr => sv = .string s ∧ wr = w.alloc (.cells #[.slice none 0 0, .int .i64 0] 79)) (fun _ _ => 0)
  case atStart => exact ⟨rfl, rfl⟩
  case round =>
    obtain ⟨rfl, rfl⟩ := hrel
    have hmin : min (s.size : Int) 65535 = (s.size : Nat) := by omega
    obtain ⟨r1, hr1⟩ : ∃ m : Nat, m = s.size % 256 := ⟨_, rfl⟩
    obtain ⟨n1, hn1⟩ : ∃ m : Nat, m = s.size / 256 := ⟨_, rfl⟩
    obtain ⟨r2, hr2⟩ : ∃ m : Nat, m = 255 - s.size % 256 := ⟨_, rfl⟩
    obtain ⟨n2, hn2⟩ : ∃ m : Nat, m = 255 - s.size / 256 := ⟨_, rfl⟩
    have b1 : IntKind.u8.wrap (s.size : Int) = (r1 : Int) := by simp [IntKind.wrap_u8]; omega
    have b2 : IntKind.i64.wrap ((s.size : Int) / 256) = (n1 : Int) := by rw [wrapi (by omega) (by omega)]; omega
    have b3 : IntKind.u8.wrap (n1 : Int) = (n1 : Int) := wrapu (by omega) (by omega)
    have b4 : (s.size : Int).tmod 256 = (r1 : Int) := by rw [Int.tmod_eq_emod_of_nonneg (by omega)]; omega
    have b5 : IntKind.i64.wrap (255 - (r1 : Int)) = (r2 : Int) := by rw [wrapi (by omega) (by omega)]; omega
    have b6 : IntKind.u8.wrap (r2 : Int) = (r2 : Int) := wrapu (by omega) (by omega)
    have b7 : IntKind.i64.wrap (255 - (n1 : Int)) = (n2 : Int) := by rw [wrapi (by omega) (by omega)]; omega
    have b8 : IntKind.u8.wrap (n2 : Int) = (n2 : Int) := wrapu (by omega) (by omega)
    have kc := fun W : World => conv_head W hr1 hn1 hr2 hn2 (by omega)
    have hsz : ((⟨(headY s.size).toArray⟩ : ByteArray) ++ s).size ≤ 70368744177664 := by rw [ByteArray.size_append]; show (headY s.size).toArray.size + s.size ≤ _; rw [List.size_toArray, head_len]; omega
    have HSZ := Lib.hid hsz
    clear hsz
    have kd : (9223372036854775807 < (headY s.size).length + s.size) = False := by rw [head_len]; simp; omega
    clear hr1 hn1 hr2 hn2
    go_wp2_with fail
    refine (HW0.out.bits (by rw [HSA.out]; exact Nat.le_refl _) (Nat.zero_le _) 1 1).mono ?_
    rintro e w1 ⟨rfl, hW1⟩
    rw [← HQ1.out] at hW1
    have HW1 := Lib.hid hW1
    clear hW1
    go_wp2_with fail
    refine (HW1.out.bits (by rw [HSA.out]; exact Nat.le_refl _) (by omega) 0 2).mono ?_
    rintro e w2 ⟨rfl, hW2⟩
    rw [← HQ2.out] at hW2
    have HW2 := Lib.hid hW2
    clear hW2
    go_upto_region 8 with (fail)
    go_region_with (first | (go_at_call 49; go_loud (refine (WroteF.bytes (HW2.out.other ((((But.refl [] w2).alloc (.cells #[.int .u8 r1, .int .u8 n1, .int .u8 r2, .int .u8 n2] 5))).drew)) (by rw [HSA.out]; exact Nat.le_refl _) (by omega) _ HSZ.out).mono ?_; rintro e w3 ⟨rfl, hW3⟩; have HW3 := Lib.hid hW3; clear hW3)))
    rw [stor_text (by omega) (by rw [← HQ1.out]; exact HQ2.out)] at HW3
    clear b1 b2 b3 b4 b5 b6 b7 b8 kc kd HW2 HW1
    go_simp
    go_wp2_with fail
    refine HW3.out.text.mono ?_
    rintro e w4 ⟨rfl, rfl⟩
    go_wp2
    go_ret
    exact ⟨rfl, HB0.out.fresh HW3.out.but (fun i hi => by simp at hi; omega)⟩
end Go.Proofs.YtghegmbafbpnjaaGreatDoor
namespace Go.Proofs.YtghegmbafbpnjaaGreatDoor
set_option maxRecDepth 100000
section
variable {α β : Type}
def mrgGIn (key : α → Nat) (c : α) (f : List α → List α) : List α → List α
  | [] => c :: f []
  | p :: ps => if key p < key c then p :: mrgGIn key c f ps else c :: f (p :: ps)
/-- A merge by keys, the first list's ahead where they are equal. -/
def mrgG (key : α → Nat) : List α → List α → List α
  | [], ps => ps
  | c :: cs, ps => mrgGIn key c (mrgG key cs) ps
theorem mrgG_nil (key : α → Nat) (ps : List α) : mrgG key [] ps = ps := rfl
theorem mrgG_none (key : α → Nat) : ∀ cs : List α, mrgG key cs [] = cs
  | [] => rfl
  | c :: cs => by show c :: mrgG key cs [] = _; rw [mrgG_none key cs]
theorem mrgG_lt {key : α → Nat} {c p : α} {cs ps : List α} (h : key p < key c) : mrgG key (c :: cs) (p :: ps) = p :: mrgG key (c :: cs) ps := by
  show mrgGIn key c (mrgG key cs) (p :: ps) = _; rw [mrgGIn, if_pos h]; rfl
theorem mrgG_ge {key : α → Nat} {c p : α} {cs ps : List α} (h : ¬ key p < key c) : mrgG key (c :: cs) (p :: ps) = c :: mrgG key cs (p :: ps) := by
  show mrgGIn key c (mrgG key cs) (p :: ps) = _; rw [mrgGIn, if_neg h]
theorem mrgG_rec {key : α → Nat} {P : List α → List α → Prop} (h1 : ∀ ps, P [] ps) (h2 : ∀ cs, P cs []) (h3 : ∀ c cs p ps, key p < key c → P (c :: cs) ps → P (c :: cs) (p :: ps)) (h4 : ∀ c cs p ps, ¬ key p < key c → P cs (p :: ps) → P (c :: cs) (p :: ps)) :
    ∀ cs ps, P cs ps := by
  intro cs ps
  induction h : cs.length + ps.length generalizing cs ps with
  | zero =>
    cases cs with
    | nil => exact h1 ps
    | cons c cs => simp at h
  | succ n ih =>
    cases cs with
    | nil => exact h1 ps
    | cons c cs =>
      cases ps with
      | nil => exact h2 _
      | cons p ps =>
        by_cases hp : key p < key c
        · exact h3 _ _ _ _ hp (ih _ _ (by simp at h ⊢; omega))
        · exact h4 _ _ _ _ hp (ih _ _ (by simp at h ⊢; omega))
theorem mrgG_map {key : α → Nat} {key2 : β → Nat} (f : α → β) (hk : ∀ a, key2 (f a) = key a) (cs ps : List α) : (mrgG key cs ps).map f = mrgG key2 (cs.map f) (ps.map f) := by
  induction cs, ps using mrgG_rec (key := key) with
  | h1 ps => rfl
  | h2 cs => rw [mrgG_none, List.map_nil, mrgG_none]
  | h3 c cs p ps h ih => rw [mrgG_lt h, List.map_cons, ih, List.map_cons, List.map_cons, mrgG_lt (by rw [hk, hk]; exact h)]
  | h4 c cs p ps h ih => rw [mrgG_ge h, List.map_cons, ih, List.map_cons, List.map_cons, mrgG_ge (by rw [hk, hk]; exact h)]
theorem mem_mrgG {key : α → Nat} {cs ps : List α} {x : α} : x ∈ mrgG key cs ps → x ∈ cs ∨ x ∈ ps := by
  induction cs, ps using mrgG_rec (key := key) with
  | h1 ps => exact .inr
  | h2 cs => rw [mrgG_none]; exact .inl
  | h3 c cs p ps h ih =>
    rw [mrgG_lt h]; intro hx
    rcases List.mem_cons.1 hx with rfl | hx
    · exact .inr (by simp)
    · rcases ih hx with h | h
      · exact .inl h
      · exact .inr (by simp [h])
  | h4 c cs p ps h ih =>
    rw [mrgG_ge h]; intro hx
    rcases List.mem_cons.1 hx with rfl | hx
    · exact .inl (by simp)
    · rcases ih hx with h | h
      · exact .inl (by simp [h])
      · exact .inr h
/-- One step of a merge. -/
theorem mrgG_coin {key : α → Nat} {C P : List α} {i k : Nat} (hi : i < C.length) (h : P.length ≤ k ∨ ∃ hk : k < P.length, key C[i] ≤ key P[k]) : mrgG key (C.drop i) (P.drop k) = C[i] :: mrgG key (C.drop (i + 1)) (P.drop k) := by
  rw [List.drop_eq_getElem_cons hi]
  rcases h with h | ⟨hk, h⟩
  · rw [List.drop_of_length_le h, mrgG_none, mrgG_none]
  · rw [List.drop_eq_getElem_cons hk, mrgG_ge (by omega)]
theorem mrgG_pair {key : α → Nat} {C P : List α} {i k : Nat} (hk : k < P.length) (h : C.length ≤ i ∨ ∃ hi : i < C.length, key P[k] < key C[i]) : mrgG key (C.drop i) (P.drop k) = P[k] :: mrgG key (C.drop i) (P.drop (k + 1)) := by
  rw [List.drop_eq_getElem_cons hk]
  rcases h with h | ⟨hi, h⟩
  · rw [List.drop_of_length_le h]; rfl
  · rw [List.drop_eq_getElem_cons hi, mrgG_lt h]
end
def addV (u v : List Int) : List Int := List.zipWith (· + ·) u v
theorem addV_getD {u v : List Int} {s : Nat} (h : u.length = v.length) : (addV u v).getD s 0 = u.getD s 0 + v.getD s 0 := by
  unfold addV
  rw [List.getD_eq_getElem?_getD, List.getD_eq_getElem?_getD, List.getD_eq_getElem?_getD, List.getElem?_zipWith]
  by_cases hs : s < u.length
  · rw [List.getElem?_eq_getElem hs, List.getElem?_eq_getElem (by omega)]; rfl
  · rw [List.getElem?_eq_none (by omega), List.getElem?_eq_none (by omega)]; rfl
def prT : List Tg → List Tg
  | a :: b :: l => (a.1 + b.1, addV a.2 b.2) :: prT l
  | _ => []
def prN : List Nat → List Nat
  | a :: b :: l => (a + b) :: prN l
  | _ => []
theorem prs_prN : ∀ l : List (Nat × Bool), prs l = prN (l.map (·.1))
  | [] => rfl
  | [_] => rfl
  | a :: b :: l => by show _ :: prs l = _ :: prN (l.map (·.1)); rw [prs_prN l]
theorem prT_keys : ∀ l : List Tg, (prT l).map (·.1) = prN (l.map (·.1))
  | [] => rfl
  | [_] => rfl
  | a :: b :: l => by show _ :: (prT l).map (·.1) = _ :: prN (l.map (·.1)); rw [prT_keys l]
theorem length_prT : ∀ l : List Tg, (prT l).length = l.length / 2
  | [] => rfl
  | [_] => by simp [prT]
  | a :: b :: l => by simp [prT, length_prT l]; omega
theorem prT_at : ∀ (l : List Tg) (i : Nat) (h : 2 * i + 1 < l.length), (prT l)[i]'(by rw [length_prT]; omega) = (l[2 * i].1 + l[2 * i + 1].1, addV l[2 * i].2 l[2 * i + 1].2)
  | [], i, h => by simp at h
  | [_], i, h => by simp at h
  | a :: b :: l, 0, h => by simp [prT]
  | a :: b :: l, i + 1, h => by
    have := prT_at l i (by simp at h; omega)
    simpa [prT, show 2 * (i + 1) = 2 * i + 1 + 1 from by omega] using this
def rowT (cs : List Tg) : Nat → List Tg
  | 0 => cs
  | k + 1 => mrgG (·.1) cs (prT (rowT cs k))
theorem mrgG_keys : ∀ (cs ps : List Nat), mrgG id cs ps = (mrg cs ps).map (·.1) := by
  intro cs ps
  induction cs, ps using mrg_rec with
  | h1 ps => rw [mrg_nil, List.map_map]; simp [mrgG_nil, Function.comp_def]
  | h2 cs => rw [mrg_none, mrgG_none, List.map_map]; simp [Function.comp_def]
  | h3 c cs p ps h ih => rw [mrg_lt h, mrgG_lt (by exact h), ih]; rfl
  | h4 c cs p ps h ih => rw [mrg_ge h, mrgG_ge (by exact h), ih]; rfl
theorem rowT_keys (cs : List Tg) : ∀ k, (rowT cs k).map (·.1) = (rowN (cs.map (·.1)) k).map (·.1)
  | 0 => by
    show cs.map (·.1) = (mrg (cs.map (·.1)) []).map (·.1)
    rw [mrg_none, List.map_map]; simp [Function.comp_def]
  | k + 1 => by
    show (mrgG (·.1) cs (prT (rowT cs k))).map (·.1) = (mrg (cs.map (·.1)) (prs (rowN (cs.map (·.1)) k))).map (·.1)
    rw [← mrgG_keys, mrgG_map (key := fun x : Tg => x.1) (key2 := id) (fun x : Tg => x.1) (fun _ => rfl), prT_keys, rowT_keys cs k, prs_prN]
theorem length_rowT (cs : List Tg) (k : Nat) : (rowT cs k).length = (rowN (cs.map (·.1)) k).length := by
  have := congrArg List.length (rowT_keys cs k)
  simpa using this
/-- The first items of a merge: its first coins and its first pairs. -/
theorem mrgT_first (cs ps : List Tg) (g : Tg → Int) : ∀ a, a ≤ cs.length + ps.length → (((mrgG (·.1) cs ps).take a).map g).sum = ((cs.take (tk (mrg (cs.map (·.1)) (ps.map (·.1))) a)).map g).sum + ((ps.take (a - tk (mrg (cs.map (·.1)) (ps.map (·.1))) a)).map g).sum := by
  induction cs, ps using mrgG_rec (key := fun x : Tg => x.1) with
  | h1 ps =>
    intro a ha
    have h0 : tk (mrg [] (ps.map (·.1))) a = 0 := by
      unfold tk coinsIn; rw [mrg_nil, ← List.map_take, List.filter_map]; simp
    rw [List.map_nil, h0, mrgG_nil]; simp
  | h2 cs =>
    intro a ha
    simp only [List.length_nil, Nat.add_zero] at ha
    have h0 : tk (mrg (cs.map (·.1)) []) a = a := by
      unfold tk coinsIn; rw [mrg_none, ← List.map_take, List.filter_map, List.length_map]
      rw [List.filter_eq_self.2 (by simp), List.length_take, List.length_map]; omega
    rw [List.map_nil, h0, mrgG_none]; simp
  | h3 c cs p ps h ih =>
    intro a ha
    have hm : mrg ((c :: cs).map (·.1)) ((p :: ps).map (·.1)) = (p.1, true) :: mrg ((c :: cs).map (·.1)) (ps.map (·.1)) := mrg_lt h
    rw [mrgG_lt (key := fun x : Tg => x.1) h, hm]
    cases a with
    | zero => simp [tk_zero]
    | succ a =>
      have := ih a (by simp at ha ⊢; omega)
      rw [tk_cons]
      have hle := tk_le (mrg ((c :: cs).map (·.1)) (ps.map (·.1))) a
      generalize tk (mrg ((c :: cs).map (·.1)) (ps.map (·.1))) a = T at *
      simp only [if_true, Nat.zero_add]
      rw [show a + 1 - T = (a - T) + 1 from by omega]
      simp only [List.take_succ_cons, List.map_cons, List.sum_cons]
      rw [this]
      omega
  | h4 c cs p ps h ih =>
    intro a ha
    have hm : mrg ((c :: cs).map (·.1)) ((p :: ps).map (·.1)) = (c.1, false) :: mrg (cs.map (·.1)) ((p :: ps).map (·.1)) := mrg_ge h
    rw [mrgG_ge (key := fun x : Tg => x.1) h, hm]
    cases a with
    | zero => simp [tk_zero]
    | succ a =>
      have := ih a (by simp at ha ⊢; omega)
      rw [tk_cons]
      generalize tk (mrg (cs.map (·.1)) ((p :: ps).map (·.1))) a = T at *
      simp only [Bool.false_eq_true, if_false]
      rw [show a + 1 - (1 + T) = a - T from by omega, Nat.add_comm 1]
      simp only [List.take_succ_cons, List.map_cons, List.sum_cons]
      rw [this]
      omega
/-- All lists of numbers have so many. -/
def Wide (n : Nat) (L : List Tg) : Prop := ∀ x ∈ L, x.2.length = n
theorem prT_wide {n : Nat} : ∀ {l : List Tg}, Wide n l → Wide n (prT l)
  | [], _ => by intro x hx; simp [prT] at hx
  | [_], _ => by intro x hx; simp [prT] at hx
  | a :: b :: l, h => by
    intro x hx
    simp only [prT, List.mem_cons] at hx
    rcases hx with rfl | hx
    · have h1 := h a (by simp)
      have h2 := h b (by simp)
      simp [addV, h1, h2]
    · exact prT_wide (l := l) (fun y hy => h y (by simp [hy])) x hx
theorem rowT_wide {n : Nat} {cs : List Tg} (h : Wide n cs) : ∀ k, Wide n (rowT cs k)
  | 0 => h
  | k + 1 => fun x hx => by
    rcases mem_mrgG hx with h1 | h1
    · exact h x h1
    · exact prT_wide (rowT_wide h k) x h1
theorem prT_sum {n s : Nat} : ∀ (l : List Tg) (q : Nat), Wide n l → 2 * q ≤ l.length → (((prT l).take q).map fun x => x.2.getD s 0).sum = ((l.take (2 * q)).map fun x => x.2.getD s 0).sum
  | _, 0, _, _ => by simp
  | [], q + 1, _, h => by simp at h
  | [_], q + 1, _, h => by simp at h; omega
  | a :: b :: l, q + 1, hw, h => by
    have := prT_sum (s := s) l q (fun y hy => hw y (by simp [hy])) (by simp at h; omega)
    rw [show 2 * (q + 1) = 2 * q + 1 + 1 from by omega]
    simp only [prT, List.take_succ_cons, List.sum_cons, List.map_cons, this]
    rw [addV_getD ((hw a (by simp)).trans (hw b (by simp)).symm)]
    omega
theorem rowT_sum {n s : Nat} {cs : List Tg} (hw : Wide n cs) : ∀ k a, a ≤ (rowN (cs.map (·.1)) k).length → (((rowT cs k).take a).map fun x => x.2.getD s 0).sum = ((cc (cs.map (·.1)) k a).map fun t => ((cs.take t).map fun x => x.2.getD s 0).sum).sum
  | 0, a, h => by
    have hl : (rowN (cs.map (·.1)) 0).length = cs.length := by simp [rowN, length_mrg]
    have h0 : tk (rowN (cs.map (·.1)) 0) a = a := by
      unfold tk coinsIn; rw [rowN, mrg_none, ← List.map_take, List.filter_map, List.length_map]
      rw [List.filter_eq_self.2 (by simp), List.length_take, List.length_map]; omega
    simp [cc, h0, rowT]
  | k + 1, a, h => by
    have hp := pairs_enough (cs.map (·.1)) k a h
    have e : rowN (cs.map (·.1)) (k + 1) = mrg (cs.map (·.1)) ((prT (rowT cs k)).map (·.1)) := by
      rw [prT_keys, rowT_keys, ← prs_prN]; rfl
    have hl : a ≤ cs.length + (prT (rowT cs k)).length := by
      rw [e, length_mrg] at h; simpa using h
    have h1 := mrgT_first cs (prT (rowT cs k)) (fun x => x.2.getD s 0) a hl
    rw [← e] at h1
    have h2 := prT_sum (n := n) (s := s) (rowT cs k) (a - tk (rowN (cs.map (·.1)) (k + 1)) a) (rowT_wide hw k) (by rw [length_rowT]; exact hp)
    rw [h2, rowT_sum hw k _ hp] at h1
    simp only [cc, List.map_cons, List.sum_cons]
    exact h1

def unitV (n s : Nat) : List Int := (List.replicate n (0 : Int)).set s 1
def coinT (n : Nat) (c : Nat × Nat) : Tg := (c.2, unitV n c.1)
theorem unitV_getD (n s t : Nat) : (unitV n s).getD t 0 = if s = t ∧ t < n then 1 else 0 := by
  unfold unitV; rw [getD_set, zeros_getD, List.length_replicate]
theorem coinT_wide (n : Nat) (cs : List (Nat × Nat)) : Wide n (cs.map (coinT n)) := by
  intro x hx
  obtain ⟨c, _, rfl⟩ := List.mem_map.1 hx
  simp [coinT, unitV]
theorem coins_keys (n : Nat) (cs : List (Nat × Nat)) : (cs.map (coinT n)).map (·.1) = cs.map (·.2) := by rw [List.map_map]; rfl
theorem units_at {n : Nat} {cs : List (Nat × Nat)} (hd : (cs.map (·.1)).Nodup) (hlt : ∀ c ∈ cs, c.1 < n) {r : Nat} (hr : r < cs.length) : ∀ t, (((cs.map (coinT n)).take t).map fun x => x.2.getD cs[r].1 0).sum = if r < t then 1 else 0
  | 0 => by simp
  | t + 1 => by
    have ih := units_at hd hlt hr t
    by_cases ht : t < cs.length
    · rw [List.take_succ_eq_append_getElem (by simpa using ht), List.map_append, List.sum_append, ih]
      simp only [List.getElem_map, List.map_cons, List.map_nil, List.sum_cons, List.sum_nil, coinT, unitV_getD]
      by_cases e : t = r
      · subst e
        rw [if_neg (by omega), if_pos ⟨rfl, hlt _ (List.getElem_mem hr)⟩, if_pos (by omega)]; rfl
      · rw [if_neg (c := _ ∧ _) (fun h => e (nodup_at hd ht hr h.1))]
        by_cases h1 : r < t
        · rw [if_pos h1, if_pos (by omega)]; rfl
        · rw [if_neg h1, if_neg (by omega)]; rfl
    · rw [List.take_of_length_le (by simp; omega)] at ih ⊢
      rw [ih, if_pos (by omega), if_pos (by omega)]
theorem units_off {n s : Nat} {cs : List (Nat × Nat)} (hs : s ∉ cs.map (·.1)) (t : Nat) : (((cs.map (coinT n)).take t).map fun x => x.2.getD s 0).sum = 0 := by
  have : ∀ L : List (Nat × Nat), s ∉ L.map (·.1) → ((L.map (coinT n)).map fun x => x.2.getD s 0).sum = 0 := by
    intro L
    induction L with
    | nil => intro _; rfl
    | cons c L ih =>
      intro h
      simp only [List.map_cons, List.mem_cons, not_or] at h
      simp only [List.map_cons, List.sum_cons, coinT, unitV_getD]
      rw [if_neg (fun e => h.1 e.1.symm)]
      have := ih h.2
      rw [Int.zero_add]; exact this
  rw [← List.map_take]
  refine this _ fun h => hs ?_
  rw [List.map_take] at h
  exact List.mem_of_mem_take h
theorem sum_rl (r : Nat) : ∀ ts : List Nat, (ts.map fun t => if r < t then (1 : Int) else 0).sum = (rl ts r : Nat)
  | [] => rfl
  | t :: ts => by
    rw [List.map_cons, List.sum_cons, sum_rl r ts, rl]
    split <;> simp
/-- What the document sums up. -/
def outs (M : Nat) (l : List Int) (i : Nat) (s : Nat) : Int := (((rowT ((csOf l l.length).map (coinT l.length)) (M - 1)).take i).map fun x => x.2.getD s 0).sum
theorem outs_lims {M : Nat} {l : List Int} (hM1 : 1 ≤ M) (hp : (csOf l l.length).length ≤ 2 ^ M) (h1 : (csOf l l.length).length ≠ 1) (s : Nat) : outs M l (2 * (csOf l l.length).length - 2) s = (lims M l).getD s 0 := by
  by_cases h0 : (csOf l l.length).length = 0
  · rw [lims_zero rfl rfl h0, zeros_getD, h0]; unfold outs; simp
  · have hn : 2 ≤ (csOf l l.length).length := by omega
    unfold outs
    have he := row_enough ((csOf l l.length).map (·.2)) (M - 1) (by rw [show M - 1 + 1 = M from by omega, List.length_map]; exact hp) (by rw [List.length_map]; exact hn)
    rw [List.length_map] at he
    rw [rowT_sum (coinT_wide l.length (csOf l l.length)) (M - 1) _ (by rw [coins_keys]; exact he), coins_keys]
    by_cases hs : s ∈ (csOf l l.length).map (·.1)
    · obtain ⟨r, hr, e⟩ := List.getElem_of_mem hs
      have hr' : r < (csOf l l.length).length := by simpa using hr
      have e' : (csOf l l.length)[r].1 = s := by simpa using e
      rw [← e', lims_rank hr']
      have : (fun t => (((csOf l l.length).map (coinT l.length)).take t |>.map fun x => x.2.getD (csOf l l.length)[r].1 0).sum) = fun t => if r < t then (1 : Int) else 0 :=
        funext fun t => units_at (csOf_nodup l _) (fun c hc => (mem_csOf.1 hc).1) hr' t
      rw [this, sum_rl]
      unfold rk lensOf
      rw [if_neg h1, List.length_map]
    · rw [lims_off hs]
      have : (fun t => (((csOf l l.length).map (coinT l.length)).take t |>.map fun x => x.2.getD s 0).sum) = fun _ => (0 : Int) :=
        funext fun t => units_off hs t
      rw [this]
      generalize cc _ _ _ = ts
      induction ts with
      | nil => rfl
      | cons t ts ih => rw [List.map_cons, List.sum_cons, ih]; rfl

theorem prT_bnd {n B W : Nat} : ∀ {l : List Tg}, Wide n l → Bnd B W l → Bnd (2 * B) (2 * W) (prT l)
  | [], _, _ => by intro x hx; simp [prT] at hx
  | [_], _, _ => by intro x hx; simp [prT] at hx
  | a :: b :: l, hw, h => by
    intro x hx
    simp only [prT, List.mem_cons] at hx
    rcases hx with rfl | hx
    · have h1 := h a (by simp)
      have h2 := h b (by simp)
      refine ⟨by dsimp only; omega, fun s => ?_⟩
      dsimp only
      rw [addV_getD ((hw a (by simp)).trans (hw b (by simp)).symm)]
      have := h1.2 s
      have := h2.2 s
      omega
    · exact prT_bnd (l := l) (fun y hy => hw y (by simp [hy])) (fun y hy => h y (by simp [hy])) x hx
theorem rowT_bnd {n W : Nat} {cs : List Tg} (hw : Wide n cs) (h : Bnd 1 W cs) : ∀ k, Bnd (2 ^ k) (2 ^ k * W) (rowT cs k)
  | 0 => h.more (Nat.le_refl _) (by simp)
  | k + 1 => fun x hx => by
    have hp := Nat.two_pow_pos k
    rcases mem_mrgG hx with h1 | h1
    · refine h.more ?_ ?_ x h1
      · rw [Nat.pow_succ]; omega
      · exact Nat.le_trans (by simp) (Nat.mul_le_mul_right W (show 1 ≤ 2 ^ (k + 1) by rw [Nat.pow_succ]; omega))
    · refine (prT_bnd (rowT_wide hw k) (rowT_bnd hw h k)).more ?_ ?_ x h1
      · rw [Nat.pow_succ]; omega
      · rw [Nat.pow_succ, Nat.mul_comm (2 ^ k) 2, Nat.mul_assoc]; exact Nat.le_refl _
theorem coins_bnd {l : List Int} (hok : okCounts l = true) (k : Nat) : Bnd 1 1000000000 ((csOf l k).map (coinT l.length)) := by
  intro x hx
  obtain ⟨c, hc, rfl⟩ := List.mem_map.1 hx
  refine ⟨coins_le hok _ (List.mem_map_of_mem hc), fun s => ?_⟩
  simp only [coinT, unitV_getD]
  split <;> omega
theorem sum_bnd {B W : Nat} {L : List Tg} (h : Bnd B W L) (s : Nat) : ∀ i, 0 ≤ ((L.take i).map fun x => x.2.getD s 0).sum ∧ ((L.take i).map fun x => x.2.getD s 0).sum ≤ ((i * B : Nat) : Int)
  | 0 => by simp
  | i + 1 => by
    have ih := sum_bnd h s i
    by_cases hi : i < L.length
    · rw [List.take_succ_eq_append_getElem hi, List.map_append, List.sum_append]
      have := (h _ (List.getElem_mem hi)).2 s
      simp only [List.map_cons, List.map_nil, List.sum_cons, List.sum_nil]
      rw [Nat.add_mul, Nat.one_mul]; omega
    · rw [List.take_of_length_le (by omega)] at ih ⊢
      rw [Nat.add_mul]; omega
end Go.Proofs.YtghegmbafbpnjaaGreatDoor
