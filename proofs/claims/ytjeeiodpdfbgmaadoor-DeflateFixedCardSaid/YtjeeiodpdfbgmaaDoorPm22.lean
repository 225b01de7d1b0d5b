/- Several texts in one: LzF, RfM, EfE (what Best, Dynamic, Fixed reach of them). -/
import Derived.Test.YtjeeiodpdfbgmaaDoorPm01
import Derived.Test.YtjeeiodpdfbgmaaDoorPm02
import Derived.Test.YtjeeiodpdfbgmaaDoorPm03
import Derived.Test.YtjeeiodpdfbgmaaDoorPm04
import Derived.Test.YtjeeiodpdfbgmaaDoorPm05
import Derived.Test.YtjeeiodpdfbgmaaDoorPm06
import Derived.Test.YtjeeiodpdfbgmaaDoorPm07
import Derived.Test.YtjeeiodpdfbgmaaDoorPm08
import Derived.Test.YtjeeiodpdfbgmaaDoorPm09
import Derived.Test.YtjeeiodpdfbgmaaDoorPm10
import Derived.Test.YtjeeiodpdfbgmaaDoorPm11
import Derived.Test.YtjeeiodpdfbgmaaDoorPm12
import Derived.Test.YtjeeiodpdfbgmaaDoorPm21
import Derived.Below
import Derived.BigQuiet
import Derived.BigRegion
import Derived.Deep.AppendLies
import Derived.Deep.CutRange
import Derived.Deep.DeepCutAuto
import Derived.Deep.Draws
import Derived.Deep.LoopGhost
import Derived.Deep.QuietTactic
import Derived.Deep.RegionLaw
import Derived.Deep.RegionWith
import Derived.Deep.Slices
import Derived.Handy
import Derived.Laws.BitsAllLaws
import Derived.Laws.BitsLemmas
import Derived.Laws.CopyOwn
import Derived.Laws.IdiomStrings
import Derived.Laws.OwnMore
import Derived.Laws.Rows
import Derived.Laws.Strings2
import Derived.Laws.Strings3
import Derived.Laws.StructEq
import Derived.Lib.AppendStr
import Derived.Lib.Hide
import Derived.Lib.Strings
import Derived.LoopIn
import Derived.LoopNIn
import Derived.OneCell
import Derived.OpenShut
import Derived.Outline
import Derived.OwnWalk
import Derived.OwnWalkIn
import Derived.ProofKit
import Derived.RangeFuncBound
import Derived.RangeFuncCalls
import Derived.RangeFuncLeaves
import Derived.RangeFuncNested
import Derived.RegionTactic
import Derived.ScopeJumps
import Derived.Shelf.Abstract
import Derived.Shelf.RegionOpen
import Derived.Shelf.SlSortCmp.QuietGrown
import Derived.StillTailTactics
import Derived.TacticsInMore
import Derived.Test.YtjeeiodpdfbgmaaDoorChecked
import Derived.WalkKit
import Derived.WalkLawsBesides
import Derived.WalkMore
import Derived.WalkSpells
set_option maxRecDepth 100000
set_option linter.unusedVariables false
set_option maxRecDepth 100000
set_option linter.unusedVariables false
namespace Go.Proofs.YtjeeiodpdfbgmaaDoor
set_option maxRecDepth 100000
open Go Go.RowKit
set_option maxHeartbeats 2000000 in
theorem rtokens_any (w : World) {s : ByteArray} (hs : s.size ≤ 1000000) :
    Calls Tryd.prog 36 #[.string s] w (GotK w ((toks s.data.toList).map tkI)) := by
  obtain ⟨i0, hi0, hz0, hz1, hz2⟩ := info_parts info_tok
  have HLL := Lib.hid (len_data s)
  go_enter Tryd.func36, Tryd.ntmps36
  go_wp2
  go_loopw [3, 4] (fun tv av wr => ∃ (i : Nat) (L : List T3), i ≤ s.size ∧ av = .int .i64 i ∧ L.length ≤ i ∧ Hid (L ++ (toksG s.data.toList (s.data.toList.length - i) i).map tkI = (toks s.data.toList).map tkI) ∧ Hid (OwnK wr w.heap.size tv L) ∧ Hid (But [] w wr)) (fun _ av _ => s.size - (intOf av).toNat)
  case atStart => exact ⟨0, [], Nat.zero_le _, rfl, Nat.le_refl _, Lib.hid rfl, Lib.hid (OwnK.nil _ _), Lib.hid (But.refl _ _)⟩
  case round =>
    obtain ⟨i, L, hi, rfl, hL, HM, HO, HB⟩ := hrel
    have hsz := HB.out.size
    by_cases hlt : i < s.size
    · obtain ⟨mn, hmn⟩ : ∃ x, x = min 512 i := ⟨_, rfl⟩
      have HMN := Lib.hid hmn
      have hmn5 : mn ≤ 512 := by omega
      have hmni : mn ≤ i := by omega
      have hbb : ∀ D, (bestG s.data.toList i D).1 ≤ 258 := fun D => by
        have := best_in (l := s.data.toList) (i := i) (D := D) (by rw [HLL.out]; omega)
        omega
      have hbd : ∀ D, (bestG s.data.toList i D).2 ≤ D := fun D => by
        rcases bestG_is s.data.toList i D with h | ⟨_, h, _⟩
        · rw [h]; exact Nat.zero_le _
        · exact h
      have HBB := Lib.hid hbb
      have HBD := Lib.hid hbd
      clear hmn hbb hbd
      go_wp2
      go_loopw [5, 6, 7] (fun bv fv dv wx => ∃ (D n : Nat), D ≤ mn ∧ dv = .int .i64 ((D : Int) + 1) ∧ bv = .int .i64 (bestG s.data.toList i D).1 ∧ fv = .int .i64 (bestG s.data.toList i D).2 ∧ wx = wr.drewN n) (fun _ _ dv _ => 600 - (intOf dv).toNat)
      case atStart => exact ⟨0, 0, Nat.zero_le _, rfl, rfl, rfl, rfl⟩
      case round =>
        obtain ⟨D, q, hD, rfl, rfl, rfl, rfl⟩ := hrel
        obtain ⟨B, hB⟩ : ∃ B, B = (bestG s.data.toList i D).1 := ⟨_, rfl⟩
        obtain ⟨F, hF⟩ : ∃ F, F = (bestG s.data.toList i D).2 := ⟨_, rfl⟩
        have hB1 : B ≤ 258 := by rw [hB]; exact HBB.out D
        have hF1 : F ≤ D := by rw [hF]; exact HBD.out D
        rw [← hB, ← hF]
        have HBE := Lib.hid hB
        have HFE := Lib.hid hF
        clear hB hF
        by_cases hcont : D + 1 ≤ mn
        · go_upto_region 7 with (fail)
          go_cut [19] from 13 to 19 (fun v wx => v = .bool true ∧ wx = wr.drewN q)
          case first =>
            have d1 : decide ((D : Int) + 1 ≤ 512) = true := by simp; omega
            have d2 : decide ((D : Int) + 1 ≤ (i : Int)) = true := by simp; omega
            go_wp2
            all_goals (go_meet; exact ⟨rfl, rfl⟩)
          case rest =>
          obtain ⟨rfl, rfl⟩ := hcut
          go_wp2
          go_loopw [8] (fun nv wx => ∃ (n q2 : Nat), n ≤ 258 ∧ i + n ≤ s.size ∧ nv = .int .i64 n ∧ Hid (runG s.data.toList i (D + 1) (258 - n) n = runLen s.data.toList i (D + 1)) ∧ wx = wr.drewN (q + q2)) (fun nv _ => 600 - (intOf nv).toNat)
          case atStart => exact ⟨0, 0, Nat.zero_le _, by omega, rfl, Lib.hid rfl, rfl⟩
          case round =>
            obtain ⟨n, q2, hn, hin, rfl, HR, rfl⟩ := hrel
            by_cases hmore : (n < 258 ∧ i + n < s.size) ∧ s.data.toList.getD (i + n) 0 = s.data.toList.getD (i + n - (D + 1)) 0
            · obtain ⟨⟨hn1, hn2⟩, he⟩ := hmore
              obtain ⟨z, hz⟩ : ∃ z, z = i + n := ⟨_, rfl⟩
              obtain ⟨y, hy⟩ : ∃ y, y = i + n - (D + 1) := ⟨_, rfl⟩
              have zl : z < s.size := by omega
              have yl : y < s.size := by omega
              have ez : (i : Int) + (n : Int) = (z : Int) := by omega
              have ey : (z : Int) - ((D : Int) + 1) = (y : Int) := by omega
              have wz : IntKind.i64.wrap (z : Int) = (z : Int) := IntWalk.i64_in _ (by omega)
              have wy : IntKind.i64.wrap (y : Int) = (y : Int) := IntWalk.i64_in _ (by omega)
              have d1 : decide ((n : Int) < 258) = true := by simp; omega
              have d2 : decide ((z : Int) < (s.size : Int)) = true := by simp; omega
              have d2' : decide (z < s.size) = true := by simpa using zl
              have hq : n + 1 ≤ 258 := hn1
              have hq2 : i + (n + 1) ≤ s.size := by omega
              have HN := Lib.hid (show runG s.data.toList i (D + 1) (258 - (n + 1)) (n + 1) = runLen s.data.toList i (D + 1) by
                rw [← HR.out, show 258 - n = 258 - (n + 1) + 1 from by omega, runG, if_pos ⟨by rw [HLL.out]; exact hq2, he⟩])
              have de : ((s[z].toNat : Int) == (s[y].toNat : Int)) = true := by
                rw [← hy, ← hz, byteZ_at s zl, byteZ_at s yl] at he
                rw [he]; simp
              clear he hz hy hn2 hin
              go_wp2
              go_quiet (fail)
              go_wp2
              go_roundw
              case rel => exact ⟨n + 1, q2 + nq, hq, hq2, by go_num, HN, by rw [Nat.add_assoc]⟩
              case measure => simp [intOf]; omega
            · have HN := Lib.hid (show runLen s.data.toList i (D + 1) = n by
                rw [← HR.out]
                by_cases h1 : n < 258
                · rw [show 258 - n = 258 - (n + 1) + 1 from by omega, runG, if_neg (fun h => hmore ⟨⟨h1, by rw [← HLL.out]; exact h.1⟩, h.2⟩)]
                · rw [show 258 - n = 0 from by omega]; rfl)
              have HMO := Lib.hid hmore
              clear hmore
              go_upto_region 10 with (fail)
              go_cut [46] from 22 to 46 (fun v wx => v = .bool false ∧ ∃ q3, wx = wr.drewN q3)
              case first =>
                by_cases h1 : n < 258
                · have d1 : decide ((n : Int) < 258) = true := by simp; omega
                  obtain ⟨z, hz⟩ : ∃ z, z = i + n := ⟨_, rfl⟩
                  have ez : (i : Int) + (n : Int) = (z : Int) := by omega
                  have wz : IntKind.i64.wrap (z : Int) = (z : Int) := IntWalk.i64_in _ (by omega)
                  by_cases h2 : z < s.size
                  · obtain ⟨y, hy⟩ : ∃ y, y = i + n - (D + 1) := ⟨_, rfl⟩
                    have yl : y < s.size := by omega
                    have ey : (z : Int) - ((D : Int) + 1) = (y : Int) := by omega
                    have wy : IntKind.i64.wrap (y : Int) = (y : Int) := IntWalk.i64_in _ (by omega)
                    have d2 : decide ((z : Int) < (s.size : Int)) = true := by simp; omega
                    have d2' : decide (z < s.size) = true := by simpa using h2
                    have he : ¬ s[z] = s[y] := fun h => HMO.out ⟨⟨h1, by omega⟩, by rw [← hy, ← hz, byteZ_at s h2, byteZ_at s yl]; exact h⟩
                    have de : ((s[z].toNat : Int) == (s[y].toNat : Int)) = false := by simpa using u8_ne he
                    clear he hz hy
                    go_quiet (fail)
                    go_wp2
                    all_goals (go_meet; exact ⟨rfl, q + q2 + nq, wr.drewN_drewN (q + q2) nq⟩)
                  · have d2 : decide ((z : Int) < (s.size : Int)) = false := by simp; omega
                    have d2' : decide (z < s.size) = false := by simp; omega
                    clear hz
                    go_quiet (fail)
                    go_wp2
                    all_goals (go_meet; exact ⟨rfl, q + q2 + nq, wr.drewN_drewN (q + q2) nq⟩)
                · have d1 : decide ((n : Int) < 258) = false := by simp; omega
                  go_quiet (fail)
                  go_wp2
                  all_goals (go_meet; exact ⟨rfl, q + q2 + nq, wr.drewN_drewN (q + q2) nq⟩)
              case rest =>
              obtain ⟨rfl, q3, hw⟩ := hcut
              subst hw
              by_cases hgt : B < n
              · have HG := Lib.hid (show bestG s.data.toList i (D + 1) = (n, D + 1) by rw [bestG, if_pos (by rw [HN.out, ← HBE.out]; exact hgt), HN.out])
                go_wp2
                go_roundw
                case rel => exact ⟨D + 1, q3, hcont, by go_num, by rw [HG.out], by rw [HG.out]; go_num, rfl⟩
                case measure => simp [intOf]; omega
              · have HG := Lib.hid (show bestG s.data.toList i (D + 1) = bestG s.data.toList i D by rw [bestG, if_neg (by rw [HN.out, ← HBE.out]; exact hgt)])
                go_wp2
                go_roundw
                case rel => exact ⟨D + 1, q3, hcont, by go_num, by rw [HG.out, ← HBE.out], by rw [HG.out, ← HFE.out], rfl⟩
                case measure => simp [intOf]; omega
        · have hDe : D = mn := by omega
          have HBA := Lib.hid (show (bestAt s.data.toList i) = (B, F) by
            show bestG s.data.toList i (min 512 i) = (B, F)
            rw [← HMN.out, ← hDe, HBE.out, HFE.out])
          have HDE := Lib.hid hDe
          clear HBB HBD hDe
          go_upto_region 7 with (fail)
          go_cut [19] from 13 to 19 (fun v wx => v = .bool false ∧ wx = wr.drewN q)
          case first =>
            rcases Nat.lt_or_ge 512 (D + 1) with h5 | h5
            · have d1 : decide ((D : Int) + 1 ≤ 512) = false := by simp; omega
              go_wp2
              all_goals (go_meet; exact ⟨rfl, rfl⟩)
            · have d1 : decide ((D : Int) + 1 ≤ 512) = true := by simp; omega
              have d2 : decide ((D : Int) + 1 ≤ (i : Int)) = false := by have := HMN.out; have := HDE.out; simp; omega
              go_wp2
              all_goals (go_meet; exact ⟨rfl, rfl⟩)
          case rest =>
          obtain ⟨rfl, rfl⟩ := hcut
          have HBw := Lib.hid (HB.out.drewN q)
          have HOw := Lib.hid (HO.out.but ((But.refl [] wr).drewN q))
          obtain ⟨w1, hw1⟩ : ∃ w1, w1 = wr.drewN q := ⟨_, rfl⟩
          rw [← hw1] at HBw HOw ⊢
          have hsz1 := HBw.out.size
          clear hw1
          by_cases h3 : 3 ≤ B
          · have hb3 : 3 ≤ (bestAt s.data.toList i).1 := by rw [HBA.out]; exact h3
            have HST := Lib.hid (toks_step_m (l := s.data.toList) (i := i) (by rw [HLL.out]; exact hlt) hb3)
            obtain ⟨b1, b2, b3, b4, b5, b6⟩ := best_match (l := s.data.toList) (i := i) (by rw [HLL.out]; exact hlt) hb3
            rw [HBA.out] at HST b5
            rw [HLL.out] at b5
            dsimp only at HST b5
            clear b1 b2 b3 b4 b6 hb3
            go_wp2_with (at_builtin; refine wpList_append_own _ rfl _ _ 53 rfl w.heap.size 62 i0 (.agg #[.int .i64 0, .int .i64 0, .int .i64 0]) 3 24 Tryd.underlying53 hi0 hz0 hz1 hz2 rfl (by decide) _ L.length (tkCells L) rfl (World.ownsRow.alloc HOw.out _) ⟨w1.heap.size, 0, none⟩ 1 1 [.int .i64 0, .int .i64 B, .int .i64 F] rfl rfl ?c1 ?c2 ?c3 ?c4 ?c5 ?_)
            case c1 => exact World.news_of_block (cs := #[.int .i64 0, .int .i64 B, .int .i64 F]) (t := 62) (fr := (0, 0)) (heap_alloc_new w1 _)
            case c2 => simp [Value.oneCell']
            case c3 => unfold maxLen; omega
            case c4 => omega
            case c5 => simp; omega
            intro v' w2 hown2 hgrow2 _
            have HP := Lib.hid (OwnK.pushed (x := ((B : Int), (F : Int), (0 : Int))) HBw.out HOw.out hown2 hgrow2)
            clear hown2 hgrow2
            go_wp2
            go_roundw
            case rel => exact ⟨i + B, L ++ [((B : Int), (F : Int), (0 : Int))], by omega, by go_num, by rw [List.length_append, List.length_singleton]; omega, Lib.hid (by rw [← HM.out, HST.out, List.append_assoc]; rfl), Lib.hid HP.out.1, Lib.hid HP.out.2⟩
            case measure => simp [intOf]; omega
          · have HST := Lib.hid (toks_step_l (l := s.data.toList) (i := i) (by rw [HLL.out]; exact hlt) (by rw [HBA.out]; exact h3))
            have HBY := Lib.hid (byteZ_at s hlt)
            have hwr : wrap64 (s[i].toNat : Int) = (s[i].toNat : Int) := by have := s[i].toNat_lt; unfold wrap64; omega
            have hi1 : (0 : Int) ≤ (i : Int) := by omega
            go_wp2_with (at_builtin; refine wpList_append_own _ rfl _ _ 53 rfl w.heap.size 62 i0 (.agg #[.int .i64 0, .int .i64 0, .int .i64 0]) 3 24 Tryd.underlying53 hi0 hz0 hz1 hz2 rfl (by decide) _ L.length (tkCells L) rfl (World.ownsRow.alloc HOw.out _) ⟨w1.heap.size, 0, none⟩ 1 1 [.int .i64 s[i].toNat, .int .i64 0, .int .i64 0] rfl rfl ?d1 ?d2 ?d3 ?d4 ?d5 ?_)
            case d1 => exact World.news_of_block (cs := #[.int .i64 s[i].toNat, .int .i64 0, .int .i64 0]) (t := 62) (fr := (0, 0)) (heap_alloc_new w1 _)
            case d2 => simp [Value.oneCell']
            case d3 => unfold maxLen; omega
            case d4 => omega
            case d5 => simp; omega
            intro v' w2 hown2 hgrow2 _
            have HP := Lib.hid (OwnK.pushed (x := ((0 : Int), (0 : Int), (s[i].toNat : Int))) HBw.out HOw.out hown2 hgrow2)
            clear hown2 hgrow2
            go_wp2
            go_roundw
            case rel => exact ⟨i + 1, L ++ [((0 : Int), (0 : Int), (s[i].toNat : Int))], by omega, by go_num, by rw [List.length_append, List.length_singleton]; omega, Lib.hid (by rw [← HM.out, HST.out, HBY.out, List.append_assoc]; rfl), Lib.hid HP.out.1, Lib.hid HP.out.2⟩
            case measure => simp [intOf]; omega
    · go_wp2
      (try rw [Exit.noGoto_ret])
      go_ret
      have e : i = s.size := by omega
      refine ⟨_, rfl, ?_, HB.out⟩
      have h := HM.out
      rw [toks_step_e (by rw [HLL.out]; exact hlt), List.append_nil] at h
      rw [← h]; exact HO.out
end Go.Proofs.YtjeeiodpdfbgmaaDoor
namespace Go.Proofs.YtjeeiodpdfbgmaaDoor
set_option maxRecDepth 100000
open Go Go.RowKit
def GotNewR (w : World) (l : List Int) (e : Ending) (w' : World) : Prop :=
  ∃ b, e = .returned (.tuple #[.pointer (some ⟨b, 0, none⟩), .int .i64 0]) ∧ NewRT w.heap.size w' b l ∧ But [] w w'

set_option maxRecDepth 100000 in
set_option maxHeartbeats 2000000 in
theorem rmake_new {w : World} {A : Option Addr} {len cap : Nat} {l : List Int} (hl : Ints w A len l) (hb8 : len * 8 ≤ 140737488351232) (hnil : A = none → cap = 0) (hc : chk l = 0) :
    Calls Tryd.prog 34 #[.slice A len cap] w (GotNewR w l) := by
  have hm : len ≤ maxLen := by unfold maxLen; omega
  obtain ⟨i0, hi0, hz0, hz1, hz2⟩ := info_parts info_int
  have HC := Lib.hid (ref_codes (cap := cap) hl hm hc)
  have HLEN := Lib.hid hl.1
  have hclen : (codes l).length = l.length := by unfold codes; exact length_cds _ _
  have HCL := Lib.hid hclen
  clear hc hclen
  go_enter Tryd.func34, Tryd.ntmps34
  go_wp2_with fail
  refine HC.out.mono ?_
  rintro e w1 ⟨rfl, hOc, hB1⟩
  have hIc := hOc.ints_of (by rw [HCL.out, HLEN.out])
  have hl1 := hl.but hB1 (by simp)
  have HIC := Lib.hid hIc
  have HB1 := Lib.hid hB1
  have hsz1 := hB1.size
  clear hOc hIc hB1 HC hl
  rcases A with _ | ad
  · obtain rfl := hnil rfl
    have h0 : len = 0 := by
      apply Classical.byContradiction; intro h
      obtain ⟨g, o, e, _⟩ := hl1.2 (by omega)
      cases e
    subst h0
    have HL1 := Lib.hid hl1
    clear hl1
    go_wp2
    go_ret2
    refine ⟨w1.heap.size, rfl, ⟨none, 0, some ⟨w.heap.size, 0, none⟩, _, by rw [HLEN.out]; exact Is.fresh w1 _ _, by rw [HLEN.out]; exact HL1.out.but ((But.refl [] w1).alloc _) (by simp), by rw [HLEN.out]; exact HIC.out.but ((But.refl [] w1).alloc _) (by simp), hsz1, ?_, ?_⟩, HB1.out.alloc _⟩
    · intro a e; cases e
    · intro a e; cases e; exact Nat.le_refl _
  · have hnw : ∀ j u, (l.map (Value.int .i64))[j]? = some u → w1.cell? (ad.add j) = some u := by
      by_cases h0 : 0 < len
      · obtain ⟨g, o, e, _⟩ := hl1.2 h0
        obtain rfl : ad = ⟨g, o, none⟩ := by injection e
        exact hl1.news h0
      · intro j u hu
        have : l = [] := List.eq_nil_of_length_eq_zero (by have := HLEN.out; omega)
        subst this; simp at hu
    have HNW := Lib.hid hnw
    have HNIL := Lib.hid hnil
    clear hnw hnil hl1
    go_wp2_with (at_builtin; refine wpList_append_own _ rfl _ _ 22 rfl w1.heap.size 3 i0 (.int .i64 0) 1 8 Tryd.underlying22 hi0 hz0 hz1 hz2 rfl (by decide) (.slice none 0 0) 0 [] rfl (World.ownsRow_nil _ _ _ _) ad len cap (l.map (.int .i64)) rfl (by simp; exact HLEN.out) HNW.out ?c2 ?c3 ?c4 ?c5 ?_)
    case c2 => intro u hu; obtain ⟨x, _, rfl⟩ := List.mem_map.1 hu; rfl
    case c3 => unfold maxLen at *; omega
    case c4 => omega
    case c5 => simp
    intro v' w2 hown hgrow _
    obtain ⟨Al, cl, rfl⟩ : ∃ Al cl, v' = .slice Al len cl := by
      rcases hown.2 with ⟨e, e2⟩ | ⟨g4, c4, cur, e, _⟩
      · exact ⟨none, 0, by rw [e]; congr 1; omega⟩
      · exact ⟨_, c4, by simpa using e⟩
    have hOw : OwnI w2 w1.heap.size (.slice Al len cl) l := by
      unfold OwnI; rw [HLEN.out]; simpa using hown
    have hI2 := hOw.ints_of HLEN.out.symm
    have hB2 : But [] w1 w2 := (But.refl [] w1).grown hgrow (fun g e => by cases e)
    have hlow2 : ∀ a, Al = some a → w.heap.size ≤ a.block := fun a e => by
      subst e
      have hb := (World.ownsRow.lt hOw a.block rfl).1
      omega
    have HLOW2 := Lib.hid hlow2
    have hsz2 := hB2.size
    have HI2 := Lib.hid hI2
    have HB2 := Lib.hid hB2
    clear hown hgrow hOw hI2 hB2 hlow2
    go_wp2
    go_ret2
    refine ⟨w2.heap.size, rfl, ⟨Al, cl, some ⟨w.heap.size, 0, none⟩, _, by rw [HLEN.out]; exact Is.fresh w2 _ _, by rw [HLEN.out]; exact HI2.out.but ((But.refl [] w2).alloc _) (by simp), by rw [HLEN.out]; exact HIC.out.but (HB2.out.alloc _) (by simp), by omega, HLOW2.out, ?_⟩, (HB1.out.trans HB2.out).alloc _⟩
    intro a e; cases e; exact Nat.le_refl _

end Go.Proofs.YtjeeiodpdfbgmaaDoor
set_option maxRecDepth 100000
set_option linter.unusedVariables false
namespace Go.Proofs.YtjeeiodpdfbgmaaDoor
set_option maxRecDepth 100000
open Go Go.RowKit
attribute [local irreducible] layTs layC layB fixL fixD toks textX fixedX
theorem FW.ge {w : World} {lo b X N : Nat} {og : Option Nat} (h : FW w lo b og X N) {g : Nat} (hg : og = some g) : lo ≤ g := by
  obtain ⟨vv, LL, _, hown, hog, _⟩ := h
  exact (hown.lt g (by rw [hog]; exact hg)).1
theorem FW.new {w : World} {n b X N : Nat} {og : Option Nat} (h : FW w (n + 1) b og X N) (hb : n ≤ b) : ∀ k ∈ b :: og.toList, n ≤ k := by
  intro k hk
  simp only [List.mem_cons, Option.mem_toList] at hk
  rcases hk with rfl | hk
  · exact hb
  · exact Nat.le_trans (Nat.le_succ n) (h.ge hk)
theorem fewB {q : Nat × Nat} {v n a : Nat} (hn : n ≤ 24) (hv : v < 2 ^ n) (h : q.2 ≤ a) : (layB q v n).2 ≤ a + n := by rw [layB_eq hn hv]; exact Nat.add_le_add_right h n
end Go.Proofs.YtjeeiodpdfbgmaaDoor
