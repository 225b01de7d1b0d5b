/- Several texts in one: RfD, EfE (what Best, Fixed reach of them). -/
import Derived.Test.YtjeeiodpdfbgmaaDoorPm01
import Derived.Test.YtjeeiodpdfbgmaaDoorPm02
import Derived.Test.YtjeeiodpdfbgmaaDoorPm03
import Derived.Test.YtjeeiodpdfbgmaaDoorPm04
import Derived.Test.YtjeeiodpdfbgmaaDoorPm05
import Derived.Test.YtjeeiodpdfbgmaaDoorPm06
import Derived.Test.YtjeeiodpdfbgmaaDoorPm08
import Derived.Test.YtjeeiodpdfbgmaaDoorPm09
import Derived.Test.YtjeeiodpdfbgmaaDoorPm10
import Derived.Test.YtjeeiodpdfbgmaaDoorPm11
import Derived.Test.YtjeeiodpdfbgmaaDoorPm12
import Derived.Test.YtjeeiodpdfbgmaaDoorPm19
import Derived.Test.YtjeeiodpdfbgmaaDoorPm21
import Derived.Test.YtjeeiodpdfbgmaaDoorPm22
import Derived.Below
import Derived.BigQuiet
import Derived.BigRegion
import Derived.Deep.AppendLies
import Derived.Deep.CutRange
import Derived.Deep.DeepCutAuto
import Derived.Deep.Draws
import Derived.Deep.LoopGhost
import Derived.Deep.QuietTactic
import Derived.Deep.RegionLaw
import Derived.Deep.RegionWith
import Derived.Deep.Slices
import Derived.Handy
import Derived.Laws.BitsAllLaws
import Derived.Laws.BitsLemmas
import Derived.Laws.CopyOwn
import Derived.Laws.IdiomStrings
import Derived.Laws.OwnMore
import Derived.Laws.Rows
import Derived.Laws.Strings2
import Derived.Laws.Strings3
import Derived.Laws.StructEq
import Derived.Lib.AppendStr
import Derived.Lib.Hide
import Derived.Lib.Strings
import Derived.LoopIn
import Derived.LoopNIn
import Derived.OneCell
import Derived.OpenShut
import Derived.Outline
import Derived.OwnWalk
import Derived.OwnWalkIn
import Derived.ProofKit
import Derived.RangeFuncBound
import Derived.RangeFuncCalls
import Derived.RangeFuncLeaves
import Derived.RangeFuncNested
import Derived.RegionTactic
import Derived.ScopeJumps
import Derived.Shelf.Abstract
import Derived.Shelf.RegionOpen
import Derived.Shelf.SlSortCmp.QuietGrown
import Derived.StillTailTactics
import Derived.TacticsInMore
import Derived.Test.YtjeeiodpdfbgmaaDoorChecked
import Derived.WalkKit
import Derived.WalkLawsBesides
import Derived.WalkMore
import Derived.WalkSpells
set_option maxRecDepth 100000
set_option linter.unusedVariables false
namespace Go.Proofs.YtjeeiodpdfbgmaaDoor
set_option maxRecDepth 100000
open Go Go.RowKit
theorem fixL_len : fixL.length = 288 := by decide +kernel
theorem fixL_at : ∀ i < 288, fixL.getD i 0 = if i < 144 ∨ 280 ≤ i then 8 else if i < 256 then 9 else 7 := by decide +kernel
theorem take_next {l : List Int} {i : Nat} {x : Int} (h : i < l.length) (hx : l.getD i 0 = x) : l.take (i + 1) = l.take i ++ [x] := by
  rw [List.take_add_one, List.getElem?_eq_getElem h, ← hx, List.getD_eq_getElem?_getD, List.getElem?_eq_getElem h]; rfl
def GotFix (w : World) (e : Ending) (w' : World) : Prop := ∃ A1 A2 c1 c2, e = .returned (.tuple #[.slice (some A1) 288 c1, .slice (some A2) 32 c2]) ∧ Ints w' (some A1) 288 fixL ∧ Ints w' (some A2) 32 fixD ∧ But [] w w' ∧ w.heap.size ≤ A1.block ∧ w.heap.size ≤ A2.block
theorem some_of {w : World} {A : Option Addr} {n : Nat} {l : List Int} (h : Ints w A n l) (h0 : 0 < n) : ∃ a, A = some a := by
  obtain ⟨g, o, e, _⟩ := h.2 h0
  exact ⟨_, e⟩

set_option maxHeartbeats 2000000 in
theorem fixed_any (w : World) : Calls Tryd.prog 33 #[] w (GotFix w) := by
  obtain ⟨i0, hi0, hz0, hz1, hz2⟩ := info_parts info_int
  go_enter Tryd.func33, Tryd.ntmps33
  go_wp2
  go_loopw [2, 4] (fun lv iv wr => ∃ i : Nat, i ≤ 288 ∧ iv = .int .i64 i ∧ OwnI wr w.heap.size lv (fixL.take i) ∧ But [] w wr) (fun _ iv _ => 288 - (intOf iv).toNat)
  case atStart => exact ⟨0, by omega, rfl, OwnI.nil _ _, But.refl _ _⟩
  case round =>
    obtain ⟨i, hi, rfl, hO, hB⟩ := hrel
    have hlen : (fixL.take i).length = i := by rw [List.length_take, fixL_len]; omega
    obtain ⟨A, cA, rfl, hI, _⟩ := hO.open
    rw [hlen] at hO ⊢
    have HI := Lib.hid hI
    have HO := Lib.hid hO
    have HB := Lib.hid hB
    by_cases hlt : i < 288
    · have hat := fixL_at i hlt
      have hox := hO
      unfold OwnI at hox
      rw [hlen] at hox
      have HOX := Lib.hid hox
      have HAT := Lib.hid hat
      have hnx : ∀ x, fixL.getD i 0 = x → fixL.take (i + 1) = fixL.take i ++ [x] := fun x hx => take_next (by rw [fixL_len]; omega) hx
      have hsz := hB.size
      clear hI
      generalize fixL.take i = acc at *
      have HLEN := Lib.hid hlen
      have HNX := Lib.hid hnx
      obtain ⟨wo, rfl⟩ : ∃ wo : World, wo = wr := ⟨_, rfl⟩
      clear hO hB hox hat hlen hnx
      by_cases h1 : i < 144
      · have d1 : decide ((i : Int) < 144) = true := by simp; omega
        have hx : fixL.getD i 0 = 8 := by rw [HAT.out, if_pos (by omega)]
        have HX := Lib.hid hx
        clear hx
        go_wp2_with (at_builtin; go_loud (refine wpList_append_own _ rfl _ _ 22 rfl w.heap.size 3 i0 (.int .i64 0) 1 8 Tryd.underlying22 hi0 hz0 hz1 hz2 rfl (by decide) (.slice A i cA) i (acc.map (.int .i64)) rfl (HOX.out.alloc _) ⟨wo.heap.size, 0, none⟩ 1 1 [.int .i64 (8 : Int)] rfl rfl ?c1 ?c2 ?c3 ?c4 ?c5 ?_))
        case c1 => exact World.news_of_block (cs := #[.int .i64 (8 : Int)]) (t := 3) (fr := (0, 0)) (heap_alloc_new wo _)
        case c2 => simp [Value.oneCell']
        case c3 => unfold maxLen; omega
        case c4 => omega
        case c5 => simp; omega
        intro v' w3 hown hgrow _
        have hp := OwnI.pushed (x := 8) HB.out HO.out (by rw [HLEN.out]; exact hown) hgrow
        have HP := Lib.hid hp
        clear hown hgrow hp
        go_wp2
        go_roundw
        case rel => exact ⟨i + 1, by omega, by go_num, by rw [HNX.out _ HX.out]; exact HP.out.1, HP.out.2⟩
        case measure => simp [intOf]; omega
      · have d1 : decide ((i : Int) < 144) = false := by simp; omega
        by_cases h2 : 280 ≤ i
        · have d2 : decide ((280 : Int) ≤ (i : Int)) = true := by simp; omega
          have hx : fixL.getD i 0 = 8 := by rw [HAT.out, if_pos (by omega)]
          have HX := Lib.hid hx
          clear hx
          go_wp2_with (at_builtin; go_loud (refine wpList_append_own _ rfl _ _ 22 rfl w.heap.size 3 i0 (.int .i64 0) 1 8 Tryd.underlying22 hi0 hz0 hz1 hz2 rfl (by decide) (.slice A i cA) i (acc.map (.int .i64)) rfl (HOX.out.alloc _) ⟨wo.heap.size, 0, none⟩ 1 1 [.int .i64 (8 : Int)] rfl rfl ?c1 ?c2 ?c3 ?c4 ?c5 ?_))
          case c1 => exact World.news_of_block (cs := #[.int .i64 (8 : Int)]) (t := 3) (fr := (0, 0)) (heap_alloc_new wo _)
          case c2 => simp [Value.oneCell']
          case c3 => unfold maxLen; omega
          case c4 => omega
          case c5 => simp; omega
          intro v' w3 hown hgrow _
          have hp := OwnI.pushed (x := 8) HB.out HO.out (by rw [HLEN.out]; exact hown) hgrow
          have HP := Lib.hid hp
          clear hown hgrow hp
          go_wp2
          go_roundw
          case rel => exact ⟨i + 1, by omega, by go_num, by rw [HNX.out _ HX.out]; exact HP.out.1, HP.out.2⟩
          case measure => simp [intOf]; omega
        · have d2 : decide ((280 : Int) ≤ (i : Int)) = false := by simp; omega
          by_cases h3 : i < 256
          · have d3 : decide ((i : Int) < 256) = true := by simp; omega
            have hx : fixL.getD i 0 = 9 := by rw [HAT.out, if_neg (by omega), if_pos (by omega)]
            have HX := Lib.hid hx
            clear hx
            go_wp2_with (at_builtin; go_loud (refine wpList_append_own _ rfl _ _ 22 rfl w.heap.size 3 i0 (.int .i64 0) 1 8 Tryd.underlying22 hi0 hz0 hz1 hz2 rfl (by decide) (.slice A i cA) i (acc.map (.int .i64)) rfl (HOX.out.alloc _) ⟨wo.heap.size, 0, none⟩ 1 1 [.int .i64 (9 : Int)] rfl rfl ?c1 ?c2 ?c3 ?c4 ?c5 ?_))
            case c1 => exact World.news_of_block (cs := #[.int .i64 (9 : Int)]) (t := 3) (fr := (0, 0)) (heap_alloc_new wo _)
            case c2 => simp [Value.oneCell']
            case c3 => unfold maxLen; omega
            case c4 => omega
            case c5 => simp; omega
            intro v' w3 hown hgrow _
            have hp := OwnI.pushed (x := 9) HB.out HO.out (by rw [HLEN.out]; exact hown) hgrow
            have HP := Lib.hid hp
            clear hown hgrow hp
            go_wp2
            go_roundw
            case rel => exact ⟨i + 1, by omega, by go_num, by rw [HNX.out _ HX.out]; exact HP.out.1, HP.out.2⟩
            case measure => simp [intOf]; omega
          · have d3 : decide ((i : Int) < 256) = false := by simp; omega
            have hx : fixL.getD i 0 = 7 := by rw [HAT.out, if_neg (by omega), if_neg (by omega)]
            have HX := Lib.hid hx
            clear hx
            go_wp2_with (at_builtin; go_loud (refine wpList_append_own _ rfl _ _ 22 rfl w.heap.size 3 i0 (.int .i64 0) 1 8 Tryd.underlying22 hi0 hz0 hz1 hz2 rfl (by decide) (.slice A i cA) i (acc.map (.int .i64)) rfl (HOX.out.alloc _) ⟨wo.heap.size, 0, none⟩ 1 1 [.int .i64 (7 : Int)] rfl rfl ?c1 ?c2 ?c3 ?c4 ?c5 ?_))
            case c1 => exact World.news_of_block (cs := #[.int .i64 (7 : Int)]) (t := 3) (fr := (0, 0)) (heap_alloc_new wo _)
            case c2 => simp [Value.oneCell']
            case c3 => unfold maxLen; omega
            case c4 => omega
            case c5 => simp; omega
            intro v' w3 hown hgrow _
            have hp := OwnI.pushed (x := 7) HB.out HO.out (by rw [HLEN.out]; exact hown) hgrow
            have HP := Lib.hid hp
            clear hown hgrow hp
            go_wp2
            go_roundw
            case rel => exact ⟨i + 1, by omega, by go_num, by rw [HNX.out _ HX.out]; exact HP.out.1, HP.out.2⟩
            case measure => simp [intOf]; omega
    · have hi288 : i = 288 := by omega
      have dd : decide ((i : Int) < 288) = false := by simp; omega
      have hI : Ints wr A 288 fixL := by
        have h := HI.out
        rw [show fixL.take i = fixL from List.take_of_length_le (by rw [fixL_len]; omega), fixL_len] at h
        exact h
      have HI288 := Lib.hid hi288
      have HI := Lib.hid hI
      have hlow : ∀ a, A = some a → w.heap.size ≤ a.block := fun a e => by
        subst e
        exact (World.ownsRow.lt hO a.block rfl).1
      have hbz := hB.size
      have HLOW := Lib.hid hlow
      obtain ⟨w1, rfl⟩ : ∃ w1 : World, w1 = wr := ⟨_, rfl⟩
      clear hI hO hB hlen HO hlow hi288 hlt
      go_wp2
      go_loopw [3, 5] (fun lv iv wr => ∃ j : Nat, j ≤ 32 ∧ iv = .int .i64 j ∧ OwnI wr w1.heap.size lv (fixD.take j) ∧ But [] w1 wr) (fun _ iv _ => 32 - (intOf iv).toNat)
      case atStart => exact ⟨0, by omega, rfl, OwnI.nil _ _, But.refl _ _⟩
      case round =>
        obtain ⟨j, hj, rfl, hO, hB2⟩ := hrel
        have hlen : (fixD.take j).length = j := by rw [List.length_take]; show min j 32 = j; omega
        obtain ⟨A2, cA2, rfl, hI2, _⟩ := hO.open
        rw [hlen] at hO ⊢
        rw [hlen] at hI2
        have HI2 := Lib.hid hI2
        have HO := Lib.hid hO
        have HB2 := Lib.hid hB2
        by_cases hlt : j < 32
        · have hox := hO
          unfold OwnI at hox
          rw [hlen] at hox
          have HOX := Lib.hid hox
          have hnx : ∀ x, fixD.getD j 0 = x → fixD.take (j + 1) = fixD.take j ++ [x] := fun x hx => take_next (by show j < 32; omega) hx
          have hsz2 := hB2.size
          clear hI2
          generalize fixD.take j = acc at *
          have HLEN := Lib.hid hlen
          have HNX := Lib.hid hnx
          obtain ⟨wo, rfl⟩ : ∃ wo : World, wo = wr := ⟨_, rfl⟩
          clear hO hB2 hox hlen hnx
          have hx : fixD.getD j 0 = 5 := by
            have : ∀ j < 32, fixD.getD j 0 = 5 := by decide +kernel
            exact this j hlt
          have HX := Lib.hid hx
          clear hx
          go_wp2_with (at_builtin; go_loud (refine wpList_append_own _ rfl _ _ 22 rfl w1.heap.size 3 i0 (.int .i64 0) 1 8 Tryd.underlying22 hi0 hz0 hz1 hz2 rfl (by decide) (.slice A2 j cA2) j (acc.map (.int .i64)) rfl (HOX.out.alloc _) ⟨wo.heap.size, 0, none⟩ 1 1 [.int .i64 (5 : Int)] rfl rfl ?c1 ?c2 ?c3 ?c4 ?c5 ?_))
          case c1 => exact World.news_of_block (cs := #[.int .i64 (5 : Int)]) (t := 3) (fr := (0, 0)) (heap_alloc_new wo _)
          case c2 => simp [Value.oneCell']
          case c3 => unfold maxLen; omega
          case c4 => omega
          case c5 => simp; omega
          intro v' w3 hown hgrow _
          have hp := OwnI.pushed (x := 5) HB2.out HO.out (by rw [HLEN.out]; exact hown) hgrow
          have HP := Lib.hid hp
          clear hown hgrow hp
          go_wp2
          go_roundw
          case rel => exact ⟨j + 1, by omega, by go_num, by rw [HNX.out _ HX.out]; exact HP.out.1, HP.out.2⟩
          case measure => simp [intOf]; omega
        · have hj32 : j = 32 := by omega
          have dj : decide ((j : Int) < 32) = false := by simp; omega
          have hD : Ints wr A2 32 fixD := by
            have h := HI2.out
            rw [show fixD.take j = fixD from List.take_of_length_le (by show 32 ≤ j; omega), hj32] at h
            exact h
          have hL := HI.out.but HB2.out (by simp)
          have hl2 : ∀ a, A2 = some a → w.heap.size ≤ a.block := fun a e => by
            subst e
            have := (World.ownsRow.lt hO a.block rfl).1
            omega
          obtain ⟨a1, rfl⟩ := some_of hL (by omega)
          obtain ⟨a2, rfl⟩ := some_of hD (by omega)
          have HD := Lib.hid hD
          have HL := Lib.hid hL
          have HJ := Lib.hid hj32
          have hz2 := hl2 a2 rfl
          have hz1 := HLOW.out a1 rfl
          clear hl2
          clear hD hL hI2 hO hB2 hlen HO HI HI2 hj32 hlt
          go_wp2
          go_ret2
          exact ⟨a1, a2, _, _, by rw [HI288.out, HJ.out]; rfl, HL.out, HD.out, HB.out.trans HB2.out, hz1, hz2⟩
end Go.Proofs.YtjeeiodpdfbgmaaDoor
set_option maxRecDepth 100000
set_option linter.unusedVariables false
namespace Go.Proofs.YtjeeiodpdfbgmaaDoor
set_option maxRecDepth 100000
open Go Go.RowKit
theorem fixedX_eq (l : List UInt8) : fixedX l = layC fixL (layTs fixL fixD (layB (layB (0, 0) 1 1) 1 2) (toks l)) 256 := rfl
attribute [local irreducible] layTs layC layB fixL fixD toks textX fixedX
set_option maxHeartbeats 2000000 in
theorem efixed_any (w : World) {s : ByteArray} (hs : s.size ≤ 10000) :
    Calls Tryd.prog 17 #[.string s] w fun e w' => e = .returned (.string (textX (fixedX s.data.toList))) ∧ But [] w w' := by
  have hal := toks_few s.data.toList
  have hln := len_data s
  have hty := toks_fixed s.data.toList
  obtain ⟨P, hP⟩ : ∃ P, P = toks s.data.toList := ⟨_, rfl⟩
  have hTk := fun v => rtokens_any v (s := s) (by omega)
  obtain ⟨q1, hq1, hl1⟩ : ∃ q, q = layB (0, 0) 1 1 ∧ q.2 ≤ 0 + 1 := ⟨_, rfl, fewB (by omega) (by omega) (Nat.le_refl _)⟩
  obtain ⟨q2, hq2, hl2⟩ : ∃ q, q = layB q1 1 2 ∧ q.2 ≤ 0 + 1 + 2 := ⟨_, rfl, fewB (by omega) (by omega) hl1⟩
  have hX : fixedX s.data.toList = layC fixL (layTs fixL fixD q2 P) 256 := by rw [hq2, hq1, hP]; exact fixedX_eq _
  have HQ1 := Lib.hid hq1
  have HQ2 := Lib.hid hq2
  clear hq1 hq2
  rw [← hP] at hal hty hTk
  have HX := Lib.hid hX
  have HTY := Lib.hid hty
  have HTK := Lib.hid hTk
  have HAL := Lib.hid hal
  clear hP hty hTk hX hal hln
  have hW0 := WroteF.refl (fwnew w)
  have HW0 := Lib.hid hW0
  clear hW0
  have HB0 : Hid (But [] w (w.alloc (.cells #[.slice none 0 0, .int .i64 0] 49))) := Lib.hid ((But.refl [] w).alloc _)
  have hsa : (w.alloc (.cells #[.slice none 0 0, .int .i64 0] 49)).heap.size = w.heap.size + 1 := by simp
  have HSA := Lib.hid hsa
  clear hsa
  go_enter Tryd.func17, Tryd.ntmps17
  go_wp2_with fail
  refine (HW0.out.bits (by rw [HSA.out]; exact Nat.le_refl _) (Nat.zero_le _) 1 1).mono ?_
  rintro e w1 ⟨rfl, hW1⟩
  rw [← HQ1.out] at hW1
  have HW1 := Lib.hid hW1
  clear hW1
  go_wp2_with fail
  refine (HW1.out.bits (by rw [HSA.out]; exact Nat.le_refl _) (by omega) 1 2).mono ?_
  rintro e w2 ⟨rfl, hW2⟩
  rw [← HQ2.out] at hW2
  have hbut2 := HB0.out.fresh hW2.but (fun i hi => by simp at hi; omega)
  obtain ⟨og2, hF2, hlt2⟩ := hW2.out (by rw [HSA.out]; omega)
  have hsz2 := hW2.but.size
  rw [HSA.out] at hsz2
  have HB2 := Lib.hid hbut2
  have HNW := Lib.hid (hF2.new (Nat.le_refl _))
  have HF2 := Lib.hid hF2
  have HL2 := Lib.hid hlt2
  clear hW2 hbut2 hF2 hlt2 HW0 HW1
  go_wp2_with fail
  refine (fixed_any w2).mono ?_
  rintro e w3 ⟨A1, A2, cc1, cc2, rfl, hI1, hI2, hB3, _, _⟩
  have HI2 := Lib.hid hI2
  have HB3 := Lib.hid hB3
  have hmk := rmake_new (cap := cc1) hI1 (by omega) (fun e => by cases e) chk_fixL
  have HMK := Lib.hid hmk
  clear hI1 hI2 hB3 hmk
  go_wp2_with fail
  refine HMK.out.mono ?_
  rintro e w4 ⟨bt, rfl, hN4, hB4⟩
  have hmk2 := rmake_new (cap := cc2) (HI2.out.but hB4 (by simp)) (by omega) (fun e => by cases e) chk_fixD
  have HMK2 := Lib.hid hmk2
  have HN4 := Lib.hid hN4
  have HB4 := Lib.hid (HB3.out.trans hB4)
  have hs34 := HB3.out.size
  clear hN4 hB4 hmk2 HMK HI2
  go_wp2_with fail
  refine HMK2.out.mono ?_
  rintro e w5 ⟨bu, rfl, hN5, hB5⟩
  have HN45 := Lib.hid (HN4.out.but hB5 (by simp))
  have HN5 := Lib.hid hN5
  have HB5 := Lib.hid (HB4.out.trans hB5)
  have hs45 := HB4.out.size
  clear hN5 hB5 HMK2 HN4
  go_wp2_with fail
  refine (HTK.out w5).mono ?_
  rintro e w6 ⟨v, rfl, hO6, hB6⟩
  obtain ⟨A6, c6, rfl, hT6⟩ := hO6.open
  have hs56 := HB5.out.size
  have hF6 := HF2.out.but (HB5.out.trans hB6) (by simp) (by simp)
  have hlt6 : ∀ k ∈ w.heap.size :: og2.toList, k < w2.heap.size := HL2.out
  have hW6 := WroteF.refl hF6
  have hk1 := (HN45.out.but hB6 (by simp)).keep (S := w.heap.size :: og2.toList) (fun k hk => by have := hlt6 k hk; omega)
  have hk2 := (HN5.out.but hB6 (by simp)).keep (S := w.heap.size :: og2.toList) (fun k hk => by have := hlt6 k hk; omega)
  have hk3 := hO6.keep (m := P.length) (S := w.heap.size :: og2.toList) (fun k hk => by have := hlt6 k hk; omega) (by rw [List.length_map])
  have hPl : P.length ≤ 1000000 := by have := HAL.out; have := len_data s; omega
  have hsz6 := (HB5.out.trans hB6).size
  have hly := elay_any (c := c6) hk1 hk2 hk3 (okl chk_fixL) (okl chk_fixD) HTY.out (hasL (by omega)) hPl hW6 (by omega) (by omega)
  have HLY := Lib.hid hly
  have HB6 := Lib.hid (HB2.out.trans (HB5.out.trans hB6))
  have HS := Lib.hid (fun k hk => Nat.lt_of_lt_of_le (hlt6 k hk) hsz6)
  clear hO6 hB6 hT6 hF6 hlt6 hW6 hk1 hk2 hk3 hly HTK HN45 HN5 HB5
  go_wp2_with fail
  refine HLY.out.mono ?_
  rintro e w7 ⟨rfl, hW7⟩
  have hB7 : But [] w w7 := HB6.out.fresh hW7.but HNW.out
  have HB7 := Lib.hid hB7
  have HW7 := Lib.hid hW7
  clear hB7 hW7
  go_wp2_with fail
  refine HW7.out.text.mono ?_
  rintro e w8 ⟨rfl, rfl⟩
  go_wp2
  go_ret
  refine ⟨?_, HB7.out⟩
  rw [HX.out]
  rfl
end Go.Proofs.YtjeeiodpdfbgmaaDoor
