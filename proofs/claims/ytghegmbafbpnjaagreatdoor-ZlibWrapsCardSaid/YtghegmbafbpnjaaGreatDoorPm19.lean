/- Several texts in one: DgL, DgM, DgE, EfH, DgN (what Unwraps, Wraps reach of them). -/
import Derived.Test.YtghegmbafbpnjaaGreatDoorPm01
import Derived.Test.YtghegmbafbpnjaaGreatDoorPm02
import Derived.Test.YtghegmbafbpnjaaGreatDoorPm03
import Derived.Test.YtghegmbafbpnjaaGreatDoorPm04
import Derived.Test.YtghegmbafbpnjaaGreatDoorPm05
import Derived.Test.YtghegmbafbpnjaaGreatDoorPm06
import Derived.Test.YtghegmbafbpnjaaGreatDoorPm07
import Derived.Test.YtghegmbafbpnjaaGreatDoorPm08
import Derived.Test.YtghegmbafbpnjaaGreatDoorPm09
import Derived.Test.YtghegmbafbpnjaaGreatDoorPm10
import Derived.Test.YtghegmbafbpnjaaGreatDoorPm11
import Derived.Test.YtghegmbafbpnjaaGreatDoorPm12
import Derived.Test.YtghegmbafbpnjaaGreatDoorPm13
import Derived.Test.YtghegmbafbpnjaaGreatDoorPm14
import Derived.Test.YtghegmbafbpnjaaGreatDoorPm15
import Derived.Test.YtghegmbafbpnjaaGreatDoorPm16
import Derived.Test.YtghegmbafbpnjaaGreatDoorPm17
import Derived.Test.YtghegmbafbpnjaaGreatDoorPm18
import Derived.Below
import Derived.BigQuiet
import Derived.BigRegion
import Derived.Deep.AppendLies
import Derived.Deep.CutBlock
import Derived.Deep.CutRange
import Derived.Deep.DeepCutAuto
import Derived.Deep.Draws
import Derived.Deep.LoopGhost
import Derived.Deep.QuietTactic
import Derived.Deep.RegionLaw
import Derived.Deep.RegionWith
import Derived.Deep.Slices
import Derived.Handy
import Derived.Laws.BitsAllLaws
import Derived.Laws.BitsLemmas
import Derived.Laws.CopyOwn
import Derived.Laws.IdiomStrings
import Derived.Laws.OwnMore
import Derived.Laws.Rows
import Derived.Laws.Strings2
import Derived.Laws.Strings3
import Derived.Laws.StructEq
import Derived.Lib.AppendStr
import Derived.Lib.AppendZeros
import Derived.Lib.Hide
import Derived.Lib.Strings
import Derived.LoopIn
import Derived.LoopNIn
import Derived.OneCell
import Derived.OpenShut
import Derived.Outline
import Derived.OwnWalk
import Derived.OwnWalkIn
import Derived.ProofKit
import Derived.RangeFuncBound
import Derived.RangeFuncCalls
import Derived.RangeFuncLeaves
import Derived.RangeFuncNested
import Derived.RegionTactic
import Derived.ScopeJumps
import Derived.Shelf.Abstract
import Derived.Shelf.RegionOpen
import Derived.Shelf.SlSortCmp.QuietGrown
import Derived.StillTailTactics
import Derived.TacticsInMore
import Derived.Test.YtghegmbafbpnjaaGreatDoorChecked
import Derived.WalkKit
import Derived.WalkLawsBesides
import Derived.WalkMore
import Derived.WalkSpells
set_option maxRecDepth 100000
set_option linter.unusedVariables false
set_option maxRecDepth 100000
set_option linter.unusedVariables false
namespace Go.Proofs.YtghegmbafbpnjaaGreatDoor
set_option maxRecDepth 100000
open Go Go.RowKit
theorem runs_plain (l : List Int) : ∀ c ∈ runs l, c.1 < 16 → c.2 = 0 := by
  have key : ∀ f i, ∀ c ∈ runsG l f i, c.1 < 16 → c.2 = 0 := by
    intro f
    induction f with
    | zero => intro i c hc; cases hc
    | succ f ih =>
      intro i c hc
      rw [runsG] at hc
      split at hc
      · rcases List.mem_cons.1 hc with h | h
        · subst h
          unfold runAt
          split
          · intro h; dsimp only at h; omega
          · split
            · intro h; dsimp only at h; omega
            · split
              · intro h; dsimp only at h; omega
              · intro _; rfl
        · exact ih _ c h
      · cases hc
  exact key _ _
attribute [local irreducible] layTs layC layB fixL fixD toks textX cntA cntB zeroRow dynL inc lsym dsym lims cntR runs ordCells ordK
theorem flat_two (a b : List Int) : [a, b].flatten = a ++ b := by simp
theorem extN_16 {y m : Nat} {S : List Int} {q : Nat × Nat} (h16 : y ≤ 18) : layR S q ((y : Int), m) = if y = 16 then layB (layC S q y) m 2 else if y = 17 then layB (layC S q y) m 3 else if y = 18 then layB (layC S q y) m 7 else layC S q y := by
  by_cases h1 : y = 16
  · rw [if_pos h1, layR_c16 h1]
  · rw [if_neg h1]
    by_cases h2 : y = 17
    · rw [if_pos h2, layR_c17 h2]
    · rw [if_neg h2]
      by_cases h3 : y = 18
      · rw [if_pos h3, layR_c18 h3]
      · rw [if_neg h3, layR_plain (by omega)]
theorem layR_ext0 {y m : Nat} {S : List Int} {q : Nat × Nat} (h18 : y ≤ 18) (hm : y < 16 → m = 0) : layR S q ((y : Int), m) = layB (layC S q y) m (extN y) := by
  rw [extN_16 h18]
  unfold extN
  by_cases h1 : y = 16
  · rw [if_pos h1, if_pos h1]
  · rw [if_neg h1, if_neg h1]
    by_cases h2 : y = 17
    · rw [if_pos h2, if_pos h2]
    · rw [if_neg h2, if_neg h2]
      by_cases h3 : y = 18
      · rw [if_pos h3, if_pos h3]
      · rw [if_neg h3, if_neg h3, hm (by omega), layB_none]
theorem OwnI.cap {w : World} {base n c : Nat} {A : Option Addr} {l : List Int} (h : OwnI w base (.slice A n c) l) : n ≤ c := by
  unfold OwnI at h
  rcases h.2 with ⟨e, h0⟩ | ⟨g', cap, cur, e, hb, hh, h1, h2, h3, h4⟩
  · injection e with e1 e2 e3; omega
  · injection e with e1 e2 e3; omega
section
variable {w w1 w' : World} {lo b : Nat} {og : Option Nat} {r : Nat × Nat}
set_option maxHeartbeats 2000000 in
theorem layLengths_pany {XA XB SM : List Int} {nA cA nB cB nT : Nat} {Aa Ab : Addr} {ts : List Tk} (hA : Keep (b :: og.toList) w fun w' => Ints w' (some Aa) nA XA) (hB : Keep (b :: og.toList) w fun w' => Ints w' (some Ab) nB XB) (hG : GD w1)
    (ha1 : 257 ≤ nA) (ha2 : nA ≤ 286) (hb1 : 1 ≤ nB) (hb2 : nB ≤ 30) (hD : DynOk XA XB SM nT ts) (hSM : SM = lims 7 (cntR (runs (XA ++ XB)))) (hnT : nT = (told SM).length) (hW : WroteP w w1 lo b og r) (hlo : lo ≤ w.heap.size) (hN : r.2 ≤ 1000) :
    Calls Tryz.prog 47 #[.pointer (some ⟨b, 0, none⟩), .slice (some Aa) nA cA, .slice (some Ab) nB cB] w1 fun e w' => e = .returned (.tuple #[]) ∧ WroteP w w' lo b og (layRs SM (layS3 SM (layB (layB (layB r (nA - 257) 5) (nB - 1) 5) (nT - 4) 4) (ordS.take nT)) (runs (XA ++ XB))) := by
  have hIA := hW.keep hA
  have hIB := hW.keep hB
  have hla := hIA.1
  have hlb := hIB.1
  have hlY : (XA ++ XB).length = nA + nB := by rw [List.length_append, hla, hlb]
  have hhd := heads2 (t := 58) (c1 := cA) (c2 := cB) hIA hIB (by omega) (by omega)
  have hcc := concat_any (c := 2) hhd (by rw [flat_two, hlY]; omega) (by rw [flat_two, hlY]; omega) (by simp)
  rw [flat_two] at hcc
  obtain ⟨Y, hY⟩ : ∃ Y, Y = XA ++ XB := ⟨_, rfl⟩
  rw [← hY] at hcc hlY hSM ⊢
  obtain ⟨N, hNY⟩ : ∃ N, N = nA + nB := ⟨_, rfl⟩
  rw [← hNY] at hlY
  have hab := hD.ab
  have hrs := hD.rs
  rw [← hY] at hab hrs
  have hcd := runs_codes hab
  have hRN := runs_few Y
  rw [hlY] at hRN
  obtain ⟨R, hR⟩ : ∃ R, R = runs Y := ⟨_, rfl⟩
  have hok := runs_plain Y
  rw [← hR] at hok
  rw [← hR] at hcd hRN hrs hSM ⊢
  have hB0 := but_alloc w1 (.cells #[.slice (some Aa) nA cA, .slice (some Ab) nB cB] 58)
  have HCC := Lib.hid hcc
  have HB0 := Lib.hid hB0
  have HG := Lib.hid hG
  have HW := Lib.hid hW
  have HD := Lib.hid hD
  have HSM := Lib.hid hSM
  have HNT := Lib.hid hnT
  have HR := Lib.hid hR
  have HCD := Lib.hid hcd
  have HRS := Lib.hid hrs
  have HOK := Lib.hid hok
  have HLY := Lib.hid hlY
  have hN316 : N ≤ 316 := by omega
  have ht4 := hD.n1
  have ht19 := hD.n2
  clear hhd hcc hA hB hG hW hD hSM hnT hIA hIB hla hlb hlY hY hab hrs hcd hR hok hB0 hNY
  obtain ⟨mA, hmA⟩ : ∃ m, nA = m + 257 := ⟨nA - 257, by omega⟩
  obtain ⟨mB, hmB⟩ : ∃ m, nB = m + 1 := ⟨nB - 1, by omega⟩
  obtain ⟨mT, hmT⟩ : ∃ m, nT = m + 4 := ⟨nT - 4, by omega⟩
  have e1 : nA - 257 = mA := by omega
  have e2 : nB - 1 = mB := by omega
  have e3 : nT - 4 = mT := by omega
  rw [e1, e2, e3]
  have wA : (nA : Int) - 257 = (mA : Int) := by omega
  have wB : (nB : Int) - 1 = (mB : Int) := by omega
  have wT : (nT : Int) - 4 = (mT : Int) := by omega
  have hmA2 : mA < 32 := by omega
  have hmB2 : mB < 32 := by omega
  have hmT2 : mT < 16 := by omega
  obtain ⟨q3, hq3⟩ : ∃ q, q = layB r mA 5 := ⟨_, rfl⟩
  obtain ⟨q4, hq4⟩ : ∃ q, q = layB q3 mB 5 := ⟨_, rfl⟩
  obtain ⟨q5, hq5⟩ : ∃ q, q = layB q4 mT 4 := ⟨_, rfl⟩
  have hf3 : q3.2 ≤ 1000 + 5 := by rw [hq3, layB_eq (by omega) (by omega)]; exact Nat.add_le_add_right hN 5
  have hf4 : q4.2 ≤ 1000 + 5 + 5 := by rw [hq4, layB_eq (by omega) (by omega)]; exact Nat.add_le_add_right hf3 5
  have hf5 : q5.2 ≤ 1000 + 5 + 5 + 4 := by rw [hq5, layB_eq (by omega) (by omega)]; exact Nat.add_le_add_right hf4 4
  rw [← hq3, ← hq4, ← hq5]
  have HQ3 := Lib.hid hq3
  have HQ4 := Lib.hid hq4
  have HQ5 := Lib.hid hq5
  clear hmA hmB hmT e1 e2 e3 hq3 hq4 hq5
  go_enter Tryz.func47, Tryz.ntmps47
  go_wp2_with fail
  refine HCC.out.mono ?_
  rintro e w2 ⟨v2, rfl, hO2, hB2⟩
  obtain ⟨A2, c2, rfl, hI2, hx2⟩ := hO2.open
  rw [HLY.out] at hI2 ⊢
  have hc2 : N ≤ c2 := by have := hO2.cap; rw [HLY.out] at this; exact this
  have hQ := runs_pany hI2 (by omega) hc2
  rw [← HR.out] at hQ
  have HQ := Lib.hid hQ
  have HB2 := Lib.hid (HB0.out.trans hB2)
  clear hO2 hI2 hx2 hB2 hQ HCC HB0
  go_wp2_with fail
  refine HQ.out.mono ?_
  rintro e w3 ⟨v3, rfl, hP3, hB3⟩
  obtain ⟨A3, c3, rfl, hQ3⟩ := hP3.open
  have hS := smallLengths_pany (c := c3) w3 hQ3 (by omega) HCD.out
  rw [← HSM.out] at hS
  have HS := Lib.hid hS
  have HP3 := Lib.hid hP3
  have HB3 := Lib.hid (HB2.out.trans hB3)
  have hsz2 := HB2.out.size
  clear hP3 hB3 hQ3 hS HQ
  go_wp2_with fail
  refine HS.out.mono ?_
  rintro e w4 ⟨gS, rfl, hOS, hB4⟩
  have hO := ordered_pany w4 (HG.out.but (HB3.out.trans hB4)) (c := 19) hOS.ints
  have HO := Lib.hid hO
  have HOS := Lib.hid hOS
  have HP4 := Lib.hid (HP3.out.but hB4)
  have HB4 := Lib.hid (HB3.out.trans hB4)
  have hsz3 := HB3.out.size
  clear hO hOS hB4 HS HP3
  go_wp2_with fail
  refine HO.out.mono ?_
  rintro e w5 ⟨rfl, hRow5, hB5⟩
  have hI5 := hRow5.ints
  rw [List.length_map, show ordS.length = 19 from rfl] at hI5
  have hT := trimmed_pany (c := 19) (least := 4) hI5 (by omega) (by omega) (by omega) (by omega)
  have hnT2 : uptoN (ordS.map fun j => SM.getD j 0) 4 19 = nT := by
    rw [HNT.out]; unfold told; rw [upto0_len, List.length_map]; rfl
  rw [hnT2] at hT
  have HT := Lib.hid hT
  have HROW := Lib.hid hRow5
  have HOS5 := Lib.hid (HOS.out.but hB5 (by simp))
  have HP5 := Lib.hid (HP4.out.but hB5)
  have HB5 := Lib.hid (HB4.out.trans hB5)
  have hsz4 := HB4.out.size
  clear hRow5 hI5 hT hnT2 hB5 HO HOS HP4
  go_wp2_with fail
  refine HT.out.mono ?_
  rintro e w6 ⟨rfl, rfl⟩
  obtain ⟨og5, hW5, hlt5, hKp5, hback5⟩ := HW.out.rebase HB5.out
  have hlo5 : lo ≤ w5.heap.size := Nat.le_trans hlo (Nat.le_trans HW.out.but.size HB5.out.size)
  have hw13 : w1.heap.size ≤ w4.heap.size := hsz4
  have HKROW := Lib.hid (show Keep (b :: og5.toList) w5 fun w' => Row w' w4.heap.size 3 (ordS.map (fun j => SM.getD j 0)) from fun w' hw => HROW.out.but hw (fun hk => by have := (hlt5 _ hk).1; omega))
  have HKSM := Lib.hid (OwnI.keep (S := b :: og5.toList) HOS5.out (fun k hk => by have := (hlt5 _ hk).1; omega) (by rw [HD.out.sl]))
  have HKR := Lib.hid (HP5.out.keep (S := b :: og5.toList) (fun k hk => by have := (hlt5 _ hk).1; omega))
  have HW5 := Lib.hid hW5
  have HBK5 := Lib.hid hback5
  clear hlt5 hKp5 hback5 hW5 HT HOS5 HP5 HROW
  go_wp2_with fail
  refine (HW5.out.bits hlo5 (by omega) mA 5).mono ?_
  rintro e wa ⟨rfl, ha⟩
  rw [← HQ3.out] at ha
  have Ha := Lib.hid ha
  clear ha
  go_wp2_with fail
  refine (Ha.out.bits hlo5 (by omega) mB 5).mono ?_
  rintro e wb ⟨rfl, hb⟩
  rw [← HQ4.out] at hb
  have Hb := Lib.hid hb
  clear hb
  go_wp2_with fail
  refine (Hb.out.bits hlo5 (by omega) mT 4).mono ?_
  rintro e wd ⟨rfl, hd⟩
  rw [← HQ5.out] at hd
  have Hd := Lib.hid hd
  clear hd Ha Hb HW5 wA wB wT
  have H7 := Lib.hid HD.out.s7
  have HS0 := Lib.hid (show WroteP w5 wd lo b og5 (layS3 SM q5 (ordS.take 0)) from by rw [layS3_nil]; exact Hd.out)
  have hf6 : (layS3 SM q5 (ordS.take 0)).2 ≤ 1014 + 3 * 0 := by rw [layS3_nil]; exact hf5
  clear Hd
  go_wp2
  go_loopw [42] (fun iv wx => ∃ j : Nat, j ≤ nT ∧ iv = .int .i64 j ∧ Hid (WroteP w5 wx lo b og5 (layS3 SM q5 (ordS.take j))) ∧ (layS3 SM q5 (ordS.take j)).2 ≤ 1014 + 3 * j) (fun iv _ => nT - (intOf iv).toNat)
  case atStart => exact ⟨0, Nat.zero_le _, rfl, HS0, hf6⟩
  case round =>
    obtain ⟨j, hj, rfl, HWJ, hfj⟩ := hrel
    clear HS0 hf6
    by_cases hlt : j < nT
    · have hj19 : j < 19 := by omega
      have hsn := layS3_snoc SM q5 hj19
      have h7j := H7.out (ordS.getD j 0)
      obtain ⟨x, hx⟩ : ∃ x : Nat, SM.getD (ordS.getD j 0) 0 = (x : Int) := ⟨(SM.getD (ordS.getD j 0) 0).toNat, by omega⟩
      have hrow := HWJ.out.keep HKROW.out
      have hc := hrow.at (i := j) (by rw [List.length_map]; exact hj19)
      rw [map_getD (show j < ordS.length from hj19), hx] at hc
      rw [hx] at hsn h7j
      rw [Int.toNat_natCast] at hsn
      have hx7 : x ≤ 7 := by omega
      obtain ⟨qj, hqj⟩ : ∃ q, q = layS3 SM q5 (ordS.take j) := ⟨_, rfl⟩
      rw [← hqj] at hsn hfj HWJ
      have hf9 : (layB qj x 3).2 ≤ 1014 + 3 * (j + 1) := by rw [layB_eq (by omega) (by omega)]; show qj.2 + 3 ≤ _; omega
      rw [← hsn] at hf9
      have HSN := Lib.hid hsn
      have j0 : (0 : Int) ≤ (j : Int) := by omega
      have j1 : (j : Int) < (nT : Int) := by omega
      clear hx hqj hsn hrow h7j
      go_wp2_with fail
      refine (HWJ.out.bits hlo5 (by omega) x 3).mono ?_
      rintro e w10 ⟨rfl, hW10⟩
      rw [← HSN.out] at hW10
      have HW10 := Lib.hid hW10
      clear hW10 hc
      go_wp2
      go_roundw
      case rel => exact ⟨j + 1, by omega, by go_num, HW10, hf9⟩
      case measure => simp [intOf]; omega
    · obtain rfl : j = nT := by omega
      obtain ⟨q6, hq6⟩ : ∃ q, q = layS3 SM q5 (ordS.take j) := ⟨_, rfl⟩
      rw [← hq6] at hfj HWJ
      have HQ6 := Lib.hid hq6
      have hcs := HD.out.cs
      have hmk := make_new (cap := 19) (HWJ.out.keep HKSM.out) (by omega) (fun e => by cases e) hcs
      have HMK := Lib.hid hmk
      have HOKS := Lib.hid (okl hcs)
      clear hq6 hcs hmk hlt hj H7
      go_wp2_with fail
      refine HMK.out.mono ?_
      rintro e w10 ⟨bt, rfl, hN10, hB10⟩
      obtain ⟨og6, hW6, hlt6, hKp6, hback6⟩ := HWJ.out.rebase hB10
      have hlo6 : lo ≤ w10.heap.size := Nat.le_trans hlo5 (Nat.le_trans HWJ.out.but.size hB10.size)
      have HKT := Lib.hid (hN10.keep (F := b :: og6.toList) (fun k hk => (hlt6 k hk).1))
      have HKR6 := Lib.hid (hKp6 _ HKR.out)
      have HBK6 := Lib.hid hback6
      have HW6 := Lib.hid (show WroteP w10 w10 lo b og6 (layRs SM q6 (R.take 0)) from hW6)
      have hfa : (layRs SM q6 (R.take 0)).2 ≤ 1100 + 40 * 0 := by show q6.2 ≤ _; omega
      clear hN10 hB10 hW6 hlt6 hKp6 hback6 HMK HWJ HKR HKSM HKROW
      go_wp2
      obtain ⟨wm, rfl⟩ : ∃ W, W = w10 := ⟨w10, rfl⟩
      obtain ⟨nR, hnR⟩ : ∃ n, n = R.length := ⟨_, rfl⟩
      rw [← hnR] at hRN ⊢
      have HNR := Lib.hid hnR
      clear hnR
      go_loopw [57] (fun iv wx => ∃ j : Nat, j ≤ nR ∧ iv = .int .i64 j ∧ Hid (WroteP wm wx lo b og6 (layRs SM q6 (R.take j))) ∧ (layRs SM q6 (R.take j)).2 ≤ 1100 + 40 * j) (fun iv _ => nR - (intOf iv).toNat)
      case atStart => exact ⟨0, Nat.zero_le _, rfl, HW6, hfa⟩
      case round =>
        obtain ⟨n, hn, rfl, HWN, hfn⟩ := hrel
        clear HW6 hfa
        by_cases hlt : n < nR
        · have hltR : n < R.length := by rw [← HNR.out]; exact hlt
          have hmem := HCD.out _ (List.getElem_mem hltR)
          have hh := HRS.out _ (List.getElem_mem hltR)
          have hpl := HOK.out _ (List.getElem_mem hltR)
          have hts : R.take (n + 1) = R.take n ++ [R[n]] := List.take_succ_eq_append_getElem hltR
          have hsn := layRs_snoc SM q6 (R.take n) R[n]
          rw [← hts] at hsn
          have hQn := HWN.out.keep HKR6.out
          rw [← HNR.out] at hQn
          obtain ⟨g, o, cc, mm, rfl, hg, c00, c01, h1⟩ := hQn.at hlt
          rw [List.getElem?_eq_getElem hltR] at h1
          injection h1 with h1
          rw [h1] at hmem hsn hh hpl
          dsimp only at hmem hsn hh hpl
          obtain ⟨y, rfl⟩ : ∃ y : Nat, cc = (y : Int) := ⟨cc.toNat, by omega⟩
          rw [layR_ext0 (by omega) (fun h => hpl (by omega))] at hsn
          obtain ⟨q, hq⟩ : ∃ q, q = layRs SM q6 (R.take n) := ⟨_, rfl⟩
          rw [← hq] at hsn HWN hfn
          have hf1 := layC_few HOKS.out q y
          have hf2 := layB_few (layC SM q y) mm (extN y)
          have hx7 : extN y ≤ 7 := by unfold extN; split; omega; split; omega; split <;> omega
          obtain ⟨wb, hwb⟩ : ∃ wb, wb = wr.alloc (.cells #[.int .i64 (y : Int), .int .i64 (mm : Int)] 124) := ⟨_, rfl⟩
          have hIb : Is wb wr.heap.size 124 #[.int .i64 (y : Int), .int .i64 (mm : Int)] := by rw [hwb]; exact Is.fresh wr _ _
          have hBb : But [] wr wb := by rw [hwb]; exact (But.refl [] wr).alloc _
          have HSN := Lib.hid hsn
          have HIB := Lib.hid hIb
          have HBB := Lib.hid hBb
          have HWB := Lib.hid hwb
          have i0' : (0 : Int) ≤ (n : Int) := by omega
          have i1' : (n : Int) < (nR : Int) := by omega
          have hbb := hBb.size
          clear hts hq h1 hg hltR hsn hpl hQn hwb hIb hBb
          go_upto_region 15 with (fail)
          rw [← HWB.out]
          obtain ⟨og7, hR7, hlt7, hKp7, hback7⟩ := HWN.out.rebase (HBB.out.drewN 1)
          have hlo7 : lo ≤ (wb.drewN 1).heap.size := Nat.le_trans hlo6 (Nat.le_trans HWN.out.but.size hbb)
          have hcall := lay_pany (m := mm) (e := extN y) (hKp7 _ HKT.out) HOKS.out hR7 hlo7 (by omega) hh (by omega)
          unfold codVal at hcall
          have hcall2 : Calls Tryz.prog 76 #[.pointer (some ⟨b, 0, none⟩), .pointer (some ⟨bt, 0, none⟩), .agg #[.int .i64 y, .int .i64 mm, .int .i64 (extN y : Nat)]] wb.drew _ := hcall
          have HCALL := Lib.hid hcall2
          have HBK7 := Lib.hid hback7
          have q0 := HIB.out.cell 0
          have q1 := HIB.out.cell 1
          clear hR7 hlt7 hKp7 hback7 hcall hcall2 c00 c01 hh
          go_region_with (first | (go_at_call 84; go_loud (refine (extraOf_pany _ y).mono ?_; rintro e w3 ⟨rfl, rfl⟩)) | (go_at_call 76; go_loud (refine HCALL.out.mono ?_; rintro e w3 ⟨rfl, hW3⟩; have HW3 := Lib.hid (HBK7.out _ _ hW3); clear hW3)))
          all_goals
            go_simp
            go_wp2
            go_roundw
            case rel => exact ⟨n + 1, by omega, by go_num, Lib.hid (by rw [HSN.out]; exact HW3.out), by rw [HSN.out]; omega⟩
            case measure => simp [intOf]; omega
        · obtain rfl : n = nR := by omega
          have hRR : R.take n = R := List.take_of_length_le (by have := HNR.out; omega)
          rw [hRR] at HWN
          have HF := Lib.hid (HBK5.out _ _ (HBK6.out _ _ HWN.out))
          clear hRR
          go_wp2
          go_end0
          exact ⟨rfl, by rw [← HQ6.out]; exact HF.out⟩
end
end Go.Proofs.YtghegmbafbpnjaaGreatDoor
set_option maxRecDepth 100000
set_option linter.unusedVariables false
namespace Go.Proofs.YtghegmbafbpnjaaGreatDoor
set_option maxRecDepth 100000
open Go Go.RowKit
theorem lenS_eq (ls : List Int) : lenS ls = lims 7 (cntR (runs ls)) := by unfold lenS; rw [cntS_R]
attribute [local irreducible] layTs layC layB fixL fixD toks textX cntA cntB zeroRow dynL inc lsym dsym lims cntR runs ordCells ordK lenA lenB lenS told
theorem layR_few {S : List Int} (hS : ∀ x ∈ S, 0 ≤ x ∧ x ≤ 15) (q : Nat × Nat) (c : Int × Nat) : (layR S q c).2 ≤ q.2 + 40 := by
  unfold layR
  split
  · have h1 := layC_few hS q 16; have h2 := layB_few (layC S q 16) c.2 2; omega
  · split
    · have h1 := layC_few hS q 17; have h2 := layB_few (layC S q 17) c.2 3; omega
    · split
      · have h1 := layC_few hS q 18; have h2 := layB_few (layC S q 18) c.2 7; omega
      · have h1 := layC_few hS q c.1.toNat; omega
theorem layRs_few {S : List Int} (hS : ∀ x ∈ S, 0 ≤ x ∧ x ≤ 15) : ∀ (rs : List (Int × Nat)) (q : Nat × Nat), (layRs S q rs).2 ≤ q.2 + 40 * rs.length
  | [], q => Nat.le_refl _
  | c :: rs, q => by
    have h1 := layR_few hS q c
    have h2 := layRs_few hS rs (layR S q c)
    have e : layRs S q (c :: rs) = layRs S (layR S q c) rs := rfl
    rw [e, List.length_cons]; omega
theorem layS3_few (S : List Int) : ∀ (ks : List Nat) (q : Nat × Nat), (layS3 S q ks).2 ≤ q.2 + 3 * ks.length
  | [], q => Nat.le_refl _
  | k :: ks, q => by
    have h1 := layB_few q (S.getD k 0).toNat 3
    have h2 := layS3_few S ks (layB q (S.getD k 0).toNat 3)
    have e : layS3 S q (k :: ks) = layS3 S (layB q (S.getD k 0).toNat 3) ks := rfl
    rw [e, List.length_cons]; omega
set_option maxHeartbeats 2000000 in
theorem dynamic_pany (w : World) (hG : GD w) {A : Option Addr} {n c : Nat} {l : List UInt8} (hK : Tks w A n ((toks l).map tkI)) (hn : n ≤ 10000) :
    Calls Tryz.prog 23 #[.slice A n c] w fun e w' => e = .returned (.string (textX (dynL l))) ∧ But [] w w' := by
  have hsh := toks_shape l l.length 0
  have hsh2 : ∀ t ∈ toks l, (t.1 = 0 ∧ t.2.2 ≤ 255) ∨ (t.1 ≠ 0 ∧ 3 ≤ t.1 ∧ t.1 ≤ 258 ∧ 1 ≤ t.2.1 ∧ t.2.1 ≤ 512) := by unfold toks; exact hsh
  have hdl := dynL_eq l
  have hd := dyn_ok l
  obtain ⟨P, hP⟩ : ∃ P, P = toks l := ⟨_, rfl⟩
  rw [← hP] at hsh2 hdl hd hK
  have hlen : P.length = n := by have := hK.1; rwa [List.length_map] at this
  have ha2 := lenA_286 P
  have hb2 := lenB_30 P
  have htA := lenA_take P
  have htB := lenB_take P
  have huA : uptoN (lims 15 (cntA P)) 257 286 = (lenA P).length := by unfold lenA; rw [upto0_len, length_lims, length_cntA]
  have huB : uptoN (lims 15 (cntB P)) 1 30 = (lenB P).length := by unfold lenB; rw [upto0_len, length_lims, length_cntB]
  obtain ⟨XA, hXA⟩ : ∃ X, X = lenA P := ⟨_, rfl⟩
  obtain ⟨XB, hXB⟩ : ∃ X, X = lenB P := ⟨_, rfl⟩
  rw [← hXA, ← hXB] at hdl hd
  rw [← hXA] at ha2 htA huA
  rw [← hXB] at hb2 htB huB
  have hSM := lenS_eq (XA ++ XB)
  obtain ⟨SM, hSM2⟩ : ∃ S, S = lenS (XA ++ XB) := ⟨_, rfl⟩
  rw [← hSM2] at hdl hd hSM
  obtain ⟨nT, hnT⟩ : ∃ m, m = (told SM).length := ⟨_, rfl⟩
  rw [← hnT] at hdl hd
  obtain ⟨nA, hnA⟩ : ∃ m, m = XA.length := ⟨_, rfl⟩
  obtain ⟨nB, hnB⟩ : ∃ m, m = XB.length := ⟨_, rfl⟩
  have ha1 := hd.a1
  have hb1 := hd.b1
  rw [← hnA] at hdl ha1 ha2 htA huA
  rw [← hnB] at hdl hb1 hb2 htB huB
  obtain ⟨qb, hqb⟩ : ∃ q, q = layB (layB (0, 0) 1 1) 2 2 := ⟨_, rfl⟩
  have hqb2 : qb.2 ≤ 3 := by
    have h1 : (layB (0, 0) 1 1).2 = 1 := by rw [layB_eq (by omega) (by omega)]
    rw [hqb, layB_eq (by omega) (by omega)]; show (layB (0, 0) 1 1).2 + 2 ≤ 3; omega
  rw [← hqb] at hdl
  obtain ⟨qh, hqh⟩ : ∃ q, q = layRs SM (layS3 SM (layB (layB (layB qb (nA - 257) 5) (nB - 1) 5) (nT - 4) 4) (ordS.take nT)) (runs (XA ++ XB)) := ⟨_, rfl⟩
  have hqh2 : qh.2 ≤ 100000 := by
    have hr := runs_few (XA ++ XB)
    rw [List.length_append, ← hnA, ← hnB] at hr
    have h1 := layRs_few (okl hd.cs) (runs (XA ++ XB)) (layS3 SM (layB (layB (layB qb (nA - 257) 5) (nB - 1) 5) (nT - 4) 4) (ordS.take nT))
    have h2 := layS3_few SM (ordS.take nT) (layB (layB (layB qb (nA - 257) 5) (nB - 1) 5) (nT - 4) 4)
    have h3 := layB_few (layB (layB qb (nA - 257) 5) (nB - 1) 5) (nT - 4) 4
    have h4 := layB_few (layB qb (nA - 257) 5) (nB - 1) 5
    have h5 := layB_few qb (nA - 257) 5
    have h6 : (ordS.take nT).length ≤ 19 := by rw [List.length_take]; show min nT 19 ≤ 19; omega
    rw [hqh]; omega
  rw [← hqh] at hdl
  have hbig : (dynL l).2 ≤ 100000000 := by
    rw [hdl]
    have h1 := layC_few (okl hd.ca) (layTs XA XB qh P) 256
    have h2 := layTs_few (okl hd.ca) (okl hd.cb) P qh hd.tk
    omega
  have HG := Lib.hid hG
  have HSH := Lib.hid hsh2
  have HDL := Lib.hid hdl
  have HD := Lib.hid hd
  have HSM := Lib.hid hSM
  have HNT := Lib.hid hnT
  have HTA := Lib.hid htA
  have HTB := Lib.hid htB
  have HUA := Lib.hid huA
  have HUB := Lib.hid huB
  have HQB := Lib.hid hqb
  have HQH := Lib.hid hqh
  have HK := Lib.hid hK
  have hcA := csA (length_cntA P) (show 286 ≤ 2 ^ 15 by decide)
  have hcB := csA (length_cntB P) (show 30 ≤ 2 ^ 15 by decide)
  have HCA := Lib.hid hcA
  have HCB := Lib.hid hcB
  have hP4 : P.length ≤ 10000 := by omega
  have HP4 := Lib.hid hP4
  have HNA := Lib.hid hnA
  have HNB := Lib.hid hnB
  clear hG hsh hsh2 hdl hd hSM hSM2 hnT htA htB huA huB hqb hqh hK hcA hcB hP hXA hXB hlen hnA hnB
  go_enter Tryz.func23, Tryz.ntmps23
  go_wp2_with fail
  refine (new_at w (w.heap.size + 1) w.heap.size rfl).mono ?_
  rintro e w1 ⟨rfl, hS1, hB1, hz1⟩
  have hW1 : WroteP w1 w1 (w.heap.size + 1) w.heap.size none (0, 0) := WroteP.refl hS1
  have hc := begin_pany hW1 (Nat.le_of_eq hz1.symm) (by decide) (last := 1) (kind := 2) (by omega) (by omega)
  rw [← HQB.out] at hc
  have HC := Lib.hid hc
  have HB1 := Lib.hid hB1
  have HZ1 := Lib.hid hz1
  clear hS1 hB1 hz1 hW1 hc
  go_wp2_with fail
  refine HC.out.mono ?_
  rintro e w2 ⟨rfl, hW2⟩
  have hB02 : But [] w w2 := HB1.out.fresh hW2.but (fun i hi => by simp at hi; omega)
  have hcnt := count_pany (c := c) w2 (HK.out.but hB02) hn HSH.out
  have HCNT := Lib.hid hcnt
  have HW2 := Lib.hid hW2
  have HB02 := Lib.hid hB02
  clear hW2 HC hB02 hcnt
  go_wp2_with fail
  refine HCNT.out.mono ?_
  rintro e w3 ⟨rfl, hRA, hRB, hB3⟩
  have hIA := hRA.ints
  rw [length_cntA] at hIA
  have hLA := lengths_pany (cap := 286) (M := 15) (m := 15) hIA (by omega) (by omega) (by omega) (okC fun j => by have := cntA_few P j; have := HP4.out; omega) HCA.out rfl
  have HLA := Lib.hid hLA
  have HRB := Lib.hid hRB
  have HB3 := Lib.hid hB3
  clear hRA hRB hB3 hIA hLA HCNT
  go_wp2_with fail
  refine HLA.out.mono ?_
  rintro e w4 ⟨gA, rfl, hOA, hB4⟩
  have hIA := hOA.ints
  have hTA := trimmed_pany (c := 286) (least := 257) hIA (by omega) (by omega) (by omega) (by omega)
  rw [HUA.out] at hTA
  have HTRA := Lib.hid hTA
  have HOA := Lib.hid hOA
  have HRB4 := Lib.hid (HRB.out.but hB4 (by simp))
  have HB4 := Lib.hid (HB3.out.trans hB4)
  have hsz3 := HB3.out.size
  clear hOA hB4 hIA hTA HLA HRB
  go_wp2_with fail
  refine HTRA.out.mono ?_
  rintro e w4' ⟨rfl, rfl⟩
  have hIB := HRB4.out.ints
  rw [length_cntB] at hIB
  have hLB := lengths_pany (cap := 30) (M := 15) (m := 15) hIB (by omega) (by omega) (by omega) (okC fun j => by have := cntB_few P j; have := HP4.out; omega) HCB.out rfl
  have HLB := Lib.hid hLB
  clear hIB hLB HTRA HRB4
  go_wp2_with fail
  refine HLB.out.mono ?_
  rintro e w5 ⟨gB, rfl, hOB, hB5⟩
  have hIB := hOB.ints
  have hTB := trimmed_pany (c := 30) (least := 1) hIB (by omega) (by omega) (by omega) (by omega)
  rw [HUB.out] at hTB
  have HTRB := Lib.hid hTB
  have hOA5 := HOA.out.but hB5 (by simp)
  have hB25 := HB4.out.trans hB5
  have hsz4 := HB4.out.size
  obtain ⟨og', hR, hlt, hKp, hback⟩ := HW2.out.rebase hB25
  have hKA : Keep (w.heap.size :: og'.toList) w5 fun w' => Ints w' (some ⟨gA, 0, none⟩) nA XA := fun w' hw => by
    have h := ((OwnI.keep hOA5 (fun k hk => by have := (hlt k hk).1; omega) (by rw [length_lims, length_cntA])) w' hw).take (k := nA) ha2
    rw [HTA.out] at h
    exact h
  have hKB : Keep (w.heap.size :: og'.toList) w5 fun w' => Ints w' (some ⟨gB, 0, none⟩) nB XB := fun w' hw => by
    have h := ((OwnI.keep hOB (fun k hk => by have := (hlt k hk).1; omega) (by rw [length_lims, length_cntB])) w' hw).take (k := nB) hb2
    rw [HTB.out] at h
    exact h
  have hK5 : Keep (w.heap.size :: og'.toList) w5 fun w' => Tks w' A n (P.map tkI) := Tks.keep HK.out (HB02.out.trans hB25) (fun k hk => by
    have := HZ1.out
    rcases (hlt k hk).2 with h | h
    · simp at h; omega
    · omega)
  have hs1 := HB02.out.size
  have hs25 := hB25.size
  have hz1 := HZ1.out
  have hs12 := HW2.out.but.size
  have hlo5 : w.heap.size + 1 ≤ w5.heap.size := by omega
  have hG5 := HG.out.but (HB02.out.trans hB25)
  have hLL := layLengths_pany (cA := 286) (cB := 30) hKA hKB hG5 ha1 ha2 hb1 hb2 HD.out HSM.out HNT.out hR hlo5 (by omega)
  rw [← HQH.out] at hLL
  have HLL := Lib.hid hLL
  have HKA := Lib.hid hKA
  have HKB := Lib.hid hKB
  have HK5 := Lib.hid hK5
  have HBACK := Lib.hid hback
  clear hOB hB5 hIB hTB hOA5 hB25 hR hlt hKp hback hKA hKB hK5 hG5 hLL HLB HOA hs1 hs25 hz1 hs12
  go_wp2_with fail
  refine HTRB.out.mono ?_
  rintro e w5' ⟨rfl, rfl⟩
  go_wp2_with fail
  refine HLL.out.mono ?_
  rintro e w6 ⟨rfl, hW6⟩
  have hcall := playTs_any (c := c) (cl := 286) (cd := 30) HKA.out HKB.out HK5.out HD.out.ca HD.out.cb (by omega) (by omega) (fun e => by cases e) (fun e => by cases e) HD.out.tk HD.out.he (by omega) hW6 hlo5 hqh2
  rw [← HDL.out] at hcall
  have HCALL := Lib.hid hcall
  clear hW6 hcall HLL HTRB
  go_wp2_with fail
  refine HCALL.out.mono ?_
  rintro e w7 ⟨rfl, hW7⟩
  have HW8 := Lib.hid (HBACK.out _ _ hW7)
  clear hW7 HCALL HBACK
  go_wp2_with fail
  refine (HW8.out.text (by omega)).mono ?_
  rintro e w9 ⟨rfl, hB9⟩
  have HBe : Hid (But [] w w9) := Lib.hid ((HB1.out.fresh HW8.out.but (fun i hi => by simp at hi; omega)).trans hB9)
  clear hB9
  go_wp2
  go_ret
  exact ⟨rfl, HBe.out⟩
end Go.Proofs.YtghegmbafbpnjaaGreatDoor
set_option maxRecDepth 100000
set_option linter.unusedVariables false
namespace Go.Proofs.YtghegmbafbpnjaaGreatDoor
set_option maxRecDepth 100000
open Go Go.RowKit
theorem layY_two (q : Nat × Nat) (a c : List UInt8) : layY (layY q a) c = layY q (a ++ c) := by
  simp only [layY_eq]
  have e1 : (8 * ((q.2 + 7) / 8) + 8 * a.length + 7) / 8 = (q.2 + 7) / 8 + a.length := by omega
  rw [e1, num_append, List.length_append, Nat.mul_add 8, Nat.pow_add, p256]
  refine Prod.ext ?_ ?_
  · dsimp only
    rw [Nat.add_mul, Nat.add_assoc, Nat.mul_comm (2 ^ (8 * a.length)) (num c), Nat.mul_assoc, Nat.mul_comm (2 ^ (8 * a.length))]
  · dsimp only; omega
theorem conv_headP (W : World) {n : Nat} (hn : n ≤ 65535) :
    (convert 40 9 (.slice (some ⟨W.heap.size, 0, none⟩) 4 4)).run Tryz.prog (W.alloc (.cells #[.int .u8 ((n : Int) % 256), .int .u8 ((n : Int) / 256), .int .u8 ((65535 - (n : Int)) % 256), .int .u8 ((65535 - (n : Int)) / 256)] 5)) = .ok (.string ⟨(headY n).toArray⟩) (W.alloc (.cells #[.int .u8 ((n : Int) % 256), .int .u8 ((n : Int) / 256), .int .u8 ((65535 - (n : Int)) % 256), .int .u8 ((65535 - (n : Int)) / 256)] 5)) := by
  refine conv_at (L := headY n) (cap := 4) fun j hj => ?_
  have a1 := UInt8.toNat_ofNat' (n := n)
  have a2 := u8n (n / 256) (by omega)
  have a3 := u8n (255 - n % 256) (by omega)
  have a4 := u8n (255 - n / 256) (by omega)
  rw [(Is.fresh W 5 #[.int .u8 ((n : Int) % 256), .int .u8 ((n : Int) / 256), .int .u8 ((65535 - (n : Int)) % 256), .int .u8 ((65535 - (n : Int)) / 256)]).cell j]
  rw [head_len] at hj
  unfold headY
  match j, hj with
  | 0, _ => show some (Value.int .u8 ((n : Int) % 256)) = some (Value.int .u8 ((UInt8.ofNat n).toNat : Int)); rw [a1]; congr 2
  | 1, _ => show some (Value.int .u8 ((n : Int) / 256)) = some (Value.int .u8 ((UInt8.ofNat (n / 256)).toNat : Int)); rw [a2]; congr 2
  | 2, _ => show some (Value.int .u8 ((65535 - (n : Int)) % 256)) = some (Value.int .u8 ((UInt8.ofNat (255 - n % 256)).toNat : Int)); rw [a3]; congr 2; omega
  | 3, _ => show some (Value.int .u8 ((65535 - (n : Int)) / 256)) = some (Value.int .u8 ((UInt8.ofNat (255 - n / 256)).toNat : Int)); rw [a4]; congr 2; omega
theorem layY_bytes (q : Nat × Nat) (s : ByteArray) : (bytesX q.1 q.2 s, bytesN q.2 s) = layY q s.data.toList := rfl
attribute [local irreducible] layB layY storX textX headY
theorem layZ_few (last : Nat) (hl : last ≤ 1) (q : Nat × Nat) (l : List UInt8) : (layZ last q l).2 ≤ q.2 + 42 + 8 * l.length := by
  unfold layZ
  rw [layY_eq, List.length_append, head_len, layB_eq (v := 0) (by omega) (by omega), layB_eq (v := last) (by omega) (by omega)]
  dsimp only; omega
theorem storG_end {l : List UInt8} (h : l.length ≤ 65535) (q : Nat × Nat) : storG l.length q l = layZ 1 q l := storG_more 0 l.length q l (by omega) (Nat.zero_le _)
theorem storG_step {l : List UInt8} (h : 65535 < l.length) (q : Nat × Nat) : storG l.length q l = storG (l.drop 65535).length (layZ 0 q (l.take 65535)) (l.drop 65535) := by
  obtain ⟨n, hn⟩ : ∃ n, l.length = n + 1 := ⟨l.length - 1, by omega⟩
  rw [hn, storG, if_neg (by omega)]
  exact storG_more _ _ _ _ (by omega) (by rw [List.length_drop]; omega)
theorem size_head (n : Nat) : (⟨(headY n).toArray⟩ : ByteArray).size = 4 := by show (headY n).toArray.size = 4; rw [List.size_toArray, head_len]
section
variable {w w1 w2 w' : World} {lo b : Nat} {og : Option Nat} {r : Nat × Nat}
set_option maxHeartbeats 1000000 in
theorem layStored_pany (h : WroteP w w1 lo b og r) (hlo : lo ≤ w.heap.size) (hN : r.2 ≤ 1000000000) {s : ByteArray} (hs : s.size ≤ 65535) :
    Calls Tryz.prog 39 #[.pointer (some ⟨b, 0, none⟩), .string s] w1 fun e w' => e = .returned (.tuple #[]) ∧ WroteP w w' lo b og (layY r (headY s.size ++ s.data.toList)) := by
  have kc := fun W => conv_headP W hs
  have hh4 := size_head s.size
  obtain ⟨hd, hhd⟩ : ∃ hd : ByteArray, hd = ⟨(headY s.size).toArray⟩ := ⟨_, rfl⟩
  simp only [← hhd] at kc hh4
  have hy : layY r (headY s.size ++ s.data.toList) = layY (layY r hd.data.toList) s.data.toList := by rw [layY_two, hhd]
  have hq2 : (layY r hd.data.toList).2 ≤ 100000000000 := by
    rw [layY_eq, hhd]
    show 8 * ((r.2 + 7) / 8) + 8 * (headY s.size).length ≤ _
    rw [head_len]; omega
  rw [hy]
  obtain ⟨q, hq⟩ : ∃ q, q = layY r hd.data.toList := ⟨_, rfl⟩
  rw [← hq] at hq2 ⊢
  have HQ := Lib.hid hq
  have H := Lib.hid h
  clear h hq hhd hy
  go_enter Tryz.func39, Tryz.ntmps39
  go_wp2_with fail
  refine ((H.out.other ((But.refl [] w1).alloc _)).bytes hlo (by omega) hd (by omega)).mono ?_
  rintro e w3 ⟨rfl, hW3⟩
  rw [layY_bytes, ← HQ.out] at hW3
  have HW3 := Lib.hid hW3
  clear hW3 kc
  go_wp2_with fail
  refine (HW3.out.bytes hlo (by omega) s (by omega)).mono ?_
  rintro e w4 ⟨rfl, hW4⟩
  rw [layY_bytes] at hW4
  have HW4 := Lib.hid hW4
  clear hW4
  go_wp2
  go_end0
  exact ⟨rfl, HW4.out⟩
theorem but0 (w : World) (h : But [] w w1) (hS : ∀ i ∈ b :: og.toList, w.heap.size ≤ i) (hW : WroteP w1 w' lo b og r) : But [] w w' := h.fresh hW.but hS
set_option maxHeartbeats 1000000 in
theorem stored_pany (w : World) {s : ByteArray} (hs : s.size ≤ 1000000) :
    Calls Tryz.prog 21 #[.string s] w fun e w' => e = .returned (.string (textX (storX s.data.toList))) ∧ But [] w w' := by
  have hls := len_data s
  obtain ⟨X, hX⟩ : ∃ X, X = storX s.data.toList := ⟨_, rfl⟩
  have h0 : storG s.size (0, 0) s.data.toList = X := by rw [hX]; unfold storX; rw [hls]
  rw [← hX]
  have H0 := Lib.hid h0
  clear hls hX h0
  go_enter Tryz.func21, Tryz.ntmps21
  go_wp2_with fail
  refine (new_at w (w.heap.size + 1) w.heap.size rfl).mono ?_
  rintro e w1 ⟨rfl, hS1, hB1, hz1⟩
  have hW1 : WroteP w1 w1 (w.heap.size + 1) w.heap.size none (0, 0) := WroteP.refl hS1
  have HW1 := Lib.hid hW1
  have HB1 := Lib.hid hB1
  have HZ1 := Lib.hid hz1
  clear hS1 hB1 hz1 hW1
  go_wp2
  go_loopw [0] (fun dv wr => ∃ (d : ByteArray) (q : Nat × Nat), dv = .string d ∧ d.size ≤ s.size ∧ Hid (storG d.size q d.data.toList = X) ∧ Hid (WroteP w1 wr (w.heap.size + 1) w.heap.size none q) ∧ q.2 + 16 * d.size ≤ 16 * s.size) (fun dv _ => match dv with | .string d => d.size | _ => 0)
  case atStart => exact ⟨s, (0, 0), rfl, Nat.le_refl _, H0, HW1, by show 0 + 16 * s.size ≤ _; omega⟩
  case round =>
    obtain ⟨d, q, rfl, hd, HG, HW, hq⟩ := hrel
    clear HW1 H0
    have hld := len_data d
    by_cases hlt : 65535 < d.size
    · have dl : decide ((65535 : Int) < (d.size : Int)) = true := by simp; omega
      have hst := storG_step (l := d.data.toList) (by omega) q
      obtain ⟨a, ha⟩ : ∃ a, a = d.extract 0 65535 := ⟨_, rfl⟩
      obtain ⟨c, hc⟩ : ∃ c, c = d.extract 65535 d.size := ⟨_, rfl⟩
      have hda : a.data.toList = d.data.toList.take 65535 := by rw [ha, ByteArray.data_extract, Array.toList_extract]; simp
      have hdc : c.data.toList = d.data.toList.drop 65535 := by
        rw [hc, ByteArray.data_extract, Array.toList_extract]
        rw [List.extract_eq_take_drop, List.take_of_length_le (by rw [List.length_drop]; omega)]
      have hsa : a.size = 65535 := by rw [ha, ByteArray.size_extract]; omega
      have hsc : c.size = d.size - 65535 := by rw [hc, ByteArray.size_extract]; omega
      have hlc := len_data c
      rw [hld, HG.out, ← hda, ← hdc, hlc] at hst
      have hlz := layZ_few 0 (by omega) q a.data.toList
      rw [len_data a, hsa] at hlz
      obtain ⟨qb, hqb⟩ : ∃ qb, qb = layB (layB q 0 1) 0 2 := ⟨_, rfl⟩
      have hqb2 : qb.2 ≤ 20000000 := by
        rw [hqb, layB_eq (v := 0) (n := 2) (by omega) (by omega), layB_eq (v := 0) (n := 1) (by omega) (by omega)]; show q.2 + 1 + 2 ≤ _; omega
      have hz : layZ 0 q a.data.toList = layY qb (headY a.size ++ a.data.toList) := by unfold layZ; rw [hqb, len_data a]
      obtain ⟨qn, hqn⟩ : ∃ qn, qn = layZ 0 q a.data.toList := ⟨_, rfl⟩
      rw [← hqn] at hst hlz hz
      have HST := Lib.hid hst.symm
      have HQB := Lib.hid hqb
      have HZ := Lib.hid hz
      have hsl1 : ∀ w, (Instr.slice 9 (.string d) none (some (.int .i64 65535)) none).run Tryz.prog w = .ok (.string a) w := fun w => by
        rw [run_slice_string_to_if w 9 d .i64 _ Tryz.underlying9, if_pos (by omega), ha]; rfl
      have hsl2 : ∀ w, (Instr.slice 9 (.string d) (some (.int .i64 65535)) none none).run Tryz.prog w = .ok (.string c) w := fun w => by
        rw [run_slice_string_from_if w 9 d .i64 _ Tryz.underlying9, if_pos (by omega), hc]; rfl
      clear hst ha hc hda hdc hlc hqb hz hqn hld
      go_wp2_with fail
      refine (begin_pany HW.out (by have := HZ1.out; omega) (by omega) (last := 0) (kind := 0) (by omega) (by omega)).mono ?_
      rintro e w2 ⟨rfl, hW2⟩
      rw [← HQB.out] at hW2
      have HW2 := Lib.hid hW2
      clear hW2
      go_wp2_with fail
      refine (layStored_pany HW2.out (by have := HZ1.out; omega) (by omega) (s := a) (by omega)).mono ?_
      rintro e w3 ⟨rfl, hW3⟩
      rw [← HZ.out] at hW3
      have HW3 := Lib.hid hW3
      clear hW3
      go_wp2
      go_roundw
      case rel => exact ⟨c, qn, rfl, by omega, HST, HW3, by omega⟩
      case measure => show c.size < d.size; omega
    · have dl : decide ((65535 : Int) < (d.size : Int)) = false := by simp; omega
      have hst := storG_end (l := d.data.toList) (by omega) q
      rw [hld, HG.out] at hst
      have hlz := layZ_few 1 (by omega) q d.data.toList
      rw [hld] at hlz
      obtain ⟨qb, hqb⟩ : ∃ qb, qb = layB (layB q 1 1) 0 2 := ⟨_, rfl⟩
      have hqb2 : qb.2 ≤ 20000000 := by
        rw [hqb, layB_eq (v := 0) (n := 2) (by omega) (by omega), layB_eq (v := 1) (n := 1) (by omega) (by omega)]; show q.2 + 1 + 2 ≤ _; omega
      have hz : X = layY qb (headY d.size ++ d.data.toList) := by rw [hst]; unfold layZ; rw [hqb, hld]
      have hX2 : X.2 ≤ 20000000 := by rw [hst]; omega
      have HQB := Lib.hid hqb
      have HZ := Lib.hid hz
      clear hst hqb hz hld
      go_wp2_with fail
      refine (begin_pany HW.out (by have := HZ1.out; omega) (by omega) (last := 1) (kind := 0) (by omega) (by omega)).mono ?_
      rintro e w2 ⟨rfl, hW2⟩
      rw [← HQB.out] at hW2
      have HW2 := Lib.hid hW2
      clear hW2
      go_wp2_with fail
      refine (layStored_pany HW2.out (by have := HZ1.out; omega) (by omega) (s := d) (by omega)).mono ?_
      rintro e w3 ⟨rfl, hW3⟩
      rw [← HZ.out] at hW3
      have HW3 := Lib.hid hW3
      clear hW3
      go_wp2_with fail
      refine (HW3.out.text (by omega)).mono ?_
      rintro e w4 ⟨rfl, hB4⟩
      have HBe := Lib.hid ((but0 w HB1.out (fun i hi => by simp at hi; omega) HW3.out).trans hB4)
      clear hB4
      go_wp2
      go_ret
      exact ⟨rfl, HBe.out⟩
end
end Go.Proofs.YtghegmbafbpnjaaGreatDoor
set_option maxRecDepth 100000
set_option linter.unusedVariables false
namespace Go.Proofs.YtghegmbafbpnjaaGreatDoor
set_option maxRecDepth 100000
open Go Go.RowKit
theorem best_eq (l : List UInt8) : bestX l = if (textX (dynL l)).size < (if (textX (fixedX l)).size < (textX (storX l)).size then textX (fixedX l) else textX (storX l)).size then textX (dynL l) else if (textX (fixedX l)).size < (textX (storX l)).size then textX (fixedX l) else textX (storX l) := rfl
attribute [local irreducible] layB storX textX fixedX dynL bestX
end Go.Proofs.YtghegmbafbpnjaaGreatDoor
set_option maxRecDepth 100000
set_option linter.unusedVariables false
namespace Go.Proofs.YtghegmbafbpnjaaGreatDoor
set_option maxRecDepth 100000
open Go Go.RowKit
theorem fixedT_toks (l : List UInt8) : fixedT (toks l) = fixedX l := rfl
attribute [local irreducible] layTs layC layB fixL fixD toks textX dynL storX fixedX bestX
/-- The shortest so far. -/
def bk (a b c : ByteArray) (k : Nat) : ByteArray := if k = 0 then a else
  let d := if b.size < a.size then b else a
  if k = 1 then d else if c.size < d.size then c else d
set_option maxHeartbeats 1000000 in
theorem pdeflate_any (w : World) (hG : GD w) {s : ByteArray} (hs : s.size ≤ 10000) :
    Calls Tryz.prog 10 #[.string s] w fun e w' => e = .returned (.string (bestX s.data.toList)) ∧ But [] w w' := by
  have hal := toks_few s.data.toList
  have hln := len_data s
  have hty := toks_fixed s.data.toList
  have HTK := Lib.hid (tokens_any w (s := s) (by omega))
  have hX := fixedT_toks s.data.toList
  have hn : (toks s.data.toList).length ≤ 10000 := by omega
  obtain ⟨n, hnP⟩ : ∃ n, n = (toks s.data.toList).length := ⟨_, rfl⟩
  rw [← hnP] at hn
  have hBE := best_eq s.data.toList
  have hST := fun v => stored_pany v (s := s) (by omega)
  have hFX := fun (v : World) (A : Option Addr) (c : Nat) (hK : Tks v A n ((toks s.data.toList).map tkI)) => fixed_pany v (c := c) hK hn hty
  have hDY := fun (v : World) (A : Option Addr) (c : Nat) (hg : GD v) (hK : Tks v A n ((toks s.data.toList).map tkI)) => dynamic_pany v hg (c := c) hK hn
  rw [hX] at hFX
  obtain ⟨a, ha⟩ : ∃ a, a = textX (storX s.data.toList) := ⟨_, rfl⟩
  obtain ⟨b, hb⟩ : ∃ a, a = textX (fixedX s.data.toList) := ⟨_, rfl⟩
  obtain ⟨c, hc⟩ : ∃ a, a = textX (dynL s.data.toList) := ⟨_, rfl⟩
  simp only [← ha] at hST hBE
  simp only [← hb] at hFX hBE
  simp only [← hc] at hDY hBE
  have hbk : bk a b c 2 = bestX s.data.toList := by
    rw [hBE]; rfl
  have HST := Lib.hid hST
  have HFX := Lib.hid hFX
  have HDY := Lib.hid hDY
  have HBK := Lib.hid hbk
  have HN := Lib.hid hnP
  have HG := Lib.hid hG
  clear hal hln hnP hty hX hBE hST hFX hDY hbk hG ha hb hc
  go_enter Tryz.func10, Tryz.ntmps10
  go_wp2_with fail
  refine HTK.out.mono ?_
  rintro e w1 ⟨v, rfl, hO, hB⟩
  obtain ⟨A1, c1, rfl, hT1⟩ := hO.open
  rw [List.length_map, ← HN.out] at hT1 ⊢
  have HT1 := Lib.hid hT1
  have HB1 := Lib.hid hB
  clear hO hB hT1 HTK
  go_wp2_with fail
  refine (HST.out _).mono ?_
  rintro e w2 ⟨rfl, hB2⟩
  have HB2 := Lib.hid hB2
  have HC := Lib.hid (HFX.out w2 A1 c1 (HT1.out.but hB2))
  clear hB2 HST HFX
  go_wp2_with fail
  refine HC.out.mono ?_
  rintro e w3 ⟨rfl, hB3⟩
  have HB3 := Lib.hid (HB2.out.trans hB3)
  have HC := Lib.hid (HDY.out w3 A1 c1 (HG.out.but (HB1.out.trans (HB2.out.trans hB3))) (HT1.out.but (HB2.out.trans hB3)))
  clear hB3 HDY HB2
  go_wp2_with fail
  refine HC.out.mono ?_
  rintro e w4 ⟨rfl, hB4⟩
  have HB4 := Lib.hid ((HB1.out.trans (HB3.out.trans hB4)).alloc (.cells #[.string b, .string c] 9))
  have hI := Is.fresh w4 9 #[.string b, .string c]
  have HI := Lib.hid hI
  clear hB4 hI HC HB3 HB1 HT1
  go_wp2
  go_loop [4, 17] (fun bv iv => ∃ k : Nat, k ≤ 2 ∧ iv = .int .i64 k ∧ bv = .string (bk a b c k)) (fun _ iv => 2 - (intOf iv).toNat)
  case atStart => exact ⟨0, Nat.zero_le _, rfl, rfl⟩
  case round =>
    obtain ⟨k, hk, rfl, rfl⟩ := hrel
    by_cases hlt : k < 2
    · have hst : bk a b c (k + 1) = if (if k = 0 then b else c).size < (bk a b c k).size then (if k = 0 then b else c) else bk a b c k := by
        rcases (show k = 0 ∨ k = 1 by omega) with rfl | rfl
        · rfl
        · rfl
      have hcl : (w4.alloc (.cells #[.string b, .string c] 9)).cell? ⟨w4.heap.size, k, none⟩ = some (.string (if k = 0 then b else c)) := by
        rcases (show k = 0 ∨ k = 1 by omega) with rfl | rfl
        · exact HI.out.cell 0
        · exact HI.out.cell 1
      obtain ⟨x, hx⟩ : ∃ x, x = if k = 0 then b else c := ⟨_, rfl⟩
      obtain ⟨d, hd⟩ : ∃ d, d = bk a b c k := ⟨_, rfl⟩
      rw [← hx] at hst hcl
      rw [← hd] at hst ⊢
      have HSTP := Lib.hid hst
      have k0 : (0 : Int) ≤ (k : Int) := by omega
      have k1 : (k : Int) < 2 := by omega
      clear hst hx hd
      by_cases hle : x.size < d.size
      · have dl : decide (x.size < d.size) = true := by simpa using hle
        have HN2 := Lib.hid (show bk a b c (k + 1) = x by rw [HSTP.out, if_pos hle])
        go_wp2
        go_round
        case rel => exact ⟨k + 1, by omega, by go_num, by rw [HN2.out]⟩
        case measure => simp [intOf]; omega
      · have dl : decide (x.size < d.size) = false := by simpa using hle
        have HN2 := Lib.hid (show bk a b c (k + 1) = d by rw [HSTP.out, if_neg hle])
        go_wp2
        go_round
        case rel => exact ⟨k + 1, by omega, by go_num, by rw [HN2.out]⟩
        case measure => simp [intOf]; omega
    · obtain rfl : k = 2 := by omega
      go_wp2
      go_ret
      exact ⟨by rw [← HBK.out]; rfl, HB4.out⟩
end Go.Proofs.YtghegmbafbpnjaaGreatDoor
