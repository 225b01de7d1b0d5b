/- Several texts in one: RfH, RfI (what Unwraps reach of them). -/
import Derived.Test.YtghegmbafbpnjaaGreatDoorPm01
import Derived.Test.YtghegmbafbpnjaaGreatDoorPm02
import Derived.Test.YtghegmbafbpnjaaGreatDoorPm03
import Derived.Test.YtghegmbafbpnjaaGreatDoorPm04
import Derived.Test.YtghegmbafbpnjaaGreatDoorPm05
import Derived.Test.YtghegmbafbpnjaaGreatDoorPm06
import Derived.Test.YtghegmbafbpnjaaGreatDoorPm07
import Derived.Test.YtghegmbafbpnjaaGreatDoorPm08
import Derived.Test.YtghegmbafbpnjaaGreatDoorPm09
import Derived.Test.YtghegmbafbpnjaaGreatDoorPm10
import Derived.Test.YtghegmbafbpnjaaGreatDoorPm11
import Derived.Test.YtghegmbafbpnjaaGreatDoorPm12
import Derived.Test.YtghegmbafbpnjaaGreatDoorPm13
import Derived.Test.YtghegmbafbpnjaaGreatDoorPm14
import Derived.Test.YtghegmbafbpnjaaGreatDoorPm15
import Derived.Test.YtghegmbafbpnjaaGreatDoorPm16
import Derived.Test.YtghegmbafbpnjaaGreatDoorPm17
import Derived.Test.YtghegmbafbpnjaaGreatDoorPm18
import Derived.Test.YtghegmbafbpnjaaGreatDoorPm20
import Derived.Test.YtghegmbafbpnjaaGreatDoorPm21
import Derived.Test.YtghegmbafbpnjaaGreatDoorPm22
import Derived.Test.YtghegmbafbpnjaaGreatDoorPm23
import Derived.Below
import Derived.BigQuiet
import Derived.BigRegion
import Derived.Deep.AppendLies
import Derived.Deep.CutBlock
import Derived.Deep.CutRange
import Derived.Deep.DeepCutAuto
import Derived.Deep.Draws
import Derived.Deep.LoopGhost
import Derived.Deep.QuietTactic
import Derived.Deep.RegionLaw
import Derived.Deep.RegionWith
import Derived.Deep.Slices
import Derived.Handy
import Derived.Laws.BitsAllLaws
import Derived.Laws.BitsLemmas
import Derived.Laws.CopyOwn
import Derived.Laws.IdiomStrings
import Derived.Laws.MakeOwn
import Derived.Laws.OwnMore
import Derived.Laws.Rows
import Derived.Lib.AppendStr
import Derived.Lib.AppendZeros
import Derived.Lib.Hide
import Derived.Lib.Strings
import Derived.LoopIn
import Derived.LoopNIn
import Derived.OneCell
import Derived.OpenShut
import Derived.Outline
import Derived.OwnWalk
import Derived.OwnWalkIn
import Derived.ProofKit
import Derived.RangeFuncBound
import Derived.RangeFuncCalls
import Derived.RangeFuncLeaves
import Derived.RangeFuncNested
import Derived.RegionTactic
import Derived.Shelf.Abstract
import Derived.Shelf.RegionOpen
import Derived.Shelf.SlSortCmp.QuietGrown
import Derived.StillTailTactics
import Derived.TacticsInMore
import Derived.Test.YtghegmbafbpnjaaGreatDoorChecked
import Derived.WalkKit
import Derived.WalkLawsBesides
import Derived.WalkSpells
set_option maxRecDepth 100000
set_option linter.unusedVariables false
set_option maxRecDepth 100000
set_option linter.unusedVariables false
namespace Go.Proofs.YtghegmbafbpnjaaGreatDoor
set_option maxRecDepth 100000
open Go Go.RowKit
section
variable {w w' w1 : World} {b rb : Nat} {og : Option Nat} {s : ByteArray} {p q : Nat} {M er : Int} {L : List UInt8}
set_option maxHeartbeats 2000000 in
theorem lens_any (h : SR w b rb og s p M L er) (F : Nat) (hF : 8 * s.size < F) :
    Calls Tryz.prog 35 #[.pointer (some ⟨b, 0, none⟩)] w (GotRL w b rb og s p M L er F) := by
  obtain ⟨R, hR⟩ : ∃ R, R = run er (lensR F) s p := ⟨_, rfl⟩
  obtain ⟨i0, hi0, hz0, hz1, hz2⟩ := info_parts info_int
  have hb1 := h.bits 5
  have hft := h.foot
  have HFT := Lib.hid hft
  have HB1 := Lib.hid hb1
  have HR := Lib.hid hR
  have HF := Lib.hid hF
  clear hb1 hR hF hft h
  go_enter Tryz.func35, Tryz.ntmps35
  go_wp2_with fail
  refine HB1.out.mono ?_
  rintro e w1 ⟨a, er1, q1, rfl, hS1, hM1, hr1, ha, hq1, hz1'⟩
  have hk1 := HR.out.trans (run_bind hr1)
  have hb2 := hS1.bits 5
  have HB2 := Lib.hid hb2
  have HK1 := Lib.hid hk1
  have HM1 := Lib.hid hM1
  clear hS1 hM1 hr1 hz1' hk1 hb2 HB1
  go_wp2_with fail
  refine HB2.out.mono ?_
  rintro e w2 ⟨c, er2, q2, rfl, hS2, hM2, hr2, hc, hq2, hz2'⟩
  have hk2 := HK1.out.trans (run_bind hr2)
  have hb3 := hS2.bits 4
  have HB3 := Lib.hid hb3
  have HK2 := Lib.hid hk2
  have HM2 := Lib.hid (HM1.out.trans hM2)
  clear hS2 hM2 hr2 hz2' hk2 hb3 HB2 HM1 HK1
  go_wp2_with fail
  refine HB3.out.mono ?_
  rintro e w3 ⟨t0, er3, q3, rfl, hS3, hM3, hr3, ht0, hq3, hz3'⟩
  have hk3 := HK2.out.trans (run_bind hr3)
  have HK3 := Lib.hid hk3
  have HM3 := Lib.hid (HM2.out.trans hM3)
  have HS3 := Lib.hid hS3
  clear hS3 hM3 hr3 hz3' hk3 HB3 HM2 HK2
  have ha2 : a < 32 := ha
  have hc2 : c < 32 := hc
  have ht2 : t0 < 16 := ht0
  obtain ⟨m, hm⟩ : ∃ m, m = a + 257 := ⟨_, rfl⟩
  obtain ⟨fr, hfr⟩ : ∃ fr, fr = c + 1 := ⟨_, rfl⟩
  obtain ⟨told, htold⟩ : ∃ told, told = t0 + 4 := ⟨_, rfl⟩
  have ea : (a : Int) + 257 = (m : Int) := by omega
  have ec : (c : Int) + 1 = (fr : Int) := by omega
  have et : (t0 : Int) + 4 = (told : Int) := by omega
  have hmb : 257 ≤ m ∧ m ≤ 288 := by omega
  have hfb : 1 ≤ fr ∧ fr ≤ 32 := by omega
  have htb : told ≤ 19 := by omega
  have hk4 : R = run er3 (rBind (smallG (ordS.take told) (List.replicate 19 0)) fun small => lenK m (m + fr) F small) s q3 := by
    rw [HK3.out, hm, hfr, htold]
  have HK4 := Lib.hid hk4
  clear ha hc ht0 hm hfr htold hk4 HK3 ha2 hc2 ht2
  have hmk := make19
  have HRW : Hid (Row (w3.alloc (.cells zero19 3)) w3.heap.size 3 (List.replicate 19 0)) := Lib.hid (Is.fresh w3 _ _)
  have HS4 := Lib.hid (HS3.out.alloc (.cells zero19 3))
  have HM4 := Lib.hid (HM3.out.trans (Mv.alloc (.cells zero19 3)))
  have hw3 := HM3.out.but.size
  clear HS3 HM3
  go_wp2
  go_loopw [8] (fun iv wr => ∃ (k q : Nat) (acc : List Int) (e1 : Int), k ≤ told ∧ iv = .int .i64 k ∧ Hid (acc.length = 19) ∧ Hid (R = run e1 (rBind (smallG ((ordS.take told).drop k) acc) fun small => lenK m (m + fr) F small) s q) ∧ Hid (SR wr b rb og s q M L e1) ∧ Hid (Mv b rb w wr og og) ∧ Hid (Row wr w3.heap.size 3 acc)) (fun iv _ => told - (intOf iv).toNat)
  case atStart => exact ⟨0, q3, List.replicate 19 0, er3, Nat.zero_le _, rfl, Lib.hid (by decide), HK4, HS4, HM4, HRW⟩
  case round =>
    obtain ⟨k, q, acc, e1, hk, rfl, HAL, HK, HS, HM, HRO⟩ := hrel
    clear HK4 HS4 HM4 HRW
    have hsz := HM.out.but.size
    have hf3 : w3.heap.size ∉ Foot b rb og := fun h => by have := HFT.out _ h; omega
    have HF3 := Lib.hid hf3
    have HRS := Lib.hid (Is.lt HRO.out)
    clear hf3
    by_cases hlt : k < told
    · have hds := ordS_drop hlt htb
      have hol := ordS_lt (i := k) (by omega)
      have hoc : ∀ wO : World, wO = wr.drew.alloc (.cells ordCells 3) → wO.cell? ⟨wr.heap.size, k, none⟩ = some (.int .i64 (ordS.getD k 0 : Nat)) := fun wO h => by
        subst h; exact ordc_at (w := wr.drew) (k := k) (by omega)
      obtain ⟨oi, hoi⟩ : ∃ oi, oi = ordS.getD k 0 := ⟨_, rfl⟩
      rw [← hoi] at hds hol hoc
      have HDS := Lib.hid hds
      have HOC := Lib.hid hoc
      have HKC := HK
      have HFW : Hid (wr.heap.size ∉ Foot b rb og) := Lib.hid (fun h => by have := HS.out.foot _ h; omega)
      clear hds hoi hoc
      have b0 : (0 : Int) ≤ (oi : Int) := by omega
      have b1 : (oi : Int) < 19 := by omega
      have b2 : (0 : Int) ≤ (k : Int) := by omega
      have b3 : (k : Int) < 19 := by omega
      go_upto_region 8 with (fail)
      go_region_with (first | (go_at_call 59; go_loud (refine (order_any _).mono ?_; rintro e wO ⟨rfl, hwO⟩; have HWO := Lib.hid hwO; have o0 := HOC.out wO hwO; clear hwO)) | (go_at_call 31; refine (SR.bits (w := wO) (by rw [HWO.out]; exact HS.out.drew.alloc (.cells ordCells 3)) 3).mono ?_; rintro e w5 ⟨v, e2, q2, rfl, hS5, hM5, hr5, hv, _, _⟩; have o1 : w5.cell? ⟨wr.heap.size, k, none⟩ = some (.int .i64 (oi : Nat)) := hM5.but.cell o0 HFW.out; have hRo5 : Row w5 w3.heap.size 3 acc := (show Row wO w3.heap.size 3 acc by rw [HWO.out]; exact HRO.out.but (((But.refl [] wr).drew).alloc _) (by simp)).but hM5.but HF3.out; have c1 : w5.cell? ⟨w3.heap.size, oi, none⟩ = some (.int .i64 (acc.getD oi 0)) := hRo5.at (by have := HAL.out; omega); have f1 : w5.frozen? ⟨w3.heap.size, oi, none⟩ = false := Is.free hRo5 oi; have HS5 := Lib.hid hS5; have HM5 := Lib.hid ((show Mv b rb w wO og og by rw [HWO.out]; exact HM.out.trans ((Mv.drew).trans (Mv.alloc (.cells ordCells 3)))).trans hM5); have HR5 := Lib.hid hr5; have HRO5 := Lib.hid hRo5; clear hS5 hM5 hr5 hv hRo5))
      all_goals
        go_wp2
        go_roundw
        case rel =>
          have HK2 := Lib.hid (show R = run e2 (rBind (smallG ((ordS.take told).drop (k + 1)) (acc.set oi (v : Int))) fun small => lenK m (m + fr) F small) s q2 by
            rw [HKC.out, HDS.out, small_cons]
            exact run_bind HR5.out)
          exact ⟨k + 1, q2, acc.set oi (v : Int), e2, by omega, by go_num, Lib.hid (by rw [List.length_set]; exact HAL.out), HK2, Lib.hid (HS5.out.away ((But.refl [w3.heap.size] w5).setCell (.inl (by simp)) _) (fun x hx => by
            obtain rfl : x = w3.heap.size := by simpa using hx
            exact HF3.out)), Lib.hid ⟨HM5.out.but.setCell (.inr hw3) _, HM5.out.own⟩, Lib.hid (HRO5.out.set oi (v : Int))⟩
        case measure => simp [intOf]; omega
    · have hK2 : R = run e1 (lenK m (m + fr) F acc) s q := by
        rw [HK.out, List.drop_of_length_le (by rw [List.length_take]; omega)]
        exact congrArg (fun z => run e1 z s q) (pure_bind' acc _)
      have HK2 := Lib.hid hK2
      clear hK2 HK
      have htb2 := HS.out.table (A := some ⟨w3.heap.size, 0, none⟩) (n := 19) (c := 19) (l := acc) (fun _ => by
        have h := HRO.out.ints
        rw [HAL.out] at h
        exact ⟨h, by omega, fun e => by cases e⟩)
      have HTB := Lib.hid htb2
      clear htb2
      go_wp2_with fail
      refine HTB.out.mono ?_
      rintro e w5 ⟨x, e5, rfl, hS5, hM5, hr5, hx5⟩
      have hk5 : R = run e5 (rBind (lenG acc (m + fr) F []) fun ls => rPure (cutL m ls)) s q := by
        rw [HK2.out]; unfold lenK; exact hr5 _ _
      have HK5 : Hid (R = run e5 (rBind (lenG acc (m + fr) F []) fun ls => rPure (cutL m ls)) s q) := Lib.hid hk5
      have HS5 := Lib.hid hS5
      have HM5 := Lib.hid (HM.out.trans hM5)
      have HX5 : Hid (e5 = 0 → HasRT b rb og w5 x acc) := Lib.hid (fun e => (hx5 e).2)
      have HFT5 : Hid (∀ k ∈ Foot b rb og, k < w5.heap.size) := Lib.hid (fun k hk => HS5.out.foot k hk)
      clear hk5 hS5 hM5 hr5 hx5 HTB HK2 HM HS HRO
      go_wp2
      go_loopg [10] F (fun f v wr => ∃ (ls : List Int) (q : Nat) (e2 : Int), Hid (OwnI wr w5.heap.size v ls) ∧ Hid (SR wr b rb og s q M L e2) ∧ Hid (Mv b rb w5 wr og og) ∧ Hid (e2 = 0 → e5 = 0) ∧ Hid (R = run e2 (rBind (lenG acc (m + fr) f ls) fun l => rPure (cutL m l)) s q) ∧ ls.length ≤ m + fr ∧ Hid (e2 = 0 → 8 * s.size - q < f))
      case atStart => exact ⟨[], q, e5, Lib.hid (OwnI.nil _ _), HS5, Lib.hid (Mv.refl _ _ _ _), Lib.hid (fun e => e), HK5, Nat.zero_le _, Lib.hid (fun _ => by have := HF.out; omega)⟩
      case round =>
        obtain ⟨ls, q, e2, HO, HS, HM, HX, HK, hll, HG⟩ := hrel
        clear HS5 HK5
        obtain ⟨wo, rfl⟩ : ∃ wo : World, wo = wr := ⟨_, rfl⟩
        obtain ⟨A, cA, rfl, hI⟩ := HO.out.open
        clear hI
        have g3 := HS.out.in3
        by_cases he2 : e2 = 0
        · subst he2
          obtain ⟨f, rfl⟩ : ∃ f, gk = f + 1 := ⟨gk - 1, by have := HG.out rfl; omega⟩
          by_cases hlt : ls.length < m + fr
          · have d1 : decide ((ls.length : Int) < (m : Int) + (fr : Int)) = true := by simp; omega
            have d2 : decide (ls.length < m + fr) = true := by simpa using hlt
            have hnx := HS.out.next (x := x) (l := acc) (fun e => (HX5.out (HX.out (by trivial))).mv HM.out)
            have HNX := Lib.hid hnx
            have hkn : R = run 0 (rBind (rNext acc) fun t => rBind (swRf t ls) fun y => rBind (rWhen (m + fr < ls.length + y.2) 12 (lenG acc (m + fr) f (ls ++ List.replicate y.2 y.1))) fun l => rPure (cutL m l)) s q := by
              rw [HK.out, lenG_swRf hlt, bind_assoc]
              simp only [bind_assoc]
            have HKN := Lib.hid hkn
            clear hnx hkn HK
            go_wp2_with fail
            refine HNX.out.mono ?_
            rintro e w6 ⟨t, e3, q6, rfl, hS6, hM6, hr6, hp6⟩
            clear g3
            have HS6 := Lib.hid hS6
            have HM6 := Lib.hid (HM.out.trans hM6)
            have HO6 := Lib.hid (HO.out.but hM6.but (own_free HO.out HFT5.out))
            have HX6 : Hid (e3 = 0 → e5 = 0) := Lib.hid (fun e => HX.out (by trivial))
            have HKN2 : Hid (R = run e3 (rBind (swRf t ls) fun y => rBind (rWhen (m + fr < ls.length + y.2) 12 (lenG acc (m + fr) f (ls ++ List.replicate y.2 y.1))) fun l => rPure (cutL m l)) s q6) := Lib.hid (HKN.out.trans (run_bind hr6))
            have HP6 : Hid (e3 = 0 → q < q6) := Lib.hid (fun e => (hp6 e).2)
            have HGG : Hid (8 * s.size - q < f + 1) := Lib.hid (HG.out (by trivial))
            clear hS6 hM6 hr6 hp6 HKN HNX HO HS HM HX HG
            have hl0 : ls.length ≤ 320 := by omega
            have hsz6 := HM6.out.but.size
            go_upto_block 4 with (fail)
            go_cut [12, 13] from 57 to 97 (fun vv nv wx => ∃ (y : Int) (k2 q7 : Nat) (e4 : Int), vv = .int .i64 y ∧ nv = .int .i64 k2 ∧ (1 ≤ k2 ∧ k2 ≤ 200) ∧ Hid (SR wx b rb og s q7 M L e4) ∧ Hid (Mv b rb w5 wx og og) ∧ Hid (OwnI wx w5.heap.size (.slice A ls.length cA) ls) ∧ Hid (e3 = 0 → e5 = 0) ∧ Hid (run e3 (swRf t ls) s q6 = run e4 (rPure (y, k2)) s q7) ∧ Hid (e4 = 0 → e3 = 0 ∧ q6 ≤ q7))
            case first =>
              by_cases ht16 : t < 16
              · have d16 : decide ((t : Int) < 16) = true := by simp; omega
                have hsw : run e3 (swRf t ls) s q6 = run e3 (rPure ((t : Int), 1)) s q6 := by unfold swRf; rw [if_pos ht16]
                have HSW := Lib.hid hsw
                clear hsw ht16
                go_wp2
                go_meet
                exact ⟨(t : Int), 1, q6, e3, rfl, rfl, ⟨by omega, by omega⟩, HS6, HM6, HO6, HX6, HSW, Lib.hid (fun e => ⟨e, Nat.le_refl _⟩)⟩
              · have d16 : decide ((t : Int) < 16) = false := by simp; omega
                have g3 := HS6.out.in3
                by_cases h16 : t = 16
                · have e16 : ((t : Int) == 16) = true := by simp; omega
                  by_cases hbad : e3 = 0 ∧ ls.length = 0
                  · obtain ⟨rfl, hl00⟩ := hbad
                    have hR12 : R = .error 12 := by
                      rw [HKN2.out, run_on]
                      refine bind_err ?_
                      unfold swRf
                      rw [if_neg ht16, if_pos h16, when_yes hl00]
                    have HR12 := Lib.hid hR12
                    have f3 := HS6.out.free 3
                    have dl : ((ls.length : Int) == 0) = true := by rw [hl00]; rfl
                    clear hR12 h16 ht16
                    go_wp2
                    go_ret2
                    exact ⟨none, none, 0, 0, 0, 0, [], [], 12, q6, rfl, (HS6.out.met 12).1, (HM5.out.trans HM6.out).trans (HS6.out.met 12).2, by rw [← HR.out, HR12.out]; rfl, fun e => absurd e (by decide)⟩
                  · obtain ⟨y, hy⟩ : ∃ y : Int, y = if 0 < ls.length then ls.getD (ls.length - 1) 0 else 0 := ⟨_, rfl⟩
                    have hbt := HS6.out.bits 2
                    have HBT := Lib.hid hbt
                    have hsw : e3 = 0 → swRf t ls = rBind (rBits 2) fun x => rPure (y, 3 + x) := fun e => by
                      have hl : ¬ ls.length = 0 := fun h => hbad ⟨e, h⟩
                      unfold swRf; rw [if_neg ht16, if_pos h16, hy, if_pos (by omega)]
                      funext s p
                      exact when_not hl
                    have HSW := Lib.hid hsw
                    have HY := Lib.hid hy
                    clear hbt hsw hy h16 ht16
                    have hfin : ∀ (w7 : World) (v : Nat) (e4 : Int) (q7 : Nat), SR w7 b rb og s q7 M L e4 → Mv b rb w6 w7 og og → run e3 (rBits 2) s q6 = run e4 (rPure v) s q7 → v < 4 → q6 ≤ q7 → (e4 = 0 → e3 = 0) →
                        Hid (SR w7 b rb og s q7 M L e4) ∧ Hid (Mv b rb w5 w7 og og) ∧ Hid (OwnI w7 w5.heap.size (.slice A ls.length cA) ls) ∧ Hid (e3 = 0 → e5 = 0) ∧ Hid (run e3 (swRf t ls) s q6 = run e4 (rPure (y, 3 + v)) s q7) ∧ Hid (e4 = 0 → e3 = 0 ∧ q6 ≤ q7) := fun w7 v e4 q7 hS7 hM7 hr7 _ hq7 hz7 =>
                      ⟨Lib.hid hS7, Lib.hid (HM6.out.trans hM7), Lib.hid (HO6.out.but hM7.but (own_free HO6.out HFT5.out)), HX6, Lib.hid (by
                        by_cases e : e3 = 0
                        · rw [HSW.out e]; exact run_bind hr7
                        · rw [run_off e]
                          rw [run_off e] at hr7
                          by_cases e' : e4 = 0
                          · exact absurd (hz7 e') e
                          · rw [run_off e'] at hr7 ⊢
                            injection hr7 with hr7
                            rw [hr7]), Lib.hid (fun e => ⟨hz7 e, hq7⟩)⟩
                    have HFIN := Lib.hid hfin
                    clear hfin
                    by_cases hpos : 0 < ls.length
                    · have hlz : ((ls.length : Int) == 0) = false := by rw [beq_eq_false_iff_ne]; omega
                      have hls : ls.length ≠ 0 := by omega
                      have dp : decide ((0 : Int) < (ls.length : Int)) = true := decide_eq_true (by omega)
                      obtain ⟨i, hi⟩ : ∃ i, i = ls.length - 1 := ⟨_, rfl⟩
                      have hyy : y = ls.getD i 0 := by rw [HY.out, if_pos hpos, hi]
                      obtain ⟨gA, oA, eA, hgA, hcell⟩ := (HO6.out.ints_of rfl).at (i := i) (by omega)
                      subst eA
                      have hcell2 : w6.cell? ⟨gA, oA + i, none⟩ = some (.int .i64 y) := by
                        rw [hcell, hyy, List.getD_eq_getElem?_getD, List.getElem?_eq_getElem (by omega)]; rfl
                      have ei : (ls.length : Int) - 1 = (i : Int) := by omega
                      have b0 : (0 : Int) ≤ (i : Int) := by omega
                      have b1 : (i : Int) < (ls.length : Int) := by omega
                      clear hcell hyy hi hbad
                      by_cases he3 : e3 = 0
                      · have d3 : (e3 == 0) = true := by simp [he3]
                        clear he3
                        go_wp2_with fail
                        refine HBT.out.mono ?_
                        rintro e w7 ⟨v, e4, q7, rfl, hS7, hM7, hr7, hv, hq7, hz7⟩
                        have hv2 : v < 4 := hv
                        obtain ⟨F1, F2, F3, F4, F5, F6⟩ := HFIN.out w7 v e4 q7 hS7 hM7 hr7 hv hq7 hz7
                        clear hS7 hM7 hr7 hv hq7 hz7 hcell2
                        go_wp2
                        go_meet
                        exact ⟨y, 3 + v, q7, e4, rfl, by go_num, ⟨by omega, by omega⟩, F1, F2, F3, F4, F5, F6⟩
                      · have d3 : (e3 == 0) = false := by simpa using he3
                        clear he3
                        go_wp2_with fail
                        refine HBT.out.mono ?_
                        rintro e w7 ⟨v, e4, q7, rfl, hS7, hM7, hr7, hv, hq7, hz7⟩
                        have hv2 : v < 4 := hv
                        obtain ⟨F1, F2, F3, F4, F5, F6⟩ := HFIN.out w7 v e4 q7 hS7 hM7 hr7 hv hq7 hz7
                        clear hS7 hM7 hr7 hv hq7 hz7 hcell2
                        go_wp2
                        go_meet
                        exact ⟨y, 3 + v, q7, e4, rfl, by go_num, ⟨by omega, by omega⟩, F1, F2, F3, F4, F5, F6⟩
                    · have hl00 : ls.length = 0 := by omega
                      have he3 : e3 ≠ 0 := fun e => hbad ⟨e, hl00⟩
                      have d3 : (e3 == 0) = false := by simpa using he3
                      have dp : decide ((0 : Int) < (ls.length : Int)) = false := decide_eq_false (by omega)
                      have dp2 : decide (0 < ls.length) = false := decide_eq_false (by omega)
                      have dp3 : ¬ (0 : Int) < (ls.length : Int) := by omega
                      have hyy : y = 0 := by rw [HY.out, if_neg hpos]
                      have HYY := Lib.hid hyy
                      clear hyy he3 hbad hl00
                      go_wp2_with fail
                      refine HBT.out.mono ?_
                      rintro e w7 ⟨v, e4, q7, rfl, hS7, hM7, hr7, hv, hq7, hz7⟩
                      have hv2 : v < 4 := hv
                      obtain ⟨F1, F2, F3, F4, F5, F6⟩ := HFIN.out w7 v e4 q7 hS7 hM7 hr7 hv hq7 hz7
                      clear hS7 hM7 hr7 hv hq7 hz7
                      go_wp2
                      go_meet
                      exact ⟨y, 3 + v, q7, e4, by rw [HYY.out], by go_num, ⟨by omega, by omega⟩, F1, F2, F3, F4, F5, F6⟩
                · have e16 : ((t : Int) == 16) = false := by simp; omega
                  by_cases h17 : t = 17
                  · have e17 : ((t : Int) == 17) = true := by simp; omega
                    have hbt := HS6.out.bits 3
                    have HBT := Lib.hid hbt
                    have hsw : swRf t ls = rBind (rBits 3) fun x => rPure ((0 : Int), 3 + x) := by unfold swRf; rw [if_neg ht16, if_neg h16, if_pos h17]
                    have HSW := Lib.hid hsw
                    clear hbt hsw h17 h16 ht16
                    go_wp2_with fail
                    refine HBT.out.mono ?_
                    rintro e w7 ⟨v, e4, q7, rfl, hS7, hM7, hr7, hv, hq7, hz7⟩
                    have hv2 : v < 8 := hv
                    have HS7 := Lib.hid hS7
                    have HM7 := Lib.hid (HM6.out.trans hM7)
                    have HO7 := Lib.hid (HO6.out.but hM7.but (own_free HO6.out HFT5.out))
                    have HX7 : Hid (e3 = 0 → e5 = 0) := HX6
                    have HR7 : Hid (run e3 (swRf t ls) s q6 = run e4 (rPure ((0 : Int), 3 + v)) s q7) := Lib.hid (by rw [HSW.out]; exact run_bind hr7)
                    have HZ7 : Hid (e4 = 0 → e3 = 0 ∧ q6 ≤ q7) := Lib.hid (fun e => ⟨hz7 e, hq7⟩)
                    clear hS7 hM7 hr7 hv hq7 hz7
                    go_wp2
                    go_meet
                    exact ⟨0, 3 + v, q7, e4, rfl, by go_num, ⟨by omega, by omega⟩, HS7, HM7, HO7, HX7, HR7, HZ7⟩
                  · have e17 : ((t : Int) == 17) = false := by simp; omega
                    have hbt := HS6.out.bits 7
                    have HBT := Lib.hid hbt
                    have hsw : swRf t ls = rBind (rBits 7) fun x => rPure ((0 : Int), 11 + x) := by unfold swRf; rw [if_neg ht16, if_neg h16, if_neg h17]
                    have HSW := Lib.hid hsw
                    clear hbt hsw h17 h16 ht16
                    go_wp2_with fail
                    refine HBT.out.mono ?_
                    rintro e w7 ⟨v, e4, q7, rfl, hS7, hM7, hr7, hv, hq7, hz7⟩
                    have hv2 : v < 128 := hv
                    have HS7 := Lib.hid hS7
                    have HM7 := Lib.hid (HM6.out.trans hM7)
                    have HO7 := Lib.hid (HO6.out.but hM7.but (own_free HO6.out HFT5.out))
                    have HX7 : Hid (e3 = 0 → e5 = 0) := HX6
                    have HR7 : Hid (run e3 (swRf t ls) s q6 = run e4 (rPure ((0 : Int), 11 + v)) s q7) := Lib.hid (by rw [HSW.out]; exact run_bind hr7)
                    have HZ7 : Hid (e4 = 0 → e3 = 0 ∧ q6 ≤ q7) := Lib.hid (fun e => ⟨hz7 e, hq7⟩)
                    clear hS7 hM7 hr7 hv hq7 hz7
                    go_wp2
                    go_meet
                    exact ⟨0, 11 + v, q7, e4, rfl, by go_num, ⟨by omega, by omega⟩, HS7, HM7, HO7, HX7, HR7, HZ7⟩
            case rest =>
              obtain ⟨y, k2, q7, e4, rfl, rfl, hk2, HS7, HM7, HO7, HX7, HR7, HZ7⟩ := hcut
              obtain ⟨hka, hkb⟩ := hk2
              obtain ⟨w7, rfl⟩ : ∃ w7 : World, w7 = wc := ⟨_, rfl⟩
              have HK7 : Hid (R = run e4 (rBind (rWhen (m + fr < ls.length + k2) 12 (lenG acc (m + fr) f (ls ++ List.replicate k2 y))) fun l => rPure (cutL m l)) s q7) := Lib.hid (by
                rw [HKN2.out]; exact run_bind HR7.out)
              have hsz7 := HM7.out.but.size
              have HQ8 := Lib.hid HS7.out.rs.1
              have g3 := HS7.out.in3
              clear HS6 HM6 HO6 HX6 HKN2 HR7
              by_cases he4 : e4 = 0
              · subst he4
                by_cases hov : m + fr < ls.length + k2
                · have dov : decide ((m : Int) + (fr : Int) < (ls.length : Int) + (k2 : Int)) = true := decide_eq_true (by omega)
                  have hR12 : R = .error 12 := by
                    rw [HK7.out, when_bind]
                    exact when_yes hov
                  have HR12 := Lib.hid hR12
                  have f3 := HS7.out.free 3
                  clear hov hR12
                  have hSm := HS7.out.met 12
                  have HS8 := Lib.hid hSm.1
                  have HM8 := Lib.hid (HM7.out.trans hSm.2)
                  have HO8 := Lib.hid (HO7.out.but hSm.2.but (own_free HO7.out HFT5.out))
                  have dz : ((12 : Int) == 0) = false := rfl
                  clear hSm
                  go_wp2
                  clear g3 f3
                  generalize w7.setCell ⟨b, 3, none⟩ (.int .i64 12) = w8 at *
                  have g3 := HS8.out.in3
                  go_loopw [10, 14] (fun v iv wr => v = .slice A ls.length cA ∧ iv = .int .i64 0 ∧ w8 = wr) (fun _ _ _ => 0)
                  case atStart => exact ⟨rfl, rfl, rfl⟩
                  case round =>
                    obtain ⟨rfl, rfl, rfl⟩ := hrel
                    go_wp2
                    go_roundg f
                    case measure => omega
                    case rel => exact ⟨ls, q7, 12, HO8, HS8, HM8, Lib.hid (fun e => absurd e (by decide)), Lib.hid (by rw [HR12.out, run_off (by decide)]), hll, Lib.hid (fun e => absurd e (by decide))⟩
                · have dov : decide ((m : Int) + (fr : Int) < (ls.length : Int) + (k2 : Int)) = false := decide_eq_false (by omega)
                  have hk8 : R = run 0 (rBind (lenG acc (m + fr) f (ls ++ List.replicate k2 y)) fun l => rPure (cutL m l)) s q7 := by
                    rw [HK7.out, when_bind, run_on, run_on]; exact when_not hov
                  have HK8 := Lib.hid hk8
                  have hov2 : ls.length + k2 ≤ m + fr := by omega
                  clear hov hk8 HK7
                  go_wp2
                  go_loopw [10, 14] (fun v iv wr => ∃ (j : Nat) (l1 : List Int), j ≤ k2 ∧ iv = .int .i64 j ∧ l1.length = ls.length + j ∧ Hid (l1 = ls ++ List.replicate j y) ∧ Hid (OwnI wr w5.heap.size v l1) ∧ Hid (SR wr b rb og s q7 M L 0) ∧ Hid (Mv b rb w5 wr og og)) (fun _ iv _ => k2 - (intOf iv).toNat)
                  case atStart => exact ⟨0, ls, Nat.zero_le _, rfl, rfl, Lib.hid (by simp), HO7, HS7, HM7⟩
                  case round =>
                    obtain ⟨j, l1, hj, rfl, hl1, HL1, HO9, HS9, HM9⟩ := hrel
                    clear g3 HS7 HM7 HO7
                    have g3 := HS9.out.in3
                    by_cases hjl : j < k2
                    · obtain ⟨A9, c9, rfl, hI9⟩ := HO9.out.open
                      clear hI9
                      have hsz9 := HM9.out.but.size
                      have hox := HO9.out
                      unfold OwnI at hox
                      obtain ⟨la, hla⟩ : ∃ la, la = l1.length := ⟨_, rfl⟩
                      rw [← hla] at hox hl1 HO9 ⊢
                      have HLA := Lib.hid hla
                      have HOX := Lib.hid hox
                      have hlab : la ≤ 320 := by omega
                      have HL2 := Lib.hid hl1
                      clear hox hla hl1
                      go_wp2_with (at_builtin; go_loud (refine wpList_append_own _ rfl _ _ 58 rfl w5.heap.size 3 i0 (.int .i64 0) 1 8 Tryz.underlying58 hi0 hz0 hz1 hz2 rfl (by decide) (.slice A9 la c9) la (l1.map (.int .i64)) rfl (HOX.out.alloc _) ⟨wr.heap.size, 0, none⟩ 1 1 [.int .i64 y] rfl rfl ?c1 ?c2 ?c3 ?c4 ?c5 ?_))
                      case c1 => exact World.news_of_block (cs := #[.int .i64 y]) (t := 3) (fr := (0, 0)) (heap_alloc_new wr _)
                      case c2 => simp [Value.oneCell']
                      case c3 => unfold maxLen; omega
                      case c4 => omega
                      case c5 => simp; omega
                      intro v' w9 hown hgrow _
                      have hO10 : OwnI w9 w5.heap.size v' (l1 ++ [y]) := by
                        unfold OwnI
                        rw [List.length_append, ← HLA.out, List.map_append]
                        exact hown
                      have hb10 := (HM9.out.but.alloc (.cells #[.int .i64 y] 3)).grown hgrow (fun g e => .inr (World.ownsRow.lt HOX.out g e).1)
                      have hbw := ((But.refl [] wr).alloc (.cells #[.int .i64 y] 3)).more (T := (Value.slice A9 la c9).ownBlock.toList) (by simp)
                      have hb11 := hbw.grown hgrow (fun g e => .inl (by simp [e]))
                      have hne : ∀ k ∈ (Value.slice A9 la c9).ownBlock.toList, k ∉ Foot b rb og := fun k hk h => by
                        have h1 := (World.ownsRow.lt HOX.out k (by simpa using hk)).1
                        have := HFT5.out k h; omega
                      have HS10 := Lib.hid (HS9.out.away hb11 hne)
                      have HO10 := Lib.hid hO10
                      have HM10 : Hid (Mv b rb w5 w9 og og) := Lib.hid ⟨hb10, fun g e => .inl e⟩
                      clear hown hgrow hO10 hb10 hbw hb11 hne g3
                      go_wp2
                      go_roundw
                      case rel => exact ⟨j + 1, l1 ++ [y], by omega, by go_num, by have := HL2.out; have := HLA.out; rw [List.length_append, List.length_singleton]; omega, Lib.hid (by rw [HL1.out, List.append_assoc, ← List.replicate_succ']), HO10, HS10, HM10⟩
                      case measure => simp [intOf]; omega
                    · obtain rfl : j = k2 := by omega
                      have HLL := Lib.hid hl1
                      clear hl1
                      go_wp2
                      go_roundg f
                      case measure => omega
                      case rel => exact ⟨l1, q7, 0, HO9, HS9, HM9, Lib.hid (fun _ => HX7.out (HZ7.out (by trivial)).1), Lib.hid (by rw [HK8.out, HL1.out]), by have := HLL.out; omega, Lib.hid (fun _ => by have := HGG.out; have h1 := HZ7.out (by trivial); have := HP6.out h1.1; have := h1.2; have := HQ8.out; omega)⟩
              · have de4 : (e4 == 0) = false := by simpa using he4
                have HE4 := Lib.hid he4
                clear he4
                go_wp2
                go_loopw [10, 14] (fun v iv wr => v = .slice A ls.length cA ∧ iv = .int .i64 0 ∧ w7 = wr) (fun _ _ _ => 0)
                case atStart => exact ⟨rfl, rfl, rfl⟩
                case round =>
                  obtain ⟨rfl, rfl, rfl⟩ := hrel
                  go_wp2
                  go_roundg f
                  case measure => omega
                  case rel => exact ⟨ls, q7, e4, HO7, HS7, HM7, Lib.hid (fun e => absurd e HE4.out), Lib.hid (by rw [HK7.out, run_off HE4.out, run_off HE4.out]), hll, Lib.hid (fun e => absurd e HE4.out)⟩
          · have d1 : decide ((ls.length : Int) < (m : Int) + (fr : Int)) = false := decide_eq_false (by omega)
            have d2 : decide (ls.length < m + fr) = false := decide_eq_false (by omega)
            obtain ⟨tt, htt⟩ : ∃ tt, tt = m + fr := ⟨_, rfl⟩
            have hlt2 : ls.length = tt := by omega
            obtain ⟨gl, cl, e, hcl1, hcl2, hIl⟩ := own_form HO.out (by omega)
            injection e with e1 e2 e3
            subst e1 e3
            have hkL : HasL b rb og wo (some ⟨gl, 0, none⟩) m cA (ls.take m) := ⟨by omega, (fun e => by cases e), fun w2 hB => by
              have h := (HO.out.but hB (own_free HO.out HFT5.out)).ints
              exact h.take (by omega)⟩
            have hkD : HasL b rb og wo (some ⟨gl, m, none⟩) (tt - m) (cA - m) (ls.drop m) := ⟨by omega, (fun e => by cases e), fun w2 hB => by
              have h := (HO.out.but hB (own_free HO.out HFT5.out)).ints
              have h2 := h.drop (k := m) (by omega)
              rw [hlt2] at h2; exact h2⟩
            have hKE : R = run 0 (rPure (cutL m ls)) s q := by
              rw [HK.out, lenG_end (by omega), pure_bind']
            rw [hlt2] at hcl1 d1 d2 ⊢
            have HKL := Lib.hid hkL
            have HKD := Lib.hid hkD
            have HKE := Lib.hid hKE
            have hst : m < tt := by omega
            have hsc : m < cA := by omega
            have hb0 : (0 : Int) ≤ (m : Int) := by omega
            have n1 : ¬ cA = m := by omega
            clear hkL hkD hKE hIl hlt2 e2 htt HK
            go_wp2
            go_quiet (fail)
            go_wp2
            go_ret2
            exact ⟨some ⟨gl, 0, none⟩, some ⟨gl, m, none⟩, m, cA, tt - m, cA - m, ls.take m, ls.drop m, 0, q, rfl, HS.out.drewN nq, (HM5.out.trans HM.out).trans (Mv.drewN nq), by rw [← HR.out, HKE.out]; rfl, fun _ => ⟨HKL.out.mv (Mv.drewN nq), HKD.out.mv (Mv.drewN nq)⟩⟩
        · have de2 : (e2 == 0) = false := by simpa using he2
          have de3 : (e2 != 0) = true := by simpa using he2
          have HE2 := Lib.hid he2
          clear he2
          go_wp2
          go_ret2
          exact ⟨none, none, 0, 0, 0, 0, [], [], e2, q, rfl, HS.out, HM5.out.trans HM.out, by rw [← HR.out, HK.out, run_off HE2.out, run_off HE2.out], fun e => absurd e HE2.out⟩
end
end Go.Proofs.YtghegmbafbpnjaaGreatDoor
set_option maxRecDepth 100000
set_option linter.unusedVariables false
namespace Go.Proofs.YtghegmbafbpnjaaGreatDoor
set_option maxRecDepth 100000
open Go Go.RowKit
theorem rBits_step {n x p q : Nat} {s : ByteArray} (h : rBits n s p = .ok (x, q)) : q = p + n := by
  unfold rBits at h
  split at h
  · cases h
  · rename_i h0
    injection h with h; injection h with _ h
    subst h
    unfold bitsGo
    rw [if_pos (by simpa using h0)]; simp
theorem blk_open (M : Int) (F f : Nat) (L : List UInt8) : blkG M F (f + 1) L = rBind (rBits 1) fun last => rBind (rBits 2) fun kind => rBind (blockR M F kind L) fun out' => if last ≠ 0 then rPure out' else blkG M F f out' := rfl
/-- What the document's stream stands before. -/
def nxt (M : Int) (F f last : Nat) (L : List UInt8) : Rd (List UInt8) := if last ≠ 0 then rPure L else blkG M F f L
section
variable {w w' w1 : World} {b rb : Nat} {og : Option Nat} {s : ByteArray} {p q : Nat} {M er : Int} {L : List UInt8}
theorem blk_kind (M : Int) (F k : Nat) (L : List UInt8) : (k = 0 → blockR M F k L = storedR M L) ∧ (k = 1 → blockR M F k L = tablesR fixL fixD (symG fixL fixD M F L)) ∧ (k = 2 → blockR M F k L = dynR M F L) ∧ (3 ≤ k → blockR M F k L = rFail 13) := by
  unfold blockR
  refine ⟨fun h => if_pos h, fun h => ?_, fun h => ?_, fun h => ?_⟩
  · rw [if_neg (by omega), if_pos h]
  · rw [if_neg (by omega), if_neg (by omega), if_pos h]
  · rw [if_neg (by omega), if_neg (by omega), if_neg (by omega)]
theorem blk_after {R : Except Int (List UInt8 × Nat)} {F f k v1 q2 q3 : Nat} {e3 : Int} {L3 : List UInt8} (hR : R = run 0 (rBind (blockR M F k L) fun out' => nxt M F f v1 out') s q2) (hr : run 0 (blockR M F k L) s q2 = run e3 (rPure L3) s q3)
    (hq2 : q2 ≤ 8 * s.size) (hq : q < q2) (hg : 8 * s.size - q < f + 1) : R = run e3 (nxt M F f v1 L3) s q3 ∧ (e3 = 0 → 8 * s.size - q3 < f) := by
  refine ⟨hR.trans (run_bind hr), fun e => ?_⟩
  subst e
  have h : blockR M F k L s q2 = .ok (L3, q3) := hr
  have := blockR_adv M F k L s q2 L3 q3 hq2 h
  omega
/-- What the document's loop leaves. -/
def LeftI (w : World) (b rb : Nat) (s : ByteArray) (M : Int) (R : Except Int (List UInt8 × Nat)) (wx : World) : Prop :=
  ∃ (er : Int) (L : List UInt8) (q : Nat) (og : Option Nat), SR wx b rb og s q M L er ∧ Mv b rb w wx none og ∧ R = run er (rPure L) s q
theorem kinds (A : Option Addr) (n c : Nat) {l : List Int} {a : Addr} (hA : A = some a) (hn : n ≤ 1000) {wx : World} (hI : Ints wx A n l) (hf : a.block ∉ Foot b rb og) : HasL b rb og wx A n c l := by
  subst hA
  exact ⟨by omega, (fun e => by cases e), fun w2 hB => hI.but hB (fun k hk a2 e => by cases e; intro h; exact hf (h ▸ hk))⟩
set_option maxHeartbeats 2000000 in
theorem rinflate_any (w : World) {s : ByteArray} {M : Int} (hs : s.size ≤ 20000) (hM : M ≤ 100000) :
    Calls Tryz.prog 18 #[.string s, .int .i64 M] w fun e w' => e = tell (inflT s M) ∧ But [] w w' := by
  obtain ⟨F, hF⟩ : ∃ F, F = 8 * s.size + 1 := ⟨_, rfl⟩
  obtain ⟨R, hR⟩ : ∃ R, R = inflS s M := ⟨_, rfl⟩
  have hR2 : R = run 0 (blkG M F F []) s 0 := by rw [hR, hF]; rfl
  have hFR : FS (w.alloc (.cells #[.string s, .int .i64 0] 54)) w.heap.size s 0 := ⟨Nat.zero_le _, Is.fresh w _ _⟩
  have hI := Is.fresh (w.alloc (.cells #[.string s, .int .i64 0] 54)) 56 #[.pointer (some ⟨w.heap.size, 0, none⟩), .slice none 0 0, .int .i64 M, .int .i64 0]
  have hsz : (w.alloc (.cells #[.string s, .int .i64 0] 54)).heap.size = w.heap.size + 1 := by simp
  rw [hsz] at hI
  have hS : SR ((w.alloc (.cells #[.string s, .int .i64 0] 54)).alloc (.cells #[.pointer (some ⟨w.heap.size, 0, none⟩), .slice none 0 0, .int .i64 M, .int .i64 0] 56)) (w.heap.size + 1) w.heap.size none s 0 M [] 0 :=
    ⟨hFR.but (but_alloc _ _) (by simp), by omega, hs, hM, by simp; omega, .slice none 0 0, hI, World.ownsRow_nil _ _ _ _, rfl⟩
  have hB : But [] w ((w.alloc (.cells #[.string s, .int .i64 0] 54)).alloc (.cells #[.pointer (some ⟨w.heap.size, 0, none⟩), .slice none 0 0, .int .i64 M, .int .i64 0] 56)) := ((But.refl [] w).alloc _).alloc _
  have HR := Lib.hid hR
  have HR2 := Lib.hid hR2
  have HS := Lib.hid hS
  have HB := Lib.hid hB
  have HFE := Lib.hid hF
  have HFF : Hid (8 * s.size < F) := Lib.hid (by omega)
  clear hR hR2 hFR hI hsz hS hB hF
  go_enter Tryz.func18, Tryz.ntmps18
  go_upto_block 0 with (fail)
  generalize ((w.alloc (.cells #[.string s, .int .i64 0] 54)).alloc (.cells #[.pointer (some ⟨w.heap.size, 0, none⟩), .slice none 0 0, .int .i64 M, .int .i64 0] 56)) = w2 at *
  go_cut [] from 20 to 73 (fun wx => LeftI w2 (w.heap.size + 1) w.heap.size s M R wx)
  case first =>
    go_wp2_with fail
    go_loopg [8] F (fun f lv wr => ∃ (last q : Nat) (L : List UInt8) (og : Option Nat) (e1 : Int), lv = .int .i64 last ∧ Hid (SR wr (w.heap.size + 1) w.heap.size og s q M L e1) ∧ Hid (Mv (w.heap.size + 1) w.heap.size w2 wr none og) ∧ Hid (R = run e1 (nxt M F f last L) s q) ∧ Hid (e1 = 0 → 8 * s.size - q < f))
    case atStart => exact ⟨0, 0, [], none, 0, rfl, HS, Lib.hid (Mv.refl _ _ _ _), HR2, Lib.hid (fun _ => by have := HFF.out; omega)⟩
    case round =>
      obtain ⟨last, q, L, og, e1, rfl, HS1, HM1, HK1, HG1⟩ := hrel
      clear HS HR2
      have g3 := HS1.out.in3
      by_cases hend : last = 0 ∧ e1 = 0
      · obtain ⟨hl0, rfl⟩ := hend
        obtain ⟨f, rfl⟩ : ∃ f, gk = f + 1 := ⟨gk - 1, by have := HG1.out rfl; omega⟩
        have dl : ((last : Int) == 0) = true := by simp; omega
        have hk : R = run 0 (rBind (rBits 1) fun last => rBind (rBits 2) fun kind => rBind (blockR M F kind L) fun out' => nxt M F f last out') s q := by
          rw [HK1.out]; unfold nxt; rw [if_neg (by omega), blk_open]
        have hb1 := HS1.out.bits 1
        have HB1 := Lib.hid hb1
        have HK2 := Lib.hid hk
        have HGF : Hid (8 * s.size - q < f + 1) := Lib.hid (HG1.out (by trivial))
        clear hk hb1 HK1 HG1 hl0 HS1
        go_wp2_with fail
        refine HB1.out.mono ?_
        rintro e w3 ⟨v1, e2, q1, rfl, hS3, hM3, hr3, hv1, hq1, hz1⟩
        have hk3 := HK2.out.trans (run_bind hr3)
        have hst1 : e2 = 0 → q1 = q + 1 := fun e => by
          subst e
          exact rBits_step (n := 1) (s := s) (p := q) (x := v1) hr3
        have hb2 := hS3.bits 2
        have HB2 := Lib.hid hb2
        have HK3 := Lib.hid hk3
        have HM3 := Lib.hid (HM1.out.trans hM3)
        have HST1 := Lib.hid hst1
        clear hS3 hM3 hr3 hk3 hb2 hst1 HB1 HK2 HM1 g3
        go_wp2_with fail
        refine HB2.out.mono ?_
        rintro e w4 ⟨v2, e3, q2, rfl, hS4, hM4, hr4, hv2, hq2, hz2⟩
        have hk4 := HK3.out.trans (run_bind hr4)
        have HK4 := Lib.hid hk4
        have HM4 := Lib.hid (HM3.out.trans hM4)
        have HS4 := Lib.hid hS4
        have HZ2 := Lib.hid hz2
        have hv4 : v2 < 4 := hv2
        have g3 := hS4.in3
        clear hS4 hM4 hr4 hk4 hz2 hv2 HB2 HK3 HM3
        by_cases he3 : e3 = 0
        · subst he3
          have hq12 : q < q2 := by have := HST1.out (HZ2.out rfl); omega
          have hq8 := HS4.out.rs.1
          by_cases k0 : v2 = 0
          · have c0 : ((v2 : Int) == 0) = true := by simp; omega
            have hst := rstored_any HS4.out
            have HST := Lib.hid hst
            have HAF := Lib.hid (fun (e5 : Int) (L5 : List UInt8) (q5 : Nat) h => blk_after (e3 := e5) (L3 := L5) (q3 := q5) (q := q) HK4.out (by rw [(blk_kind M F v2 L).1 k0]; exact h) hq8 hq12 HGF.out)
            clear hst k0
            go_wp2_with fail
            refine HST.out.mono ?_
            rintro e w5 ⟨e5, L5, q5, og5, rfl, hS5, hM5, hr5⟩
            obtain ⟨r1, r2⟩ := HAF.out e5 L5 q5 hr5
            have R1 := Lib.hid r1
            have R2 := Lib.hid r2
            have HS5 := Lib.hid hS5
            have HM5 := Lib.hid (HM4.out.trans hM5)
            clear hS5 hM5 hr5 r1 r2 g3
            go_wp2
            go_roundg f
            case measure => omega
            case rel => exact ⟨v1, q5, L5, og5, e5, rfl, HS5, HM5, R1, R2⟩
          · have c0 : ((v2 : Int) == 0) = false := by simp; omega
            by_cases k1 : v2 = 1
            · have c1 : ((v2 : Int) == 1) = true := by simp; omega
              have HAF := Lib.hid (fun (e5 : Int) (L5 : List UInt8) (q5 : Nat) h => blk_after (e3 := e5) (L3 := L5) (q3 := q5) (q := q) HK4.out (by rw [(blk_kind M F v2 L).2.1 k1]; exact h) hq8 hq12 HGF.out)
              clear k1
              go_wp2_with fail
              refine (fixed_any w4).mono ?_
              rintro e w5 ⟨A1, A2, cc1, cc2, rfl, hI1, hI2, hB5, hz1', hz2'⟩
              have hS5 := HS4.out.but hB5 (by simp)
              have hL1 := kinds (b := w.heap.size + 1) (rb := w.heap.size) (og := og) (some A1) 288 cc1 rfl (by omega) hI1 (fun h => by have := HS4.out.foot _ h; omega)
              have hL2 := kinds (b := w.heap.size + 1) (rb := w.heap.size) (og := og) (some A2) 32 cc2 rfl (by omega) hI2 (fun h => by have := HS4.out.foot _ h; omega)
              have hsy := symbols_any hS5 (fun _ => hL1) (fun _ => hL2) F HFF.out
              have HSY := Lib.hid hsy
              have HM5 := Lib.hid (HM4.out.trans (Mv.of hB5 (by simp)))
              clear hI1 hI2 hB5 hz1' hz2' hS5 hL1 hL2 hsy g3
              go_wp2_with fail
              refine HSY.out.mono ?_
              rintro e w6 ⟨e5, L5, q5, og5, rfl, hS6, hM6, hr6⟩
              obtain ⟨r1, r2⟩ := HAF.out e5 L5 q5 hr6
              have R1 := Lib.hid r1
              have R2 := Lib.hid r2
              have HS6 := Lib.hid hS6
              have HM6 := Lib.hid (HM5.out.trans hM6)
              clear hS6 hM6 hr6 r1 r2
              go_wp2
              go_roundg f
              case measure => omega
              case rel => exact ⟨v1, q5, L5, og5, e5, rfl, HS6, HM6, R1, R2⟩
            · by_cases k2 : v2 = 2
              · have c1 : ((v2 : Int) == 1) = false := by simp; omega
                have c2 : ((v2 : Int) == 2) = true := by simp; omega
                have HAF := Lib.hid (fun (e5 : Int) (L5 : List UInt8) (q5 : Nat) (h : run 0 (dynR M F L) s q2 = run e5 (rPure L5) s q5) => blk_after (e3 := e5) (L3 := L5) (q3 := q5) (q := q) HK4.out (by rw [(blk_kind M F v2 L).2.2.1 k2]; exact h) hq8 hq12 HGF.out)
                have hln := lens_any HS4.out F HFF.out
                have HLN := Lib.hid hln
                clear hln k1 k2
                go_wp2_with fail
                refine HLN.out.mono ?_
                rintro e w5 ⟨A1, A2, n1, cc1, n2, cc2, l, d, e5, q5, rfl, hS5, hM5, hr5, hx5⟩
                have hrd : run 0 (dynR M F L) s q2 = run e5 (tablesR l d (symG l d M F L)) s q5 := by
                  rw [dynR_lens]; exact run_bind hr5
                have HRD := Lib.hid hrd
                have HM5 := Lib.hid (HM4.out.trans hM5)
                have HS5 := Lib.hid hS5
                have HX5 := Lib.hid hx5
                have g5 := hS5.in3
                clear hS5 hM5 hr5 hx5 hrd g3 HLN
                by_cases he5 : e5 = 0
                · subst he5
                  have hsy := symbols_any HS5.out (fun _ => (HX5.out (by trivial)).1) (fun _ => (HX5.out (by trivial)).2) F HFF.out
                  have HSY := Lib.hid hsy
                  clear hsy
                  go_wp2_with fail
                  refine HSY.out.mono ?_
                  rintro e w6 ⟨e6, L6, q6, og6, rfl, hS6, hM6, hr6⟩
                  obtain ⟨r1, r2⟩ := HAF.out e6 L6 q6 (HRD.out.trans hr6)
                  have R1 := Lib.hid r1
                  have R2 := Lib.hid r2
                  have HS6 := Lib.hid hS6
                  have HM6 := Lib.hid (HM5.out.trans hM6)
                  clear hS6 hM6 hr6 r1 r2 g5
                  go_wp2
                  go_roundg f
                  case measure => omega
                  case rel => exact ⟨v1, q6, L6, og6, e6, rfl, HS6, HM6, R1, R2⟩
                · have de5 : (e5 == 0) = false := by simpa using he5
                  obtain ⟨r1, r2⟩ := HAF.out e5 L q5 (by rw [HRD.out, run_off he5, run_off he5])
                  have R1 := Lib.hid r1
                  have R2 := Lib.hid r2
                  clear r1 r2 he5
                  go_wp2
                  go_roundg f
                  case measure => omega
                  case rel => exact ⟨v1, q5, L, og, e5, rfl, HS5, HM5, R1, R2⟩
              · have c1 : ((v2 : Int) == 1) = false := by simp; omega
                have c2 : ((v2 : Int) == 2) = false := by simp; omega
                have c3 : ((v2 : Int) == 3) = true := by simp; omega
                have hr13 : R = .error 13 := by
                  rw [HK4.out, run_on]
                  refine bind_err ?_
                  rw [(blk_kind M F v2 L).2.2.2 (by omega)]; rfl
                have R13 := Lib.hid hr13
                have f3 := HS4.out.free 3
                clear hr13
                go_wp2
                go_roundg f
                case measure => omega
                case rel => exact ⟨v1, q2, L, og, 13, rfl, Lib.hid (HS4.out.met 13).1, Lib.hid (HM4.out.trans (HS4.out.met 13).2), Lib.hid (by rw [R13.out]; rfl), Lib.hid (fun e => absurd e (by decide))⟩
        · have de : (e3 != 0) = true := by simpa using he3
          have HE3 := Lib.hid he3
          clear he3
          go_wp2
          go_meet
          exact ⟨e3, L, q2, og, HS4.out, HM4.out, by rw [HK4.out, run_off HE3.out, run_off HE3.out]⟩
      · have HLE : Hid (R = run e1 (rPure L) s q) := Lib.hid (by
          rw [HK1.out]
          by_cases e : e1 = 0
          · unfold nxt; rw [if_pos (fun h => hend ⟨h, e⟩)]
          · rw [run_off e, run_off e])
        by_cases hl0 : last = 0
        · have dl : ((last : Int) == 0) = true := by simp; omega
          have de : (e1 == 0) = false := by
            rw [beq_eq_false_iff_ne]; exact fun h => hend ⟨hl0, h⟩
          clear hend hl0
          go_wp2
          go_meet
          exact ⟨e1, L, q, og, HS1.out, HM1.out, HLE.out⟩
        · have dl : ((last : Int) == 0) = false := by simp; omega
          clear hend hl0
          go_wp2
          go_meet
          exact ⟨e1, L, q, og, HS1.out, HM1.out, HLE.out⟩
  case rest =>
  obtain ⟨er, L, q, og, hS, hM, hR⟩ := hcut
  have hBf := HB.out.fresh hM.but (fun i hi => by
    unfold Foot at hi
    simp at hi
    omega)
  obtain ⟨w3, rfl⟩ : ∃ w3 : World, w3 = wc := ⟨_, rfl⟩
  have HBF := Lib.hid hBf
  have HRR := Lib.hid hR
  have g3 := hS.in3
  clear hM hBf hR HS HB HR2
  by_cases her : er = 0
  · subst her
    obtain ⟨A, c, hi, hown, _⟩ := hS.at
    have k0 : w3.cell? ⟨w.heap.size + 1, 0, none⟩ = some (.pointer (some ⟨w.heap.size, 0, none⟩)) := hi.cell 0
    have k1 : w3.cell? ⟨w.heap.size + 1, 1, none⟩ = some (.slice A L.length c) := hi.cell 1
    have k2 : w3.cell? ⟨w.heap.size, 1, none⟩ = some (.int .i64 q) := hS.rs.2.cell 1
    have hcv : ∀ n, (convert 40 9 (.slice A L.length c)).run Tryz.prog (w3.drewN n) = .ok (.string ⟨L.toArray⟩) (w3.drewN n) := fun n => own_text (ownsRow_but hown ((But.refl [] w3).drewN n) (by simp))
    have hcv0 := hcv 0
    have hq8 := hS.rs.1
    obtain ⟨y, hy⟩ : ∃ y, y = q + 7 := ⟨_, rfl⟩
    obtain ⟨z, hz⟩ : ∃ z, z = y / 8 := ⟨_, rfl⟩
    have a1 : (q : Int) + 7 = (y : Int) := by omega
    have a2 : IntKind.i64.wrap (y : Int) = (y : Int) := IntWalk.i64_in _ (by omega)
    have a3 : (y : Int) / 8 = (z : Int) := by omega
    have a4 : IntKind.i64.wrap (z : Int) = (z : Int) := IntWalk.i64_in _ (by omega)
    have hok : inflT s M = (L, z, 0) := by
      rw [inflT_ok (a := L) (q := q) (by rw [← HR.out, HRR.out]; rfl), hz, hy]
    have HOK := Lib.hid hok
    clear hS hi hown hy hz hq8 hok HRR
    go_wp2
    go_quiet (fail)
    go_wp2
    go_ret3
    exact ⟨by rw [HOK.out]; rfl, HBF.out.drewN nq⟩
  · have d2 : (er != 0) = true := by simpa using her
    have herr : inflT s M = ([], 0, er) := inflT_err (by rw [← HR.out, HRR.out, run_off her])
    have HER := Lib.hid herr
    clear her herr HRR hS
    go_wp2
    go_quiet (fail)
    go_wp2
    go_ret3
    exact ⟨by rw [HER.out]; rfl, HBF.out.drewN nq⟩
end
end Go.Proofs.YtghegmbafbpnjaaGreatDoor
