/- The document's lengths of a dynamic block. -/
import Derived.Test.YtobmghjpfkdooaaDoorRfG
import Derived.Test.YtobmghjpfkdooaaDoorDyT
import Derived.Deep.CutBlock
import Derived.Deep.CutRange
set_option maxRecDepth 100000
set_option linter.unusedVariables false
namespace Go.Proofs.YtobmghjpfkdooaaDoor
set_option maxRecDepth 100000
open Go Go.RowKit
section
variable {w w' w1 : World} {b rb : Nat} {og : Option Nat} {s : ByteArray} {p q : Nat} {M er : Int} {L : List UInt8}
set_option maxHeartbeats 2000000 in
theorem lens_any (h : SR w b rb og s p M L er) (F : Nat) (hF : 8 * s.size < F) :
    Calls Tryd.prog 16 #[.pointer (some ⟨b, 0, none⟩)] w (GotRL w b rb og s p M L er F) := by
  obtain ⟨R, hR⟩ : ∃ R, R = run er (lensR F) s p := ⟨_, rfl⟩
  obtain ⟨i0, hi0, hz0, hz1, hz2⟩ := info_parts info_int
  have hb1 := h.bits 5
  have hft := h.foot
  have HFT := Lib.hid hft
  have HB1 := Lib.hid hb1
  have HR := Lib.hid hR
  have HF := Lib.hid hF
  clear hb1 hR hF hft h
  go_enter Tryd.func16, Tryd.ntmps16
  go_wp2_with fail
  refine HB1.out.mono ?_
  rintro e w1 ⟨a, er1, q1, rfl, hS1, hM1, hr1, ha, hq1, hz1'⟩
  have hk1 := HR.out.trans (run_bind hr1)
  have hb2 := hS1.bits 5
  have HB2 := Lib.hid hb2
  have HK1 := Lib.hid hk1
  have HM1 := Lib.hid hM1
  clear hS1 hM1 hr1 hz1' hk1 hb2 HB1
  go_wp2_with fail
  refine HB2.out.mono ?_
  rintro e w2 ⟨c, er2, q2, rfl, hS2, hM2, hr2, hc, hq2, hz2'⟩
  have hk2 := HK1.out.trans (run_bind hr2)
  have hb3 := hS2.bits 4
  have HB3 := Lib.hid hb3
  have HK2 := Lib.hid hk2
  have HM2 := Lib.hid (HM1.out.trans hM2)
  clear hS2 hM2 hr2 hz2' hk2 hb3 HB2 HM1 HK1
  go_wp2_with fail
  refine HB3.out.mono ?_
  rintro e w3 ⟨t0, er3, q3, rfl, hS3, hM3, hr3, ht0, hq3, hz3'⟩
  have hk3 := HK2.out.trans (run_bind hr3)
  have HK3 := Lib.hid hk3
  have HM3 := Lib.hid (HM2.out.trans hM3)
  have HS3 := Lib.hid hS3
  clear hS3 hM3 hr3 hz3' hk3 HB3 HM2 HK2
  have ha2 : a < 32 := ha
  have hc2 : c < 32 := hc
  have ht2 : t0 < 16 := ht0
  obtain ⟨m, hm⟩ : ∃ m, m = a + 257 := ⟨_, rfl⟩
  obtain ⟨fr, hfr⟩ : ∃ fr, fr = c + 1 := ⟨_, rfl⟩
  obtain ⟨told, htold⟩ : ∃ told, told = t0 + 4 := ⟨_, rfl⟩
  have ea : (a : Int) + 257 = (m : Int) := by omega
  have ec : (c : Int) + 1 = (fr : Int) := by omega
  have et : (t0 : Int) + 4 = (told : Int) := by omega
  have hmb : 257 ≤ m ∧ m ≤ 288 := by omega
  have hfb : 1 ≤ fr ∧ fr ≤ 32 := by omega
  have htb : told ≤ 19 := by omega
  have hk4 : R = run er3 (rBind (smallG (ordS.take told) (List.replicate 19 0)) fun small => lenK m (m + fr) F small) s q3 := by
    rw [HK3.out, hm, hfr, htold]
  have HK4 := Lib.hid hk4
  clear ha hc ht0 hm hfr htold hk4 HK3 ha2 hc2 ht2
  have hmk := make19
  have HRW : Hid (Row (w3.alloc (.cells zero19 3)) w3.heap.size 3 (List.replicate 19 0)) := Lib.hid (Is.fresh w3 _ _)
  have HS4 := Lib.hid (HS3.out.alloc (.cells zero19 3))
  have HM4 := Lib.hid (HM3.out.trans (Mv.alloc (.cells zero19 3)))
  have hw3 := HM3.out.but.size
  clear HS3 HM3
  go_wp2
  go_loopw [8] (fun iv wr => ∃ (k q : Nat) (acc : List Int) (e1 : Int), k ≤ told ∧ iv = .int .i64 k ∧ Hid (acc.length = 19) ∧ Hid (R = run e1 (rBind (smallG ((ordS.take told).drop k) acc) fun small => lenK m (m + fr) F small) s q) ∧ Hid (SR wr b rb og s q M L e1) ∧ Hid (Mv b rb w wr og og) ∧ Hid (Row wr w3.heap.size 3 acc)) (fun iv _ => told - (intOf iv).toNat)
  case atStart => exact ⟨0, q3, List.replicate 19 0, er3, Nat.zero_le _, rfl, Lib.hid (by decide), HK4, HS4, HM4, HRW⟩
  case round =>
    obtain ⟨k, q, acc, e1, hk, rfl, HAL, HK, HS, HM, HRO⟩ := hrel
    clear HK4 HS4 HM4 HRW
    have hsz := HM.out.but.size
    have hf3 : w3.heap.size ∉ Foot b rb og := fun h => by have := HFT.out _ h; omega
    have HF3 := Lib.hid hf3
    have HRS := Lib.hid (Is.lt HRO.out)
    clear hf3
    by_cases hlt : k < told
    · have hds := ordS_drop hlt htb
      have hol := ordS_lt (i := k) (by omega)
      have hoc : ∀ wO : World, wO = wr.drew.alloc (.cells ordCells 3) → wO.cell? ⟨wr.heap.size, k, none⟩ = some (.int .i64 (ordS.getD k 0 : Nat)) := fun wO h => by
        subst h; exact ordc_at (w := wr.drew) (k := k) (by omega)
      obtain ⟨oi, hoi⟩ : ∃ oi, oi = ordS.getD k 0 := ⟨_, rfl⟩
      rw [← hoi] at hds hol hoc
      have HDS := Lib.hid hds
      have HOC := Lib.hid hoc
      have HKC := HK
      have HFW : Hid (wr.heap.size ∉ Foot b rb og) := Lib.hid (fun h => by have := HS.out.foot _ h; omega)
      clear hds hoi hoc
      have b0 : (0 : Int) ≤ (oi : Int) := by omega
      have b1 : (oi : Int) < 19 := by omega
      have b2 : (0 : Int) ≤ (k : Int) := by omega
      have b3 : (k : Int) < 19 := by omega
      go_upto_region 8 with (fail)
      go_region_with (first | (go_at_call 26; go_loud (refine (order_any _).mono ?_; rintro e wO ⟨rfl, hwO⟩; have HWO := Lib.hid hwO; have o0 := HOC.out wO hwO; clear hwO)) | (go_at_call 12; refine (SR.bits (w := wO) (by rw [HWO.out]; exact HS.out.drew.alloc (.cells ordCells 3)) 3).mono ?_; rintro e w5 ⟨v, e2, q2, rfl, hS5, hM5, hr5, hv, _, _⟩; have o1 : w5.cell? ⟨wr.heap.size, k, none⟩ = some (.int .i64 (oi : Nat)) := hM5.but.cell o0 HFW.out; have hRo5 : Row w5 w3.heap.size 3 acc := (show Row wO w3.heap.size 3 acc by rw [HWO.out]; exact HRO.out.but (((But.refl [] wr).drew).alloc _) (by simp)).but hM5.but HF3.out; have c1 : w5.cell? ⟨w3.heap.size, oi, none⟩ = some (.int .i64 (acc.getD oi 0)) := hRo5.at (by have := HAL.out; omega); have f1 : w5.frozen? ⟨w3.heap.size, oi, none⟩ = false := Is.free hRo5 oi; have HS5 := Lib.hid hS5; have HM5 := Lib.hid ((show Mv b rb w wO og og by rw [HWO.out]; exact HM.out.trans ((Mv.drew).trans (Mv.alloc (.cells ordCells 3)))).trans hM5); have HR5 := Lib.hid hr5; have HRO5 := Lib.hid hRo5; clear hS5 hM5 hr5 hv hRo5))
      all_goals
        go_wp2
        go_roundw
        case rel =>
          have HK2 := Lib.hid (show R = run e2 (rBind (smallG ((ordS.take told).drop (k + 1)) (acc.set oi (v : Int))) fun small => lenK m (m + fr) F small) s q2 by
            rw [HKC.out, HDS.out, small_cons]
            exact run_bind HR5.out)
          exact ⟨k + 1, q2, acc.set oi (v : Int), e2, by omega, by go_num, Lib.hid (by rw [List.length_set]; exact HAL.out), HK2, Lib.hid (HS5.out.away ((But.refl [w3.heap.size] w5).setCell (.inl (by simp)) _) (fun x hx => by
            obtain rfl : x = w3.heap.size := by simpa using hx
            exact HF3.out)), Lib.hid ⟨HM5.out.but.setCell (.inr hw3) _, HM5.out.own⟩, Lib.hid (HRO5.out.set oi (v : Int))⟩
        case measure => simp [intOf]; omega
    · have hK2 : R = run e1 (lenK m (m + fr) F acc) s q := by
        rw [HK.out, List.drop_of_length_le (by rw [List.length_take]; omega)]
        exact congrArg (fun z => run e1 z s q) (pure_bind' acc _)
      have HK2 := Lib.hid hK2
      clear hK2 HK
      have htb2 := HS.out.table (A := some ⟨w3.heap.size, 0, none⟩) (n := 19) (c := 19) (l := acc) (fun _ => by
        have h := HRO.out.ints
        rw [HAL.out] at h
        exact ⟨h, by omega, fun e => by cases e⟩)
      have HTB := Lib.hid htb2
      clear htb2
      go_wp2_with fail
      refine HTB.out.mono ?_
      rintro e w5 ⟨x, e5, rfl, hS5, hM5, hr5, hx5⟩
      have hk5 : R = run e5 (rBind (lenG acc (m + fr) F []) fun ls => rPure (cutL m ls)) s q := by
        rw [HK2.out]; unfold lenK; exact hr5 _ _
      have HK5 : Hid (R = run e5 (rBind (lenG acc (m + fr) F []) fun ls => rPure (cutL m ls)) s q) := Lib.hid hk5
      have HS5 := Lib.hid hS5
      have HM5 := Lib.hid (HM.out.trans hM5)
      have HX5 : Hid (e5 = 0 → HasRT b rb og w5 x acc) := Lib.hid (fun e => (hx5 e).2)
      have HFT5 : Hid (∀ k ∈ Foot b rb og, k < w5.heap.size) := Lib.hid (fun k hk => HS5.out.foot k hk)
      clear hk5 hS5 hM5 hr5 hx5 HTB HK2 HM HS HRO
      go_wp2
      go_loopg [10] F (fun f v wr => ∃ (ls : List Int) (q : Nat) (e2 : Int), Hid (OwnI wr w5.heap.size v ls) ∧ Hid (SR wr b rb og s q M L e2) ∧ Hid (Mv b rb w5 wr og og) ∧ Hid (e2 = 0 → e5 = 0) ∧ Hid (R = run e2 (rBind (lenG acc (m + fr) f ls) fun l => rPure (cutL m l)) s q) ∧ ls.length ≤ m + fr ∧ Hid (e2 = 0 → 8 * s.size - q < f))
      case atStart => exact ⟨[], q, e5, Lib.hid (OwnI.nil _ _), HS5, Lib.hid (Mv.refl _ _ _ _), Lib.hid (fun e => e), HK5, Nat.zero_le _, Lib.hid (fun _ => by have := HF.out; omega)⟩
      case round =>
        obtain ⟨ls, q, e2, HO, HS, HM, HX, HK, hll, HG⟩ := hrel
        clear HS5 HK5
        obtain ⟨wo, rfl⟩ : ∃ wo : World, wo = wr := ⟨_, rfl⟩
        obtain ⟨A, cA, rfl, hI⟩ := HO.out.open
        clear hI
        have g3 := HS.out.in3
        by_cases he2 : e2 = 0
        · subst he2
          obtain ⟨f, rfl⟩ : ∃ f, gk = f + 1 := ⟨gk - 1, by have := HG.out rfl; omega⟩
          by_cases hlt : ls.length < m + fr
          · have d1 : decide ((ls.length : Int) < (m : Int) + (fr : Int)) = true := by simp; omega
            have d2 : decide (ls.length < m + fr) = true := by simpa using hlt
            have hnx := HS.out.next (x := x) (l := acc) (fun e => (HX5.out (HX.out (by trivial))).mv HM.out)
            have HNX := Lib.hid hnx
            have hkn : R = run 0 (rBind (rNext acc) fun t => rBind (sw t ls) fun y => rBind (rWhen (m + fr < ls.length + y.2) 12 (lenG acc (m + fr) f (ls ++ List.replicate y.2 y.1))) fun l => rPure (cutL m l)) s q := by
              rw [HK.out, lenG_sw hlt, bind_assoc]
              simp only [bind_assoc]
            have HKN := Lib.hid hkn
            clear hnx hkn HK
            go_wp2_with fail
            refine HNX.out.mono ?_
            rintro e w6 ⟨t, e3, q6, rfl, hS6, hM6, hr6, hp6⟩
            clear g3
            have HS6 := Lib.hid hS6
            have HM6 := Lib.hid (HM.out.trans hM6)
            have HO6 := Lib.hid (HO.out.but hM6.but (own_free HO.out HFT5.out))
            have HX6 : Hid (e3 = 0 → e5 = 0) := Lib.hid (fun e => HX.out (by trivial))
            have HKN2 : Hid (R = run e3 (rBind (sw t ls) fun y => rBind (rWhen (m + fr < ls.length + y.2) 12 (lenG acc (m + fr) f (ls ++ List.replicate y.2 y.1))) fun l => rPure (cutL m l)) s q6) := Lib.hid (HKN.out.trans (run_bind hr6))
            have HP6 : Hid (e3 = 0 → q < q6) := Lib.hid (fun e => (hp6 e).2)
            have HGG : Hid (8 * s.size - q < f + 1) := Lib.hid (HG.out (by trivial))
            clear hS6 hM6 hr6 hp6 HKN HNX HO HS HM HX HG
            have hl0 : ls.length ≤ 320 := by omega
            have hsz6 := HM6.out.but.size
            go_upto_block 4 with (fail)
            go_cut [12, 13] from 57 to 97 (fun vv nv wx => ∃ (y : Int) (k2 q7 : Nat) (e4 : Int), vv = .int .i64 y ∧ nv = .int .i64 k2 ∧ (1 ≤ k2 ∧ k2 ≤ 200) ∧ Hid (SR wx b rb og s q7 M L e4) ∧ Hid (Mv b rb w5 wx og og) ∧ Hid (OwnI wx w5.heap.size (.slice A ls.length cA) ls) ∧ Hid (e3 = 0 → e5 = 0) ∧ Hid (run e3 (sw t ls) s q6 = run e4 (rPure (y, k2)) s q7) ∧ Hid (e4 = 0 → e3 = 0 ∧ q6 ≤ q7))
            case first =>
              by_cases ht16 : t < 16
              · have d16 : decide ((t : Int) < 16) = true := by simp; omega
                have hsw : run e3 (sw t ls) s q6 = run e3 (rPure ((t : Int), 1)) s q6 := by unfold sw; rw [if_pos ht16]
                have HSW := Lib.hid hsw
                clear hsw ht16
                go_wp2
                go_meet
                exact ⟨(t : Int), 1, q6, e3, rfl, rfl, ⟨by omega, by omega⟩, HS6, HM6, HO6, HX6, HSW, Lib.hid (fun e => ⟨e, Nat.le_refl _⟩)⟩
              · have d16 : decide ((t : Int) < 16) = false := by simp; omega
                have g3 := HS6.out.in3
                by_cases h16 : t = 16
                · have e16 : ((t : Int) == 16) = true := by simp; omega
                  by_cases hbad : e3 = 0 ∧ ls.length = 0
                  · obtain ⟨rfl, hl00⟩ := hbad
                    have hR12 : R = .error 12 := by
                      rw [HKN2.out, run_on]
                      refine bind_err ?_
                      unfold sw
                      rw [if_neg ht16, if_pos h16, when_yes hl00]
                    have HR12 := Lib.hid hR12
                    have f3 := HS6.out.free 3
                    have dl : ((ls.length : Int) == 0) = true := by rw [hl00]; rfl
                    clear hR12 h16 ht16
                    go_wp2
                    go_ret2
                    exact ⟨none, none, 0, 0, 0, 0, [], [], 12, q6, rfl, (HS6.out.met 12).1, (HM5.out.trans HM6.out).trans (HS6.out.met 12).2, by rw [← HR.out, HR12.out]; rfl, fun e => absurd e (by decide)⟩
                  · obtain ⟨y, hy⟩ : ∃ y : Int, y = if 0 < ls.length then ls.getD (ls.length - 1) 0 else 0 := ⟨_, rfl⟩
                    have hbt := HS6.out.bits 2
                    have HBT := Lib.hid hbt
                    have hsw : e3 = 0 → sw t ls = rBind (rBits 2) fun x => rPure (y, 3 + x) := fun e => by
                      have hl : ¬ ls.length = 0 := fun h => hbad ⟨e, h⟩
                      unfold sw; rw [if_neg ht16, if_pos h16, hy, if_pos (by omega)]
                      funext s p
                      exact when_not hl
                    have HSW := Lib.hid hsw
                    have HY := Lib.hid hy
                    clear hbt hsw hy h16 ht16
                    have hfin : ∀ (w7 : World) (v : Nat) (e4 : Int) (q7 : Nat), SR w7 b rb og s q7 M L e4 → Mv b rb w6 w7 og og → run e3 (rBits 2) s q6 = run e4 (rPure v) s q7 → v < 4 → q6 ≤ q7 → (e4 = 0 → e3 = 0) →
                        Hid (SR w7 b rb og s q7 M L e4) ∧ Hid (Mv b rb w5 w7 og og) ∧ Hid (OwnI w7 w5.heap.size (.slice A ls.length cA) ls) ∧ Hid (e3 = 0 → e5 = 0) ∧ Hid (run e3 (sw t ls) s q6 = run e4 (rPure (y, 3 + v)) s q7) ∧ Hid (e4 = 0 → e3 = 0 ∧ q6 ≤ q7) := fun w7 v e4 q7 hS7 hM7 hr7 _ hq7 hz7 =>
                      ⟨Lib.hid hS7, Lib.hid (HM6.out.trans hM7), Lib.hid (HO6.out.but hM7.but (own_free HO6.out HFT5.out)), HX6, Lib.hid (by
                        by_cases e : e3 = 0
                        · rw [HSW.out e]; exact run_bind hr7
                        · rw [run_off e]
                          rw [run_off e] at hr7
                          by_cases e' : e4 = 0
                          · exact absurd (hz7 e') e
                          · rw [run_off e'] at hr7 ⊢
                            injection hr7 with hr7
                            rw [hr7]), Lib.hid (fun e => ⟨hz7 e, hq7⟩)⟩
                    have HFIN := Lib.hid hfin
                    clear hfin
                    by_cases hpos : 0 < ls.length
                    · have hlz : ((ls.length : Int) == 0) = false := by rw [beq_eq_false_iff_ne]; omega
                      have hls : ls.length ≠ 0 := by omega
                      have dp : decide ((0 : Int) < (ls.length : Int)) = true := decide_eq_true (by omega)
                      obtain ⟨i, hi⟩ : ∃ i, i = ls.length - 1 := ⟨_, rfl⟩
                      have hyy : y = ls.getD i 0 := by rw [HY.out, if_pos hpos, hi]
                      obtain ⟨gA, oA, eA, hgA, hcell⟩ := (HO6.out.ints_of rfl).at (i := i) (by omega)
                      subst eA
                      have hcell2 : w6.cell? ⟨gA, oA + i, none⟩ = some (.int .i64 y) := by
                        rw [hcell, hyy, List.getD_eq_getElem?_getD, List.getElem?_eq_getElem (by omega)]; rfl
                      have ei : (ls.length : Int) - 1 = (i : Int) := by omega
                      have b0 : (0 : Int) ≤ (i : Int) := by omega
                      have b1 : (i : Int) < (ls.length : Int) := by omega
                      clear hcell hyy hi hbad
                      by_cases he3 : e3 = 0
                      · have d3 : (e3 == 0) = true := by simp [he3]
                        clear he3
                        go_wp2_with fail
                        refine HBT.out.mono ?_
                        rintro e w7 ⟨v, e4, q7, rfl, hS7, hM7, hr7, hv, hq7, hz7⟩
                        have hv2 : v < 4 := hv
                        obtain ⟨F1, F2, F3, F4, F5, F6⟩ := HFIN.out w7 v e4 q7 hS7 hM7 hr7 hv hq7 hz7
                        clear hS7 hM7 hr7 hv hq7 hz7 hcell2
                        go_wp2
                        go_meet
                        exact ⟨y, 3 + v, q7, e4, rfl, by go_num, ⟨by omega, by omega⟩, F1, F2, F3, F4, F5, F6⟩
                      · have d3 : (e3 == 0) = false := by simpa using he3
                        clear he3
                        go_wp2_with fail
                        refine HBT.out.mono ?_
                        rintro e w7 ⟨v, e4, q7, rfl, hS7, hM7, hr7, hv, hq7, hz7⟩
                        have hv2 : v < 4 := hv
                        obtain ⟨F1, F2, F3, F4, F5, F6⟩ := HFIN.out w7 v e4 q7 hS7 hM7 hr7 hv hq7 hz7
                        clear hS7 hM7 hr7 hv hq7 hz7 hcell2
                        go_wp2
                        go_meet
                        exact ⟨y, 3 + v, q7, e4, rfl, by go_num, ⟨by omega, by omega⟩, F1, F2, F3, F4, F5, F6⟩
                    · have hl00 : ls.length = 0 := by omega
                      have he3 : e3 ≠ 0 := fun e => hbad ⟨e, hl00⟩
                      have d3 : (e3 == 0) = false := by simpa using he3
                      have dp : decide ((0 : Int) < (ls.length : Int)) = false := decide_eq_false (by omega)
                      have dp2 : decide (0 < ls.length) = false := decide_eq_false (by omega)
                      have dp3 : ¬ (0 : Int) < (ls.length : Int) := by omega
                      have hyy : y = 0 := by rw [HY.out, if_neg hpos]
                      have HYY := Lib.hid hyy
                      clear hyy he3 hbad hl00
                      go_wp2_with fail
                      refine HBT.out.mono ?_
                      rintro e w7 ⟨v, e4, q7, rfl, hS7, hM7, hr7, hv, hq7, hz7⟩
                      have hv2 : v < 4 := hv
                      obtain ⟨F1, F2, F3, F4, F5, F6⟩ := HFIN.out w7 v e4 q7 hS7 hM7 hr7 hv hq7 hz7
                      clear hS7 hM7 hr7 hv hq7 hz7
                      go_wp2
                      go_meet
                      exact ⟨y, 3 + v, q7, e4, by rw [HYY.out], by go_num, ⟨by omega, by omega⟩, F1, F2, F3, F4, F5, F6⟩
                · have e16 : ((t : Int) == 16) = false := by simp; omega
                  by_cases h17 : t = 17
                  · have e17 : ((t : Int) == 17) = true := by simp; omega
                    have hbt := HS6.out.bits 3
                    have HBT := Lib.hid hbt
                    have hsw : sw t ls = rBind (rBits 3) fun x => rPure ((0 : Int), 3 + x) := by unfold sw; rw [if_neg ht16, if_neg h16, if_pos h17]
                    have HSW := Lib.hid hsw
                    clear hbt hsw h17 h16 ht16
                    go_wp2_with fail
                    refine HBT.out.mono ?_
                    rintro e w7 ⟨v, e4, q7, rfl, hS7, hM7, hr7, hv, hq7, hz7⟩
                    have hv2 : v < 8 := hv
                    have HS7 := Lib.hid hS7
                    have HM7 := Lib.hid (HM6.out.trans hM7)
                    have HO7 := Lib.hid (HO6.out.but hM7.but (own_free HO6.out HFT5.out))
                    have HX7 : Hid (e3 = 0 → e5 = 0) := HX6
                    have HR7 : Hid (run e3 (sw t ls) s q6 = run e4 (rPure ((0 : Int), 3 + v)) s q7) := Lib.hid (by rw [HSW.out]; exact run_bind hr7)
                    have HZ7 : Hid (e4 = 0 → e3 = 0 ∧ q6 ≤ q7) := Lib.hid (fun e => ⟨hz7 e, hq7⟩)
                    clear hS7 hM7 hr7 hv hq7 hz7
                    go_wp2
                    go_meet
                    exact ⟨0, 3 + v, q7, e4, rfl, by go_num, ⟨by omega, by omega⟩, HS7, HM7, HO7, HX7, HR7, HZ7⟩
                  · have e17 : ((t : Int) == 17) = false := by simp; omega
                    have hbt := HS6.out.bits 7
                    have HBT := Lib.hid hbt
                    have hsw : sw t ls = rBind (rBits 7) fun x => rPure ((0 : Int), 11 + x) := by unfold sw; rw [if_neg ht16, if_neg h16, if_neg h17]
                    have HSW := Lib.hid hsw
                    clear hbt hsw h17 h16 ht16
                    go_wp2_with fail
                    refine HBT.out.mono ?_
                    rintro e w7 ⟨v, e4, q7, rfl, hS7, hM7, hr7, hv, hq7, hz7⟩
                    have hv2 : v < 128 := hv
                    have HS7 := Lib.hid hS7
                    have HM7 := Lib.hid (HM6.out.trans hM7)
                    have HO7 := Lib.hid (HO6.out.but hM7.but (own_free HO6.out HFT5.out))
                    have HX7 : Hid (e3 = 0 → e5 = 0) := HX6
                    have HR7 : Hid (run e3 (sw t ls) s q6 = run e4 (rPure ((0 : Int), 11 + v)) s q7) := Lib.hid (by rw [HSW.out]; exact run_bind hr7)
                    have HZ7 : Hid (e4 = 0 → e3 = 0 ∧ q6 ≤ q7) := Lib.hid (fun e => ⟨hz7 e, hq7⟩)
                    clear hS7 hM7 hr7 hv hq7 hz7
                    go_wp2
                    go_meet
                    exact ⟨0, 11 + v, q7, e4, rfl, by go_num, ⟨by omega, by omega⟩, HS7, HM7, HO7, HX7, HR7, HZ7⟩
            case rest =>
              obtain ⟨y, k2, q7, e4, rfl, rfl, hk2, HS7, HM7, HO7, HX7, HR7, HZ7⟩ := hcut
              obtain ⟨hka, hkb⟩ := hk2
              obtain ⟨w7, rfl⟩ : ∃ w7 : World, w7 = wc := ⟨_, rfl⟩
              have HK7 : Hid (R = run e4 (rBind (rWhen (m + fr < ls.length + k2) 12 (lenG acc (m + fr) f (ls ++ List.replicate k2 y))) fun l => rPure (cutL m l)) s q7) := Lib.hid (by
                rw [HKN2.out]; exact run_bind HR7.out)
              have hsz7 := HM7.out.but.size
              have HQ8 := Lib.hid HS7.out.rs.1
              have g3 := HS7.out.in3
              clear HS6 HM6 HO6 HX6 HKN2 HR7
              by_cases he4 : e4 = 0
              · subst he4
                by_cases hov : m + fr < ls.length + k2
                · have dov : decide ((m : Int) + (fr : Int) < (ls.length : Int) + (k2 : Int)) = true := decide_eq_true (by omega)
                  have hR12 : R = .error 12 := by
                    rw [HK7.out, when_bind]
                    exact when_yes hov
                  have HR12 := Lib.hid hR12
                  have f3 := HS7.out.free 3
                  clear hov hR12
                  have hSm := HS7.out.met 12
                  have HS8 := Lib.hid hSm.1
                  have HM8 := Lib.hid (HM7.out.trans hSm.2)
                  have HO8 := Lib.hid (HO7.out.but hSm.2.but (own_free HO7.out HFT5.out))
                  have dz : ((12 : Int) == 0) = false := rfl
                  clear hSm
                  go_wp2
                  clear g3 f3
                  generalize w7.setCell ⟨b, 3, none⟩ (.int .i64 12) = w8 at *
                  have g3 := HS8.out.in3
                  go_loopw [10, 14] (fun v iv wr => v = .slice A ls.length cA ∧ iv = .int .i64 0 ∧ w8 = wr) (fun _ _ _ => 0)
                  case atStart => exact ⟨rfl, rfl, rfl⟩
                  case round =>
                    obtain ⟨rfl, rfl, rfl⟩ := hrel
                    go_wp2
                    go_roundg f
                    case measure => omega
                    case rel => exact ⟨ls, q7, 12, HO8, HS8, HM8, Lib.hid (fun e => absurd e (by decide)), Lib.hid (by rw [HR12.out, run_off (by decide)]), hll, Lib.hid (fun e => absurd e (by decide))⟩
                · have dov : decide ((m : Int) + (fr : Int) < (ls.length : Int) + (k2 : Int)) = false := decide_eq_false (by omega)
                  have hk8 : R = run 0 (rBind (lenG acc (m + fr) f (ls ++ List.replicate k2 y)) fun l => rPure (cutL m l)) s q7 := by
                    rw [HK7.out, when_bind, run_on, run_on]; exact when_not hov
                  have HK8 := Lib.hid hk8
                  have hov2 : ls.length + k2 ≤ m + fr := by omega
                  clear hov hk8 HK7
                  go_wp2
                  go_loopw [10, 14] (fun v iv wr => ∃ (j : Nat) (l1 : List Int), j ≤ k2 ∧ iv = .int .i64 j ∧ l1.length = ls.length + j ∧ Hid (l1 = ls ++ List.replicate j y) ∧ Hid (OwnI wr w5.heap.size v l1) ∧ Hid (SR wr b rb og s q7 M L 0) ∧ Hid (Mv b rb w5 wr og og)) (fun _ iv _ => k2 - (intOf iv).toNat)
                  case atStart => exact ⟨0, ls, Nat.zero_le _, rfl, rfl, Lib.hid (by simp), HO7, HS7, HM7⟩
                  case round =>
                    obtain ⟨j, l1, hj, rfl, hl1, HL1, HO9, HS9, HM9⟩ := hrel
                    clear g3 HS7 HM7 HO7
                    have g3 := HS9.out.in3
                    by_cases hjl : j < k2
                    · obtain ⟨A9, c9, rfl, hI9⟩ := HO9.out.open
                      clear hI9
                      have hsz9 := HM9.out.but.size
                      have hox := HO9.out
                      unfold OwnI at hox
                      obtain ⟨la, hla⟩ : ∃ la, la = l1.length := ⟨_, rfl⟩
                      rw [← hla] at hox hl1 HO9 ⊢
                      have HLA := Lib.hid hla
                      have HOX := Lib.hid hox
                      have hlab : la ≤ 320 := by omega
                      have HL2 := Lib.hid hl1
                      clear hox hla hl1
                      go_wp2_with (at_builtin; go_loud (refine wpList_append_own _ rfl _ _ 48 rfl w5.heap.size 3 i0 (.int .i64 0) 1 8 Tryd.underlying48 hi0 hz0 hz1 hz2 rfl (by decide) (.slice A9 la c9) la (l1.map (.int .i64)) rfl (HOX.out.alloc _) ⟨wr.heap.size, 0, none⟩ 1 1 [.int .i64 y] rfl rfl ?c1 ?c2 ?c3 ?c4 ?c5 ?_))
                      case c1 => exact World.news_of_block (cs := #[.int .i64 y]) (t := 3) (fr := (0, 0)) (heap_alloc_new wr _)
                      case c2 => simp [Value.oneCell']
                      case c3 => unfold maxLen; omega
                      case c4 => omega
                      case c5 => simp; omega
                      intro v' w9 hown hgrow _
                      have hO10 : OwnI w9 w5.heap.size v' (l1 ++ [y]) := by
                        unfold OwnI
                        rw [List.length_append, ← HLA.out, List.map_append]
                        exact hown
                      have hb10 := (HM9.out.but.alloc (.cells #[.int .i64 y] 3)).grown hgrow (fun g e => .inr (World.ownsRow.lt HOX.out g e).1)
                      have hbw := ((But.refl [] wr).alloc (.cells #[.int .i64 y] 3)).more (T := (Value.slice A9 la c9).ownBlock.toList) (by simp)
                      have hb11 := hbw.grown hgrow (fun g e => .inl (by simp [e]))
                      have hne : ∀ k ∈ (Value.slice A9 la c9).ownBlock.toList, k ∉ Foot b rb og := fun k hk h => by
                        have h1 := (World.ownsRow.lt HOX.out k (by simpa using hk)).1
                        have := HFT5.out k h; omega
                      have HS10 := Lib.hid (HS9.out.away hb11 hne)
                      have HO10 := Lib.hid hO10
                      have HM10 : Hid (Mv b rb w5 w9 og og) := Lib.hid ⟨hb10, fun g e => .inl e⟩
                      clear hown hgrow hO10 hb10 hbw hb11 hne g3
                      go_wp2
                      go_roundw
                      case rel => exact ⟨j + 1, l1 ++ [y], by omega, by go_num, by have := HL2.out; have := HLA.out; rw [List.length_append, List.length_singleton]; omega, Lib.hid (by rw [HL1.out, List.append_assoc, ← List.replicate_succ']), HO10, HS10, HM10⟩
                      case measure => simp [intOf]; omega
                    · obtain rfl : j = k2 := by omega
                      have HLL := Lib.hid hl1
                      clear hl1
                      go_wp2
                      go_roundg f
                      case measure => omega
                      case rel => exact ⟨l1, q7, 0, HO9, HS9, HM9, Lib.hid (fun _ => HX7.out (HZ7.out (by trivial)).1), Lib.hid (by rw [HK8.out, HL1.out]), by have := HLL.out; omega, Lib.hid (fun _ => by have := HGG.out; have h1 := HZ7.out (by trivial); have := HP6.out h1.1; have := h1.2; have := HQ8.out; omega)⟩
              · have de4 : (e4 == 0) = false := by simpa using he4
                have HE4 := Lib.hid he4
                clear he4
                go_wp2
                go_loopw [10, 14] (fun v iv wr => v = .slice A ls.length cA ∧ iv = .int .i64 0 ∧ w7 = wr) (fun _ _ _ => 0)
                case atStart => exact ⟨rfl, rfl, rfl⟩
                case round =>
                  obtain ⟨rfl, rfl, rfl⟩ := hrel
                  go_wp2
                  go_roundg f
                  case measure => omega
                  case rel => exact ⟨ls, q7, e4, HO7, HS7, HM7, Lib.hid (fun e => absurd e HE4.out), Lib.hid (by rw [HK7.out, run_off HE4.out, run_off HE4.out]), hll, Lib.hid (fun e => absurd e HE4.out)⟩
          · have d1 : decide ((ls.length : Int) < (m : Int) + (fr : Int)) = false := decide_eq_false (by omega)
            have d2 : decide (ls.length < m + fr) = false := decide_eq_false (by omega)
            obtain ⟨tt, htt⟩ : ∃ tt, tt = m + fr := ⟨_, rfl⟩
            have hlt2 : ls.length = tt := by omega
            obtain ⟨gl, cl, e, hcl1, hcl2, hIl⟩ := own_form HO.out (by omega)
            injection e with e1 e2 e3
            subst e1 e3
            have hkL : HasL b rb og wo (some ⟨gl, 0, none⟩) m cA (ls.take m) := ⟨by omega, (fun e => by cases e), fun w2 hB => by
              have h := (HO.out.but hB (own_free HO.out HFT5.out)).ints
              exact h.take (by omega)⟩
            have hkD : HasL b rb og wo (some ⟨gl, m, none⟩) (tt - m) (cA - m) (ls.drop m) := ⟨by omega, (fun e => by cases e), fun w2 hB => by
              have h := (HO.out.but hB (own_free HO.out HFT5.out)).ints
              have h2 := h.drop (k := m) (by omega)
              rw [hlt2] at h2; exact h2⟩
            have hKE : R = run 0 (rPure (cutL m ls)) s q := by
              rw [HK.out, lenG_end (by omega), pure_bind']
            rw [hlt2] at hcl1 d1 d2 ⊢
            have HKL := Lib.hid hkL
            have HKD := Lib.hid hkD
            have HKE := Lib.hid hKE
            have hst : m < tt := by omega
            have hsc : m < cA := by omega
            have hb0 : (0 : Int) ≤ (m : Int) := by omega
            have n1 : ¬ cA = m := by omega
            clear hkL hkD hKE hIl hlt2 e2 htt HK
            go_wp2
            go_quiet (fail)
            go_wp2
            go_ret2
            exact ⟨some ⟨gl, 0, none⟩, some ⟨gl, m, none⟩, m, cA, tt - m, cA - m, ls.take m, ls.drop m, 0, q, rfl, HS.out.drewN nq, (HM5.out.trans HM.out).trans (Mv.drewN nq), by rw [← HR.out, HKE.out]; rfl, fun _ => ⟨HKL.out.mv (Mv.drewN nq), HKD.out.mv (Mv.drewN nq)⟩⟩
        · have de2 : (e2 == 0) = false := by simpa using he2
          have de3 : (e2 != 0) = true := by simpa using he2
          have HE2 := Lib.hid he2
          clear he2
          go_wp2
          go_ret2
          exact ⟨none, none, 0, 0, 0, 0, [], [], e2, q, rfl, HS.out, HM5.out.trans HM.out, by rw [← HR.out, HK.out, run_off HE2.out, run_off HE2.out], fun e => absurd e HE2.out⟩
end
end Go.Proofs.YtobmghjpfkdooaaDoor
