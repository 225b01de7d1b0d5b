/- Several texts in one: RfF, RfG (what Unwraps reach of them). -/
import Derived.Test.YtghegmbafbpnjaaGreatDoorPm01
import Derived.Test.YtghegmbafbpnjaaGreatDoorPm02
import Derived.Test.YtghegmbafbpnjaaGreatDoorPm03
import Derived.Test.YtghegmbafbpnjaaGreatDoorPm04
import Derived.Test.YtghegmbafbpnjaaGreatDoorPm05
import Derived.Test.YtghegmbafbpnjaaGreatDoorPm06
import Derived.Test.YtghegmbafbpnjaaGreatDoorPm07
import Derived.Test.YtghegmbafbpnjaaGreatDoorPm08
import Derived.Test.YtghegmbafbpnjaaGreatDoorPm09
import Derived.Test.YtghegmbafbpnjaaGreatDoorPm10
import Derived.Test.YtghegmbafbpnjaaGreatDoorPm11
import Derived.Test.YtghegmbafbpnjaaGreatDoorPm12
import Derived.Test.YtghegmbafbpnjaaGreatDoorPm13
import Derived.Test.YtghegmbafbpnjaaGreatDoorPm14
import Derived.Test.YtghegmbafbpnjaaGreatDoorPm15
import Derived.Test.YtghegmbafbpnjaaGreatDoorPm16
import Derived.Test.YtghegmbafbpnjaaGreatDoorPm17
import Derived.Test.YtghegmbafbpnjaaGreatDoorPm18
import Derived.Test.YtghegmbafbpnjaaGreatDoorPm20
import Derived.Test.YtghegmbafbpnjaaGreatDoorPm21
import Derived.Test.YtghegmbafbpnjaaGreatDoorPm22
import Derived.Below
import Derived.BigQuiet
import Derived.BigRegion
import Derived.Deep.AppendLies
import Derived.Deep.CutRange
import Derived.Deep.DeepCutAuto
import Derived.Deep.Draws
import Derived.Deep.LoopGhost
import Derived.Deep.QuietTactic
import Derived.Deep.RegionLaw
import Derived.Deep.RegionWith
import Derived.Deep.Slices
import Derived.Handy
import Derived.Laws.BitsAllLaws
import Derived.Laws.BitsLemmas
import Derived.Laws.CopyOwn
import Derived.Laws.IdiomStrings
import Derived.Laws.MakeOwn
import Derived.Laws.OwnMore
import Derived.Laws.Rows
import Derived.Lib.AppendStr
import Derived.Lib.Hide
import Derived.Lib.Strings
import Derived.LoopIn
import Derived.LoopNIn
import Derived.OneCell
import Derived.OpenShut
import Derived.Outline
import Derived.OwnWalk
import Derived.OwnWalkIn
import Derived.ProofKit
import Derived.RangeFuncBound
import Derived.RangeFuncCalls
import Derived.RangeFuncLeaves
import Derived.RangeFuncNested
import Derived.RegionTactic
import Derived.Shelf.Abstract
import Derived.Shelf.RegionOpen
import Derived.Shelf.SlSortCmp.QuietGrown
import Derived.StillTailTactics
import Derived.TacticsInMore
import Derived.Test.YtghegmbafbpnjaaGreatDoorChecked
import Derived.WalkKit
import Derived.WalkLawsBesides
import Derived.WalkSpells
set_option maxRecDepth 100000
set_option linter.unusedVariables false
namespace Go.Proofs.YtghegmbafbpnjaaGreatDoor
set_option maxRecDepth 100000
open Go Go.RowKit
/-- Lengths that a stream's steps leave alone. -/
def HasL (b rb : Nat) (og : Option Nat) (w : World) (A : Option Addr) (n c : Nat) (l : List Int) : Prop := n * 8 ≤ 140737488351232 ∧ (A = none → c = 0) ∧ Keep (Foot b rb og) w fun w' => Ints w' A n l
theorem HasL.mv {b rb : Nat} {og og1 : Option Nat} {w w1 : World} {A : Option Addr} {n c : Nat} {l : List Int} (h : HasL b rb og w A n c l) (hM : Mv b rb w w1 og og1) : HasL b rb og1 w1 A n c l := ⟨h.1, h.2.1, hM.keep h.2.2⟩
/-- What stands behind the next symbol. -/
def symK (l d : List Int) (M : Int) (f : Nat) (L : List UInt8) (t : Nat) : Rd (List UInt8) :=
    if t = 256 then rPure L else
    if t < 256 then rWhen (M < (L.length : Int) + 1) 5 (symG l d M f (L ++ [UInt8.ofNat t])) else
    rWhen (285 < t) 12 (rBind (rBits (lenBits t)) fun x => rBind (rNext d) fun u => rWhen (29 < u) 12 (rBind (rBits (dstBits u)) fun y =>
      rWhen (L.length < dstBase u + y) 15 (rWhen (M < (L.length : Int) + ((lenBase t + x : Nat) : Int)) 5 (symG l d M f (matchOut (dstBase u + y) (lenBase t + x) L)))))
theorem symG_bind (l d : List Int) (M : Int) (f : Nat) (L : List UInt8) : symG l d M (f + 1) L = rBind (rNext l) (symK l d M f L) := rfl
section
variable {w w' w1 : World} {b rb : Nat} {og : Option Nat} {s : ByteArray} {p q : Nat} {M er : Int} {L : List UInt8}
set_option maxHeartbeats 2000000 in
theorem symbols_any {A A2 : Option Addr} {n n2 c c2 : Nat} {l d : List Int} (h : SR w b rb og s p M L er) (hl : er = 0 → HasL b rb og w A n c l) (hd : er = 0 → HasL b rb og w A2 n2 c2 d) (F : Nat) (hF : 8 * s.size < F) :
    Calls Tryz.prog 34 #[.pointer (some ⟨b, 0, none⟩), .slice A n c, .slice A2 n2 c2] w (GotRU w b rb og s p M er (tablesR l d (symG l d M F L))) := by
  obtain ⟨R, hR⟩ : ∃ R, R = run er (tablesR l d (symG l d M F L)) s p := ⟨_, rfl⟩
  have ht := h.table (c := c) (fun e => ⟨(hl e).2.2.now, (hl e).1, (hl e).2.1⟩)
  have HT := Lib.hid ht
  have HD := Lib.hid hd
  have HR := Lib.hid hR
  have HF := Lib.hid hF
  clear ht hd hR h hl hF
  go_enter Tryz.func34, Tryz.ntmps34
  go_wp2_with fail
  refine HT.out.mono ?_
  rintro e w1 ⟨x, er1, rfl, hS1, hM1, hr1, hx1⟩
  have ht2 := hS1.table (c := c2) (l := d) (fun e => by
    have h := (HD.out (hx1 e).1).mv hM1
    exact ⟨h.2.2.now, h.1, h.2.1⟩)
  have HT2 := Lib.hid ht2
  have HM1 := Lib.hid hM1
  have HX1 := Lib.hid hx1
  have HR1 := Lib.hid hr1
  clear ht2 hM1 hx1 hr1 hS1
  go_wp2_with fail
  refine HT2.out.mono ?_
  rintro e w2 ⟨y, er2, rfl, hS2, hM2, hr2, hx2⟩
  have hk : run er2 (symG l d M F L) s p = R := by
    rw [HR.out]; unfold tablesR; rw [HR1.out, hr2]
  have hlx : er2 = 0 → HasRT b rb og w2 x l ∧ HasRT b rb og w2 y d := fun e => ⟨((HX1.out (hx2 e).1).2).mv hM2, (hx2 e).2⟩
  have HM2 := Lib.hid (HM1.out.trans hM2)
  have HK := Lib.hid hk
  have HLX := Lib.hid hlx
  have HS2 := Lib.hid hS2
  clear hM2 hx2 hr2 hk hlx hS2 HM1 HX1 HR1 HT HT2 HD
  go_wp2
  go_loopg [] F (fun f wr => ∃ (L1 : List UInt8) (q : Nat) (og1 : Option Nat) (er1 : Int), SR wr b rb og1 s q M L1 er1 ∧ Mv b rb w wr og og1 ∧ Hid (er1 = 0 → HasRT b rb og1 wr x l ∧ HasRT b rb og1 wr y d) ∧ Hid (run er1 (symG l d M f L1) s q = R ∧ (er1 = 0 → 8 * s.size - q < f)))
  case atStart => exact ⟨L, p, og, er2, HS2.out, HM2.out, HLX.out, HK.out, fun _ => by have := HF.out; omega⟩
  case round =>
    obtain ⟨L1, q, og1, er1, hS, hMv, HT, HG⟩ := hrel
    clear HS2 HM2 HLX HK
    obtain ⟨wo, rfl⟩ : ∃ wo : World, wo = wr := ⟨_, rfl⟩
    have HMV := Lib.hid hMv
    have h3 := hS.in3
    by_cases her1 : er1 = 0
    · subst her1
      obtain ⟨f, rfl⟩ : ∃ f, gk = f + 1 := ⟨gk - 1, by have := HG.out.2 rfl; omega⟩
      have hnx := hS.next (x := x) (fun e => (HT.out e).1)
      have hq8 := hS.rs.1
      have HNX := Lib.hid hnx
      have HQ8 := Lib.hid hq8
      clear hnx hS hMv hq8
      go_wp2_with fail
      refine HNX.out.mono ?_
      rintro e w3 ⟨t, er2, q2, rfl, hS3, hM3, hr3, hz3⟩
      have hk3 : run er2 (symK l d M f L1 t) s q2 = R := by
        rw [← HG.out.1, symG_bind]; exact (run_bind hr3).symm
      have HK3 := Lib.hid hk3
      have HM3 := Lib.hid hM3
      have HZ3 := Lib.hid hz3
      have g3 := hS3.in3
      have HS3 := Lib.hid hS3
      clear hr3 hk3 hM3 hz3 hS3 HNX h3
      by_cases her2 : er2 = 0
      · subst her2
        by_cases ht : t = 256
        · subst ht
          have hk4 : run 0 (rPure L1) s q2 = R := HK3.out
          have HK4 := Lib.hid hk4
          clear hk4 HK3
          go_wp2
          go_returns
          exact ⟨0, L1, q2, og1, rfl, HS3.out, HMV.out.trans HM3.out, by rw [← HR.out, HK4.out]⟩
        · have d256 : ((t : Int) == 256) = false := by simp; omega
          have g2 := HS3.out.in2
          obtain ⟨A0, cA, hi, hown, hog⟩ := HS3.out.at
          have g1 : w3.cell? ⟨b, 1, none⟩ = some (.slice A0 L1.length cA) := hi.cell 1
          have fr3 := HS3.out.free 3
          have fr1 := HS3.out.free 1
          have hLb : L1.length ≤ 100000 := by have := HS3.out.hL; have := HS3.out.hM; omega
          by_cases ht2 : t < 256
          · have d1 : decide ((t : Int) < 256) = true := by simp; omega
            have e2 : wrap64 ((L1.length : Int) + 1) = (L1.length : Int) + 1 := IntWalk.wrap64_in _ ⟨by omega, by omega⟩
            have hk4 : R = run 0 (rWhen (M < (L1.length : Int) + 1) 5 (symG l d M f (L1 ++ [UInt8.ofNat t]))) s q2 := by
              rw [← HK3.out]; unfold symK; rw [if_neg ht, if_pos ht2]
            have HK4 := Lib.hid hk4
            by_cases hbig : M < (L1.length : Int) + 1
            · have d2 : decide (M < (L1.length : Int) + 1) = true := by simpa using hbig
              have hk5 : R = .error 5 := by rw [HK4.out, run_on, when_yes hbig]
              have HK5 := Lib.hid hk5
              clear hk4 hk5 hbig hi hown hog HK4 HK3 ht
              go_wp2
              go_quiet (fail)
              go_wp2
              go_returns
              exact ⟨5, L1, q2, og1, rfl, ((HS3.out.drewN _).met 5).1, (HMV.out.trans (HM3.out.trans (Mv.drewN _))).trans ((HS3.out.drewN _).met 5).2, by rw [← HR.out, HK5.out]; rfl⟩
            · have d2 : decide (M < (L1.length : Int) + 1) = false := by simpa using hbig
              have hk5 : run 0 (symG l d M f (L1 ++ [UInt8.ofNat t])) s q2 = R := by rw [HK4.out, run_on, run_on, when_not hbig]
              have HK5 := Lib.hid hk5
              have HBIG := Lib.hid hbig
              have HI := Lib.hid hi
              have HOG := Lib.hid hog
              have HNE := Lib.hid (out_neR hown)
              have HOWN0 := Lib.hid hown
              clear hk4 hk5 hbig hi hown hog HK4 HK3 ht
              go_wp2
              go_quiet (fail)
              have hS4 := HS3.out.drewN nq
              have HM4 := Lib.hid (HM3.out.trans (Mv.drewN nq))
              have HI4 := Lib.hid (HI.out.drewN nq)
              have HOWN4 : Hid ((w3.drewN nq).ownsRow (b + 1) 5 1 (.slice A0 L1.length cA) L1.length (cellsOf L1)) := HOWN0.out
              have hlt := hS4.lt
              have k1 : (w3.drewN nq).cell? ⟨b, 1, none⟩ = some (.slice A0 L1.length cA) := HI4.out.cell 1
              have HS4 := Lib.hid hS4
              clear hS4 g1 g2 g3 fr1 fr3 HS3 HI HOWN0 HM3
              generalize w3.drewN nq = W at *
              obtain ⟨i0, hi0, hz0, hz1, hz2⟩ := info_parts info_u8
              go_wp2_with (at_builtin; go_loud (refine wpList_append_lies _ rfl _ _ 40 rfl (b + 1) 5 i0 _ 1 1 Tryz.underlying40 hi0 hz0 hz1 hz2 rfl (by omega) (.slice A0 L1.length cA) L1.length (cellsOf L1) rfl (HOWN4.out.alloc _) ⟨W.heap.size, 0, none⟩ 1 1 [.int .u8 (t : Int)] rfl rfl (World.news_of_block (cs := #[.int .u8 (t : Int)]) (t := 5) (fr := (0, 0)) (heap_alloc_new W _)) (by simp [Value.oneCell']) (by omega) (by unfold maxLen; omega) (by omega) (by simp; omega) (W.heap.size + 1) (by simp) ?_; intro gg cap w4 hown2 hgrow hat _; have hi2 := ((HI4.out.alloc (.cells #[.int .u8 (t : Int)] 5)).grown hgrow (Ne.symm HNE.out)); have g0 : w4.cell? ⟨b, 1, none⟩ = some (.slice A0 L1.length cA) := hi2.cell 1; have g1 : w4.frozen? ⟨b, 1, none⟩ = false := hi2.free 1; have HOWN := Lib.hid hown2; have HGROW := Lib.hid hgrow; have HAT := Lib.hid hat; clear hi2 hown2 hgrow hat))
              go_roundg f
              case measure => omega
              case rel =>
                have hl2 : (L1 ++ [UInt8.ofNat t]).length = L1.length + 1 := by simp
                have hc2 : cellsOf L1 ++ [Value.int .u8 (t : Int)] = cellsOf (L1 ++ [UInt8.ofNat t]) := by
                  have h8 : (UInt8.ofNat t).toNat = t := by
                    have h := UInt8.toNat_ofNat' (n := t)
                    omega
                  rw [cellsOf_snoc, h8]
                have hp := HS4.out.put (L2 := L1 ++ [UInt8.ofNat t]) ((But.refl [] W).alloc _) HI4.out HOG.out HGROW.out (by rw [← hc2]; exact HOWN.out) hl2 (fun g e => by
                  rcases HAT.out with h | h
                  · left; rw [h]; exact e
                  · right
                    have : gg = g := by simpa [Value.ownBlock] using e
                    omega) (by have := HBIG.out; rw [hl2]; omega)
                have m5 := HM4.out.trans hp.2
                exact ⟨L1 ++ [UInt8.ofNat t], q2, _, 0, hp.1, HMV.out.trans m5, fun _ => ⟨(HT.out (by trivial)).1.mv m5, (HT.out (by trivial)).2.mv m5⟩, HK5.out, fun _ => by have := HG.out.2 (by trivial); have := (HZ3.out (by trivial)).2; have := HS4.out.rs.1; omega⟩
          · have d1 : decide ((t : Int) < 256) = false := by simp; omega
            by_cases ht3 : 285 < t
            · have d2 : decide ((285 : Int) < (t : Int)) = true := by simp; omega
              have hk5 : R = .error 12 := by
                rw [← HK3.out, run_on]; unfold symK; rw [if_neg ht, if_neg ht2, when_yes ht3]
              have HK5 := Lib.hid hk5
              clear hk5 hi hown hog HK3 ht ht2 ht3
              go_wp2
              go_returns
              exact ⟨12, L1, q2, og1, rfl, (HS3.out.met 12).1, (HMV.out.trans HM3.out).trans (HS3.out.met 12).2, by rw [← HR.out, HK5.out]; rfl⟩
            · have hlen := length_any (w := w3) t (by omega) (by omega)
              have hlb := lenBase_le (t := t) (by omega) (by omega)
              have d2 : decide ((285 : Int) < (t : Int)) = false := by simp; omega
              have hk4 : R = run 0 (rBind (rBits (lenBits t)) fun x => rBind (rNext d) fun u => rWhen (29 < u) 12 (rBind (rBits (dstBits u)) fun y => rWhen (L1.length < dstBase u + y) 15 (rWhen (M < (L1.length : Int) + ((lenBase t + x : Nat) : Int)) 5 (symG l d M f (matchOut (dstBase u + y) (lenBase t + x) L1))))) s q2 := by
                rw [← HK3.out, run_on, run_on]; unfold symK; rw [if_neg ht, if_neg ht2, when_not ht3]
              have HLEN := Lib.hid hlen
              have HK4 := Lib.hid hk4
              have HLB := Lib.hid hlb
              clear hlen hk4 hlb hi hown hog HK3 ht
              go_wp2_with fail
              refine HLEN.out.mono ?_
              rintro e w3b ⟨rfl, rfl⟩
              go_wp2_with fail
              refine (HS3.out.bits (lenBits t)).mono ?_
              rintro e w4 ⟨v, er3, q3, rfl, hS4, hM4, hr4, hv, hq4, hz4⟩
              have hk5 := HK4.out.trans (run_bind hr4)
              have HK5 := Lib.hid hk5
              obtain ⟨N, hN⟩ : ∃ N, N = lenBase t + v := ⟨_, rfl⟩
              have hN2 : 3 ≤ N ∧ N ≤ 258 := by have := HLB.out; omega
              have e3 : wrap64 ((lenBase t : Int) + (v : Int)) = (N : Int) := by rw [IntWalk.wrap64_in _ ⟨by omega, by omega⟩]; omega
              have HN := Lib.hid hN
              have HM4 := Lib.hid (HM3.out.trans hM4)
              have HZ4 := Lib.hid hz4
              have hnx := hS4.next (x := y) (l := d) (fun e => ((HT.out (by trivial)).2).mv HM4.out)
              have HNX := Lib.hid hnx
              clear hk5 hN hM4 hz4 hr4 hv hS4 hnx HK4 HS3 g1 g2 g3 fr1 fr3 HM3
              go_wp2_with fail
              refine HNX.out.mono ?_
              rintro e w5 ⟨u, er4, q4, rfl, hS5, hM5, hr5, hz5⟩
              have hk6 := HK5.out.trans (run_bind hr5)
              have HK6 := Lib.hid hk6
              have HM5 := Lib.hid (HM4.out.trans hM5)
              have HZ5 := Lib.hid hz5
              have g3 := hS5.in3
              have fr3 := hS5.free 3
              have HS5 := Lib.hid hS5
              clear hk6 hM5 hz5 hr5 hS5 HNX HK5 HM4
              by_cases her4 : er4 = 0
              · subst her4
                by_cases hu : 29 < u
                · have d3 : decide ((29 : Int) < (u : Int)) = true := by simp; omega
                  have hk7 : R = .error 12 := HK6.out.trans (when_yes hu)
                  have HK7 := Lib.hid hk7
                  clear hk7 hu HK6
                  go_wp2
                  go_returns
                  exact ⟨12, L1, q4, og1, rfl, (HS5.out.met 12).1, (HMV.out.trans HM5.out).trans (HS5.out.met 12).2, by rw [← HR.out, HK7.out]; rfl⟩
                · have d3 : decide ((29 : Int) < (u : Int)) = false := by simp; omega
                  have hk7 := HK6.out.trans ((run_on (m := _)).trans ((when_not hu).trans run_on.symm))
                  have HK7 := Lib.hid hk7
                  have hdb := dstBase_le (u := u) (by omega)
                  have HDB := Lib.hid hdb
                  have hdis := distance_any (w := w5) u (by omega)
                  have HDIS := Lib.hid hdis
                  clear hk7 hdb hdis HK6
                  go_wp2_with fail
                  refine HDIS.out.mono ?_
                  rintro e w5b ⟨rfl, rfl⟩
                  go_wp2_with fail
                  refine (HS5.out.bits (dstBits u)).mono ?_
                  rintro e w6 ⟨v2, er5, q5, rfl, hS6, hM6, hr6, hv2, hq6, hz6⟩
                  have hk8 := HK7.out.trans (run_bind hr6)
                  have HK8 := Lib.hid hk8
                  obtain ⟨far, hfar⟩ : ∃ far, far = dstBase u + v2 := ⟨_, rfl⟩
                  have hf2 : 1 ≤ far ∧ far ≤ 32768 := by have := HDB.out; omega
                  have e4 : wrap64 ((dstBase u : Int) + (v2 : Int)) = (far : Int) := by rw [IntWalk.wrap64_in _ ⟨by omega, by omega⟩]; omega
                  have HFAR := Lib.hid hfar
                  have HM6 := Lib.hid (HM5.out.trans hM6)
                  have g3 := hS6.in3
                  have g2 := hS6.in2
                  have fr3 := hS6.free 3
                  obtain ⟨A6, c6, hi, _, _⟩ := hS6.at
                  have g1 : w6.cell? ⟨b, 1, none⟩ = some (.slice A6 L1.length c6) := hi.cell 1
                  have hq8 := hS6.rs.1
                  have HQ6 := Lib.hid (show q5 ≤ 8 * s.size ∧ q4 ≤ q5 from ⟨hq8, hq6⟩)
                  have HS6 := Lib.hid hS6
                  clear hk8 hfar hM6 hr6 hv2 hS6 hi hq8 hq6 HK7 HS5 HM5
                  by_cases her5 : er5 = 0
                  · subst her5
                    have hk9 := HK8.out.trans run_on
                    have HK9 := Lib.hid hk9
                    clear hk9 HK8
                    by_cases hbf : L1.length < far
                    · have d4 : decide (L1.length < far) = true := by simpa using hbf
                      have hk10 : R = .error 15 := HK9.out.trans (when_yes (by rw [← HFAR.out]; exact hbf))
                      have HK10 := Lib.hid hk10
                      clear hk10 hbf HK9
                      go_wp2
                      go_returns
                      exact ⟨15, L1, q5, og1, rfl, (HS6.out.met 15).1, (HMV.out.trans HM6.out).trans (HS6.out.met 15).2, by rw [← HR.out, HK10.out]; rfl⟩
                    · have d4 : decide (L1.length < far) = false := by simpa using hbf
                      have hk10 := HK9.out.trans (when_not (by rw [← HFAR.out]; exact hbf))
                      have HK10 := Lib.hid hk10
                      have HBF := Lib.hid hbf
                      have e5 : wrap64 ((L1.length : Int) + (N : Int)) = (L1.length : Int) + (N : Int) := IntWalk.wrap64_in _ ⟨by omega, by omega⟩
                      clear hk10 hbf HK9
                      by_cases hbig : M < (L1.length : Int) + (N : Int)
                      · have d5 : decide (M < (L1.length : Int) + (N : Int)) = true := by simpa using hbig
                        have hk11 : R = .error 5 := HK10.out.trans (when_yes (by rw [← HN.out]; exact hbig))
                        have HK11 := Lib.hid hk11
                        clear hk11 hbig HK10
                        go_wp2
                        go_quiet (fail)
                        go_wp2
                        go_returns
                        exact ⟨5, L1, q5, og1, rfl, ((HS6.out.drewN _).met 5).1, (HMV.out.trans (HM6.out.trans (Mv.drewN _))).trans ((HS6.out.drewN _).met 5).2, by rw [← HR.out, HK11.out]; rfl⟩
                      · have d5 : decide (M < (L1.length : Int) + (N : Int)) = false := by simpa using hbig
                        have hk11 := HK10.out.trans (when_not (by rw [← HN.out]; exact hbig))
                        have hk12 : run 0 (symG l d M f (matchOut far N L1)) s q5 = R := by rw [HFAR.out, HN.out]; exact hk11.symm
                        have HK12 := Lib.hid hk12
                        have HBIG := Lib.hid hbig
                        clear hk11 hk12 hbig HK10
                        go_wp2
                        go_quiet (fail)
                        have HS7 := Lib.hid (HS6.out.drewN nq)
                        have HM7 := Lib.hid (HM6.out.trans (Mv.drewN nq))
                        clear g1 g2 g3 fr3 HS6 HM6 d4 d5 e5
                        generalize w6.drewN nq = w7 at *
                        go_wp2
                        (try simp only [e4])
                        clear e4
                        go_loopw [13] (fun iv wr => ∃ (j : Nat) (og2 : Option Nat), j ≤ N ∧ iv = .int .i64 j ∧ SR wr b rb og2 s q5 M (matchOut far j L1) 0 ∧ Mv b rb wo wr og1 og2) (fun iv _ => N - (intOf iv).toNat)
                        case atStart => exact ⟨0, og1, Nat.zero_le _, rfl, HS7.out, HM7.out⟩
                        case round =>
                          obtain ⟨j, og2, hj, rfl, hS, hMv2⟩ := hrel
                          clear HS7 HM7
                          have HMV2 := Lib.hid hMv2
                          clear hMv2
                          by_cases hlt : j < N
                          · have hms := matchOut_succ far j L1
                            have hml := length_matchOut far j L1
                            generalize hL1 : matchOut far j L1 = L2 at *
                            have HMS := Lib.hid hms
                            have hk1 : far ≤ L2.length := by have := HBF.out; omega
                            have hk2 : L2.length ≤ 100000 + 258 := by omega
                            obtain ⟨i, hie⟩ : ∃ i, i = L2.length - far := ⟨_, rfl⟩
                            obtain ⟨A, c, hi, hown, hog⟩ := hS.at
                            obtain ⟨g, rfl, hbg, hgl, hcell⟩ := out_byte hown (i := i) (by omega)
                            have k1 : wr.cell? ⟨b, 1, none⟩ = some (.slice (some ⟨g, 0, none⟩) L2.length c) := hi.cell 1
                            have hblt := hS.lt
                            have hby := bits_byte (L2.getD i 0)
                            obtain ⟨z, hy⟩ : ∃ z, z = L2.getD i 0 := ⟨_, rfl⟩
                            rw [← hy] at hcell hby
                            have HY := Lib.hid hy
                            have HS := Lib.hid hS
                            have HI := Lib.hid hi
                            have HOG := Lib.hid hog
                            have HNE := Lib.hid (out_neR hown)
                            have HOWN0 := Lib.hid hown
                            have HML := Lib.hid hml
                            have ei : ((L2.length : Int) - (far : Int)) = (i : Int) := by omega
                            have ew : IntKind.i64.wrap (i : Int) = (i : Int) := IntWalk.i64_in _ (by omega)
                            have b0 : (0 : Int) ≤ (i : Int) := by omega
                            have b1 : (i : Int) < (L2.length : Int) := by omega
                            have HIE := Lib.hid hie
                            clear hms hL1 hS hi hog hown hy hml hie
                            obtain ⟨i0, hi0, hz0, hz1, hz2⟩ := info_parts info_u8
                            go_wp2
                            go_region_law (go_loud (refine step_append_lies _ (by rfl) _ _ _ (by rfl) (b + 1) 5 i0 _ 1 1 Tryz.underlying40 hi0 hz0 hz1 hz2 rfl (by omega) (.slice (some ⟨g, 0, none⟩) L2.length c) L2.length (cellsOf L2) (by rfl) ((HOWN0.out.alloc _).drew) ⟨wr.heap.size, 0, none⟩ 1 1 [.int .u8 (z.toNat : Int)] (by rfl) (by rfl) (World.news_of_block (cs := #[.int .u8 (z.toNat : Int)]) (t := 5) (fr := (0, 0)) (heap_alloc_new wr _)) (by simp [Value.oneCell']) (by omega) (by unfold maxLen; omega) (by omega) (by simp; omega) (wr.heap.size + 1) (by simp) ?_; intro gg cap w4 hown2 hgrow hat _; have hi2 := (((HI.out.alloc (.cells #[.int .u8 (z.toNat : Int)] 5)).drew).grown hgrow (Ne.symm HNE.out)); have g0 : w4.cell? ⟨b, 1, none⟩ = some (.slice (some ⟨g, 0, none⟩) L2.length c) := hi2.cell 1; have g1 : w4.frozen? ⟨b, 1, none⟩ = false := hi2.free 1; have HOWN := Lib.hid hown2; have HGROW := Lib.hid hgrow; have HAT := Lib.hid hat; clear hi2 hown2 hgrow hat))
                            all_goals
                              go_wp2
                              go_roundw
                              case rel =>
                                have hp := HS.out.put (L2 := L2 ++ [z]) (((But.refl [] wr).alloc _).drew) HI.out HOG.out HGROW.out (by rw [cellsOf_snoc]; exact HOWN.out) (by simp) (fun g e => by
                                  rcases HAT.out with h | h
                                  · left; rw [h]; exact e
                                  · right
                                    have : gg = g := by simpa [Value.ownBlock] using e
                                    omega) (by have := HBIG.out; have := HML.out; simp; omega)
                                refine ⟨j + 1, _, by omega, by go_num, ?_, HMV2.out.trans hp.2⟩
                                rw [HMS.out, ← HIE.out, ← HY.out]
                                exact hp.1
                              case measure => simp [intOf]; omega
                          · obtain rfl : j = N := by omega
                            have HS := Lib.hid hS
                            clear hS
                            go_wp2
                            go_roundg f
                            case measure => omega
                            case rel => exact ⟨matchOut far j L1, q5, og2, 0, HS.out, HMV.out.trans HMV2.out, fun _ => ⟨(HT.out (by trivial)).1.mv HMV2.out, (HT.out (by trivial)).2.mv HMV2.out⟩, HK12.out, fun _ => by have := HG.out.2 (by trivial); have := (HZ3.out (by trivial)).2; have := (HZ5.out (by trivial)).2; have := HQ6.out; omega⟩
                  · have d4 : (er5 != 0) = true := by simpa using her5
                    have hk9 := HK8.out.trans (run_off her5)
                    have HK9 := Lib.hid hk9
                    have HER := Lib.hid her5
                    clear her5 hk9 HK8
                    go_wp2
                    go_returns
                    exact ⟨er5, L1, q5, og1, rfl, HS6.out, HMV.out.trans HM6.out, by rw [← HR.out, HK9.out, run_off HER.out]⟩
              · have d3 : (er4 == 0) = false := by simpa using her4
                have d4 : (er4 != 0) = true := by simpa using her4
                have hk7 := HK6.out.trans (run_off her4)
                have HK7 := Lib.hid hk7
                have HER := Lib.hid her4
                clear her4 hk7 HK6
                go_wp2
                go_returns
                exact ⟨er4, L1, q4, og1, rfl, HS5.out, HMV.out.trans HM5.out, by rw [← HR.out, HK7.out, run_off HER.out]⟩
      · have d : (er2 != 0) = true := by simpa using her2
        have HER := Lib.hid her2
        clear her2
        go_wp2
        go_returns
        exact ⟨er2, L1, q2, og1, rfl, HS3.out, HMV.out.trans HM3.out, by rw [← HR.out, ← HK3.out, run_off HER.out, run_off HER.out]⟩
    · have d : (er1 == 0) = false := by simpa using her1
      have HER := Lib.hid her1
      have HS := Lib.hid hS
      clear her1 hS hMv
      go_wp2
      go_returns
      exact ⟨er1, L1, q, og1, rfl, HS.out, HMV.out, by rw [← HR.out, ← HG.out.1, run_off HER.out, run_off HER.out]⟩
end
end Go.Proofs.YtghegmbafbpnjaaGreatDoor
set_option linter.unusedVariables false
namespace Go.Proofs.YtghegmbafbpnjaaGreatDoor
set_option maxRecDepth 100000
open Go Go.RowKit
section
variable {α β γ : Type}
theorem bind_assoc (m : Rd α) (f : α → Rd β) (g : β → Rd γ) : rBind (rBind m f) g = rBind m fun a => rBind (f a) g := by
  funext s p
  unfold rBind
  cases m s p <;> rfl
theorem when_bind {c : Prop} [Decidable c] {e : Int} (m : Rd α) (g : α → Rd β) : rBind (rWhen c e m) g = rWhen c e (rBind m g) := by
  funext s p
  by_cases h : c
  · rw [when_yes h]; exact bind_err (when_yes h)
  · unfold rBind rWhen; rw [if_neg h, if_neg h]
theorem pure_bind' (a : α) (g : α → Rd β) : rBind (rPure a) g = g a := by
  funext s p; rfl
end
/-- How lengths are cut in two. -/
def cutL (m : Nat) (ls : List Int) : List Int × List Int := (ls.take m, ls.drop m)
def lenK (m total F : Nat) (small : List Int) : Rd (List Int × List Int) := rWhen (chk small ≠ 0) (chk small) (rBind (lenG small total F []) fun ls => rPure (cutL m ls))
/-- The lengths of a dynamic block. -/
def lensR (F : Nat) : Rd (List Int × List Int) :=
  rBind (rBits 5) fun a => rBind (rBits 5) fun b => rBind (rBits 4) fun c => rBind (smallG (ordS.take (c + 4)) (List.replicate 19 0)) fun small => lenK (a + 257) (a + 257 + (b + 1)) F small
theorem dynR_lens (M : Int) (F : Nat) (L : List UInt8) : dynR M F L = rBind (lensR F) fun x => tablesR x.1 x.2 (symG x.1 x.2 M F L) := by
  unfold dynR lensR lenK
  simp only [bind_assoc, when_bind, pure_bind']
  rfl
theorem small_cons (k : Nat) (ks : List Nat) (a : List Int) (K : List Int → Rd (List Int × List Int)) : rBind (smallG (k :: ks) a) K = rBind (rBits 3) fun v => rBind (smallG ks (a.set k (v : Nat))) K := bind_assoc _ _ _
/-- What stands behind a symbol of the small code: how often which number. -/
def swRf (t : Nat) (acc : List Int) : Rd (Int × Nat) :=
  if t < 16 then rPure ((t : Int), 1) else if t = 16 then rWhen (acc.length = 0) 12 (rBind (rBits 2) fun x => rPure (acc.getD (acc.length - 1) 0, 3 + x)) else
  if t = 17 then rBind (rBits 3) fun x => rPure (0, 3 + x) else rBind (rBits 7) fun x => rPure (0, 11 + x)
theorem lenG_swRf {small : List Int} {total f : Nat} {acc : List Int} (h : acc.length < total) : lenG small total (f + 1) acc = rBind (rNext small) fun t => rBind (swRf t acc) fun y => rWhen (total < acc.length + y.2) 12 (lenG small total f (acc ++ List.replicate y.2 y.1)) := by
  have e : lenG small total (f + 1) acc = rBind (rNext small) fun t =>
    if t < 16 then lenG small total f (acc ++ [(t : Int)]) else
    if t = 16 then rWhen (acc.length = 0) 12 (rBind (rBits 2) fun x => rWhen (total < acc.length + (3 + x)) 12 (lenG small total f (acc ++ List.replicate (3 + x) (acc.getD (acc.length - 1) 0)))) else
    if t = 17 then rBind (rBits 3) fun x => rWhen (total < acc.length + (3 + x)) 12 (lenG small total f (acc ++ List.replicate (3 + x) 0)) else
    rBind (rBits 7) fun x => rWhen (total < acc.length + (11 + x)) 12 (lenG small total f (acc ++ List.replicate (11 + x) 0)) := by
    rw [lenG, if_neg (by omega)]
  rw [e]
  congr 1
  funext t
  unfold swRf
  by_cases h1 : t < 16
  · rw [if_pos h1, if_pos h1, pure_bind']
    funext s p
    rw [when_not (by dsimp only; omega)]; rfl
  · rw [if_neg h1, if_neg h1]
    by_cases h2 : t = 16
    · rw [if_pos h2, if_pos h2, when_bind, bind_assoc]; rfl
    · rw [if_neg h2, if_neg h2]
      by_cases h3 : t = 17
      · rw [if_pos h3, if_pos h3, bind_assoc]; rfl
      · rw [if_neg h3, if_neg h3, bind_assoc]; rfl
theorem lenG_end {small : List Int} {total f : Nat} {acc : List Int} (h : total ≤ acc.length) : lenG small total (f + 1) acc = rPure acc := by
  rw [lenG, if_pos h]
theorem ordc_at {w : World} {k : Nat} (hk : k < 19) : (w.alloc (.cells ordCells 3)).cell? ⟨w.heap.size, k, none⟩ = some (.int .i64 (ordS.getD k 0 : Nat)) := by
  have h := (Is.fresh w 3 ordCells).cell k
  rw [h]
  have e : ordCells = (ordS.map fun k => Value.int .i64 ((k : Nat) : Int)).toArray := rfl
  have hl : k < ordS.length := hk
  rw [e, List.getElem?_toArray, List.getElem?_map, List.getD_eq_getElem?_getD, List.getElem?_eq_getElem hl]; rfl
def zero19 : Array Value := ((List.replicate 19 (0 : Int)).map (Value.int .i64)).toArray
theorem made_zeros (n : Nat) : madeCells (Value.int .i64 0).cells (n * 1) = ((List.replicate n (0 : Int)).map (Value.int .i64)).toArray := by
  apply Array.ext_getElem?
  intro j
  unfold madeCells
  have e : (Value.int .i64 0).cells = #[.int .i64 0] := rfl
  rw [e]
  by_cases hj : j < n
  · simp [hj, Nat.mod_one]
  · simp [hj]
theorem make19 (w : World) : (Instr.makeSlice 58 (.int .i64 19) (.int .i64 19)).run Tryz.prog w = .ok (.slice (some ⟨w.heap.size, 0, none⟩) 19 19) (w.alloc (.cells zero19 3)) := by
  obtain ⟨i0, hi0, hz0, hz1, hz2⟩ := info_parts info_int
  have h := run_makeSlice (P := Tryz.prog) w 58 3 i0 (.int .i64 0) Tryz.underlying58 hi0 hz0 .i64 .i64 19 19 (by omega) (by omega) (by rw [hz1]; omega) (by rw [hz2]; omega) (by omega)
  rw [hz1] at h
  have e : madeCells (Value.int .i64 0).cells ((19 : Int).toNat * 1) = zero19 := made_zeros 19
  rw [e] at h
  exact h
/-- The lengths that the document's function tells. -/
def GotRL (w : World) (b rb : Nat) (og : Option Nat) (s : ByteArray) (p : Nat) (M : Int) (L : List UInt8) (er : Int) (F : Nat) (e : Ending) (w' : World) : Prop :=
  ∃ (A1 A2 : Option Addr) (n1 c1 n2 c2 : Nat) (l d : List Int) (er' : Int) (q : Nat), e = .returned (.tuple #[.slice A1 n1 c1, .slice A2 n2 c2]) ∧ SR w' b rb og s q M L er' ∧ Mv b rb w w' og og ∧
    run er (lensR F) s p = run er' (rPure (l, d)) s q ∧ (er' = 0 → HasL b rb og w' A1 n1 c1 l ∧ HasL b rb og w' A2 n2 c2 d)
end Go.Proofs.YtghegmbafbpnjaaGreatDoor
