/- Several texts in one: LcB, LcC, LcD, PxN (what PixelImages, PixelRows, PixelSame reach of them). -/
import Derived.Test.YtfiedoejdikcgaaDoorQ01
import Derived.Test.YtfiedoejdikcgaaDoorQ02
import Derived.Test.YtfiedoejdikcgaaDoorQ03
import Derived.Test.YtfiedoejdikcgaaDoorQ05
import Derived.Below
import Derived.BigQuiet
import Derived.BigRegion
import Derived.Deep.AppendLies
import Derived.Deep.CutBlock
import Derived.Deep.CutRange
import Derived.Deep.DeepCutAuto
import Derived.Deep.Draws
import Derived.Deep.QuietTactic
import Derived.Deep.RegionLaw
import Derived.Deep.RegionWith
import Derived.Handy
import Derived.Laws.BitsAllLaws
import Derived.Laws.BitsLemmas
import Derived.Laws.BytesArg
import Derived.Laws.IdiomStrings
import Derived.Laws.MakeOwn
import Derived.Laws.OwnMore
import Derived.Laws.Rows
import Derived.Laws.StructEq
import Derived.Lib.Hide
import Derived.Maps.AppendAt
import Derived.OrdersHeld
import Derived.OrdersIn
import Derived.Outline
import Derived.OwnWalk
import Derived.OwnWalkIn
import Derived.RangeFuncCalls
import Derived.RegionTactic
import Derived.TacticsInMore
import Derived.Test.YtfiedoejdikcgaaDoorChecked
import Derived.WalkKit
set_option maxRecDepth 100000
set_option linter.unusedVariables false
set_option maxRecDepth 100000
set_option linter.unusedVariables false
namespace Go.Proofs.YtfiedoejdikcgaaDoor
set_option maxRecDepth 100000
open Go Go.RowKit
theorem rightH_cases (a b d c l : Int) : rightH a b d c l = 0 ∨ rightH a b d c l = 5 ∨ rightH a b d c l = 24 := by
  unfold rightH
  repeat' split
  all_goals simp
theorem rightH_ok {a b d c l : Int} (h : rightH a b d c l = 0) : (1 ≤ a ∧ a ≤ 1024) ∧ (1 ≤ b ∧ b ≤ 1024) ∧ a * b ≤ 4096 ∧ (l = 0 ∨ l = 1) ∧ depthOk d c = true := by
  unfold rightH at h
  by_cases h1 : a < 1 ∨ 2147483647 < a ∨ b < 1 ∨ 2147483647 < b ∨ depthOk d c = false ∨ (l ≠ 0 ∧ l ≠ 1)
  · rw [if_pos h1] at h; exact absurd h (by decide)
  · rw [if_neg h1] at h
    by_cases h2 : 1024 < a ∨ 1024 < b ∨ 4096 < a * b
    · rw [if_pos h2] at h; exact absurd h (by decide)
    · have h3 : depthOk d c = true := by
        cases hd : depthOk d c
        · exact absurd (Or.inr (Or.inr (Or.inr (Or.inr (Or.inl hd))))) h1
        · rfl
      refine ⟨⟨by omega, by omega⟩, ⟨by omega, by omega⟩, by omega, by omega, h3⟩
/-- A pass as it is laid, without its size, and with it. -/
def b6 (p : PassL) : P6 := (p.x, p.y, p.dx, p.dy, 0, 0)
def p6 (w h : Nat) (p : PassL) : P6 := (p.x, p.y, p.dx, p.dy, manyL w p.x p.dx, manyL h p.y p.dy)
/-- The passes of an image, of whatever head. -/
def passA (a b d c l : Int) : List P6 := if rightH a b d c l = 0 then (passL a.toNat b.toNat (decide (l = 1))).map (p6 a.toNat b.toNat) else []
theorem passA_bad {a b d c l : Int} (h : rightH a b d c l ≠ 0) : passA a b d c l = [] := by unfold passA; rw [if_neg h]
theorem passA_ok {w h : Nat} {d c l : Int} (hr : rightH (w : Int) (h : Int) d c l = 0) : passA (w : Int) (h : Int) d c l = (passL w h (decide (l = 1))).map (p6 w h) := by unfold passA; rw [if_pos hr]; rfl
def baseL (l : Int) : List PassL := if decide (l = 1) = true then lacedL else plainL
theorem base_small {l : Int} {p : PassL} (hp : p ∈ baseL l) : (p.x ≤ 7 ∧ p.y ≤ 7) ∧ (1 ≤ p.dx ∧ p.dx ≤ 8) ∧ 1 ≤ p.dy ∧ p.dy ≤ 8 := by
  unfold baseL at hp
  cases hd : decide (l = 1)
  · rw [hd, if_neg (by decide)] at hp
    rw [List.mem_singleton.1 hp]
    decide
  · rw [hd, if_pos rfl] at hp
    simp only [lacedL, List.mem_cons, List.not_mem_nil, or_false] at hp
    rcases hp with rfl | rfl | rfl | rfl | rfl | rfl | rfl <;> decide
/-- What has been taken of the first passes. -/
def takenP (w h : Nat) (B : List PassL) (i : Nat) : List P6 := ((B.take i).filter (someP w h)).map (p6 w h)
theorem takenP_next {w h : Nat} {B : List PassL} {i : Nat} {p : PassL} (hp : B[i]? = some p) : takenP w h B (i + 1) = takenP w h B i ++ (if someP w h p = true then [p6 w h p] else []) := by
  have hi := (List.getElem?_eq_some_iff.1 hp).1
  have e : B.take (i + 1) = B.take i ++ [p] := by
    rw [List.take_succ_eq_append_getElem hi]
    congr 1
    rw [(List.getElem?_eq_some_iff.1 hp).2]
  unfold takenP
  rw [e, List.filter_append, List.map_append]
  congr 1
  by_cases hs : someP w h p = true
  · rw [if_pos hs, List.filter_cons, if_pos hs]; rfl
  · rw [if_neg hs, List.filter_cons, if_neg hs]; rfl
theorem takenP_len (w h : Nat) (B : List PassL) (i : Nat) : (takenP w h B i).length ≤ B.length := by
  unfold takenP
  rw [List.length_map]
  refine Nat.le_trans (List.length_filter_le _ _) ?_
  rw [List.length_take]
  exact Nat.min_le_right _ _
/-- What stands while the passes are gone through. -/
def PsS (w : World) (g1 g3 : Nat) (a b d c l : Int) (N : Nat) (M : List P6) (v : World) : Prop := Is v g1 29 #[.int .i64 a, .int .i64 b, .int .i64 d, .int .i64 c, .int .i64 l] ∧ Pss v (some ⟨g3, 0, none⟩) N M ∧ But [] w v
theorem PsS.but {w v v' : World} {g1 g3 : Nat} {a b d c l : Int} {N : Nat} {M : List P6} (h : PsS w g1 g3 a b d c l N M v) (k : But [] v v') : PsS w g1 g3 a b d c l N M v' := ⟨h.1.but k (by simp), h.2.1.but k, h.2.2.trans k⟩
set_option maxHeartbeats 2000000 in
theorem epasses_any (w : World) (a b d c l : Int) :
    Calls Tryd.prog 25 #[.agg #[.int .i64 a, .int .i64 b, .int .i64 d, .int .i64 c, .int .i64 l]] w fun e w' => ∃ A cap, e = .returned (.slice A (passA a b d c l).length cap) ∧ Pss w' A (passA a b d c l).length (passA a b d c l) ∧ (passA a b d c l).length ≤ cap ∧ But [] w w' := by
  have hE := fun v => eright_h v a b d c l
  by_cases h0 : rightH a b d c l ≠ 0
  · obtain ⟨er, her⟩ : ∃ x, x = rightH a b d c l := ⟨_, rfl⟩
    rw [passA_bad h0]
    have h1 : er = 5 ∨ er = 24 := by rcases rightH_cases a b d c l with h | h | h <;> simp_all
    simp only [← her] at hE
    have HE := Lib.hid hE
    have hI := Is.fresh w 29 #[.int .i64 a, .int .i64 b, .int .i64 d, .int .i64 c, .int .i64 l]
    have HA := Lib.hid ((But.refl [] w).alloc (.cells #[.int .i64 a, .int .i64 b, .int .i64 d, .int .i64 c, .int .i64 l] 29))
    have c0 := hI.cell 0
    have c1 := hI.cell 1
    have c2 := hI.cell 2
    have c3 := hI.cell 3
    have c4 := hI.cell 4
    clear hE her h0 hI
    rcases h1 with rfl | rfl
    · go_enter Tryd.func25, Tryd.ntmps25
      go_wp2_with fail
      refine (HE.out _).mono ?_
      rintro e w1 ⟨rfl, hB⟩
      have HB := Lib.hid (HA.out.trans hB)
      clear hB
      go_wp2
      go_ret
      exact ⟨none, 0, rfl, Pss.nil _ _, Nat.le_refl _, HB.out⟩
    · go_enter Tryd.func25, Tryd.ntmps25
      go_wp2_with fail
      refine (HE.out _).mono ?_
      rintro e w1 ⟨rfl, hB⟩
      have HB := Lib.hid (HA.out.trans hB)
      clear hB
      go_wp2
      go_ret
      exact ⟨none, 0, rfl, Pss.nil _ _, Nat.le_refl _, HB.out⟩
  have h0 : rightH a b d c l = 0 := by simpa using h0
  obtain ⟨⟨a1, a2⟩, ⟨b1, b2⟩, hab, hl, _⟩ := rightH_ok h0
  obtain ⟨W, rfl⟩ : ∃ n : Nat, a = (n : Int) := ⟨a.toNat, by omega⟩
  obtain ⟨H, rfl⟩ : ∃ n : Nat, b = (n : Int) := ⟨b.toNat, by omega⟩
  rw [h0] at hE
  have HE := Lib.hid hE
  clear hE hab
  rcases hl with rfl | rfl
  · obtain ⟨B, hB⟩ : ∃ B, B = baseL 0 := ⟨_, rfl⟩
    have hBl : B.length = 1 := by rw [hB]; rfl
    have hBs : ∀ p, p ∈ B → (p.x ≤ 7 ∧ p.y ≤ 7) ∧ (1 ≤ p.dx ∧ p.dx ≤ 8) ∧ 1 ≤ p.dy ∧ p.dy ≤ 8 := fun p hp => base_small (l := 0) (by rw [← hB]; exact hp)
    have HR : Hid (passA (W : Int) (H : Int) d c 0 = takenP W H B 1) := Lib.hid (by
      rw [passA_ok h0, ← hBl]
      unfold takenP
      rw [List.take_length, hB]
      rfl)
    have HB := Lib.hid hB
    have HBl := Lib.hid hBl
    have HBs := Lib.hid hBs
    have HAL : Hid ((passA (W : Int) (H : Int) d c 0).length ≤ 100) := Lib.hid (by rw [HR.out]; have := takenP_len W H B 1; omega)
    obtain ⟨RR, hRR⟩ : ∃ R, R = passA (W : Int) (H : Int) d c 0 := ⟨_, rfl⟩
    rw [← hRR] at HR ⊢
    clear hB hBl hBs h0 hRR HAL
    obtain ⟨i0, hi0, hz0, hz1, hz2⟩ := info_parts info_pass
    have hI := Is.fresh w 29 #[.int .i64 W, .int .i64 H, .int .i64 d, .int .i64 c, .int .i64 0]
    have hA := (But.refl [] w).alloc (.cells #[.int .i64 W, .int .i64 H, .int .i64 d, .int .i64 c, .int .i64 0] 29)
    obtain ⟨g1, hg1⟩ : ∃ g, g = w.heap.size := ⟨_, rfl⟩
    obtain ⟨w0, hw0⟩ : ∃ x, x = w.alloc (.cells #[.int .i64 W, .int .i64 H, .int .i64 d, .int .i64 c, .int .i64 0] 29) := ⟨_, rfl⟩
    rw [← hg1, ← hw0] at hI
    rw [← hw0] at hA
    have HI := Lib.hid hI
    have HA := Lib.hid hA
    have HG := Lib.hid hg1
    have c0 := hI.cell 0
    have c1 := hI.cell 1
    have c2 := hI.cell 2
    have c3 := hI.cell 3
    have c4 := hI.cell 4
    clear hI hA
    go_enter Tryd.func25, Tryd.ntmps25
    go_upto_region 1 with (fail)
    rw [← hw0, ← hg1]
    clear hw0 hg1
    go_wp2_with fail
    refine (HE.out _).mono ?_
    rintro e w1 ⟨rfl, hB1⟩
    have hI1 := HI.out.but hB1 (by simp)
    have HB1 := Lib.hid hB1
    have HI1 := Lib.hid hI1
    clear hB1 hI1 c0 c1 c2 c3 c4
    go_upto_region 3 with (fail)
    go_cut [3] from 10 to 11 (fun v wx => ∃ g, v = .slice (some ⟨g, 0, none⟩) 1 1 ∧ Hid (But [] w1 wx) ∧ Hid (Pss wx (some ⟨g, 0, none⟩) 1 (plainL.map b6)))
    case first =>
      go_wp2
      go_meet
      exact ⟨_, rfl, Lib.hid ((But.refl [] w1).alloc _), Lib.hid (Pss.of (L := plainL.map b6) (Is.fresh _ _ _) rfl)⟩
    case rest =>
    obtain ⟨g3, rfl, HBx, HPx⟩ := hcut
    have hI2 := HI1.out.but HBx.out (by simp)
    have c4 := hI2.cell 4
    have HS : Hid (PsS w g1 g3 W H d c 0 1 (B.map b6) wc) := Lib.hid ⟨hI2, by rw [HB.out]; exact HPx.out, (HA.out.trans HB1.out).trans HBx.out⟩
    have HO : Hid (OwnP6 wc w.heap.size (.slice none 0 0) (takenP W H B 0)) := Lib.hid (OwnP6.nil _ _)
    clear hI2 HI HA HG HB1 HI1 HBx HPx
    go_wp2_with fail
    go_loopw [4, 5] (fun ov iv wr => ∃ i : Nat, i ≤ 1 ∧ iv = .int .i64 i ∧ Hid (OwnP6 wr w.heap.size ov (takenP W H B i)) ∧ Hid (ov.ownBlock ≠ some g3) ∧ Hid (PsS w g1 g3 W H d c 0 1 (B.map b6) wr)) (fun _ iv _ => 1 - (intOf iv).toNat)
    case atStart => exact ⟨0, Nat.zero_le _, rfl, HO, Lib.hid (by simp [Value.ownBlock]), HS⟩
    case round =>
      clear HO HS
      obtain ⟨i, hi, rfl, HO, HNE, HS⟩ := hrel
      by_cases hlt : i < 1
      · obtain ⟨g, o, q, e, hg, hq, k0, k1, k2, k3, k4, k5⟩ := HS.out.2.1.at hlt
        injection e with e
        injection e with e1 e2
        subst e1 e2
        rw [List.getElem?_map] at hq
        obtain ⟨p, hp, hqp⟩ := Option.map_eq_some_iff.1 hq
        subst hqp
        have hpm := HBs.out p (List.mem_of_getElem? hp)
        have HNX := Lib.hid (takenP_next (w := W) (h := H) hp)
        obtain ⟨x, y, dx, dy⟩ := p
        obtain ⟨⟨s1, s2⟩, ⟨s3, s4⟩, s5, s6⟩ := hpm
        dsimp only at s1 s2 s3 s4 s5 s6
        unfold b6 at k0 k1 k2 k3 k4 k5
        dsimp only at k0 k1 k2 k3 k4 k5
        rw [Nat.zero_add] at k0 k1 k2 k3 k4 k5
        clear hq hp
        have j0 := HS.out.1.cell 0
        have j1 := HS.out.1.cell 1
        have hg1 := HS.out.1.lt
        have HLT := Lib.hid hg
        obtain ⟨mW, hmW⟩ : ∃ m, m = manyL W x dx := ⟨_, rfl⟩
        obtain ⟨mH, hmH⟩ : ∃ m, m = manyL H y dy := ⟨_, rfl⟩
        have HM1 : Hid (∀ v, Calls Tryd.prog 45 #[.int .i64 W, .int .i64 x, .int .i64 dx] v fun e w' => e = .returned (.int .i64 (mW : Nat)) ∧ v = w') := Lib.hid fun v => by rw [hmW]; exact emany_any v (by omega) (by omega) s3 (by omega)
        have HM2 : Hid (∀ v, Calls Tryd.prog 45 #[.int .i64 H, .int .i64 y, .int .i64 dy] v fun e w' => e = .returned (.int .i64 (mH : Nat)) ∧ v = w') := Lib.hid fun v => by rw [hmH]; exact emany_any v (by omega) (by omega) s5 (by omega)
        have HSO : Hid (someP W H ⟨x, y, dx, dy⟩ = decide (0 < mW ∧ 0 < mH)) := Lib.hid (by rw [hmW, hmH]; rfl)
        have HP6 : Hid (p6 W H ⟨x, y, dx, dy⟩ = (x, y, dx, dy, mW, mH)) := Lib.hid (by rw [hmW, hmH]; rfl)
        have l1 : mW ≤ 1024 := by rw [hmW]; exact Nat.le_trans (manyL_le _ _ _ s3) (by omega)
        have l2 : mH ≤ 1024 := by rw [hmH]; exact Nat.le_trans (manyL_le _ _ _ s5) (by omega)
        clear hmW hmH
        have hAl := (But.refl [] wr).alloc (.cells #[.int .i64 x, .int .i64 y, .int .i64 dx, .int .i64 dy, .int .i64 mW, .int .i64 mH] 52)
        have HS2 := Lib.hid (HS.out.but hAl)
        have HO2 := Lib.hid (HO.out.but hAl)
        have HF9 : Hid (Is ((wr.alloc (.cells #[.int .i64 x, .int .i64 y, .int .i64 dx, .int .i64 dy, .int .i64 mW, .int .i64 mH] 52)).alloc (.cells #[.int .i64 x, .int .i64 y, .int .i64 dx, .int .i64 dy, .int .i64 mW, .int .i64 mH] 52)) (wr.heap.size + 1) 52 #[.int .i64 x, .int .i64 y, .int .i64 dx, .int .i64 dy, .int .i64 mW, .int .i64 mH]) := Lib.hid (by
          have h := Is.fresh (wr.alloc (.cells #[.int .i64 x, .int .i64 y, .int .i64 dx, .int .i64 dy, .int .i64 mW, .int .i64 mH] 52)) 52 #[.int .i64 x, .int .i64 y, .int .i64 dx, .int .i64 dy, .int .i64 mW, .int .i64 mH]
          rw [show (wr.alloc (.cells #[.int .i64 x, .int .i64 y, .int .i64 dx, .int .i64 dy, .int .i64 mW, .int .i64 mH] 52)).heap.size = wr.heap.size + 1 by simp] at h
          exact h)
        have HTL : Hid ((takenP W H B i).length < 1000000) := Lib.hid (by have := takenP_len W H B i; have := HBl.out; omega)
        by_cases hm : 0 < mW ∧ 0 < mH
        · have HN : Hid (takenP W H B (i + 1) = takenP W H B i ++ [(x, y, dx, dy, mW, mH)]) := Lib.hid (by rw [HNX.out, HSO.out, if_pos (decide_eq_true hm), HP6.out])
          obtain ⟨hm1, hm2⟩ := hm
          go_wp2_with fail
          refine (HM1.out _).mono ?_
          rintro e wz ⟨rfl, rfl⟩
          go_wp2_with fail
          refine (HM2.out _).mono ?_
          rintro e wz ⟨rfl, rfl⟩
          go_wp2_with (at_builtin; refine wpList_append_p6 (w0 := w) _ rfl _ _ rfl _ (takenP W H B i) rfl (HO2.out.but ((But.refl [] _).alloc _)) (HS2.out.2.2.alloc _) (x, y, dx, dy, mW, mH) (cs := #[.int .i64 x, .int .i64 y, .int .i64 dx, .int .i64 dy, .int .i64 mW, .int .i64 mH]) rfl rfl HF9.out HTL.out ?_)
          intro A9 c9 w9 hO9 hB9 hIs hPs hNe
          have HNE9 : Hid ((Value.slice A9 ((takenP W H B i).length + 1) c9).ownBlock ≠ some g3) := Lib.hid (hNe _ HNE.out (by have := HLT.out; simp; omega))
          have HS9 : Hid (PsS w g1 g3 W H d c 0 1 (B.map b6) w9) := Lib.hid ⟨hIs _ _ _ (HS2.out.1.but ((But.refl [] _).alloc _) (by simp)) (.inl (by decide)), hPs _ _ _ (HS2.out.2.1.but ((But.refl [] _).alloc _)) (fun g o e => by injection e with e; injection e with e1 e2; subst e1; exact HNE.out), hB9⟩
          have HO9 : Hid (OwnP6 w9 w.heap.size (.slice A9 ((takenP W H B i).length + 1) c9) (takenP W H B (i + 1))) := Lib.hid (by rw [HN.out]; exact hO9)
          clear hIs hPs hNe hO9 hB9
          go_wp2
          go_roundw
          case rel => exact ⟨i + 1, by omega, by go_num, HO9, HNE9, HS9⟩
          case measure => simp [intOf] <;> omega
        · have HN : Hid (takenP W H B (i + 1) = takenP W H B i) := Lib.hid (by rw [HNX.out, HSO.out, if_neg (by simpa using hm), List.append_nil])
          by_cases hm1 : 0 < mW
          · have hm2 : ¬ 0 < mH := fun h => hm ⟨hm1, h⟩
            clear hm
            go_wp2_with fail
            refine (HM1.out _).mono ?_
            rintro e wz ⟨rfl, rfl⟩
            go_wp2_with fail
            refine (HM2.out _).mono ?_
            rintro e wz ⟨rfl, rfl⟩
            go_wp2_with fail
            go_roundw
            case rel => exact ⟨i + 1, by omega, by go_num, Lib.hid (by rw [HN.out]; exact HO2.out), HNE, HS2⟩
            case measure => simp [intOf] <;> omega
          · clear hm
            go_wp2_with fail
            refine (HM1.out _).mono ?_
            rintro e wz ⟨rfl, rfl⟩
            go_wp2_with fail
            refine (HM2.out _).mono ?_
            rintro e wz ⟨rfl, rfl⟩
            go_wp2_with fail
            go_roundw
            case rel => exact ⟨i + 1, by omega, by go_num, Lib.hid (by rw [HN.out]; exact HO2.out), HNE, HS2⟩
            case measure => simp [intOf] <;> omega
      · obtain rfl : i = 1 := by omega
        obtain ⟨A, cp, rfl, hcp⟩ := HO.out.shape
        have hps := HO.out.pss
        go_wp2
        go_ret
        refine ⟨A, cp, ?_, ?_, ?_, HS.out.2.2⟩
        · rw [HR.out]; rfl
        · rw [HR.out]; exact hps
        · rw [HR.out]; exact hcp
  · obtain ⟨B, hB⟩ : ∃ B, B = baseL 1 := ⟨_, rfl⟩
    have hBl : B.length = 7 := by rw [hB]; rfl
    have hBs : ∀ p, p ∈ B → (p.x ≤ 7 ∧ p.y ≤ 7) ∧ (1 ≤ p.dx ∧ p.dx ≤ 8) ∧ 1 ≤ p.dy ∧ p.dy ≤ 8 := fun p hp => base_small (l := 1) (by rw [← hB]; exact hp)
    have HR : Hid (passA (W : Int) (H : Int) d c 1 = takenP W H B 7) := Lib.hid (by
      rw [passA_ok h0, ← hBl]
      unfold takenP
      rw [List.take_length, hB]
      rfl)
    have HB := Lib.hid hB
    have HBl := Lib.hid hBl
    have HBs := Lib.hid hBs
    have HAL : Hid ((passA (W : Int) (H : Int) d c 1).length ≤ 100) := Lib.hid (by rw [HR.out]; have := takenP_len W H B 7; omega)
    obtain ⟨RR, hRR⟩ : ∃ R, R = passA (W : Int) (H : Int) d c 1 := ⟨_, rfl⟩
    rw [← hRR] at HR ⊢
    clear hB hBl hBs h0 hRR HAL
    obtain ⟨i0, hi0, hz0, hz1, hz2⟩ := info_parts info_pass
    have hI := Is.fresh w 29 #[.int .i64 W, .int .i64 H, .int .i64 d, .int .i64 c, .int .i64 1]
    have hA := (But.refl [] w).alloc (.cells #[.int .i64 W, .int .i64 H, .int .i64 d, .int .i64 c, .int .i64 1] 29)
    obtain ⟨g1, hg1⟩ : ∃ g, g = w.heap.size := ⟨_, rfl⟩
    obtain ⟨w0, hw0⟩ : ∃ x, x = w.alloc (.cells #[.int .i64 W, .int .i64 H, .int .i64 d, .int .i64 c, .int .i64 1] 29) := ⟨_, rfl⟩
    rw [← hg1, ← hw0] at hI
    rw [← hw0] at hA
    have HI := Lib.hid hI
    have HA := Lib.hid hA
    have HG := Lib.hid hg1
    have c0 := hI.cell 0
    have c1 := hI.cell 1
    have c2 := hI.cell 2
    have c3 := hI.cell 3
    have c4 := hI.cell 4
    clear hI hA
    go_enter Tryd.func25, Tryd.ntmps25
    go_upto_region 1 with (fail)
    rw [← hw0, ← hg1]
    clear hw0 hg1
    go_wp2_with fail
    refine (HE.out _).mono ?_
    rintro e w1 ⟨rfl, hB1⟩
    have hI1 := HI.out.but hB1 (by simp)
    have HB1 := Lib.hid hB1
    have HI1 := Lib.hid hI1
    clear hB1 hI1 c0 c1 c2 c3 c4
    go_upto_region 3 with (fail)
    go_cut [3] from 10 to 11 (fun v wx => ∃ g, v = .slice (some ⟨g, 0, none⟩) 1 1 ∧ Hid (But [] w1 wx) ∧ Hid (Pss wx (some ⟨g, 0, none⟩) 1 (plainL.map b6)))
    case first =>
      go_wp2
      go_meet
      exact ⟨_, rfl, Lib.hid ((But.refl [] w1).alloc _), Lib.hid (Pss.of (L := plainL.map b6) (Is.fresh _ _ _) rfl)⟩
    case rest =>
    obtain ⟨g3, rfl, HBx, HPx⟩ := hcut
    have hI2 := HI1.out.but HBx.out (by simp)
    have c4 := hI2.cell 4
    go_upto_region 5 with (fail)
    go_cut [3] from 15 to 22 (fun v wy => ∃ g, v = .slice (some ⟨g, 0, none⟩) 7 7 ∧ Hid (But [] wc wy) ∧ Hid (Pss wy (some ⟨g, 0, none⟩) 7 (lacedL.map b6)))
    case first =>
      clear hI2 c4
      go_wp2
      go_meet
      exact ⟨_, rfl, Lib.hid ((But.refl [] wc).alloc _), Lib.hid (Pss.of (L := lacedL.map b6) (Is.fresh _ _ _) rfl)⟩
    case rest =>
    obtain ⟨w5, hw5⟩ : ∃ x, x = wc := ⟨_, rfl⟩
    obtain ⟨g5, rfl, HBy, HPy⟩ := hcut
    have HS : Hid (PsS w g1 g5 W H d c 1 7 (B.map b6) wc) := Lib.hid ⟨hI2.but HBy.out (by simp), by rw [HB.out]; exact HPy.out, ((HA.out.trans HB1.out).trans HBx.out).trans HBy.out⟩
    have HO : Hid (OwnP6 wc w.heap.size (.slice none 0 0) (takenP W H B 0)) := Lib.hid (OwnP6.nil _ _)
    clear hI2 c4 HI HA HG HB1 HI1 HBx HPx HBy HPy
    go_wp2_with fail
    go_loopw [4, 5] (fun ov iv wr => ∃ i : Nat, i ≤ 7 ∧ iv = .int .i64 i ∧ Hid (OwnP6 wr w.heap.size ov (takenP W H B i)) ∧ Hid (ov.ownBlock ≠ some g5) ∧ Hid (PsS w g1 g5 W H d c 1 7 (B.map b6) wr)) (fun _ iv _ => 7 - (intOf iv).toNat)
    case atStart => exact ⟨0, Nat.zero_le _, rfl, HO, Lib.hid (by simp [Value.ownBlock]), HS⟩
    case round =>
      clear HO HS
      obtain ⟨i, hi, rfl, HO, HNE, HS⟩ := hrel
      by_cases hlt : i < 7
      · obtain ⟨g, o, q, e, hg, hq, k0, k1, k2, k3, k4, k5⟩ := HS.out.2.1.at hlt
        injection e with e
        injection e with e1 e2
        subst e1 e2
        rw [List.getElem?_map] at hq
        obtain ⟨p, hp, hqp⟩ := Option.map_eq_some_iff.1 hq
        subst hqp
        have hpm := HBs.out p (List.mem_of_getElem? hp)
        have HNX := Lib.hid (takenP_next (w := W) (h := H) hp)
        obtain ⟨x, y, dx, dy⟩ := p
        obtain ⟨⟨s1, s2⟩, ⟨s3, s4⟩, s5, s6⟩ := hpm
        dsimp only at s1 s2 s3 s4 s5 s6
        unfold b6 at k0 k1 k2 k3 k4 k5
        dsimp only at k0 k1 k2 k3 k4 k5
        rw [Nat.zero_add] at k0 k1 k2 k3 k4 k5
        clear hq hp
        have j0 := HS.out.1.cell 0
        have j1 := HS.out.1.cell 1
        have hg1 := HS.out.1.lt
        have HLT := Lib.hid hg
        obtain ⟨mW, hmW⟩ : ∃ m, m = manyL W x dx := ⟨_, rfl⟩
        obtain ⟨mH, hmH⟩ : ∃ m, m = manyL H y dy := ⟨_, rfl⟩
        have HM1 : Hid (∀ v, Calls Tryd.prog 45 #[.int .i64 W, .int .i64 x, .int .i64 dx] v fun e w' => e = .returned (.int .i64 (mW : Nat)) ∧ v = w') := Lib.hid fun v => by rw [hmW]; exact emany_any v (by omega) (by omega) s3 (by omega)
        have HM2 : Hid (∀ v, Calls Tryd.prog 45 #[.int .i64 H, .int .i64 y, .int .i64 dy] v fun e w' => e = .returned (.int .i64 (mH : Nat)) ∧ v = w') := Lib.hid fun v => by rw [hmH]; exact emany_any v (by omega) (by omega) s5 (by omega)
        have HSO : Hid (someP W H ⟨x, y, dx, dy⟩ = decide (0 < mW ∧ 0 < mH)) := Lib.hid (by rw [hmW, hmH]; rfl)
        have HP6 : Hid (p6 W H ⟨x, y, dx, dy⟩ = (x, y, dx, dy, mW, mH)) := Lib.hid (by rw [hmW, hmH]; rfl)
        have l1 : mW ≤ 1024 := by rw [hmW]; exact Nat.le_trans (manyL_le _ _ _ s3) (by omega)
        have l2 : mH ≤ 1024 := by rw [hmH]; exact Nat.le_trans (manyL_le _ _ _ s5) (by omega)
        clear hmW hmH
        have hAl := (But.refl [] wr).alloc (.cells #[.int .i64 x, .int .i64 y, .int .i64 dx, .int .i64 dy, .int .i64 mW, .int .i64 mH] 52)
        have HS2 := Lib.hid (HS.out.but hAl)
        have HO2 := Lib.hid (HO.out.but hAl)
        have HF9 : Hid (Is ((wr.alloc (.cells #[.int .i64 x, .int .i64 y, .int .i64 dx, .int .i64 dy, .int .i64 mW, .int .i64 mH] 52)).alloc (.cells #[.int .i64 x, .int .i64 y, .int .i64 dx, .int .i64 dy, .int .i64 mW, .int .i64 mH] 52)) (wr.heap.size + 1) 52 #[.int .i64 x, .int .i64 y, .int .i64 dx, .int .i64 dy, .int .i64 mW, .int .i64 mH]) := Lib.hid (by
          have h := Is.fresh (wr.alloc (.cells #[.int .i64 x, .int .i64 y, .int .i64 dx, .int .i64 dy, .int .i64 mW, .int .i64 mH] 52)) 52 #[.int .i64 x, .int .i64 y, .int .i64 dx, .int .i64 dy, .int .i64 mW, .int .i64 mH]
          rw [show (wr.alloc (.cells #[.int .i64 x, .int .i64 y, .int .i64 dx, .int .i64 dy, .int .i64 mW, .int .i64 mH] 52)).heap.size = wr.heap.size + 1 by simp] at h
          exact h)
        have HTL : Hid ((takenP W H B i).length < 1000000) := Lib.hid (by have := takenP_len W H B i; have := HBl.out; omega)
        by_cases hm : 0 < mW ∧ 0 < mH
        · have HN : Hid (takenP W H B (i + 1) = takenP W H B i ++ [(x, y, dx, dy, mW, mH)]) := Lib.hid (by rw [HNX.out, HSO.out, if_pos (decide_eq_true hm), HP6.out])
          obtain ⟨hm1, hm2⟩ := hm
          go_wp2_with fail
          refine (HM1.out _).mono ?_
          rintro e wz ⟨rfl, rfl⟩
          go_wp2_with fail
          refine (HM2.out _).mono ?_
          rintro e wz ⟨rfl, rfl⟩
          go_wp2_with (at_builtin; refine wpList_append_p6 (w0 := w) _ rfl _ _ rfl _ (takenP W H B i) rfl (HO2.out.but ((But.refl [] _).alloc _)) (HS2.out.2.2.alloc _) (x, y, dx, dy, mW, mH) (cs := #[.int .i64 x, .int .i64 y, .int .i64 dx, .int .i64 dy, .int .i64 mW, .int .i64 mH]) rfl rfl HF9.out HTL.out ?_)
          intro A9 c9 w9 hO9 hB9 hIs hPs hNe
          have HNE9 : Hid ((Value.slice A9 ((takenP W H B i).length + 1) c9).ownBlock ≠ some g5) := Lib.hid (hNe _ HNE.out (by have := HLT.out; simp; omega))
          have HS9 : Hid (PsS w g1 g5 W H d c 1 7 (B.map b6) w9) := Lib.hid ⟨hIs _ _ _ (HS2.out.1.but ((But.refl [] _).alloc _) (by simp)) (.inl (by decide)), hPs _ _ _ (HS2.out.2.1.but ((But.refl [] _).alloc _)) (fun g o e => by injection e with e; injection e with e1 e2; subst e1; exact HNE.out), hB9⟩
          have HO9 : Hid (OwnP6 w9 w.heap.size (.slice A9 ((takenP W H B i).length + 1) c9) (takenP W H B (i + 1))) := Lib.hid (by rw [HN.out]; exact hO9)
          clear hIs hPs hNe hO9 hB9
          go_wp2
          go_roundw
          case rel => exact ⟨i + 1, by omega, by go_num, HO9, HNE9, HS9⟩
          case measure => simp [intOf] <;> omega
        · have HN : Hid (takenP W H B (i + 1) = takenP W H B i) := Lib.hid (by rw [HNX.out, HSO.out, if_neg (by simpa using hm), List.append_nil])
          by_cases hm1 : 0 < mW
          · have hm2 : ¬ 0 < mH := fun h => hm ⟨hm1, h⟩
            clear hm
            go_wp2_with fail
            refine (HM1.out _).mono ?_
            rintro e wz ⟨rfl, rfl⟩
            go_wp2_with fail
            refine (HM2.out _).mono ?_
            rintro e wz ⟨rfl, rfl⟩
            go_wp2_with fail
            go_roundw
            case rel => exact ⟨i + 1, by omega, by go_num, Lib.hid (by rw [HN.out]; exact HO2.out), HNE, HS2⟩
            case measure => simp [intOf] <;> omega
          · clear hm
            go_wp2_with fail
            refine (HM1.out _).mono ?_
            rintro e wz ⟨rfl, rfl⟩
            go_wp2_with fail
            refine (HM2.out _).mono ?_
            rintro e wz ⟨rfl, rfl⟩
            go_wp2_with fail
            go_roundw
            case rel => exact ⟨i + 1, by omega, by go_num, Lib.hid (by rw [HN.out]; exact HO2.out), HNE, HS2⟩
            case measure => simp [intOf] <;> omega
      · obtain rfl : i = 7 := by omega
        obtain ⟨A, cp, rfl, hcp⟩ := HO.out.shape
        have hps := HO.out.pss
        go_wp2
        go_ret
        refine ⟨A, cp, ?_, ?_, ?_, HS.out.2.2⟩
        · rw [HR.out]; rfl
        · rw [HR.out]; exact hps
        · rw [HR.out]; exact hcp
end Go.Proofs.YtfiedoejdikcgaaDoor
set_option maxRecDepth 100000
set_option linter.unusedVariables false
namespace Go.Proofs.YtfiedoejdikcgaaDoor
set_option maxRecDepth 100000
open Go Go.RowKit
/-- How many bytes a row of so many pixels has, of whatever head. -/
def rowA (a b d c l n : Int) : Nat := if rightH a b d c l ≠ 0 ∨ n < 1 ∨ 1024 < n then 0 else ((d * samplesI c * n + 7) / 8).toNat
theorem rowA_bad {a b d c l n : Int} (h : rightH a b d c l ≠ 0 ∨ n < 1 ∨ 1024 < n) : rowA a b d c l n = 0 := by unfold rowA; rw [if_pos h]
theorem depth_nat {d c : Int} (h : depthOk d c = true) : ∃ D S : Nat, d = (D : Int) ∧ samplesI c = (S : Int) ∧ (1 ≤ D ∧ D ≤ 16) ∧ (1 ≤ S ∧ S ≤ 4) ∧ D * S ≤ 64 ∧ 1 ≤ D * S := by
  have h2 := of_decide_eq_true h
  have hd : 1 ≤ d ∧ d ≤ 16 := by omega
  have hs : 1 ≤ samplesI c ∧ samplesI c ≤ 4 := by
    unfold samplesI
    have hc : c = 0 ∨ c = 3 ∨ c = 2 ∨ c = 4 ∨ c = 6 := by omega
    rcases hc with rfl | rfl | rfl | rfl | rfl <;> decide
  refine ⟨d.toNat, (samplesI c).toNat, by omega, by omega, by omega, by omega, ?_, ?_⟩
  · show _ ≤ 16 * 4
    exact Nat.mul_le_mul (by omega) (by omega)
  · exact Nat.mul_pos (by omega) (by omega)
theorem rowA_ok {a b d c l : Int} {D S n : Nat} (h0 : rightH a b d c l = 0) (hd : d = (D : Int)) (hs : samplesI c = (S : Int)) (h1 : 1 ≤ n) (h2 : n ≤ 1024) : rowA a b d c l (n : Int) = (D * S * n + 7) / 8 := by
  unfold rowA
  rw [if_neg (by rw [h0]; omega), hd, hs, ← Int.natCast_mul, ← Int.natCast_mul]
  omega
theorem rowA_le (a b d c l n : Int) : rowA a b d c l n ≤ 8192 := by
  unfold rowA
  by_cases h : rightH a b d c l ≠ 0 ∨ n < 1 ∨ 1024 < n
  · rw [if_pos h]; exact Nat.zero_le _
  · rw [if_neg h]
    have h0 : rightH a b d c l = 0 := by
      by_cases e : rightH a b d c l = 0
      · exact e
      · exact absurd (Or.inl e) h
    obtain ⟨D, S, rfl, hs, _, _, hm, _⟩ := depth_nat (rightH_ok h0).2.2.2.2
    obtain ⟨N, rfl⟩ : ∃ N : Nat, n = (N : Int) := ⟨n.toNat, by omega⟩
    rw [hs, ← Int.natCast_mul, ← Int.natCast_mul]
    have : D * S * N ≤ 64 * 1024 := Nat.mul_le_mul hm (by omega)
    omega
end Go.Proofs.YtfiedoejdikcgaaDoor
set_option maxRecDepth 100000
set_option linter.unusedVariables false
namespace Go.Proofs.YtfiedoejdikcgaaDoor
set_option maxRecDepth 100000
open Go Go.RowKit
/-- How many bytes passes have. -/
def sizeL (a b d c l : Int) (L : List P6) : Nat := (L.map fun p => p.2.2.2.2.2 * (1 + rowA a b d c l (p.2.2.2.2.1 : Nat))).sum
def sizeA (a b d c l : Int) : Nat := sizeL a b d c l (passA a b d c l)
theorem sizeL_snoc (a b d c l : Int) (L : List P6) (p : P6) : sizeL a b d c l (L ++ [p]) = sizeL a b d c l L + p.2.2.2.2.2 * (1 + rowA a b d c l (p.2.2.2.2.1 : Nat)) := by
  unfold sizeL
  rw [List.map_append, List.sum_append]
  simp
theorem passA_small {a b d c l : Int} {p : P6} (hp : p ∈ passA a b d c l) : (p.1 ≤ 7 ∧ p.2.1 ≤ 7) ∧ (1 ≤ p.2.2.1 ∧ p.2.2.1 ≤ 8) ∧ (1 ≤ p.2.2.2.1 ∧ p.2.2.2.1 ≤ 8) ∧ (1 ≤ p.2.2.2.2.1 ∧ p.2.2.2.2.1 ≤ 1024) ∧ 1 ≤ p.2.2.2.2.2 ∧ p.2.2.2.2.2 ≤ 1024 := by
  unfold passA at hp
  by_cases h : rightH a b d c l = 0
  · rw [if_pos h] at hp
    obtain ⟨⟨a1, a2⟩, ⟨b1, b2⟩, _⟩ := rightH_ok h
    obtain ⟨q, hq, rfl⟩ := List.mem_map.1 hp
    have hok := passL_ok hq
    have hb : q ∈ baseL l := (List.mem_filter.1 hq).1
    have hs := base_small hb
    unfold p6
    dsimp only
    exact ⟨hs.1, hs.2.1, hs.2.2, ⟨hok.2.1, Nat.le_trans (manyL_le _ _ _ hs.2.1.1) (by omega)⟩, hok.2.2, Nat.le_trans (manyL_le _ _ _ hs.2.2.1) (by omega)⟩
  · rw [if_neg h] at hp; cases hp
theorem passA_len (a b d c l : Int) : (passA a b d c l).length ≤ 7 := by
  unfold passA
  split
  · rw [List.length_map]
    refine Nat.le_trans (List.length_filter_le _ _) ?_
    split <;> decide
  · exact Nat.zero_le _
theorem sizeL_le {a b d c l : Int} {L : List P6} (hL : ∀ p, p ∈ L → p.2.2.2.2.2 ≤ 1024) : sizeL a b d c l L ≤ L.length * 8389632 := by
  induction L with
  | nil => exact Nat.zero_le _
  | cons p L ih =>
    have h1 := ih fun q hq => hL q (List.mem_cons_of_mem _ hq)
    have h2 : p.2.2.2.2.2 * (1 + rowA a b d c l (p.2.2.2.2.1 : Nat)) ≤ 1024 * 8193 := Nat.mul_le_mul (hL p (by simp)) (by have := rowA_le a b d c l (p.2.2.2.2.1 : Nat); omega)
    have e : sizeL a b d c l (p :: L) = p.2.2.2.2.2 * (1 + rowA a b d c l (p.2.2.2.2.1 : Nat)) + sizeL a b d c l L := by unfold sizeL; rw [List.map_cons, List.sum_cons]
    rw [e, List.length_cons]
    omega
theorem take_nextP {L : List P6} {i : Nat} {p : P6} (hp : L[i]? = some p) : L.take (i + 1) = L.take i ++ [p] := by
  rw [List.take_succ_eq_append_getElem (List.getElem?_eq_some_iff.1 hp).1]
  congr 1
  rw [(List.getElem?_eq_some_iff.1 hp).2]
end Go.Proofs.YtfiedoejdikcgaaDoor
set_option linter.unusedVariables false
namespace Go.Proofs.YtfiedoejdikcgaaDoor
set_option maxRecDepth 100000
open Go
/-- What holds of a head that may be. -/
structure RightP (a b d c l : Int) (W H D C : Nat) : Prop where
  wa : a = (W : Int)
  hb : b = (H : Int)
  dd : d = (D : Int)
  cc : c = (C : Int)
  w1 : 1 ≤ W
  w2 : W ≤ 1024
  h1 : 1 ≤ H
  h2 : H ≤ 1024
  area : W * H ≤ 4096
  lace : l = 0 ∨ l = 1
  dep : depB (D : Int) = true
  d1 : 1 ≤ D
  d16 : D ≤ 16
  col : C = 0 ∨ C = 2 ∨ C = 3 ∨ C = 4 ∨ C = 6
  sam : samplesI (C : Int) = (samplesN C : Int)
  s1 : 1 ≤ samplesN C
  s4 : samplesN C ≤ 4
theorem right_form {a b d c l : Int} (h : rightH a b d c l = 0) : ∃ W H D C : Nat, RightP a b d c l W H D C := by
  obtain ⟨⟨a1, a2⟩, ⟨b1, b2⟩, ab, hl, hd⟩ := rightH_ok h
  have hd2 := of_decide_eq_true hd
  have hC : c = 0 ∨ c = 2 ∨ c = 3 ∨ c = 4 ∨ c = 6 := by omega
  have hD : d = 1 ∨ d = 2 ∨ d = 4 ∨ d = 8 ∨ d = 16 := by omega
  obtain ⟨W, rfl⟩ : ∃ W : Nat, a = (W : Int) := ⟨a.toNat, by omega⟩
  obtain ⟨H, rfl⟩ : ∃ H : Nat, b = (H : Int) := ⟨b.toNat, by omega⟩
  obtain ⟨D, rfl⟩ : ∃ D : Nat, d = (D : Int) := ⟨d.toNat, by omega⟩
  obtain ⟨C, rfl⟩ : ∃ C : Nat, c = (C : Int) := ⟨c.toNat, by omega⟩
  have hC2 : C = 0 ∨ C = 2 ∨ C = 3 ∨ C = 4 ∨ C = 6 := by omega
  have area : W * H ≤ 4096 := by exact_mod_cast ab
  refine ⟨W, H, D, C, ⟨rfl, rfl, rfl, rfl, by omega, by omega, by omega, by omega, area, hl, decide_eq_true hD, by omega, by omega, hC2, ?_, ?_, ?_⟩⟩
  all_goals rcases hC2 with rfl | rfl | rfl | rfl | rfl <;> decide
theorem rowA_len {a b d c l : Int} {W H D C : Nat} (pal tr : List UInt8) (has : Bool) (h0 : rightH a b d c l = 0) (R : RightP a b d c l W H D C) {n : Nat} (h1 : 1 ≤ n) (h2 : n ≤ 1024) : rowA a b d c l (n : Int) = rowLen ⟨W, H, D, C, pal, tr, has⟩ n :=
  rowA_ok h0 R.dd (by rw [R.cc]; exact R.sam) h1 h2
theorem size_list {a b d c l : Int} {W H D C : Nat} (pal tr : List UInt8) (has : Bool) (h0 : rightH a b d c l = 0) (R : RightP a b d c l W H D C) : ∀ B : List PassL, (∀ p, p ∈ B → p.x < p.dx ∧ p.y < p.dy) →
    sizeL a b d c l ((B.filter (someP W H)).map (p6 W H)) = sizeJ ⟨W, H, D, C, pal, tr, has⟩ (jobsL W H (B.filter (someP W H))) := by
  intro B hB
  induction B with
  | nil => rfl
  | cons p B ih =>
    have ih := ih fun q hq => hB q (List.mem_cons_of_mem _ hq)
    by_cases hp : someP W H p = true
    · rw [List.filter_cons_of_pos hp]
      have hs := of_decide_eq_true hp
      have hq := hB p (List.mem_cons_self ..)
      have hm := manyL_le W p.x p.dx (by omega)
      have e1 : sizeL a b d c l ((p :: B.filter (someP W H)).map (p6 W H)) = manyL H p.y p.dy * (1 + rowA a b d c l (manyL W p.x p.dx : Nat)) + sizeL a b d c l ((B.filter (someP W H)).map (p6 W H)) := by
        unfold sizeL
        rw [List.map_cons, List.map_cons, List.sum_cons]
        rfl
      have e2 : jobsL W H (p :: B.filter (someP W H)) = rowsP W H p ++ jobsL W H (B.filter (someP W H)) := by unfold jobsL; rw [List.flatMap_cons]
      rw [e1, e2, sizeJ_append, sizeJ_rows _ _ _ _ hs.1, ih, rowA_len pal tr has h0 R hs.1 (by have := R.w2; omega)]
    · rw [List.filter_cons_of_neg hp, ih]
theorem base_ok (l : Int) : ∀ p, p ∈ baseL l → p.x < p.dx ∧ p.y < p.dy := by
  intro p hp
  unfold baseL at hp
  exact (whole_of (decide (l = 1))).1 p hp
theorem passA_base {a b d c l : Int} {W H D C : Nat} (h0 : rightH a b d c l = 0) (R : RightP a b d c l W H D C) : passA a b d c l = ((baseL l).filter (someP W H)).map (p6 W H) := by
  unfold passA
  rw [if_pos h0, R.wa, R.hb]
  rfl
theorem sizeA_J {a b d c l : Int} {W H D C : Nat} (pal tr : List UInt8) (has : Bool) (h0 : rightH a b d c l = 0) (R : RightP a b d c l W H D C) : sizeA a b d c l = sizeJ ⟨W, H, D, C, pal, tr, has⟩ (jobsL W H ((baseL l).filter (someP W H))) := by
  unfold sizeA
  rw [passA_base h0 R]
  exact size_list pal tr has h0 R _ (base_ok l)
/-- A shape, of whatever numbers. -/
def shpA (a b d c : Int) (pal tr : ByteArray) (has : Bool) : ShP := ⟨a.toNat, b.toNat, d.toNat, c.toNat, pal.data.toList, tr.data.toList, has⟩
/-- What an image's packed bytes say, of whatever arguments. -/
def imgA (a b d c l : Int) (pal tr : ByteArray) (has : Bool) (raw : ByteArray) : List UInt8 × Int :=
  if rightH a b d c l ≠ 0 then ([], rightH a b d c l) else imgT (shpA a b d c pal tr has) ((baseL l).filter (someP a.toNat b.toNat)) raw.data.toList
def imageA (a b d c l : Int) (pal tr : ByteArray) (has : Bool) (raw : ByteArray) : (Int × Int × ByteArray) × Int :=
  if (imgA a b d c l pal tr has raw).2 ≠ 0 then ((0, 0, ⟨#[]⟩), (imgA a b d c l pal tr has raw).2) else ((a, b, strL (imgA a b d c l pal tr has raw).1), 0)
theorem imgA_bad {a b d c l : Int} {pal tr : ByteArray} {has : Bool} {raw : ByteArray} (h : rightH a b d c l ≠ 0) : imageA a b d c l pal tr has raw = ((0, 0, ⟨#[]⟩), rightH a b d c l) := by
  unfold imageA imgA
  rw [if_pos h]
  exact if_pos h
theorem imageA_err {a b d c l : Int} {pal tr : ByteArray} {has : Bool} {raw : ByteArray} {e : Int} (h : imgA a b d c l pal tr has raw = ([], e)) (he : e ≠ 0) : imageA a b d c l pal tr has raw = ((0, 0, ⟨#[]⟩), e) := by
  unfold imageA
  rw [h]
  exact if_pos he
theorem imageA_ok {a b d c l : Int} {pal tr : ByteArray} {has : Bool} {raw : ByteArray} {x : List UInt8} (h : imgA a b d c l pal tr has raw = (x, 0)) : imageA a b d c l pal tr has raw = ((a, b, strL x), 0) := by
  unfold imageA
  rw [h]
  exact if_neg (fun h => h rfl)
theorem imgA_T {a b d c l : Int} {pal tr : ByteArray} {has : Bool} {raw : ByteArray} {W H D C : Nat} (h0 : rightH a b d c l = 0) (R : RightP a b d c l W H D C) :
    imgA a b d c l pal tr has raw = imgT ⟨W, H, D, C, pal.data.toList, tr.data.toList, has⟩ ((baseL l).filter (someP W H)) raw.data.toList := by
  unfold imgA shpA
  rw [if_neg (fun h => h h0), R.wa, R.hb, R.dd, R.cc]
  rfl
theorem imgA_short {a b d c l : Int} {pal tr : ByteArray} {has : Bool} {raw : ByteArray} {W H D C : Nat} (h0 : rightH a b d c l = 0) (R : RightP a b d c l W H D C) (h : raw.size < sizeA a b d c l) : imageA a b d c l pal tr has raw = ((0, 0, ⟨#[]⟩), 30) := by
  refine imageA_err ?_ (by decide)
  rw [imgA_T h0 R]
  unfold imgT
  rw [sizeA_J pal.data.toList tr.data.toList has h0 R] at h
  exact if_pos (by rw [Array.length_toList]; exact h)
theorem imgA_long {a b d c l : Int} {pal tr : ByteArray} {has : Bool} {raw : ByteArray} {W H D C : Nat} (h0 : rightH a b d c l = 0) (R : RightP a b d c l W H D C) (h : sizeA a b d c l < raw.size) : imageA a b d c l pal tr has raw = ((0, 0, ⟨#[]⟩), 31) := by
  refine imageA_err ?_ (by decide)
  rw [imgA_T h0 R]
  unfold imgT
  rw [sizeA_J pal.data.toList tr.data.toList has h0 R] at h
  exact (if_neg (by rw [Array.length_toList]; show ¬ raw.size < _; exact Nat.lt_asymm h)).trans (if_pos (by rw [Array.length_toList]; exact h))
theorem imgA_run {a b d c l : Int} {pal tr : ByteArray} {has : Bool} {raw : ByteArray} {W H D C : Nat} (h0 : rightH a b d c l = 0) (R : RightP a b d c l W H D C) (h : raw.size = sizeA a b d c l) :
    imgA a b d c l pal tr has raw = runI ⟨W, H, D, C, pal.data.toList, tr.data.toList, has⟩ (jobsL W H ((baseL l).filter (someP W H))) raw.data.toList [] (List.replicate (8 * (W * H)) 0) := by
  rw [imgA_T h0 R]
  unfold imgT
  rw [sizeA_J pal.data.toList tr.data.toList has h0 R] at h
  exact (if_neg (by rw [Array.length_toList]; show ¬ raw.size < _; rw [h]; exact Nat.lt_irrefl _)).trans (if_neg (by rw [Array.length_toList]; show ¬ _ < raw.size; rw [h]; exact Nat.lt_irrefl _))
end Go.Proofs.YtfiedoejdikcgaaDoor
