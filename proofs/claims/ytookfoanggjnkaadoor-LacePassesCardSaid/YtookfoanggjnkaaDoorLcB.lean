/- The document's passes of an image. -/
import Derived.Test.YtookfoanggjnkaaDoorLcA
set_option maxRecDepth 100000
set_option linter.unusedVariables false
namespace Go.Proofs.YtookfoanggjnkaaDoor
set_option maxRecDepth 100000
open Go Go.RowKit
theorem rightH_cases (a b d c l : Int) : rightH a b d c l = 0 ∨ rightH a b d c l = 5 ∨ rightH a b d c l = 24 := by
  unfold rightH
  repeat' split
  all_goals simp
theorem rightH_ok {a b d c l : Int} (h : rightH a b d c l = 0) : (1 ≤ a ∧ a ≤ 1024) ∧ (1 ≤ b ∧ b ≤ 1024) ∧ a * b ≤ 4096 ∧ (l = 0 ∨ l = 1) ∧ depthOk d c = true := by
  unfold rightH at h
  by_cases h1 : a < 1 ∨ 2147483647 < a ∨ b < 1 ∨ 2147483647 < b ∨ depthOk d c = false ∨ (l ≠ 0 ∧ l ≠ 1)
  · rw [if_pos h1] at h; exact absurd h (by decide)
  · rw [if_neg h1] at h
    by_cases h2 : 1024 < a ∨ 1024 < b ∨ 4096 < a * b
    · rw [if_pos h2] at h; exact absurd h (by decide)
    · have h3 : depthOk d c = true := by
        cases hd : depthOk d c
        · exact absurd (Or.inr (Or.inr (Or.inr (Or.inr (Or.inl hd))))) h1
        · rfl
      refine ⟨⟨by omega, by omega⟩, ⟨by omega, by omega⟩, by omega, by omega, h3⟩
/-- A pass as it is laid, without its size, and with it. -/
def b6 (p : PassL) : P6 := (p.x, p.y, p.dx, p.dy, 0, 0)
def p6 (w h : Nat) (p : PassL) : P6 := (p.x, p.y, p.dx, p.dy, manyL w p.x p.dx, manyL h p.y p.dy)
/-- The passes of an image, of whatever head. -/
def passA (a b d c l : Int) : List P6 := if rightH a b d c l = 0 then (passL a.toNat b.toNat (decide (l = 1))).map (p6 a.toNat b.toNat) else []
theorem passA_bad {a b d c l : Int} (h : rightH a b d c l ≠ 0) : passA a b d c l = [] := by unfold passA; rw [if_neg h]
theorem passA_ok {w h : Nat} {d c l : Int} (hr : rightH (w : Int) (h : Int) d c l = 0) : passA (w : Int) (h : Int) d c l = (passL w h (decide (l = 1))).map (p6 w h) := by unfold passA; rw [if_pos hr]; rfl
def baseL (l : Int) : List PassL := if decide (l = 1) = true then lacedL else plainL
theorem base_small {l : Int} {p : PassL} (hp : p ∈ baseL l) : (p.x ≤ 7 ∧ p.y ≤ 7) ∧ (1 ≤ p.dx ∧ p.dx ≤ 8) ∧ 1 ≤ p.dy ∧ p.dy ≤ 8 := by
  unfold baseL at hp
  cases hd : decide (l = 1)
  · rw [hd, if_neg (by decide)] at hp
    rw [List.mem_singleton.1 hp]
    decide
  · rw [hd, if_pos rfl] at hp
    simp only [lacedL, List.mem_cons, List.not_mem_nil, or_false] at hp
    rcases hp with rfl | rfl | rfl | rfl | rfl | rfl | rfl <;> decide
/-- What has been taken of the first passes. -/
def takenP (w h : Nat) (B : List PassL) (i : Nat) : List P6 := ((B.take i).filter (someP w h)).map (p6 w h)
theorem takenP_next {w h : Nat} {B : List PassL} {i : Nat} {p : PassL} (hp : B[i]? = some p) : takenP w h B (i + 1) = takenP w h B i ++ (if someP w h p = true then [p6 w h p] else []) := by
  have hi := (List.getElem?_eq_some_iff.1 hp).1
  have e : B.take (i + 1) = B.take i ++ [p] := by
    rw [List.take_succ_eq_append_getElem hi]
    congr 1
    rw [(List.getElem?_eq_some_iff.1 hp).2]
  unfold takenP
  rw [e, List.filter_append, List.map_append]
  congr 1
  by_cases hs : someP w h p = true
  · rw [if_pos hs, List.filter_cons, if_pos hs]; rfl
  · rw [if_neg hs, List.filter_cons, if_neg hs]; rfl
theorem takenP_len (w h : Nat) (B : List PassL) (i : Nat) : (takenP w h B i).length ≤ B.length := by
  unfold takenP
  rw [List.length_map]
  refine Nat.le_trans (List.length_filter_le _ _) ?_
  rw [List.length_take]
  exact Nat.min_le_right _ _
/-- What stands while the passes are gone through. -/
def PsS (w : World) (g1 g3 : Nat) (a b d c l : Int) (N : Nat) (M : List P6) (v : World) : Prop := Is v g1 23 #[.int .i64 a, .int .i64 b, .int .i64 d, .int .i64 c, .int .i64 l] ∧ Pss v (some ⟨g3, 0, none⟩) N M ∧ But [] w v
theorem PsS.but {w v v' : World} {g1 g3 : Nat} {a b d c l : Int} {N : Nat} {M : List P6} (h : PsS w g1 g3 a b d c l N M v) (k : But [] v v') : PsS w g1 g3 a b d c l N M v' := ⟨h.1.but k (by simp), h.2.1.but k, h.2.2.trans k⟩
set_option maxHeartbeats 2000000 in
theorem epasses_any (w : World) (a b d c l : Int) :
    Calls Tryd.prog 12 #[.agg #[.int .i64 a, .int .i64 b, .int .i64 d, .int .i64 c, .int .i64 l]] w fun e w' => ∃ A cap, e = .returned (.slice A (passA a b d c l).length cap) ∧ Pss w' A (passA a b d c l).length (passA a b d c l) ∧ (passA a b d c l).length ≤ cap ∧ But [] w w' := by
  have hE := fun v => eright_h v a b d c l
  by_cases h0 : rightH a b d c l ≠ 0
  · obtain ⟨er, her⟩ : ∃ x, x = rightH a b d c l := ⟨_, rfl⟩
    rw [passA_bad h0]
    have h1 : er = 5 ∨ er = 24 := by rcases rightH_cases a b d c l with h | h | h <;> simp_all
    simp only [← her] at hE
    have HE := Lib.hid hE
    have hI := Is.fresh w 23 #[.int .i64 a, .int .i64 b, .int .i64 d, .int .i64 c, .int .i64 l]
    have HA := Lib.hid ((But.refl [] w).alloc (.cells #[.int .i64 a, .int .i64 b, .int .i64 d, .int .i64 c, .int .i64 l] 23))
    have c0 := hI.cell 0
    have c1 := hI.cell 1
    have c2 := hI.cell 2
    have c3 := hI.cell 3
    have c4 := hI.cell 4
    clear hE her h0 hI
    rcases h1 with rfl | rfl
    · go_enter Tryd.func12, Tryd.ntmps12
      go_wp2_with fail
      refine (HE.out _).mono ?_
      rintro e w1 ⟨rfl, hB⟩
      have HB := Lib.hid (HA.out.trans hB)
      clear hB
      go_wp2
      go_ret
      exact ⟨none, 0, rfl, Pss.nil _ _, Nat.le_refl _, HB.out⟩
    · go_enter Tryd.func12, Tryd.ntmps12
      go_wp2_with fail
      refine (HE.out _).mono ?_
      rintro e w1 ⟨rfl, hB⟩
      have HB := Lib.hid (HA.out.trans hB)
      clear hB
      go_wp2
      go_ret
      exact ⟨none, 0, rfl, Pss.nil _ _, Nat.le_refl _, HB.out⟩
  have h0 : rightH a b d c l = 0 := by simpa using h0
  obtain ⟨⟨a1, a2⟩, ⟨b1, b2⟩, hab, hl, _⟩ := rightH_ok h0
  obtain ⟨W, rfl⟩ : ∃ n : Nat, a = (n : Int) := ⟨a.toNat, by omega⟩
  obtain ⟨H, rfl⟩ : ∃ n : Nat, b = (n : Int) := ⟨b.toNat, by omega⟩
  rw [h0] at hE
  have HE := Lib.hid hE
  clear hE hab
  rcases hl with rfl | rfl
  · obtain ⟨B, hB⟩ : ∃ B, B = baseL 0 := ⟨_, rfl⟩
    have hBl : B.length = 1 := by rw [hB]; rfl
    have hBs : ∀ p, p ∈ B → (p.x ≤ 7 ∧ p.y ≤ 7) ∧ (1 ≤ p.dx ∧ p.dx ≤ 8) ∧ 1 ≤ p.dy ∧ p.dy ≤ 8 := fun p hp => base_small (l := 0) (by rw [← hB]; exact hp)
    have HR : Hid (passA (W : Int) (H : Int) d c 0 = takenP W H B 1) := Lib.hid (by
      rw [passA_ok h0, ← hBl]
      unfold takenP
      rw [List.take_length, hB]
      rfl)
    have HB := Lib.hid hB
    have HBl := Lib.hid hBl
    have HBs := Lib.hid hBs
    have HAL : Hid ((passA (W : Int) (H : Int) d c 0).length ≤ 100) := Lib.hid (by rw [HR.out]; have := takenP_len W H B 1; omega)
    obtain ⟨RR, hRR⟩ : ∃ R, R = passA (W : Int) (H : Int) d c 0 := ⟨_, rfl⟩
    rw [← hRR] at HR ⊢
    clear hB hBl hBs h0 hRR HAL
    obtain ⟨i0, hi0, hz0, hz1, hz2⟩ := info_parts info_pass
    have hI := Is.fresh w 23 #[.int .i64 W, .int .i64 H, .int .i64 d, .int .i64 c, .int .i64 0]
    have hA := (But.refl [] w).alloc (.cells #[.int .i64 W, .int .i64 H, .int .i64 d, .int .i64 c, .int .i64 0] 23)
    obtain ⟨g1, hg1⟩ : ∃ g, g = w.heap.size := ⟨_, rfl⟩
    obtain ⟨w0, hw0⟩ : ∃ x, x = w.alloc (.cells #[.int .i64 W, .int .i64 H, .int .i64 d, .int .i64 c, .int .i64 0] 23) := ⟨_, rfl⟩
    rw [← hg1, ← hw0] at hI
    rw [← hw0] at hA
    have HI := Lib.hid hI
    have HA := Lib.hid hA
    have HG := Lib.hid hg1
    have c0 := hI.cell 0
    have c1 := hI.cell 1
    have c2 := hI.cell 2
    have c3 := hI.cell 3
    have c4 := hI.cell 4
    clear hI hA
    go_enter Tryd.func12, Tryd.ntmps12
    go_upto_region 1 with (fail)
    rw [← hw0, ← hg1]
    clear hw0 hg1
    go_wp2_with fail
    refine (HE.out _).mono ?_
    rintro e w1 ⟨rfl, hB1⟩
    have hI1 := HI.out.but hB1 (by simp)
    have HB1 := Lib.hid hB1
    have HI1 := Lib.hid hI1
    clear hB1 hI1 c0 c1 c2 c3 c4
    go_upto_region 3 with (fail)
    go_cut [3] from 10 to 11 (fun v wx => ∃ g, v = .slice (some ⟨g, 0, none⟩) 1 1 ∧ Hid (But [] w1 wx) ∧ Hid (Pss wx (some ⟨g, 0, none⟩) 1 (plainL.map b6)))
    case first =>
      go_wp2
      go_meet
      exact ⟨_, rfl, Lib.hid ((But.refl [] w1).alloc _), Lib.hid (Pss.of (L := plainL.map b6) (Is.fresh _ _ _) rfl)⟩
    case rest =>
    obtain ⟨g3, rfl, HBx, HPx⟩ := hcut
    have hI2 := HI1.out.but HBx.out (by simp)
    have c4 := hI2.cell 4
    have HS : Hid (PsS w g1 g3 W H d c 0 1 (B.map b6) wc) := Lib.hid ⟨hI2, by rw [HB.out]; exact HPx.out, (HA.out.trans HB1.out).trans HBx.out⟩
    have HO : Hid (OwnP6 wc w.heap.size (.slice none 0 0) (takenP W H B 0)) := Lib.hid (OwnP6.nil _ _)
    clear hI2 HI HA HG HB1 HI1 HBx HPx
    go_wp2_with fail
    go_loopw [4, 5] (fun ov iv wr => ∃ i : Nat, i ≤ 1 ∧ iv = .int .i64 i ∧ Hid (OwnP6 wr w.heap.size ov (takenP W H B i)) ∧ Hid (ov.ownBlock ≠ some g3) ∧ Hid (PsS w g1 g3 W H d c 0 1 (B.map b6) wr)) (fun _ iv _ => 1 - (intOf iv).toNat)
    case atStart => exact ⟨0, Nat.zero_le _, rfl, HO, Lib.hid (by simp [Value.ownBlock]), HS⟩
    case round =>
      clear HO HS
      obtain ⟨i, hi, rfl, HO, HNE, HS⟩ := hrel
      by_cases hlt : i < 1
      · obtain ⟨g, o, q, e, hg, hq, k0, k1, k2, k3, k4, k5⟩ := HS.out.2.1.at hlt
        injection e with e
        injection e with e1 e2
        subst e1 e2
        rw [List.getElem?_map] at hq
        obtain ⟨p, hp, hqp⟩ := Option.map_eq_some_iff.1 hq
        subst hqp
        have hpm := HBs.out p (List.mem_of_getElem? hp)
        have HNX := Lib.hid (takenP_next (w := W) (h := H) hp)
        obtain ⟨x, y, dx, dy⟩ := p
        obtain ⟨⟨s1, s2⟩, ⟨s3, s4⟩, s5, s6⟩ := hpm
        dsimp only at s1 s2 s3 s4 s5 s6
        unfold b6 at k0 k1 k2 k3 k4 k5
        dsimp only at k0 k1 k2 k3 k4 k5
        rw [Nat.zero_add] at k0 k1 k2 k3 k4 k5
        clear hq hp
        have j0 := HS.out.1.cell 0
        have j1 := HS.out.1.cell 1
        have hg1 := HS.out.1.lt
        have HLT := Lib.hid hg
        obtain ⟨mW, hmW⟩ : ∃ m, m = manyL W x dx := ⟨_, rfl⟩
        obtain ⟨mH, hmH⟩ : ∃ m, m = manyL H y dy := ⟨_, rfl⟩
        have HM1 : Hid (∀ v, Calls Tryd.prog 20 #[.int .i64 W, .int .i64 x, .int .i64 dx] v fun e w' => e = .returned (.int .i64 (mW : Nat)) ∧ v = w') := Lib.hid fun v => by rw [hmW]; exact emany_any v (by omega) (by omega) s3 (by omega)
        have HM2 : Hid (∀ v, Calls Tryd.prog 20 #[.int .i64 H, .int .i64 y, .int .i64 dy] v fun e w' => e = .returned (.int .i64 (mH : Nat)) ∧ v = w') := Lib.hid fun v => by rw [hmH]; exact emany_any v (by omega) (by omega) s5 (by omega)
        have HSO : Hid (someP W H ⟨x, y, dx, dy⟩ = decide (0 < mW ∧ 0 < mH)) := Lib.hid (by rw [hmW, hmH]; rfl)
        have HP6 : Hid (p6 W H ⟨x, y, dx, dy⟩ = (x, y, dx, dy, mW, mH)) := Lib.hid (by rw [hmW, hmH]; rfl)
        have l1 : mW ≤ 1024 := by rw [hmW]; exact Nat.le_trans (manyL_le _ _ _ s3) (by omega)
        have l2 : mH ≤ 1024 := by rw [hmH]; exact Nat.le_trans (manyL_le _ _ _ s5) (by omega)
        clear hmW hmH
        have hAl := (But.refl [] wr).alloc (.cells #[.int .i64 x, .int .i64 y, .int .i64 dx, .int .i64 dy, .int .i64 mW, .int .i64 mH] 34)
        have HS2 := Lib.hid (HS.out.but hAl)
        have HO2 := Lib.hid (HO.out.but hAl)
        have HF9 : Hid (Is ((wr.alloc (.cells #[.int .i64 x, .int .i64 y, .int .i64 dx, .int .i64 dy, .int .i64 mW, .int .i64 mH] 34)).alloc (.cells #[.int .i64 x, .int .i64 y, .int .i64 dx, .int .i64 dy, .int .i64 mW, .int .i64 mH] 34)) (wr.heap.size + 1) 34 #[.int .i64 x, .int .i64 y, .int .i64 dx, .int .i64 dy, .int .i64 mW, .int .i64 mH]) := Lib.hid (by
          have h := Is.fresh (wr.alloc (.cells #[.int .i64 x, .int .i64 y, .int .i64 dx, .int .i64 dy, .int .i64 mW, .int .i64 mH] 34)) 34 #[.int .i64 x, .int .i64 y, .int .i64 dx, .int .i64 dy, .int .i64 mW, .int .i64 mH]
          rw [show (wr.alloc (.cells #[.int .i64 x, .int .i64 y, .int .i64 dx, .int .i64 dy, .int .i64 mW, .int .i64 mH] 34)).heap.size = wr.heap.size + 1 by simp] at h
          exact h)
        have HTL : Hid ((takenP W H B i).length < 1000000) := Lib.hid (by have := takenP_len W H B i; have := HBl.out; omega)
        by_cases hm : 0 < mW ∧ 0 < mH
        · have HN : Hid (takenP W H B (i + 1) = takenP W H B i ++ [(x, y, dx, dy, mW, mH)]) := Lib.hid (by rw [HNX.out, HSO.out, if_pos (decide_eq_true hm), HP6.out])
          obtain ⟨hm1, hm2⟩ := hm
          go_wp2_with fail
          refine (HM1.out _).mono ?_
          rintro e wz ⟨rfl, rfl⟩
          go_wp2_with fail
          refine (HM2.out _).mono ?_
          rintro e wz ⟨rfl, rfl⟩
          go_wp2_with (at_builtin; refine wpList_append_p6 (w0 := w) _ rfl _ _ rfl _ (takenP W H B i) rfl (HO2.out.but ((But.refl [] _).alloc _)) (HS2.out.2.2.alloc _) (x, y, dx, dy, mW, mH) (cs := #[.int .i64 x, .int .i64 y, .int .i64 dx, .int .i64 dy, .int .i64 mW, .int .i64 mH]) rfl rfl HF9.out HTL.out ?_)
          intro A9 c9 w9 hO9 hB9 hIs hPs hNe
          have HNE9 : Hid ((Value.slice A9 ((takenP W H B i).length + 1) c9).ownBlock ≠ some g3) := Lib.hid (hNe _ HNE.out (by have := HLT.out; simp; omega))
          have HS9 : Hid (PsS w g1 g3 W H d c 0 1 (B.map b6) w9) := Lib.hid ⟨hIs _ _ _ (HS2.out.1.but ((But.refl [] _).alloc _) (by simp)) (.inl (by decide)), hPs _ _ _ (HS2.out.2.1.but ((But.refl [] _).alloc _)) (fun g o e => by injection e with e; injection e with e1 e2; subst e1; exact HNE.out), hB9⟩
          have HO9 : Hid (OwnP6 w9 w.heap.size (.slice A9 ((takenP W H B i).length + 1) c9) (takenP W H B (i + 1))) := Lib.hid (by rw [HN.out]; exact hO9)
          clear hIs hPs hNe hO9 hB9
          go_wp2
          go_roundw
          case rel => exact ⟨i + 1, by omega, by go_num, HO9, HNE9, HS9⟩
          case measure => simp [intOf] <;> omega
        · have HN : Hid (takenP W H B (i + 1) = takenP W H B i) := Lib.hid (by rw [HNX.out, HSO.out, if_neg (by simpa using hm), List.append_nil])
          by_cases hm1 : 0 < mW
          · have hm2 : ¬ 0 < mH := fun h => hm ⟨hm1, h⟩
            clear hm
            go_wp2_with fail
            refine (HM1.out _).mono ?_
            rintro e wz ⟨rfl, rfl⟩
            go_wp2_with fail
            refine (HM2.out _).mono ?_
            rintro e wz ⟨rfl, rfl⟩
            go_wp2_with fail
            go_roundw
            case rel => exact ⟨i + 1, by omega, by go_num, Lib.hid (by rw [HN.out]; exact HO2.out), HNE, HS2⟩
            case measure => simp [intOf] <;> omega
          · clear hm
            go_wp2_with fail
            refine (HM1.out _).mono ?_
            rintro e wz ⟨rfl, rfl⟩
            go_wp2_with fail
            refine (HM2.out _).mono ?_
            rintro e wz ⟨rfl, rfl⟩
            go_wp2_with fail
            go_roundw
            case rel => exact ⟨i + 1, by omega, by go_num, Lib.hid (by rw [HN.out]; exact HO2.out), HNE, HS2⟩
            case measure => simp [intOf] <;> omega
      · obtain rfl : i = 1 := by omega
        obtain ⟨A, cp, rfl, hcp⟩ := HO.out.shape
        have hps := HO.out.pss
        go_wp2
        go_ret
        refine ⟨A, cp, ?_, ?_, ?_, HS.out.2.2⟩
        · rw [HR.out]; rfl
        · rw [HR.out]; exact hps
        · rw [HR.out]; exact hcp
  · obtain ⟨B, hB⟩ : ∃ B, B = baseL 1 := ⟨_, rfl⟩
    have hBl : B.length = 7 := by rw [hB]; rfl
    have hBs : ∀ p, p ∈ B → (p.x ≤ 7 ∧ p.y ≤ 7) ∧ (1 ≤ p.dx ∧ p.dx ≤ 8) ∧ 1 ≤ p.dy ∧ p.dy ≤ 8 := fun p hp => base_small (l := 1) (by rw [← hB]; exact hp)
    have HR : Hid (passA (W : Int) (H : Int) d c 1 = takenP W H B 7) := Lib.hid (by
      rw [passA_ok h0, ← hBl]
      unfold takenP
      rw [List.take_length, hB]
      rfl)
    have HB := Lib.hid hB
    have HBl := Lib.hid hBl
    have HBs := Lib.hid hBs
    have HAL : Hid ((passA (W : Int) (H : Int) d c 1).length ≤ 100) := Lib.hid (by rw [HR.out]; have := takenP_len W H B 7; omega)
    obtain ⟨RR, hRR⟩ : ∃ R, R = passA (W : Int) (H : Int) d c 1 := ⟨_, rfl⟩
    rw [← hRR] at HR ⊢
    clear hB hBl hBs h0 hRR HAL
    obtain ⟨i0, hi0, hz0, hz1, hz2⟩ := info_parts info_pass
    have hI := Is.fresh w 23 #[.int .i64 W, .int .i64 H, .int .i64 d, .int .i64 c, .int .i64 1]
    have hA := (But.refl [] w).alloc (.cells #[.int .i64 W, .int .i64 H, .int .i64 d, .int .i64 c, .int .i64 1] 23)
    obtain ⟨g1, hg1⟩ : ∃ g, g = w.heap.size := ⟨_, rfl⟩
    obtain ⟨w0, hw0⟩ : ∃ x, x = w.alloc (.cells #[.int .i64 W, .int .i64 H, .int .i64 d, .int .i64 c, .int .i64 1] 23) := ⟨_, rfl⟩
    rw [← hg1, ← hw0] at hI
    rw [← hw0] at hA
    have HI := Lib.hid hI
    have HA := Lib.hid hA
    have HG := Lib.hid hg1
    have c0 := hI.cell 0
    have c1 := hI.cell 1
    have c2 := hI.cell 2
    have c3 := hI.cell 3
    have c4 := hI.cell 4
    clear hI hA
    go_enter Tryd.func12, Tryd.ntmps12
    go_upto_region 1 with (fail)
    rw [← hw0, ← hg1]
    clear hw0 hg1
    go_wp2_with fail
    refine (HE.out _).mono ?_
    rintro e w1 ⟨rfl, hB1⟩
    have hI1 := HI.out.but hB1 (by simp)
    have HB1 := Lib.hid hB1
    have HI1 := Lib.hid hI1
    clear hB1 hI1 c0 c1 c2 c3 c4
    go_upto_region 3 with (fail)
    go_cut [3] from 10 to 11 (fun v wx => ∃ g, v = .slice (some ⟨g, 0, none⟩) 1 1 ∧ Hid (But [] w1 wx) ∧ Hid (Pss wx (some ⟨g, 0, none⟩) 1 (plainL.map b6)))
    case first =>
      go_wp2
      go_meet
      exact ⟨_, rfl, Lib.hid ((But.refl [] w1).alloc _), Lib.hid (Pss.of (L := plainL.map b6) (Is.fresh _ _ _) rfl)⟩
    case rest =>
    obtain ⟨g3, rfl, HBx, HPx⟩ := hcut
    have hI2 := HI1.out.but HBx.out (by simp)
    have c4 := hI2.cell 4
    go_upto_region 5 with (fail)
    go_cut [3] from 15 to 22 (fun v wy => ∃ g, v = .slice (some ⟨g, 0, none⟩) 7 7 ∧ Hid (But [] wc wy) ∧ Hid (Pss wy (some ⟨g, 0, none⟩) 7 (lacedL.map b6)))
    case first =>
      clear hI2 c4
      go_wp2
      go_meet
      exact ⟨_, rfl, Lib.hid ((But.refl [] wc).alloc _), Lib.hid (Pss.of (L := lacedL.map b6) (Is.fresh _ _ _) rfl)⟩
    case rest =>
    obtain ⟨w5, hw5⟩ : ∃ x, x = wc := ⟨_, rfl⟩
    obtain ⟨g5, rfl, HBy, HPy⟩ := hcut
    have HS : Hid (PsS w g1 g5 W H d c 1 7 (B.map b6) wc) := Lib.hid ⟨hI2.but HBy.out (by simp), by rw [HB.out]; exact HPy.out, ((HA.out.trans HB1.out).trans HBx.out).trans HBy.out⟩
    have HO : Hid (OwnP6 wc w.heap.size (.slice none 0 0) (takenP W H B 0)) := Lib.hid (OwnP6.nil _ _)
    clear hI2 c4 HI HA HG HB1 HI1 HBx HPx HBy HPy
    go_wp2_with fail
    go_loopw [4, 5] (fun ov iv wr => ∃ i : Nat, i ≤ 7 ∧ iv = .int .i64 i ∧ Hid (OwnP6 wr w.heap.size ov (takenP W H B i)) ∧ Hid (ov.ownBlock ≠ some g5) ∧ Hid (PsS w g1 g5 W H d c 1 7 (B.map b6) wr)) (fun _ iv _ => 7 - (intOf iv).toNat)
    case atStart => exact ⟨0, Nat.zero_le _, rfl, HO, Lib.hid (by simp [Value.ownBlock]), HS⟩
    case round =>
      clear HO HS
      obtain ⟨i, hi, rfl, HO, HNE, HS⟩ := hrel
      by_cases hlt : i < 7
      · obtain ⟨g, o, q, e, hg, hq, k0, k1, k2, k3, k4, k5⟩ := HS.out.2.1.at hlt
        injection e with e
        injection e with e1 e2
        subst e1 e2
        rw [List.getElem?_map] at hq
        obtain ⟨p, hp, hqp⟩ := Option.map_eq_some_iff.1 hq
        subst hqp
        have hpm := HBs.out p (List.mem_of_getElem? hp)
        have HNX := Lib.hid (takenP_next (w := W) (h := H) hp)
        obtain ⟨x, y, dx, dy⟩ := p
        obtain ⟨⟨s1, s2⟩, ⟨s3, s4⟩, s5, s6⟩ := hpm
        dsimp only at s1 s2 s3 s4 s5 s6
        unfold b6 at k0 k1 k2 k3 k4 k5
        dsimp only at k0 k1 k2 k3 k4 k5
        rw [Nat.zero_add] at k0 k1 k2 k3 k4 k5
        clear hq hp
        have j0 := HS.out.1.cell 0
        have j1 := HS.out.1.cell 1
        have hg1 := HS.out.1.lt
        have HLT := Lib.hid hg
        obtain ⟨mW, hmW⟩ : ∃ m, m = manyL W x dx := ⟨_, rfl⟩
        obtain ⟨mH, hmH⟩ : ∃ m, m = manyL H y dy := ⟨_, rfl⟩
        have HM1 : Hid (∀ v, Calls Tryd.prog 20 #[.int .i64 W, .int .i64 x, .int .i64 dx] v fun e w' => e = .returned (.int .i64 (mW : Nat)) ∧ v = w') := Lib.hid fun v => by rw [hmW]; exact emany_any v (by omega) (by omega) s3 (by omega)
        have HM2 : Hid (∀ v, Calls Tryd.prog 20 #[.int .i64 H, .int .i64 y, .int .i64 dy] v fun e w' => e = .returned (.int .i64 (mH : Nat)) ∧ v = w') := Lib.hid fun v => by rw [hmH]; exact emany_any v (by omega) (by omega) s5 (by omega)
        have HSO : Hid (someP W H ⟨x, y, dx, dy⟩ = decide (0 < mW ∧ 0 < mH)) := Lib.hid (by rw [hmW, hmH]; rfl)
        have HP6 : Hid (p6 W H ⟨x, y, dx, dy⟩ = (x, y, dx, dy, mW, mH)) := Lib.hid (by rw [hmW, hmH]; rfl)
        have l1 : mW ≤ 1024 := by rw [hmW]; exact Nat.le_trans (manyL_le _ _ _ s3) (by omega)
        have l2 : mH ≤ 1024 := by rw [hmH]; exact Nat.le_trans (manyL_le _ _ _ s5) (by omega)
        clear hmW hmH
        have hAl := (But.refl [] wr).alloc (.cells #[.int .i64 x, .int .i64 y, .int .i64 dx, .int .i64 dy, .int .i64 mW, .int .i64 mH] 34)
        have HS2 := Lib.hid (HS.out.but hAl)
        have HO2 := Lib.hid (HO.out.but hAl)
        have HF9 : Hid (Is ((wr.alloc (.cells #[.int .i64 x, .int .i64 y, .int .i64 dx, .int .i64 dy, .int .i64 mW, .int .i64 mH] 34)).alloc (.cells #[.int .i64 x, .int .i64 y, .int .i64 dx, .int .i64 dy, .int .i64 mW, .int .i64 mH] 34)) (wr.heap.size + 1) 34 #[.int .i64 x, .int .i64 y, .int .i64 dx, .int .i64 dy, .int .i64 mW, .int .i64 mH]) := Lib.hid (by
          have h := Is.fresh (wr.alloc (.cells #[.int .i64 x, .int .i64 y, .int .i64 dx, .int .i64 dy, .int .i64 mW, .int .i64 mH] 34)) 34 #[.int .i64 x, .int .i64 y, .int .i64 dx, .int .i64 dy, .int .i64 mW, .int .i64 mH]
          rw [show (wr.alloc (.cells #[.int .i64 x, .int .i64 y, .int .i64 dx, .int .i64 dy, .int .i64 mW, .int .i64 mH] 34)).heap.size = wr.heap.size + 1 by simp] at h
          exact h)
        have HTL : Hid ((takenP W H B i).length < 1000000) := Lib.hid (by have := takenP_len W H B i; have := HBl.out; omega)
        by_cases hm : 0 < mW ∧ 0 < mH
        · have HN : Hid (takenP W H B (i + 1) = takenP W H B i ++ [(x, y, dx, dy, mW, mH)]) := Lib.hid (by rw [HNX.out, HSO.out, if_pos (decide_eq_true hm), HP6.out])
          obtain ⟨hm1, hm2⟩ := hm
          go_wp2_with fail
          refine (HM1.out _).mono ?_
          rintro e wz ⟨rfl, rfl⟩
          go_wp2_with fail
          refine (HM2.out _).mono ?_
          rintro e wz ⟨rfl, rfl⟩
          go_wp2_with (at_builtin; refine wpList_append_p6 (w0 := w) _ rfl _ _ rfl _ (takenP W H B i) rfl (HO2.out.but ((But.refl [] _).alloc _)) (HS2.out.2.2.alloc _) (x, y, dx, dy, mW, mH) (cs := #[.int .i64 x, .int .i64 y, .int .i64 dx, .int .i64 dy, .int .i64 mW, .int .i64 mH]) rfl rfl HF9.out HTL.out ?_)
          intro A9 c9 w9 hO9 hB9 hIs hPs hNe
          have HNE9 : Hid ((Value.slice A9 ((takenP W H B i).length + 1) c9).ownBlock ≠ some g5) := Lib.hid (hNe _ HNE.out (by have := HLT.out; simp; omega))
          have HS9 : Hid (PsS w g1 g5 W H d c 1 7 (B.map b6) w9) := Lib.hid ⟨hIs _ _ _ (HS2.out.1.but ((But.refl [] _).alloc _) (by simp)) (.inl (by decide)), hPs _ _ _ (HS2.out.2.1.but ((But.refl [] _).alloc _)) (fun g o e => by injection e with e; injection e with e1 e2; subst e1; exact HNE.out), hB9⟩
          have HO9 : Hid (OwnP6 w9 w.heap.size (.slice A9 ((takenP W H B i).length + 1) c9) (takenP W H B (i + 1))) := Lib.hid (by rw [HN.out]; exact hO9)
          clear hIs hPs hNe hO9 hB9
          go_wp2
          go_roundw
          case rel => exact ⟨i + 1, by omega, by go_num, HO9, HNE9, HS9⟩
          case measure => simp [intOf] <;> omega
        · have HN : Hid (takenP W H B (i + 1) = takenP W H B i) := Lib.hid (by rw [HNX.out, HSO.out, if_neg (by simpa using hm), List.append_nil])
          by_cases hm1 : 0 < mW
          · have hm2 : ¬ 0 < mH := fun h => hm ⟨hm1, h⟩
            clear hm
            go_wp2_with fail
            refine (HM1.out _).mono ?_
            rintro e wz ⟨rfl, rfl⟩
            go_wp2_with fail
            refine (HM2.out _).mono ?_
            rintro e wz ⟨rfl, rfl⟩
            go_wp2_with fail
            go_roundw
            case rel => exact ⟨i + 1, by omega, by go_num, Lib.hid (by rw [HN.out]; exact HO2.out), HNE, HS2⟩
            case measure => simp [intOf] <;> omega
          · clear hm
            go_wp2_with fail
            refine (HM1.out _).mono ?_
            rintro e wz ⟨rfl, rfl⟩
            go_wp2_with fail
            refine (HM2.out _).mono ?_
            rintro e wz ⟨rfl, rfl⟩
            go_wp2_with fail
            go_roundw
            case rel => exact ⟨i + 1, by omega, by go_num, Lib.hid (by rw [HN.out]; exact HO2.out), HNE, HS2⟩
            case measure => simp [intOf] <;> omega
      · obtain rfl : i = 7 := by omega
        obtain ⟨A, cp, rfl, hcp⟩ := HO.out.shape
        have hps := HO.out.pss
        go_wp2
        go_ret
        refine ⟨A, cp, ?_, ?_, ?_, HS.out.2.2⟩
        · rw [HR.out]; rfl
        · rw [HR.out]; exact hps
        · rw [HR.out]; exact hcp
end Go.Proofs.YtookfoanggjnkaaDoor
