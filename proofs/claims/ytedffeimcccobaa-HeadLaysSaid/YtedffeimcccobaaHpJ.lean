/- The program's Read. -/
import Derived.Test.YtedffeimcccobaaHpC
import Derived.Test.YtedffeimcccobaaHpI
set_option maxRecDepth 100000
set_option linter.unusedVariables false
namespace Go.Proofs.Ytedffeimcccobaa
set_option maxRecDepth 100000
open Go Go.RowKit
theorem Cks.cut1 {w : World} {g o n : Nat} {L : List Ck} (h : Cks w (some ⟨g, o, none⟩) n L) : Cks w (some ⟨g, o + 2, none⟩) (n - 1) (L.drop 1) := by
  refine ⟨by rw [List.length_drop, h.1], fun hn => ?_⟩
  obtain ⟨g', o', e, hg, hc⟩ := h.2 (by omega)
  injection e with e
  injection e with e1 e2
  subst e1 e2
  refine ⟨g, o + 2, rfl, hg, fun i hi => ?_⟩
  have hl := h.1
  rw [List.length_drop] at hi
  have := hc (1 + i) (by omega)
  rw [List.getElem_drop]
  rw [show o + 2 + i * 2 = o + (1 + i) * 2 by omega]
  exact this
theorem Cks.cut1n {w : World} {A : Option Addr} {L : List Ck} (h : L.length = 1) : Cks w A 0 (L.drop 1) := by
  refine ⟨by rw [List.length_drop, h], fun hn => absurd hn (by omega)⟩
theorem hs0_val (er : Int) : Ending.returned (.tuple #[shapeV [] hs0, .string (strL hs0.D), .int .i64 er]) = .returned (.tuple #[.agg #[.int .i64 0, .int .i64 0, .int .i64 0, .int .i64 0, .int .i64 0, .string ⟨#[]⟩, .string ⟨#[]⟩, .bool false], .string ⟨#[]⟩, .int .i64 er]) := rfl
theorem file_zero (w : World) (a h d c l : Int) {w0 : World} (hb : w0.heap.size ≤ w.heap.size) (hB : But [] w0 w) : FlS w0 (w.alloc (.cells #[.int .i64 a, .int .i64 h, .int .i64 d, .int .i64 c, .int .i64 l, .string ⟨#[]⟩, .string ⟨#[]⟩, .bool false, .pointer none, .slice none 0 0, .bool false, .string ⟨#[]⟩] 56)) w.heap.size a h d c l [] [] [] false false [] :=
  ⟨.pointer none, .slice none 0 0, hb, hB.alloc _, .inl rfl, Is.fresh _ _ _, OwnY.nil _ _, by simp [Value.ownBlock]⟩
theorem put8 {w W : World} {b0 : Nat} (hI : Is W b0 36 zerC) (hB : But [] w W) (hb : w.heap.size ≤ b0) (v0 v1 v2 v3 v4 v5 v6 v7 : Value) :
    Is ((((((((W.setCell ⟨b0, 0, none⟩ v0).setCell ⟨b0, 1, none⟩ v1).setCell ⟨b0, 2, none⟩ v2).setCell ⟨b0, 3, none⟩ v3).setCell ⟨b0, 4, none⟩ v4).setCell ⟨b0, 5, none⟩ v5).setCell ⟨b0, 6, none⟩ v6).setCell ⟨b0, 7, none⟩ v7) b0 36 #[v0, v1, v2, v3, v4, v5, v6, v7] ∧
    But [] w ((((((((W.setCell ⟨b0, 0, none⟩ v0).setCell ⟨b0, 1, none⟩ v1).setCell ⟨b0, 2, none⟩ v2).setCell ⟨b0, 3, none⟩ v3).setCell ⟨b0, 4, none⟩ v4).setCell ⟨b0, 5, none⟩ v5).setCell ⟨b0, 6, none⟩ v6).setCell ⟨b0, 7, none⟩ v7) := by
  have a0 := hI.put 0 v0
  have a1 := a0.put 1 v1
  have a2 := a1.put 2 v2
  have a3 := a2.put 3 v3
  have a4 := a3.put 4 v4
  have a5 := a4.put 5 v5
  have a6 := a5.put 6 v6
  have a7 := a6.put 7 v7
  have e : (((((((zerC.setIfInBounds 0 v0).setIfInBounds 1 v1).setIfInBounds 2 v2).setIfInBounds 3 v3).setIfInBounds 4 v4).setIfInBounds 5 v5).setIfInBounds 6 v6).setIfInBounds 7 v7 = #[v0, v1, v2, v3, v4, v5, v6, v7] := by
    unfold zerC
    simp
  rw [e] at a7
  exact ⟨a7, (((((((hB.setCell (p := ⟨b0, 0, none⟩) (.inr hb) v0).setCell (p := ⟨b0, 1, none⟩) (.inr hb) v1).setCell (p := ⟨b0, 2, none⟩) (.inr hb) v2).setCell (p := ⟨b0, 3, none⟩) (.inr hb) v3).setCell (p := ⟨b0, 4, none⟩) (.inr hb) v4).setCell (p := ⟨b0, 5, none⟩) (.inr hb) v5).setCell (p := ⟨b0, 6, none⟩) (.inr hb) v6).setCell (p := ⟨b0, 7, none⟩) (.inr hb) v7⟩
attribute [local irreducible] strL
theorem pread_err {w W : World} {b0 : Nat} {tmps : Array Value} {er : Int} {r : List Int × HS × Int} (hI : Is W b0 36 zerC) (hB : But [] w W)
    (h2 : tmps[2]? = some (.pointer (some ⟨b0, 0, none⟩))) (h3 : tmps[3]? = some (.string ⟨#[]⟩)) (h4 : tmps[4]? = some (.int .i64 er)) (hr : r = ([], hs0, er)) :
    bodyPost Try.prog Try.f17 (GotH w r) Exit.ret { tmps := tmps, defers := [] } W := by
  have e0 := hI.cell 0
  have e1 := hI.cell 1
  have e2 := hI.cell 2
  have e3 := hI.cell 3
  have e4 := hI.cell 4
  have e5 := hI.cell 5
  have e6 := hI.cell 6
  have e7 := hI.cell 7
  unfold zerC at e0 e1 e2 e3 e4 e5 e6 e7
  refine bodyPost_ret (v := .tuple #[.agg #[.int .i64 0, .int .i64 0, .int .i64 0, .int .i64 0, .int .i64 0, .string ⟨#[]⟩, .string ⟨#[]⟩, .bool false], .string ⟨#[]⟩, .int .i64 er]) ?_ rfl ?_
  · simp [results, Try.results17, go_sem, e0, e1, e2, e3, e4, e5, e6, e7, h2, h3, h4]
  · rw [hr]; exact ⟨(hs0_val er).symm, hB⟩
theorem pread_ok {w W : World} {b0 : Nat} {tmps : Array Value} {a h d c l : Int} {P T D : List UInt8} {tr : Bool} {r : List Int × HS × Int} (hI : Is W b0 36 (shpC a h d c l P T tr)) (hB : But [] w W)
    (h2 : tmps[2]? = some (.pointer (some ⟨b0, 0, none⟩))) (h3 : tmps[3]? = some (.string (strL D))) (h4 : tmps[4]? = some (.int .i64 0))
    (hv : .tuple #[shapeV r.1 r.2.1, .string (strL r.2.1.D), .int .i64 r.2.2] = Value.tuple #[.agg (shpC a h d c l P T tr), .string (strL D), .int .i64 0]) :
    bodyPost Try.prog Try.f17 (GotH w r) Exit.ret { tmps := tmps, defers := [] } W := by
  have e0 := hI.cell 0
  have e1 := hI.cell 1
  have e2 := hI.cell 2
  have e3 := hI.cell 3
  have e4 := hI.cell 4
  have e5 := hI.cell 5
  have e6 := hI.cell 6
  have e7 := hI.cell 7
  unfold shpC at e0 e1 e2 e3 e4 e5 e6 e7
  refine bodyPost_ret (v := .tuple #[.agg #[.int .i64 a, .int .i64 h, .int .i64 d, .int .i64 c, .int .i64 l, .string (strL P), .string (strL T), .bool tr], .string (strL D), .int .i64 0]) ?_ rfl ?_
  · simp [results, Try.results17, go_sem, e0, e1, e2, e3, e4, e5, e6, e7, h2, h3, h4]
  · unfold GotH; rw [hv]; exact ⟨rfl, hB⟩
set_option maxHeartbeats 1000000 in
theorem pread_any (w : World) {A : Option Addr} {n cap : Nat} {L : List Ck} (hK : Cks w A n L) (hcap : n ≤ cap) (hL : dataC L ≤ 100000000) (hn : n ≤ 8796093022208) (hs : ∀ (i : Nat) (k : Ck), L[i]? = some k → k.1.length ≤ 140737488351232) :
    Calls Try.prog 17 #[.slice A n cap] w (GotH w (readT L)) := by
  obtain ⟨R, hR⟩ : ∃ R, R = readT L := ⟨_, rfl⟩
  rw [← hR]
  have HR := Lib.hid hR
  have hI0 := Is.fresh w 36 zerC
  have hB0 := (But.refl [] w).alloc (.cells zerC 36)
  have HI0 := Lib.hid hI0
  have HB0 := Lib.hid hB0
  have HK := Lib.hid hK
  have HL := Lib.hid hL
  have HTL := Lib.hid hs
  have k0 := hI0.cell 0
  have k1 := hI0.cell 1
  have k2 := hI0.cell 2
  have k3 := hI0.cell 3
  have k4 := hI0.cell 4
  have k5 := hI0.cell 5
  have k6 := hI0.cell 6
  have k7 := hI0.cell 7
  unfold zerC at k0 k1 k2 k3 k4 k5 k6 k7
  clear hR hI0 hB0 hK hL hs
  cases L with
  | nil =>
    obtain rfl : n = 0 := HK.out.1.symm
    have HE := Lib.hid (show R = ([], hs0, 23) from HR.out)
    clear HR HK HL HTL
    go_enter Try.func17, Try.ntmps17
    go_wp2
    exact pread_err (b0 := w.heap.size) (W := _) HI0.out HB0.out rfl rfl rfl HE.out
  | cons k L =>
    obtain ⟨t, data⟩ := k
    have hnl : L.length + 1 = n := by have := HK.out.1; simpa using this
    obtain ⟨g, o, k, hA, hg, hc0, hc1, hat⟩ := HK.out.at (i := 0) (by omega)
    subst hA
    have hk : (t, data) = k := by simpa using hat
    subst hk
    rw [show o + 0 * 2 = o by omega] at hc0 hc1
    dsimp only at hc0 hc1
    have c0 := HB0.out.cell hc0 (by simp)
    have c1 := HB0.out.cell hc1 (by simp)
    have dn : ((n : Int) == 0) = false := by simp; omega
    have dn2 : decide ((n : Int) = 0) = false := by simp; omega
    have dn3 : ¬ ((n : Int) = 0) := by omega
    have kk : (0 : Int) < (n : Int) := by omega
    unfold zerC at c0 c1
    by_cases ht : t = tIHDR
    rotate_left
    · have HE := Lib.hid (show R = ([], hs0, 23) from HR.out.trans (readT_type (k := (t, data)) ht))
      have e0 := str_ne ht
      obtain ⟨S, hS⟩ : ∃ S, S = strL t := ⟨_, rfl⟩
      rw [← hS] at e0 c0
      obtain ⟨e1, e2⟩ : ¬ S.toList = [73, 72, 68, 82] ∧ (S.toList == [73, 72, 68, 82]) = false := e0
      have e4 : (!(S.toList == [73, 72, 68, 82])) = true := by rw [e2]; rfl
      clear hS ht HR HK HL HTL hc0 hc1 hat hg hnl
      go_enter Try.func17, Try.ntmps17
      go_wp2
      exact pread_err (b0 := w.heap.size) (W := _) HI0.out HB0.out rfl rfl rfl HE.out
    · have e1 : (strL t).toList = [73, 72, 68, 82] := str_eq ht
      have e2 : ((strL t).toList == [73, 72, 68, 82]) = true := by rw [e1]; rfl
      have e4 : (!((strL t).toList == [73, 72, 68, 82])) = false := by rw [e2]; rfl
      have hR2 : R = if (headT data).2 ≠ 0 then ([], hs0, (headT data).2) else if (runH ((headT data).1.getD 2 0) ((headT data).1.getD 3 0) L hs0).2 = 0 then ((headT data).1, runH ((headT data).1.getD 2 0) ((headT data).1.getD 3 0) L hs0) else ([], hs0, (runH ((headT data).1.getD 2 0) ((headT data).1.getD 3 0) L hs0).2) := by
        rw [HR.out, ht]; exact headT_read data L
      have hdl : dataC ((t, data) :: L) = data.length + dataC L := by unfold dataC; simp
      have hLL := HL.out
      rw [hdl] at hLL
      have hh : ∀ W, Calls Try.prog 26 #[.string (strL data)] W (GotHO W (headT data)) := fun W => pheadOf_any W (by omega)
      unfold GotHO headV at hh
      obtain ⟨x, hx⟩ : ∃ x, x = headT data := ⟨_, rfl⟩
      rw [← hx] at hR2
      simp only [← hx] at hh
      obtain ⟨a, ha⟩ : ∃ a, a = x.1.getD 0 0 := ⟨_, rfl⟩
      obtain ⟨h, hh'⟩ : ∃ a, a = x.1.getD 1 0 := ⟨_, rfl⟩
      obtain ⟨d, hd⟩ : ∃ a, a = x.1.getD 2 0 := ⟨_, rfl⟩
      obtain ⟨c, hc⟩ : ∃ a, a = x.1.getD 3 0 := ⟨_, rfl⟩
      obtain ⟨l, hl⟩ : ∃ a, a = x.1.getD 4 0 := ⟨_, rfl⟩
      obtain ⟨er, her⟩ : ∃ a, a = x.2 := ⟨_, rfl⟩
      rw [← hd, ← hc, ← her] at hR2
      simp only [← ha, ← hh', ← hd, ← hc, ← hl, ← her] at hh
      have HH := Lib.hid hh
      obtain ⟨S, hS⟩ : ∃ S, S = strL t := ⟨_, rfl⟩
      rw [← hS] at e1 e2 e4 c0
      obtain ⟨X, hX⟩ : ∃ S, S = strL data := ⟨_, rfl⟩
      rw [← hX] at HH c1
      have HNL := Lib.hid hnl
      by_cases he0 : er = 0
      rotate_left
      · have HE := Lib.hid (show R = ([], hs0, er) by rw [hR2, if_pos he0])
        have p0 : (er != 0) = true := by simpa using he0
        clear he0 hS hX ha hh' hd hc hl her hx hh hLL hdl hR2 ht HR HK HL HTL hc0 hc1 hat hg hnl
        go_enter Try.func17, Try.ntmps17
        go_wp2_with fail
        refine (HH.out _).mono ?_
        rintro e w1 ⟨rfl, hB⟩
        have hI1 := (HI0.out.but hB (by simp)).alloc (.cells #[.int .i64 a, .int .i64 h, .int .i64 d, .int .i64 c, .int .i64 l] 23)
        unfold zerC at hI1
        have k0 := hI1.cell 0
        have k1 := hI1.cell 1
        have k2 := hI1.cell 2
        have k3 := hI1.cell 3
        have k4 := hI1.cell 4
        have k5 := hI1.cell 5
        have k6 := hI1.cell 6
        have k7 := hI1.cell 7
        have f0 := hI1.free 0
        have f1 := hI1.free 1
        have f2 := hI1.free 2
        have f3 := hI1.free 3
        have f4 := hI1.free 4
        have f5 := hI1.free 5
        have f6 := hI1.free 6
        have f7 := hI1.free 7
        have HI1 := Lib.hid hI1
        have HB1 := Lib.hid ((HB0.out.trans hB).alloc (.cells #[.int .i64 a, .int .i64 h, .int .i64 d, .int .i64 c, .int .i64 l] 23))
        clear hB hI1
        go_wp2
        obtain ⟨z1, z2⟩ := zero_put HI1.out HB1.out (Nat.le_refl _)
        exact pread_err (b0 := w.heap.size) (W := _) z1 z2 rfl rfl rfl HE.out
      · have p0 : (er != 0) = false := by simp [he0]
        have hrr : rightN x.1 = 0 ∧ x.1 = numsH data := by
          have h1 : (headT data).2 = 0 := by rw [← hx, ← her]; exact he0
          unfold headT at h1
          by_cases hb : data.length ≠ 13 ∨ data.getD 10 0 ≠ 0 ∨ data.getD 11 0 ≠ 0
          · rw [if_pos hb] at h1; exact absurd h1 (by decide)
          · rw [if_neg hb] at h1
            have e : x.1 = numsH data := by rw [hx]; unfold headT; rw [if_neg hb]
            exact ⟨by rw [e]; exact h1, e⟩
        have hri : rightH a h d c l = 0 := by rw [ha, hh', hd, hc, hl]; exact hrr.1
        obtain ⟨_, _, _, _, _, hdo, _⟩ := rightH_zero hri
        have hdo := of_decide_eq_true hdo
        have HC : Hid (c = 0 ∨ c = 2 ∨ c = 3 ∨ c = 4 ∨ c = 6) := Lib.hid (by omega)
        have HDE : Hid (c = 3 → d = 1 ∨ d = 2 ∨ d = 4 ∨ d = 8) := Lib.hid (by omega)
        have HR3 := Lib.hid (show R = if (runH d c L hs0).2 = 0 then (x.1, runH d c L hs0) else ([], hs0, (runH d c L hs0).2) by rw [hR2, if_neg (fun h => h he0)])
        have HX5 := Lib.hid (show x.1.getD 0 0 = a ∧ x.1.getD 1 0 = h ∧ x.1.getD 2 0 = d ∧ x.1.getD 3 0 = c ∧ x.1.getD 4 0 = l from ⟨ha.symm, hh'.symm, hd.symm, hc.symm, hl.symm⟩)
        have HDL := Lib.hid (show hs0.D.length + dataC L ≤ 100000000 by show 0 + dataC L ≤ 100000000; omega)
        have HTL2 := Lib.hid (show ∀ (i : Nat) (k : Ck), L[i]? = some k → k.1.length ≤ 140737488351232 from fun i k h => HTL.out (i + 1) k (by simpa using h))
        have HCA := Lib.hid (show Cks w (if cap = 1 then some ⟨g, o, none⟩ else some ⟨g, o + 2, none⟩) (n - 1) L by
          split
          · have h1 : n = 1 := by omega
            have := Cks.cut1n (w := w) (A := some ⟨g, o, none⟩) (L := (t, data) :: L) (by show L.length + 1 = 1; omega)
            rw [h1]; simpa using this
          · have := HK.out.cut1
            simpa using this)
        clear hh hS hX ha hh' hd hc hl her hx hLL hdl hR2 ht HR HK HL HTL hc0 hc1 hat hg hnl hrr hri hdo
        subst he0
        have dc1 : decide ((cap : Int) < 1) = false := by simp; omega
        have dc2 : decide (cap < 1) = false := by simp; omega
        have dn1 : decide ((n : Int) < 1) = false := by simp; omega
        have dn4 : decide (n < 1) = false := by simp; omega
        have one : (1 : Int) ≤ (n : Int) := by omega
        have hncap : (n : Int) ≤ (cap : Int) := by omega
        have s1 : (n : Int) - 1 = ((n - 1 : Nat) : Int) := by omega
        have s2 : (cap : Int) - 1 = ((cap - 1 : Nat) : Int) := by omega
        by_cases hc1' : cap = 1
        · have hn1' : n = 1 := by omega
          subst hc1'
          subst hn1'
          have HCA2 : Hid (Cks w (some ⟨g, o, none⟩) 0 L) := Lib.hid (by simpa using HCA.out)
          go_enter Try.func17, Try.ntmps17
          go_wp2_with fail
          refine (HH.out _).mono ?_
          rintro e w1 ⟨rfl, hB⟩
          have hI1 := (HI0.out.but hB (by simp)).alloc (.cells #[.int .i64 a, .int .i64 h, .int .i64 d, .int .i64 c, .int .i64 l] 23)
          have hJ1 := Is.fresh w1 23 #[.int .i64 a, .int .i64 h, .int .i64 d, .int .i64 c, .int .i64 l]
          have hB1 := (HB0.out.trans hB).alloc (.cells #[.int .i64 a, .int .i64 h, .int .i64 d, .int .i64 c, .int .i64 l] 23)
          have q0 := hJ1.cell 0
          have q1 := hJ1.cell 1
          have q2 := hJ1.cell 2
          have q3 := hJ1.cell 3
          have q4 := hJ1.cell 4
          have hF := file_zero (w1.alloc (.cells #[.int .i64 a, .int .i64 h, .int .i64 d, .int .i64 c, .int .i64 l] 23)) a h d c l hB1.size hB1
          rw [show (w1.alloc (.cells #[.int .i64 a, .int .i64 h, .int .i64 d, .int .i64 c, .int .i64 l] 23)).heap.size = w1.heap.size + 1 by simp] at hF
          have hlt1 : w.heap.size < w1.heap.size := (HI0.out.but hB (by simp)).lt
          have HI1 := Lib.hid hI1
          have HF1 := Lib.hid hF
          clear hI1 hB1 hF hB hJ1
          go_wp2_with fail
          refine (paddAll_any (s := hs0) (last := []) HCA2.out HF1.out okS_start HC.out HDE.out HDL.out (by omega) HTL2.out).mono ?_
          rintro e w2 ⟨rfl, ⟨lst, p, v, hf2⟩, hk2⟩
          have hI2 : Is w2 w.heap.size 36 zerC := hk2 _ _ _ (by omega) (by decide) (HI1.out.alloc _)
          have hbb : w1.heap.size + 1 ≠ w.heap.size := by omega
          obtain ⟨b, hb⟩ : ∃ b, b = w1.heap.size + 1 := ⟨_, rfl⟩
          rw [← hb] at hf2 hk2 hbb ⊢
          obtain ⟨rr, hrr⟩ : ∃ x, x = runH d c L hs0 := ⟨_, rfl⟩
          rw [← hrr] at hf2 HR3 ⊢
          have HI2 := Lib.hid hI2
          unfold zerC at hI2
          have k0 := hI2.cell 0
          have k1 := hI2.cell 1
          have k2 := hI2.cell 2
          have k3 := hI2.cell 3
          have k4 := hI2.cell 4
          have k5 := hI2.cell 5
          have k6 := hI2.cell 6
          have k7 := hI2.cell 7
          have f0 := hI2.free 0
          have f1 := hI2.free 1
          have f2 := hI2.free 2
          have f3 := hI2.free 3
          have f4 := hI2.free 4
          have f5 := hI2.free 5
          have f6 := hI2.free 6
          have f7 := hI2.free 7
          have HF2 := Lib.hid hf2
          clear hI2 hk2 hf2 hb hrr HI1 HF1 q0 q1 q2 q3 q4 hlt1
          by_cases hr0 : rr.2 = 0
          rotate_left
          · have HE := Lib.hid (show R = ([], hs0, rr.2) by rw [HR3.out, if_neg hr0])
            have p1 : (rr.2 != 0) = true := by simpa using hr0
            obtain ⟨er, her⟩ : ∃ er, er = rr.2 := ⟨_, rfl⟩
            rw [← her] at p1 HE ⊢
            have HB2 := Lib.hid HF2.out.2.1
            clear hr0 her HR3 HF2
            go_wp2
            obtain ⟨z1, z2⟩ := zero_put HI2.out HB2.out (Nat.le_refl _)
            exact pread_err (b0 := w.heap.size) (W := _) z1 z2 rfl rfl rfl HE.out
          · have HE := Lib.hid (show R = (x.1, rr) by rw [HR3.out, if_pos hr0])
            have hv : Value.tuple #[shapeV R.1 R.2.1, .string (strL R.2.1.D), .int .i64 R.2.2] = Value.tuple #[.agg (shpC a h d c l rr.1.P rr.1.T rr.1.trans), .string (strL rr.1.D), .int .i64 0] := by
              rw [HE.out]
              unfold shapeV shpC
              dsimp only
              rw [HX5.out.1, HX5.out.2.1, HX5.out.2.2.1, HX5.out.2.2.2.1, HX5.out.2.2.2.2, hr0]
            have HV := Lib.hid hv
            have HST : Hid (∀ W, But [] w2 W → Calls Try.prog 28 #[.pointer (some ⟨b, 8, none⟩)] W fun e w' => e = .returned (.string (strL rr.1.D)) ∧ But [] w w' ∧ Is w' b 56 #[.int .i64 a, .int .i64 h, .int .i64 d, .int .i64 c, .int .i64 l, .string (strL rr.1.P), .string (strL rr.1.T), .bool rr.1.trans, p, v, .bool rr.1.idat, .string (strL lst)] ∧ Is w' w.heap.size 36 zerC) :=
              Lib.hid fun W hW => (fbld_text (w0 := w) (w := W) (b := b) (v := v) (D := rr.1.D) (by rw [((HF2.out.2.2.2.1).but hW (by simp)).cell]; rfl) (HF2.out.2.2.2.2.1.but hW) (HF2.out.2.1.trans hW)).mono fun e w' ⟨h1, h2, h3⟩ => ⟨h1, h2, h3 _ _ _ (by decide) (HF2.out.2.2.2.1.but hW (by simp)), h3 _ _ _ (by decide) (HI2.out.but hW (by simp))⟩
            have p1 : (rr.2 != 0) = false := by rw [hr0]; rfl
            have hf2 := HF2.out.2.2.2.1
            obtain ⟨U1, hU1⟩ : ∃ U, U = strL rr.1.P := ⟨_, rfl⟩
            obtain ⟨U2, hU2⟩ : ∃ U, U = strL rr.1.T := ⟨_, rfl⟩
            obtain ⟨U3, hU3⟩ : ∃ U, U = strL rr.1.D := ⟨_, rfl⟩
            obtain ⟨U4, hU4⟩ : ∃ U, U = rr.1.trans := ⟨_, rfl⟩
            have HU := Lib.hid (And.intro hU1 (And.intro hU2 (And.intro hU3 hU4)))
            rw [← hU1, ← hU2, ← hU4] at hf2
            rw [← hU1, ← hU2, ← hU3, ← hU4] at HST
            have x0 := hf2.cell 0
            have x1 := hf2.cell 1
            have x2 := hf2.cell 2
            have x3 := hf2.cell 3
            have x4 := hf2.cell 4
            have x5 := hf2.cell 5
            have x6 := hf2.cell 6
            have x7 := hf2.cell 7
            have h0 : rr.2 = 0 := hr0
            rw [h0] at p1 ⊢
            clear hv hr0 HR3 hU1 hU2 hU3 hU4 hf2 HF2 HI2 h0
            go_upto_region 10 with (fail)
            go_region_with (go_at_call 28; refine (HST.out _ ((But.refl [] _).drew)).mono ?_; rintro e w3 ⟨rfl, hB3, hf3, hz3⟩; have HB3 := Lib.hid hB3; have HZ3 := Lib.hid hz3; unfold zerC at hz3; have x0 := hf3.cell 0; have x1 := hf3.cell 1; have x2 := hf3.cell 2; have x3 := hf3.cell 3; have x4 := hf3.cell 4; have x5 := hf3.cell 5; have x6 := hf3.cell 6; have x7 := hf3.cell 7; have k0 := hz3.cell 0; have k1 := hz3.cell 1; have k2 := hz3.cell 2; have k3 := hz3.cell 3; have k4 := hz3.cell 4; have k5 := hz3.cell 5; have k6 := hz3.cell 6; have k7 := hz3.cell 7; have f0 := hz3.free 0; have f1 := hz3.free 1; have f2 := hz3.free 2; have f3 := hz3.free 3; have f4 := hz3.free 4; have f5 := hz3.free 5; have f6 := hz3.free 6; have f7 := hz3.free 7; clear hf3 hz3 hB3)
            all_goals
              go_wp2
              obtain ⟨z1, z2⟩ := put8 HZ3.out HB3.out (Nat.le_refl _) (.int .i64 a) (.int .i64 h) (.int .i64 d) (.int .i64 c) (.int .i64 l) (.string U1) (.string U2) (.bool U4)
              rw [HU.out.1, HU.out.2.1, HU.out.2.2.2] at z1
              rw [HU.out.1, HU.out.2.1, HU.out.2.2.1, HU.out.2.2.2] at *
              exact pread_ok (b0 := w.heap.size) (W := _) z1 z2 rfl rfl rfl HV.out
        · have HCA2 : Hid (Cks w (some ⟨g, o + 2, none⟩) (n - 1) L) := Lib.hid (by have := HCA.out; rw [if_neg hc1'] at this; exact this)
          have dcc : decide ((cap : Int) = 1) = false := by simp; omega
          go_enter Try.func17, Try.ntmps17
          go_wp2_with fail
          refine (HH.out _).mono ?_
          rintro e w1 ⟨rfl, hB⟩
          have hI1 := (HI0.out.but hB (by simp)).alloc (.cells #[.int .i64 a, .int .i64 h, .int .i64 d, .int .i64 c, .int .i64 l] 23)
          have hJ1 := Is.fresh w1 23 #[.int .i64 a, .int .i64 h, .int .i64 d, .int .i64 c, .int .i64 l]
          have hB1 := (HB0.out.trans hB).alloc (.cells #[.int .i64 a, .int .i64 h, .int .i64 d, .int .i64 c, .int .i64 l] 23)
          have q0 := hJ1.cell 0
          have q1 := hJ1.cell 1
          have q2 := hJ1.cell 2
          have q3 := hJ1.cell 3
          have q4 := hJ1.cell 4
          have hF := file_zero (w1.alloc (.cells #[.int .i64 a, .int .i64 h, .int .i64 d, .int .i64 c, .int .i64 l] 23)) a h d c l hB1.size hB1
          rw [show (w1.alloc (.cells #[.int .i64 a, .int .i64 h, .int .i64 d, .int .i64 c, .int .i64 l] 23)).heap.size = w1.heap.size + 1 by simp] at hF
          have hlt1 : w.heap.size < w1.heap.size := (HI0.out.but hB (by simp)).lt
          have HI1 := Lib.hid hI1
          have HF1 := Lib.hid hF
          clear hI1 hB1 hF hB hJ1
          go_wp2_with fail
          refine (paddAll_any (s := hs0) (last := []) HCA2.out HF1.out okS_start HC.out HDE.out HDL.out (by omega) HTL2.out).mono ?_
          rintro e w2 ⟨rfl, ⟨lst, p, v, hf2⟩, hk2⟩
          have hI2 : Is w2 w.heap.size 36 zerC := hk2 _ _ _ (by omega) (by decide) (HI1.out.alloc _)
          have hbb : w1.heap.size + 1 ≠ w.heap.size := by omega
          obtain ⟨b, hb⟩ : ∃ b, b = w1.heap.size + 1 := ⟨_, rfl⟩
          rw [← hb] at hf2 hk2 hbb ⊢
          obtain ⟨rr, hrr⟩ : ∃ x, x = runH d c L hs0 := ⟨_, rfl⟩
          rw [← hrr] at hf2 HR3 ⊢
          have HI2 := Lib.hid hI2
          unfold zerC at hI2
          have k0 := hI2.cell 0
          have k1 := hI2.cell 1
          have k2 := hI2.cell 2
          have k3 := hI2.cell 3
          have k4 := hI2.cell 4
          have k5 := hI2.cell 5
          have k6 := hI2.cell 6
          have k7 := hI2.cell 7
          have f0 := hI2.free 0
          have f1 := hI2.free 1
          have f2 := hI2.free 2
          have f3 := hI2.free 3
          have f4 := hI2.free 4
          have f5 := hI2.free 5
          have f6 := hI2.free 6
          have f7 := hI2.free 7
          have HF2 := Lib.hid hf2
          clear hI2 hk2 hf2 hb hrr HI1 HF1 q0 q1 q2 q3 q4 hlt1
          by_cases hr0 : rr.2 = 0
          rotate_left
          · have HE := Lib.hid (show R = ([], hs0, rr.2) by rw [HR3.out, if_neg hr0])
            have p1 : (rr.2 != 0) = true := by simpa using hr0
            obtain ⟨er, her⟩ : ∃ er, er = rr.2 := ⟨_, rfl⟩
            rw [← her] at p1 HE ⊢
            have HB2 := Lib.hid HF2.out.2.1
            clear hr0 her HR3 HF2
            go_wp2
            obtain ⟨z1, z2⟩ := zero_put HI2.out HB2.out (Nat.le_refl _)
            exact pread_err (b0 := w.heap.size) (W := _) z1 z2 rfl rfl rfl HE.out
          · have HE := Lib.hid (show R = (x.1, rr) by rw [HR3.out, if_pos hr0])
            have hv : Value.tuple #[shapeV R.1 R.2.1, .string (strL R.2.1.D), .int .i64 R.2.2] = Value.tuple #[.agg (shpC a h d c l rr.1.P rr.1.T rr.1.trans), .string (strL rr.1.D), .int .i64 0] := by
              rw [HE.out]
              unfold shapeV shpC
              dsimp only
              rw [HX5.out.1, HX5.out.2.1, HX5.out.2.2.1, HX5.out.2.2.2.1, HX5.out.2.2.2.2, hr0]
            have HV := Lib.hid hv
            have HST : Hid (∀ W, But [] w2 W → Calls Try.prog 28 #[.pointer (some ⟨b, 8, none⟩)] W fun e w' => e = .returned (.string (strL rr.1.D)) ∧ But [] w w' ∧ Is w' b 56 #[.int .i64 a, .int .i64 h, .int .i64 d, .int .i64 c, .int .i64 l, .string (strL rr.1.P), .string (strL rr.1.T), .bool rr.1.trans, p, v, .bool rr.1.idat, .string (strL lst)] ∧ Is w' w.heap.size 36 zerC) :=
              Lib.hid fun W hW => (fbld_text (w0 := w) (w := W) (b := b) (v := v) (D := rr.1.D) (by rw [((HF2.out.2.2.2.1).but hW (by simp)).cell]; rfl) (HF2.out.2.2.2.2.1.but hW) (HF2.out.2.1.trans hW)).mono fun e w' ⟨h1, h2, h3⟩ => ⟨h1, h2, h3 _ _ _ (by decide) (HF2.out.2.2.2.1.but hW (by simp)), h3 _ _ _ (by decide) (HI2.out.but hW (by simp))⟩
            have p1 : (rr.2 != 0) = false := by rw [hr0]; rfl
            have hf2 := HF2.out.2.2.2.1
            obtain ⟨U1, hU1⟩ : ∃ U, U = strL rr.1.P := ⟨_, rfl⟩
            obtain ⟨U2, hU2⟩ : ∃ U, U = strL rr.1.T := ⟨_, rfl⟩
            obtain ⟨U3, hU3⟩ : ∃ U, U = strL rr.1.D := ⟨_, rfl⟩
            obtain ⟨U4, hU4⟩ : ∃ U, U = rr.1.trans := ⟨_, rfl⟩
            have HU := Lib.hid (And.intro hU1 (And.intro hU2 (And.intro hU3 hU4)))
            rw [← hU1, ← hU2, ← hU4] at hf2
            rw [← hU1, ← hU2, ← hU3, ← hU4] at HST
            have x0 := hf2.cell 0
            have x1 := hf2.cell 1
            have x2 := hf2.cell 2
            have x3 := hf2.cell 3
            have x4 := hf2.cell 4
            have x5 := hf2.cell 5
            have x6 := hf2.cell 6
            have x7 := hf2.cell 7
            have h0 : rr.2 = 0 := hr0
            rw [h0] at p1 ⊢
            clear hv hr0 HR3 hU1 hU2 hU3 hU4 hf2 HF2 HI2 h0
            go_upto_region 10 with (fail)
            go_region_with (go_at_call 28; refine (HST.out _ ((But.refl [] _).drew)).mono ?_; rintro e w3 ⟨rfl, hB3, hf3, hz3⟩; have HB3 := Lib.hid hB3; have HZ3 := Lib.hid hz3; unfold zerC at hz3; have x0 := hf3.cell 0; have x1 := hf3.cell 1; have x2 := hf3.cell 2; have x3 := hf3.cell 3; have x4 := hf3.cell 4; have x5 := hf3.cell 5; have x6 := hf3.cell 6; have x7 := hf3.cell 7; have k0 := hz3.cell 0; have k1 := hz3.cell 1; have k2 := hz3.cell 2; have k3 := hz3.cell 3; have k4 := hz3.cell 4; have k5 := hz3.cell 5; have k6 := hz3.cell 6; have k7 := hz3.cell 7; have f0 := hz3.free 0; have f1 := hz3.free 1; have f2 := hz3.free 2; have f3 := hz3.free 3; have f4 := hz3.free 4; have f5 := hz3.free 5; have f6 := hz3.free 6; have f7 := hz3.free 7; clear hf3 hz3 hB3)
            all_goals
              go_wp2
              obtain ⟨z1, z2⟩ := put8 HZ3.out HB3.out (Nat.le_refl _) (.int .i64 a) (.int .i64 h) (.int .i64 d) (.int .i64 c) (.int .i64 l) (.string U1) (.string U2) (.bool U4)
              rw [HU.out.1, HU.out.2.1, HU.out.2.2.2] at z1
              rw [HU.out.1, HU.out.2.1, HU.out.2.2.1, HU.out.2.2.2] at *
              exact pread_ok (b0 := w.heap.size) (W := _) z1 z2 rfl rfl rfl HV.out
end Go.Proofs.Ytedffeimcccobaa
