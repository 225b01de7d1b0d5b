/- Coins in memory that may be written; the comparison of two coins; the exchange of two ranges. -/
import Derived.Test.YtmafcmfafcjokaaMerge
import Derived.Test.YtmafcmfafcjokaaSortM
import Derived.Shelf.SlSortCmp.QuietGrown
import Derived.BigRegion
namespace Go.Proofs.Ytmafcmfafcjokaa
open Go Go.RowKit

/-- The block reads as these coins from o on, and may be written there. -/
def CL (W : World) (b o : Nat) (d : List (Nat × Nat)) : Prop := ∀ (i : Nat) (h : i < d.length),
  W.cell? ⟨b, o + i * 2, none⟩ = some (.int .i64 d[i].1) ∧ W.cell? ⟨b, o + i * 2 + 1, none⟩ = some (.int .i64 d[i].2) ∧ W.frozen? ⟨b, o + i * 2, none⟩ = false ∧ W.frozen? ⟨b, o + i * 2 + 1, none⟩ = false
theorem CL.heap {W W' : World} {b o : Nat} {d : List (Nat × Nat)} (h : CL W b o d) (e : W'.heap[b]? = W.heap[b]?) : CL W' b o d := fun i hi => by
  obtain ⟨h1, h2, h3, h4⟩ := h i hi
  have f : ∀ a : Addr, a.block = b → W'.cell? a = W.cell? a ∧ W'.frozen? a = W.frozen? a := fun a ha => by
    subst ha; exact ⟨World.cell?_of_block e, by unfold World.frozen?; rw [e]⟩
  exact ⟨(f _ rfl).1.trans h1, (f _ rfl).1.trans h2, (f _ rfl).2.trans h3, (f _ rfl).2.trans h4⟩

theorem put_other (W : World) (g i j : Nat) (v : Value) (h : i ≠ j) : (W.setCell ⟨g, i, none⟩ v).cell? ⟨g, j, none⟩ = W.cell? ⟨g, j, none⟩ := by
  apply World.cell?_setCell_other
  intro e; injection e; exact h (by assumption)
theorem put_same {W : World} {g i : Nat} (v : Value) {u : Value} (h : W.cell? ⟨g, i, none⟩ = some u) : (W.setCell ⟨g, i, none⟩ v).cell? ⟨g, i, none⟩ = some v := by
  apply World.cell?_setCell_same
  exact h
theorem set2 (W : World) (g o p q : Nat) (u v : Value) {p0 p1 : Value} (h0 : W.cell? ⟨g, o + p * 2, none⟩ = some p0) (h1 : W.cell? ⟨g, o + p * 2 + 1, none⟩ = some p1) :
    ((W.setCell ⟨g, o + p * 2, none⟩ u).setCell ⟨g, o + p * 2 + 1, none⟩ v).cell? ⟨g, o + q * 2, none⟩ = (if q = p then some u else W.cell? ⟨g, o + q * 2, none⟩) ∧
    ((W.setCell ⟨g, o + p * 2, none⟩ u).setCell ⟨g, o + p * 2 + 1, none⟩ v).cell? ⟨g, o + q * 2 + 1, none⟩ = (if q = p then some v else W.cell? ⟨g, o + q * 2 + 1, none⟩) := by
  by_cases e : q = p
  · subst e
    rw [if_pos rfl, if_pos rfl]
    exact ⟨(put_other _ _ _ _ _ (by omega)).trans (put_same _ h0), put_same _ ((put_other _ _ _ _ _ (by omega)).trans h1)⟩
  · rw [if_neg e, if_neg e]
    exact ⟨(put_other _ _ _ _ _ (by omega)).trans (put_other _ _ _ _ _ (by omega)), (put_other _ _ _ _ _ (by omega)).trans (put_other _ _ _ _ _ (by omega))⟩
theorem CL.swap {W : World} {g o p q xs xc ys yc : Nat} {d : List (Nat × Nat)} (h : CL W g o d) (hp : p < d.length) (hq : q < d.length) (hpq : p ≠ q) (hx : d.getD p (0, 0) = (xs, xc)) (hy : d.getD q (0, 0) = (ys, yc)) :
    CL ((((W.setCell ⟨g, o + p * 2, none⟩ (.int .i64 ys)).setCell ⟨g, o + p * 2 + 1, none⟩ (.int .i64 yc)).setCell ⟨g, o + q * 2, none⟩ (.int .i64 xs)).setCell ⟨g, o + q * 2 + 1, none⟩ (.int .i64 xc)) g o (sw d p q) := by
  intro i hi
  rw [length_sw] at hi
  obtain ⟨h0, h1, h2, h3⟩ := h i hi
  obtain ⟨p0, p1, _, _⟩ := h p hp
  obtain ⟨q0, q1, _, _⟩ := h q hq
  have a1 := fun t => set2 W g o p t (.int .i64 ys) (.int .i64 yc) p0 p1
  have a2 := fun t => set2 ((W.setCell ⟨g, o + p * 2, none⟩ (.int .i64 ys)).setCell ⟨g, o + p * 2 + 1, none⟩ (.int .i64 yc)) g o q t (.int .i64 xs) (.int .i64 xc) (by rw [(a1 q).1, if_neg (Ne.symm hpq)]; exact q0) (by rw [(a1 q).2, if_neg (Ne.symm hpq)]; exact q1)
  have hs : (sw d p q)[i]'(by rw [length_sw]; exact hi) = if i = q then (xs, xc) else if i = p then (ys, yc) else d[i] := by
    simp only [sw, hx, hy, List.getElem_set]
    by_cases e1 : i = q
    · rw [if_pos e1.symm, if_pos e1]
    · rw [if_neg (Ne.symm e1), if_neg e1]
      by_cases e2 : i = p
      · rw [if_pos e2.symm, if_pos e2]
      · rw [if_neg (Ne.symm e2), if_neg e2]
  rw [hs]
  refine ⟨?_, ?_, by simp only [World.frozen?_setCell]; exact h2, by simp only [World.frozen?_setCell]; exact h3⟩
  · rw [(a2 i).1, (a1 i).1]; split
    · rfl
    · split
      · rfl
      · exact h0
  · rw [(a2 i).2, (a1 i).2]; split
    · rfl
    · split
      · rfl
      · exact h1
theorem But.swap {W w : World} {g o p q : Nat} (h : But [g] w W) (u0 u1 v0 v1 : Value) :
    But [g] w ((((W.setCell ⟨g, o + p * 2, none⟩ u0).setCell ⟨g, o + p * 2 + 1, none⟩ u1).setCell ⟨g, o + q * 2, none⟩ v0).setCell ⟨g, o + q * 2 + 1, none⟩ v1) :=
  (((h.setCell (.inl (by simp)) _).setCell (.inl (by simp)) _).setCell (.inl (by simp)) _).setCell (.inl (by simp)) _

theorem isNaN_int (x : Int) (w : World) : Calls Try.prog 50 #[.int .i64 x] w fun e w' => e = .returned (.bool false) ∧ w = w' := by
  go_enter Try.func50, Try.ntmps50
  go_wp2
  go_ret
  exact ⟨rfl, rfl⟩
def cmpOf (x y : Int) : Int := if x < y then -1 else if y < x then 1 else 0
theorem cmp_int (x y : Int) (w : World) : Calls Try.prog 45 #[.int .i64 x, .int .i64 y] w fun e w' => e = .returned (.int .i64 (cmpOf x y)) ∧ w = w' := by
  unfold cmpOf
  by_cases h1 : x < y
  · rw [if_pos h1]
    go_enter Try.func45, Try.ntmps45
    go_wp2_with (go_at_call 50; refine (isNaN_int _ _).mono ?_; rintro e w' ⟨rfl, rfl⟩)
    go_ret
    exact ⟨rfl, rfl⟩
  · rw [if_neg h1]
    by_cases h2 : y < x
    · rw [if_pos h2]
      go_enter Try.func45, Try.ntmps45
      go_wp2_with (go_at_call 50; refine (isNaN_int _ _).mono ?_; rintro e w' ⟨rfl, rfl⟩)
      go_ret
      exact ⟨rfl, rfl⟩
    · rw [if_neg h2]
      go_enter Try.func45, Try.ntmps45
      go_wp2_with (go_at_call 50; refine (isNaN_int _ _).mono ?_; rintro e w' ⟨rfl, rfl⟩)
      go_ret
      exact ⟨rfl, rfl⟩
theorem cmp_coins (s1 c1 s2 c2 : Int) (w : World) : Calls Try.prog 44 #[.agg #[.int .i64 s1, .int .i64 c1], .agg #[.int .i64 s2, .int .i64 c2]] w fun e w' => e = .returned (.int .i64 (cmpOf c1 c2)) ∧ ∃ q os', w' = Sort.grow (w.drewN q) os' := by
  go_enter Try.func44, Try.ntmps44
  go_wp2_with (go_at_call 45; refine (cmp_int _ _ _).mono ?_; rintro e w' ⟨rfl, rfl⟩)
  go_ret
  refine ⟨rfl, 0, #[.cells #[.int .i64 s1, .int .i64 c1] 80, .cells #[.int .i64 s2, .int .i64 c2] 80], ?_⟩
  rw [Sort.alloc_eq_grow, Sort.alloc_eq_grow, Sort.grow_grow]
  rfl

set_option maxRecDepth 100000 in
set_option maxHeartbeats 1000000 in
theorem swapRange_any {w : World} {g o n cap a b k : Nat} {d : List (Nat × Nat)} (hd : CL w g o d) (hdl : d.length = n) (hn : n ≤ 1000) (hab : a + k ≤ b) (hbn : b + k ≤ n) (f : Value) :
    Calls Try.prog 55 #[.slice (some ⟨g, o, none⟩) n cap, .int .i64 a, .int .i64 b, .int .i64 k, f] w fun e w' => e = .returned (.tuple #[]) ∧ CL w' g o (swapR d a b k) ∧ But [g] w w' := by
  go_enter Try.func55, Try.ntmps55
  go_wp2
  go_loopw [10] (fun iv wr => ∃ (i : Nat) (dk : List (Nat × Nat)), i ≤ k ∧ iv = .int .i64 i ∧ dk.length = n ∧ CL wr g o dk ∧ swapR dk (a + i) (b + i) (k - i) = swapR d a b k ∧ But [g] w wr) (fun iv _ => k - (intOf iv).toNat)
  case atStart => exact ⟨0, d, Nat.zero_le _, rfl, hdl, hd, rfl, But.refl _ _⟩
  case round =>
    clear hd hdl
    obtain ⟨i, dk, hi, rfl, hdl, hd, hsw, hB⟩ := hrel
    by_cases hlt : i < k
    · obtain ⟨x0, x1, x2, x3⟩ := hd (a + i) (by omega)
      obtain ⟨y0, y1, y2, y3⟩ := hd (b + i) (by omega)
      have hx : dk.getD (a + i) (0, 0) = dk[a + i]'(by omega) := by rw [List.getD_eq_getElem?_getD, List.getElem?_eq_getElem (by omega)]; rfl
      have hy : dk.getD (b + i) (0, 0) = dk[b + i]'(by omega) := by rw [List.getD_eq_getElem?_getD, List.getElem?_eq_getElem (by omega)]; rfl
      generalize dk[a + i]'(by omega) = x at *
      generalize dk[b + i]'(by omega) = y at *
      obtain ⟨xs, xc⟩ := x
      obtain ⟨ys, yc⟩ := y
      dsimp only at x0 x1 y0 y1
      obtain ⟨p, hp⟩ : ∃ p, p = a + i := ⟨_, rfl⟩
      obtain ⟨q, hq⟩ : ∃ q, q = b + i := ⟨_, rfl⟩
      rw [← hp] at x0 x1 x2 x3
      rw [← hq] at y0 y1 y2 y3
      have ep : (a : Int) + (i : Int) = (p : Int) := by omega
      have eq : (b : Int) + (i : Int) = (q : Int) := by omega
      have p0 : (0 : Int) ≤ (p : Int) := by omega
      have pn : (p : Int) < (n : Int) := by omega
      have q0 : (0 : Int) ≤ (q : Int) := by omega
      have qn : (q : Int) < (n : Int) := by omega
      have hpq : p < q := by omega
      have HX := Lib.hid hx
      have HY := Lib.hid hy
      have HP := Lib.hid hp
      have HQ := Lib.hid hq
      have HD := Lib.hid hd
      have HSW := Lib.hid hsw
      have HB := Lib.hid hB
      have HDL := Lib.hid hdl
      clear hx hy hp hq hd hsw hB hdl
      go_wp2
      go_region
      go_wp2
      go_roundw
      case rel =>
        refine ⟨i + 1, sw dk p q, by omega, by go_num, by rw [length_sw]; exact HDL.out, ((HD.out.swap (by have := HDL.out; omega) (by have := HDL.out; omega) (by omega) (by rw [HP.out]; exact HX.out) (by rw [HQ.out]; exact HY.out)).heap rfl), ?_, (HB.out.swap _ _ _ _).drew⟩
        rw [← HSW.out, HP.out, HQ.out, show k - i = (k - (i + 1)) + 1 from by omega]
        rfl
      case measure => simp [intOf]; omega
    · obtain rfl : i = k := by omega
      rw [Nat.sub_self] at hsw
      go_wp2
      go_end0
      have e : dk = swapR d a b i := hsw
      exact ⟨rfl, e ▸ hd, hB⟩
theorem swapRange_at {w : World} {g o n cap a b k : Nat} {A X M Y B : List (Nat × Nat)} (hd : CL w g o (A ++ X ++ M ++ Y ++ B)) (hdl : (A ++ X ++ M ++ Y ++ B).length = n) (hn : n ≤ 1000)
    (ha : a = A.length) (hb : b = A.length + X.length + M.length) (hX : X.length = k) (hY : Y.length = k) (f : Value) :
    Calls Try.prog 55 #[.slice (some ⟨g, o, none⟩) n cap, .int .i64 a, .int .i64 b, .int .i64 k, f] w fun e w' => e = .returned (.tuple #[]) ∧ CL w' g o (A ++ Y ++ M ++ X ++ B) ∧ But [g] w w' := by
  have h := swapRange_any (cap := cap) (a := a) (b := b) (k := k) hd hdl hn (by omega) (by simp at hdl; omega) f
  rw [swapR_at X Y A M B a b k ha hb hX hY] at h
  exact h

set_option maxRecDepth 100000 in
set_option maxHeartbeats 1000000 in
theorem rotate_any {w : World} {g o n cap a m b : Nat} {A X Y B : List (Nat × Nat)} (hd : CL w g o (A ++ X ++ Y ++ B)) (hdl : (A ++ X ++ Y ++ B).length = n) (hn : n ≤ 1000)
    (ha : a = A.length) (hm : m = A.length + X.length) (hb : b = A.length + X.length + Y.length) (hX : 0 < X.length) (hY : 0 < Y.length) (f : Value) :
    Calls Try.prog 54 #[.slice (some ⟨g, o, none⟩) n cap, .int .i64 a, .int .i64 m, .int .i64 b, f] w fun e w' => e = .returned (.tuple #[]) ∧ CL w' g o (A ++ Y ++ X ++ B) ∧ But [g] w w' := by
  have hml : m ≤ n := by simp at hdl; omega
  obtain ⟨i0, hi0⟩ : ∃ i0, i0 = X.length := ⟨_, rfl⟩
  obtain ⟨j0, hj0⟩ : ∃ j0, j0 = Y.length := ⟨_, rfl⟩
  have e1 : (m : Int) - (a : Int) = (i0 : Int) := by omega
  have e2 : (b : Int) - (m : Int) = (j0 : Int) := by omega
  have bn : b ≤ 1000 := by simp at hdl; omega
  have an : a ≤ 1000 := by omega
  have HM := Lib.hid hm
  have HI := Lib.hid hi0
  have HJ := Lib.hid hj0
  have HDL := Lib.hid hdl
  clear hm hi0 hj0 hdl ha hb
  go_enter Try.func54, Try.ntmps54
  go_wp2
  go_loopw [10, 11] (fun iv jv wr => ∃ (i j : Nat) (P X' Y' Q : List (Nat × Nat)), iv = .int .i64 i ∧ jv = .int .i64 j ∧ X'.length = i ∧ Y'.length = j ∧ 0 < i ∧ 0 < j ∧ P.length + i = m ∧ (P ++ X' ++ Y' ++ Q).length = n ∧ CL wr g o (P ++ X' ++ Y' ++ Q) ∧ P ++ Y' ++ X' ++ Q = A ++ Y ++ X ++ B ∧ But [g] w wr) (fun iv jv _ => (intOf iv).toNat + (intOf jv).toNat)
  case atStart => exact ⟨i0, j0, A, X, Y, B, rfl, rfl, HI.out.symm, HJ.out.symm, by have := HI.out; omega, by have := HJ.out; omega, by have := HM.out; have := HI.out; omega, HDL.out, hd, rfl, But.refl _ _⟩
  case round =>
    clear e1 e2 hX hY hd
    obtain ⟨i, j, P, X', Y', Q, rfl, rfl, hX, hY, hi, hj, hP, hL, hd, ht, hB⟩ := hrel
    have hLn : P.length + i + j ≤ n := by simp at hL; omega
    have emi : (m : Int) - (i : Int) = (P.length : Int) := by omega
    by_cases he : i = j
    · subst he
      have hb1 : ((i : Int) != (i : Int)) = false := by simp
      have hsr := swapRange_at (cap := cap) (a := P.length) (b := m) (k := i) (A := P) (X := X') (M := []) (Y := Y') (B := Q) (by simpa using hd) (by simpa using hL) hn rfl (by simp; omega) hX hY f
      have HS := Lib.hid hsr
      have HT := Lib.hid ht
      have HB := Lib.hid hB
      clear hsr ht hB hd hL hX hY
      go_wp2_with fail
      refine HS.out.mono ?_
      rintro e w' ⟨rfl, hd', hB'⟩
      go_wp2
      go_end0
      refine ⟨rfl, ?_, HB.out.trans hB'⟩
      rw [← HT.out]
      simpa using hd'
    · have hne : ((i : Int) != (j : Int)) = true := by simp; omega
      by_cases hlt : j < i
      · have hgt : decide (j < i) = true := by simpa using hlt
        have hXs : X' = X'.take j ++ X'.drop j := (List.take_append_drop _ _).symm
        have hsr := swapRange_at (cap := cap) (a := P.length) (b := m) (k := j) (A := P) (X := X'.take j) (M := X'.drop j) (Y := Y') (B := Q) (by rw [List.append_assoc P, ← hXs]; exact hd) (by rw [List.append_assoc P, ← hXs]; exact hL) hn rfl (by simp; omega) (by simp; omega) hY f
        have HS := Lib.hid hsr
        have HT := Lib.hid ht
        have HB := Lib.hid hB
        have HL := Lib.hid hL
        have HX := Lib.hid hX
        have HY := Lib.hid hY
        have HXS := Lib.hid hXs
        clear hsr ht hB hd hL hX hY hXs he
        go_wp2_with fail
        refine HS.out.mono ?_
        rintro e w' ⟨rfl, hd', hB'⟩
        go_wp2
        go_roundw
        case rel =>
          refine ⟨i - j, j, P ++ Y', X'.drop j, X'.take j, Q, by congr 1; omega, rfl, by simp; have := HX.out; omega, by simp; have := HX.out; omega, by omega, hj, by simp; have := HY.out; omega, ?_, hd', ?_, HB.out.trans hB'⟩
          · have := HL.out; have := HX.out; simp at *; omega
          · rw [← HT.out]; conv => rhs; rw [HXS.out]
            simp
        case measure => simp [intOf]; omega
      · have hgt : decide (j < i) = false := by simpa using hlt
        have hij : i < j := by omega
        have hYs : Y' = Y'.take (j - i) ++ Y'.drop (j - i) := (List.take_append_drop _ _).symm
        obtain ⟨q, hq⟩ : ∃ q, q = m + (j - i) := ⟨_, rfl⟩
        have eq : (m : Int) + (j : Int) - (i : Int) = (q : Int) := by omega
        have hsr := swapRange_at (cap := cap) (a := P.length) (b := q) (k := i) (A := P) (X := X') (M := Y'.take (j - i)) (Y := Y'.drop (j - i)) (B := Q) (by rw [List.append_assoc (P ++ X'), ← hYs]; exact hd) (by rw [List.append_assoc (P ++ X'), ← hYs]; exact hL) hn rfl (by simp; omega) hX (by simp; omega) f
        have HS := Lib.hid hsr
        have HT := Lib.hid ht
        have HB := Lib.hid hB
        have HL := Lib.hid hL
        have HX := Lib.hid hX
        have HY := Lib.hid hY
        have HYS := Lib.hid hYs
        clear hsr ht hB hd hL hX hY hYs he hq
        go_wp2_with fail
        refine HS.out.mono ?_
        rintro e w' ⟨rfl, hd', hB'⟩
        go_wp2
        go_roundw
        case rel =>
          refine ⟨i, j - i, P, Y'.drop (j - i), Y'.take (j - i), X' ++ Q, rfl, by congr 1; omega, by simp; have := HY.out; omega, by simp; have := HY.out; omega, hi, by omega, hP, ?_, by simpa using hd', ?_, HB.out.trans hB'⟩
          · have := HL.out; have := HX.out; have := HY.out; simp at *; omega
          · rw [← HT.out]; conv => rhs; rw [HYS.out]
            simp
        case measure => simp [intOf]; omega
end Go.Proofs.Ytmafcmfafcjokaa
