/- The contract of the merge in place where one of the two lists has one element. -/
import Derived.Test.YtmafcmfafcjokaaStableA
namespace Go.Proofs.Ytmafcmfafcjokaa
open Go Go.RowKit

theorem getD_mid {d A X B : List (Nat × Nat)} {i : Nat} (h : d = A ++ X ++ B) (h1 : A.length ≤ i) (h2 : i < A.length + X.length) : d.getD i (0, 0) = X[i - A.length]'(by omega) := by
  subst h
  rw [List.getD_eq_getElem?_getD, List.append_assoc, List.getElem?_append_right h1, List.getElem?_append_left (by omega), List.getElem?_eq_getElem (by omega)]; rfl
theorem last_take {X : List (Nat × Nat)} {k : Nat} (h : k < X.length) : (X.take (k + 1)).getLast? = some X[k] := by
  rw [List.take_succ_eq_append_getElem h]; exact List.getLast?_concat
theorem head_drop {X : List (Nat × Nat)} {k : Nat} (h : k < X.length) : (X.drop k).head? = some X[k] := by
  rw [List.drop_eq_getElem_cons h]; rfl
theorem head_all {X : List (Nat × Nat)} {x : Nat × Nat} (h : Srt X) (hh : ∀ y, X.head? = some y → lx x y) : ∀ y ∈ X, lx x y := by
  intro y hy
  cases X with
  | nil => cases hy
  | cons z X =>
    have hz := hh z rfl
    rcases List.mem_cons.1 hy with rfl | hy
    · exact hz
    · exact lx_trans hz ((List.pairwise_cons.1 h).1 y hy)
theorem half (i j : Nat) : (((i : Int) + (j : Int)) / 2) = (((i + j) / 2 : Nat) : Int) := by omega

set_option maxRecDepth 1000000 in
set_option maxHeartbeats 4000000 in
theorem sym_left {w : World} {g o n cap a m b : Nat} {A Y B : List (Nat × Nat)} {x : Nat × Nat} (hd : CL w g o (A ++ x :: Y ++ B)) (hdl : (A ++ x :: Y ++ B).length = n) (hn : n ≤ 1000) (hgl : g < w.heap.size)
    (ha : a = A.length) (hm : m = a + 1) (hb : b = m + Y.length) (hY : Srt Y) (hc : ∀ y ∈ Y, x.1 < y.1) :
    Calls Try.prog 53 #[.slice (some ⟨g, o, none⟩) n cap, .int .i64 a, .int .i64 m, .int .i64 b, .func (.func 44) #[] #[]] w fun e w' => e = .returned (.tuple #[]) ∧ (∃ S, Srt S ∧ S.Perm (x :: Y) ∧ CL w' g o (A ++ S ++ B)) ∧ But [g] w w' := by
  have mixed : Try.prog.follows .mixedOrders = true := by kernel_rfl
  have hbn : b ≤ n := by simp at hdl; omega
  have hma : (m : Int) - (a : Int) = 1 := by omega
  have hma2 : a < m := by omega
  have hmb : m ≤ b := by omega
  have HA := Lib.hid ha
  have HM := Lib.hid hm
  have HBB := Lib.hid hb
  have HDL := Lib.hid hdl
  have HSY := Lib.hid hY
  clear ha hm hb hdl hY
  go_enter Try.func53, Try.ntmps53
  go_wp2
  go_loopw [10, 11] (fun iv jv wr => ∃ i j : Nat, m ≤ i ∧ i ≤ j ∧ j ≤ b ∧ iv = .int .i64 i ∧ jv = .int .i64 j ∧ (∀ y, (Y.take (i - m)).getLast? = some y → lx y x) ∧ (∀ y, (Y.drop (j - m)).head? = some y → lx x y) ∧ CL wr g o (A ++ x :: Y ++ B) ∧ But [g] w wr) (fun iv jv _ => (intOf jv).toNat - (intOf iv).toNat)
  case atStart => exact ⟨m, b, Nat.le_refl _, hmb, Nat.le_refl _, rfl, rfl, by simp, by have := HBB.out; rw [List.drop_of_length_le (by omega)]; simp, hd, But.refl _ _⟩
  case round =>
    obtain ⟨i, j, hmi, hij, hjb, rfl, rfl, h1, h2, hd', hB⟩ := hrel
    clear hd hma
    have hgj : g < wr.heap.size := Nat.lt_of_lt_of_le hgl hB.size
    by_cases hlt : i < j
    · obtain ⟨h, hh⟩ : ∃ h, h = (i + j) / 2 := ⟨_, rfl⟩
      have hhi : ((i : Int) + (j : Int)) / 2 = (h : Int) := by omega
      have hih : i ≤ h ∧ h < j := by omega
      have hhn : h < n := by omega
      have hgx := getD_at (d := A ++ x :: Y ++ B) (A := A) (x := x) (B := Y ++ B) (i := a) (by simp) HA.out
      have hym : h - m < Y.length := by have := HBB.out; omega
      have hgy : (A ++ x :: Y ++ B).getD h (0, 0) = Y[h - m]'hym := by
        have := getD_mid (d := A ++ x :: Y ++ B) (A := A ++ [x]) (X := Y) (B := B) (i := h) (by simp) (by have := HA.out; have := HM.out; simp; omega) (by have := HA.out; have := HM.out; have := HBB.out; simp; omega)
        rw [this]; congr 1; have := HA.out; have := HM.out; simp; omega
      have hlt1 := last_take hym
      have hhd1 := head_drop hym
      have hcy := hc _ (List.getElem_mem hym)
      generalize Y[h - m]'hym = y at *
      have x0' := fun n' os => ((hd'.grow hgj n' os).get (i := a) (by have := HDL.out; omega) hgx).1
      have x1' := fun n' os => ((hd'.grow hgj n' os).get (i := a) (by have := HDL.out; omega) hgx).2.1
      have y0' := fun n' os => ((hd'.grow hgj n' os).get (i := h) (by have := HDL.out; omega) hgy).1
      have y1' := fun n' os => ((hd'.grow hgj n' os).get (i := h) (by have := HDL.out; omega) hgy).2.1
      have hcg := fun n' os => cmp_coins y.1 y.2 x.1 x.2 (Sort.grow (wr.drewN n') os)
      have hz0 : (0 : Int) ≤ (h : Int) := by omega
      have hz1 : (h : Int) < (n : Int) := by omega
      have hz2 : (0 : Int) ≤ (a : Int) := by omega
      have hz3 : (a : Int) < (n : Int) := by omega
      have HD := Lib.hid hd'
      have HB := Lib.hid hB
      have H1 := Lib.hid h1
      have H2 := Lib.hid h2
      have HL1 := Lib.hid hlt1
      have HL2 := Lib.hid hhd1
      have HC := Lib.hid hc
      have HCY := Lib.hid hcy
      clear hd' hB h1 h2 hlt1 hhd1 hgx hgy hh hc hcy
      by_cases hlv : (y.2 : Int) < (x.2 : Int)
      · have hcv := cmp_neg hlv
        generalize cmpOf (y.2 : Int) (x.2 : Int) = cv at *
        go_wp2_with fail
        go_quiet_grown (first | (go_at_call 44; refine Calls.grown_of (hcg _ _)))
        go_wp2
        go_roundw
        case rel =>
          refine ⟨h + 1, j, by omega, by omega, hjb, by go_num, rfl, ?_, H2.out, HD.out.grow hgj nq osq, HB.out.grow nq osq⟩
          intro z hz
          rw [show h + 1 - m = (h - m) + 1 from by omega, HL1.out] at hz
          obtain rfl := Option.some.inj hz
          exact .inl (by omega)
        case measure => simp [intOf]; omega
      · have hcv := cmp_not hlv
        generalize cmpOf (y.2 : Int) (x.2 : Int) = cv at *
        go_wp2_with fail
        go_quiet_grown (first | (go_at_call 44; refine Calls.grown_of (hcg _ _)))
        go_wp2
        go_roundw
        case rel =>
          refine ⟨i, h, hmi, by omega, by omega, rfl, rfl, H1.out, ?_, HD.out.grow hgj nq osq, HB.out.grow nq osq⟩
          intro z hz
          rw [HL2.out] at hz
          obtain rfl := Option.some.inj hz
          have := HCY.out
          unfold lx; omega
        case measure => simp [intOf]; omega
    · obtain rfl : i = j := by omega
      have HD := Lib.hid hd'
      have HB := Lib.hid hB
      have H1 := Lib.hid h1
      have H2 := Lib.hid h2
      have HC := Lib.hid hc
      have hi1 : i - m ≤ Y.length := by have := HBB.out; omega
      clear hd' hB h1 h2 hc
      obtain ⟨wo, rfl⟩ : ∃ wo : World, wo = wr := ⟨_, rfl⟩
      go_wp2
      go_loopw [13] (fun kv wr => ∃ (k : Nat) (P Q : List (Nat × Nat)), kv = .int .i64 k ∧ A.length + P.length = k ∧ P ++ Q = Y ∧ P.length ≤ i - m ∧ CL wr g o (A ++ P ++ x :: Q ++ B) ∧ But [g] w wr) (fun kv _ => i - (intOf kv).toNat)
      case atStart => exact ⟨a, [], Y, rfl, by have := HA.out; simp; omega, rfl, by simp, by simpa using HD.out, HB.out⟩
      case round =>
        obtain ⟨k, P, Q, rfl, hkl, hPQ, hPl, hdk, hBk⟩ := hrel
        have hLk : (A ++ P ++ x :: Q ++ B).length = n := by rw [← HDL.out, ← hPQ]; simp; omega
        by_cases hkt : P.length < i - m
        · have hk1 : (k : Int) < (i : Int) - 1 := by have := HA.out; have := HM.out; omega
          obtain ⟨y, Q, rfl⟩ : ∃ y Q', Q = y :: Q' := by
            cases Q with
            | nil => exfalso; have := congrArg List.length hPQ; simp at this; omega
            | cons y Q => exact ⟨y, Q, rfl⟩
          have hx := getD_at (d := A ++ P ++ x :: (y :: Q) ++ B) (A := A ++ P) (x := x) (B := y :: Q ++ B) (i := k) (by simp) (by simp; omega)
          have hy := getD_at (d := A ++ P ++ x :: (y :: Q) ++ B) (A := A ++ P ++ [x]) (x := y) (B := Q ++ B) (i := k + 1) (by simp) (by simp; omega)
          have hkn : k + 1 < n := by simp at hLk; omega
          obtain ⟨x0', x1', x2', x3'⟩ := hdk.get (i := k) (by omega) hx
          obtain ⟨y0', y1', y2', y3'⟩ := hdk.get (i := k + 1) (by omega) hy
          obtain ⟨xs, xc⟩ := x
          obtain ⟨ys, yc⟩ := y
          dsimp only at x0' x1' y0' y1'
          have p0 : (0 : Int) ≤ (k : Int) := by omega
          have p1 : (k : Int) < (n : Int) := by omega
          have q0 : (0 : Int) ≤ (k : Int) + 1 := by omega
          have q1 : (k : Int) + 1 < (n : Int) := by omega
          have e0 : ((k : Int) + 1).toNat = k + 1 := by omega
          have HX := Lib.hid hx
          have HY := Lib.hid hy
          have HQ := Lib.hid hdk
          have HBQ := Lib.hid hBk
          have HPQ := Lib.hid hPQ
          have HLK := Lib.hid hLk
          have HKL := Lib.hid hkl
          clear hx hy hdk hBk hPQ hLk hkl
          go_wp2
          go_region
          go_wp2
          go_roundw
          case rel =>
            refine ⟨k + 1, P ++ [(ys, yc)], Q, by go_num, by have := HKL.out; simp; omega, by rw [← HPQ.out]; simp, by simp; omega, ?_, (HBQ.out.swap _ _ _ _).drew⟩
            have e : sw (A ++ P ++ (xs, xc) :: ((ys, yc) :: Q) ++ B) k (k + 1) = A ++ (P ++ [(ys, yc)]) ++ (xs, xc) :: Q ++ B := by
              have := sw_next (A ++ P) (Q ++ B) (xs, xc) (ys, yc) k (k + 1) (by have := HKL.out; simp; omega) rfl
              simpa using this
            rw [← e]
            exact (HQ.out.swap (by have := HLK.out; omega) (by have := HLK.out; omega) (by omega) HX.out HY.out).heap rfl
          case measure => simp [intOf]; omega
        · have hk1 : ¬ (k : Int) < (i : Int) - 1 := by have := HA.out; have := HM.out; omega
          have hP : P = Y.take (i - m) := by rw [← hPQ, List.take_left' (by omega)]
          have hQ : Q = Y.drop (i - m) := by rw [← hPQ, List.drop_left' (by omega)]
          go_wp2
          refine bodyPost_ret (results_none rfl _ _ _) rfl ⟨rfl, ⟨P ++ x :: Q, srt_insert (by rw [hPQ]; exact HSY.out) (by rw [hP]; exact H1.out) ?_, ?_, by simpa using hdk⟩, hBk⟩
          · rw [hQ]
            have hs := HSY.out
            rw [← List.take_append_drop (i - m) Y] at hs
            exact head_all (List.pairwise_append.1 hs).2.1 H2.out
          · rw [← hPQ]
            exact List.perm_middle
end Go.Proofs.Ytmafcmfafcjokaa
