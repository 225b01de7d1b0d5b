/- The contract of the merge in place where the list on the right has one element. -/
import Derived.Test.YtmafcmfafcjokaaSymA
namespace Go.Proofs.Ytmafcmfafcjokaa
open Go Go.RowKit

theorem srt_put {S1 S2 : List (Nat × Nat)} {x : Nat × Nat} (h : Srt (S1 ++ S2)) (h1 : ∀ y, S1.getLast? = some y → lx y x) (h2 : ∀ y, S2.head? = some y → lx x y) : Srt (S1 ++ x :: S2) :=
  srt_insert h h1 (head_all (List.pairwise_append.1 h).2.1 h2)

set_option maxRecDepth 1000000 in
set_option maxHeartbeats 4000000 in
theorem sym_right {w : World} {g o n cap a m b : Nat} {A X B : List (Nat × Nat)} {y : Nat × Nat} (hd : CL w g o (A ++ X ++ y :: B)) (hdl : (A ++ X ++ y :: B).length = n) (hn : n ≤ 1000) (hgl : g < w.heap.size)
    (ha : a = A.length) (hm : m = a + X.length) (hb : b = m + 1) (hX2 : 2 ≤ X.length) (hX : Srt X) (hc : ∀ x ∈ X, x.1 < y.1) :
    Calls Try.prog 53 #[.slice (some ⟨g, o, none⟩) n cap, .int .i64 a, .int .i64 m, .int .i64 b, .func (.func 44) #[] #[]] w fun e w' => e = .returned (.tuple #[]) ∧ (∃ S, Srt S ∧ S.Perm (X ++ [y]) ∧ CL w' g o (A ++ S ++ B)) ∧ But [g] w w' := by
  have mixed : Try.prog.follows .mixedOrders = true := by kernel_rfl
  have hbn : b ≤ n := by simp at hdl; omega
  have hma : ((m : Int) - (a : Int) == 1) = false := by simp; omega
  have hbm : (b : Int) - (m : Int) = 1 := by omega
  have hma2 : a ≤ m := by omega
  have hmb : m < b := by omega
  have HA := Lib.hid ha
  have HM := Lib.hid hm
  have HBB := Lib.hid hb
  have HDL := Lib.hid hdl
  have HSX := Lib.hid hX
  clear ha hm hb hdl hX
  go_enter Try.func53, Try.ntmps53
  go_wp2
  go_loopw [14, 15] (fun iv jv wr => ∃ i j : Nat, a ≤ i ∧ i ≤ j ∧ j ≤ m ∧ iv = .int .i64 i ∧ jv = .int .i64 j ∧ (∀ x, (X.take (i - a)).getLast? = some x → lx x y) ∧ (∀ x, (X.drop (j - a)).head? = some x → lx y x) ∧ CL wr g o (A ++ X ++ y :: B) ∧ But [g] w wr) (fun iv jv _ => (intOf jv).toNat - (intOf iv).toNat)
  case atStart => exact ⟨a, m, Nat.le_refl _, hma2, Nat.le_refl _, rfl, rfl, by simp, by have := HM.out; rw [List.drop_of_length_le (by omega)]; simp, hd, But.refl _ _⟩
  case round =>
    obtain ⟨i, j, hmi, hij, hjb, rfl, rfl, h1, h2, hd', hB⟩ := hrel
    clear hd hma hbm
    have hgj : g < wr.heap.size := Nat.lt_of_lt_of_le hgl hB.size
    by_cases hlt : i < j
    · obtain ⟨h, hh⟩ : ∃ h, h = (i + j) / 2 := ⟨_, rfl⟩
      have hhi : ((i : Int) + (j : Int)) / 2 = (h : Int) := by omega
      have hih : i ≤ h ∧ h < j := by omega
      have hhn : h < n := by omega
      have hgy := getD_at (d := A ++ X ++ y :: B) (A := A ++ X) (x := y) (B := B) (i := m) rfl (by have := HM.out; have := HA.out; simp; omega)
      have hym : h - a < X.length := by have := HM.out; omega
      have hgx : (A ++ X ++ y :: B).getD h (0, 0) = X[h - a]'hym := by
        have := getD_mid (d := A ++ X ++ y :: B) (A := A) (X := X) (B := y :: B) (i := h) rfl (by have := HA.out; omega) (by have := HA.out; have := HM.out; omega)
        rw [this]; congr 1; have := HA.out; omega
      have hlt1 := last_take hym
      have hhd1 := head_drop hym
      have hcy := hc _ (List.getElem_mem hym)
      generalize X[h - a]'hym = x at *
      have x0' := fun n' os => ((hd'.grow hgj n' os).get (i := h) (by have := HDL.out; omega) hgx).1
      have x1' := fun n' os => ((hd'.grow hgj n' os).get (i := h) (by have := HDL.out; omega) hgx).2.1
      have y0' := fun n' os => ((hd'.grow hgj n' os).get (i := m) (by have := HDL.out; omega) hgy).1
      have y1' := fun n' os => ((hd'.grow hgj n' os).get (i := m) (by have := HDL.out; omega) hgy).2.1
      have hcg := fun n' os => cmp_coins y.1 y.2 x.1 x.2 (Sort.grow (wr.drewN n') os)
      have hz0 : (0 : Int) ≤ (h : Int) := by omega
      have hz1 : (h : Int) < (n : Int) := by omega
      have hz2 : (0 : Int) ≤ (m : Int) := by omega
      have hz3 : (m : Int) < (n : Int) := by omega
      have HD := Lib.hid hd'
      have HB := Lib.hid hB
      have H1 := Lib.hid h1
      have H2 := Lib.hid h2
      have HL1 := Lib.hid hlt1
      have HL2 := Lib.hid hhd1
      have HC := Lib.hid hc
      have HCY := Lib.hid hcy
      clear hd' hB h1 h2 hlt1 hhd1 hgx hgy hh hc hcy
      by_cases hlv : (y.2 : Int) < (x.2 : Int)
      · have hcv := cmp_neg hlv
        generalize cmpOf (y.2 : Int) (x.2 : Int) = cv at *
        have hcb : (!decide (cv < 0)) = false := by simp; omega
        go_wp2_with fail
        go_quiet_grown (first | (go_at_call 44; refine Calls.grown_of (hcg _ _)))
        go_wp2
        go_roundw
        case rel =>
          refine ⟨i, h, hmi, by omega, by omega, rfl, rfl, H1.out, ?_, HD.out.grow hgj nq osq, HB.out.grow nq osq⟩
          intro z hz
          rw [HL2.out] at hz
          obtain rfl := Option.some.inj hz
          exact .inl (by omega)
        case measure => simp [intOf]; omega
      · have hcv := cmp_not hlv
        generalize cmpOf (y.2 : Int) (x.2 : Int) = cv at *
        have hcb : (!decide (cv < 0)) = true := by simp; omega
        go_wp2_with fail
        go_quiet_grown (first | (go_at_call 44; refine Calls.grown_of (hcg _ _)))
        go_wp2
        go_roundw
        case rel =>
          refine ⟨h + 1, j, by omega, by omega, hjb, by go_num, rfl, ?_, H2.out, HD.out.grow hgj nq osq, HB.out.grow nq osq⟩
          intro z hz
          rw [show h + 1 - a = (h - a) + 1 from by omega, HL1.out] at hz
          obtain rfl := Option.some.inj hz
          have := HCY.out
          unfold lx; omega
        case measure => simp [intOf]; omega
    · obtain rfl : i = j := by omega
      have HD := Lib.hid hd'
      have HB := Lib.hid hB
      have H1 := Lib.hid h1
      have H2 := Lib.hid h2
      have HC := Lib.hid hc
      have hi1 : i - a ≤ X.length := by have := HM.out; omega
      clear hd' hB h1 h2 hc
      obtain ⟨wo, rfl⟩ : ∃ wo : World, wo = wr := ⟨_, rfl⟩
      go_wp2
      go_loopw [17] (fun kv wr => ∃ (k : Nat) (P Q : List (Nat × Nat)), kv = .int .i64 k ∧ A.length + P.length = k ∧ P ++ Q = X ∧ i - a ≤ P.length ∧ CL wr g o (A ++ P ++ y :: Q ++ B) ∧ But [g] w wr) (fun kv _ => (intOf kv).toNat)
      case atStart => exact ⟨m, X, [], rfl, by have := HA.out; have := HM.out; omega, by simp, hi1, by simpa using HD.out, HB.out⟩
      case round =>
        obtain ⟨k, P, Q, rfl, hkl, hPQ, hPl, hdk, hBk⟩ := hrel
        have hLk : (A ++ P ++ y :: Q ++ B).length = n := by rw [← HDL.out, ← hPQ]; simp; omega
        by_cases hkt : i - a < P.length
        · have hk1 : decide (i < k) = true := by have := HA.out; have := HM.out; simp; omega
          have hk2 : (i : Int) < (k : Int) := by have := HA.out; have := HM.out; omega
          rcases List.eq_nil_or_concat P with e | ⟨P, x, e⟩
          · subst e; exfalso; simp at hkt
          rw [List.concat_eq_append] at e
          subst e
          obtain ⟨kp, rfl⟩ : ∃ kp, k = kp + 1 := ⟨k - 1, by simp at hkl; omega⟩
          have hkl2 : A.length + P.length = kp := by simp at hkl; omega
          have hx := getD_at (d := A ++ (P ++ [x]) ++ y :: Q ++ B) (A := A ++ P) (x := x) (B := y :: Q ++ B) (i := kp) (by simp) (by simp; omega)
          have hy := getD_at (d := A ++ (P ++ [x]) ++ y :: Q ++ B) (A := A ++ P ++ [x]) (x := y) (B := Q ++ B) (i := kp + 1) (by simp) (by simp; omega)
          have hkn : kp + 1 < n := by simp at hLk; omega
          obtain ⟨x0', x1', x2', x3'⟩ := hdk.get (i := kp) (by omega) hx
          obtain ⟨y0', y1', y2', y3'⟩ := hdk.get (i := kp + 1) (by omega) hy
          obtain ⟨xs, xc⟩ := x
          obtain ⟨ys, yc⟩ := y
          dsimp only at x0' x1' y0' y1'
          have hwp : IntKind.i64.wrap (kp : Int) = (kp : Int) := by rw [IntKind.wrap_i64]; omega
          have p0 : (0 : Int) ≤ (kp : Int) := by omega
          have p1 : (kp : Int) < (n : Int) := by omega
          have q0 : (0 : Int) ≤ (kp : Int) + 1 := by omega
          have q1 : (kp : Int) + 1 < (n : Int) := by omega
          have e0 : ((kp : Int) + 1).toNat = kp + 1 := by omega
          have HX := Lib.hid hx
          have HY := Lib.hid hy
          have HQ := Lib.hid hdk
          have HBQ := Lib.hid hBk
          have HPQ := Lib.hid hPQ
          have HLK := Lib.hid hLk
          have HKL := Lib.hid hkl2
          have HKT := Lib.hid hkt
          clear hx hy hdk hBk hPQ hLk hkl hkl2 hkt hPl
          go_wp2
          go_region
          go_wp2
          go_roundw
          case rel =>
            refine ⟨kp, P, (xs, xc) :: Q, rfl, HKL.out, by rw [← HPQ.out]; simp, by have := HKT.out; simp at this; omega, ?_, (HBQ.out.swap _ _ _ _).drew⟩
            have e : sw (A ++ (P ++ [(xs, xc)]) ++ (ys, yc) :: Q ++ B) (kp + 1) kp = A ++ P ++ (ys, yc) :: ((xs, xc) :: Q) ++ B := by
              rw [sw_comm _ _ _ (by omega)]
              have := sw_next (A ++ P) (Q ++ B) (xs, xc) (ys, yc) kp (kp + 1) (by have := HKL.out; simp; omega) rfl
              simpa using this
            rw [← e]
            exact (HQ.out.swap (by have := HLK.out; omega) (by have := HLK.out; omega) (by omega) HY.out HX.out).heap rfl
          case measure => simp [intOf]; try omega
        · have hk1 : decide (i < k) = false := by have := HA.out; have := HM.out; simp; omega
          have hk2 : ¬ (i : Int) < (k : Int) := by have := HA.out; have := HM.out; omega
          have hPl2 : P.length = i - a := by omega
          have hP : P = X.take (i - a) := by rw [← hPQ, List.take_left' hPl2]
          have hQ : Q = X.drop (i - a) := by rw [← hPQ, List.drop_left' hPl2]
          go_wp2
          refine bodyPost_ret (results_none rfl _ _ _) rfl ⟨rfl, ⟨P ++ y :: Q, srt_put (by rw [hPQ]; exact HSX.out) (by rw [hP]; exact H1.out) (by rw [hQ]; exact H2.out), ?_, by simpa using hdk⟩, hBk⟩
          rw [← hPQ]
          have : (P ++ y :: Q).Perm (y :: (P ++ Q)) := List.perm_middle
          exact this.trans (List.perm_append_singleton y (P ++ Q)).symm
end Go.Proofs.Ytmafcmfafcjokaa
