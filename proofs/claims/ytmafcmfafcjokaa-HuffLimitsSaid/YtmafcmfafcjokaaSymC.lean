/- The contract of the merge in place of any two sorted lists. -/
import Derived.Test.YtmafcmfafcjokaaSymB
import Derived.Deep.DeepCutAuto
import Derived.Deep.CutRange
import Derived.Deep.CutBlock
namespace Go.Proofs.Ytmafcmfafcjokaa
open Go Go.RowKit

/-- Merges of so many coins and fewer sort. -/
def SymOk (N : Nat) : Prop := ∀ (w : World) (g o n cap a m b : Nat) (A X Y B : List (Nat × Nat)), X.length + Y.length ≤ N → CL w g o (A ++ X ++ Y ++ B) → (A ++ X ++ Y ++ B).length = n → n ≤ 1000 → g < w.heap.size →
  a = A.length → m = a + X.length → b = m + Y.length → 0 < X.length → 0 < Y.length → Srt X → Srt Y → Crs X Y →
  Calls Try.prog 53 #[.slice (some ⟨g, o, none⟩) n cap, .int .i64 a, .int .i64 m, .int .i64 b, .func (.func 44) #[] #[]] w fun e w' => e = .returned (.tuple #[]) ∧ (∃ S, Srt S ∧ S.Perm (X ++ Y) ∧ CL w' g o (A ++ S ++ B)) ∧ But [g] w w'
/-- What is left of the first list ahead of s, and of the second one ahead of q, is in order with what stands behind. -/
def Low (X Y : List (Nat × Nat)) (s q : Nat) : Prop := ∀ x y, (X.take s).getLast? = some x → (Y.drop q).head? = some y → lx x y
def High (X Y : List (Nat × Nat)) (s q : Nat) : Prop := ∀ y x, (Y.take q).getLast? = some y → (X.drop s).head? = some x → lx y x

theorem low_nil {X Y : List (Nat × Nat)} {s q : Nat} (h : s = 0 ∨ Y.length ≤ q) : Low X Y s q := by
  intro x y hx hy
  rcases h with rfl | h
  · simp at hx
  · rw [List.drop_of_length_le h] at hy; cases hy
theorem high_nil {X Y : List (Nat × Nat)} {s q : Nat} (h : q = 0 ∨ X.length ≤ s) : High X Y s q := by
  intro x y hx hy
  rcases h with rfl | h
  · simp at hx
  · rw [List.drop_of_length_le h] at hy; cases hy
/-- The ones from these two lists stand in order, ahead of R. -/
def Mid (w W : World) (g o : Nat) (A L R : List (Nat × Nat)) : Prop := ∃ S, Srt S ∧ S.Perm L ∧ CL W g o (A ++ S ++ R) ∧ But [g] w W
def Mid2 (w W : World) (g o : Nat) (A L M R : List (Nat × Nat)) : Prop := ∃ S T, Srt S ∧ S.Perm L ∧ Srt T ∧ T.Perm M ∧ CL W g o (A ++ S ++ T ++ R) ∧ But [g] w W
def Turned (w W : World) (g o : Nat) (d : List (Nat × Nat)) : Prop := CL W g o d ∧ But [g] w W
theorem Crs.take {X Y : List (Nat × Nat)} (h : Crs X Y) (s q : Nat) : Crs (X.take s) (Y.take q) := fun x hx y hy => h x (List.mem_of_mem_take hx) y (List.mem_of_mem_take hy)
theorem Crs.drop {X Y : List (Nat × Nat)} (h : Crs X Y) (s q : Nat) : Crs (X.drop s) (Y.drop q) := fun x hx y hy => h x (List.mem_of_mem_drop hx) y (List.mem_of_mem_drop hy)
theorem Srt.take {X : List (Nat × Nat)} (h : Srt X) (s : Nat) : Srt (X.take s) := List.Pairwise.sublist (List.take_sublist _ _) h
theorem Srt.drop {X : List (Nat × Nat)} (h : Srt X) (s : Nat) : Srt (X.drop s) := List.Pairwise.sublist (List.drop_sublist _ _) h
theorem srt_one {X Y : List (Nat × Nat)} (hX : Srt X) (hY : Srt Y) (h : X = [] ∨ Y = []) : Srt (X ++ Y) := by
  rcases h with rfl | rfl
  · simpa using hY
  · simpa using hX
theorem swap_one {X Y : List (Nat × Nat)} (h : X = [] ∨ Y = []) : X ++ Y = Y ++ X := by
  rcases h with rfl | rfl <;> simp

set_option maxRecDepth 1000000 in
set_option maxHeartbeats 8000000 in
theorem sym_more {N : Nat} (IH : SymOk N) {w : World} {g o n cap a m b : Nat} {A X Y B : List (Nat × Nat)} (hN : X.length + Y.length ≤ N + 1) (hd : CL w g o (A ++ X ++ Y ++ B)) (hdl : (A ++ X ++ Y ++ B).length = n) (hn : n ≤ 1000) (hgl : g < w.heap.size)
    (ha : a = A.length) (hm : m = a + X.length) (hb : b = m + Y.length) (hX2 : 2 ≤ X.length) (hY2 : 2 ≤ Y.length) (hX : Srt X) (hY : Srt Y) (hc : Crs X Y) :
    Calls Try.prog 53 #[.slice (some ⟨g, o, none⟩) n cap, .int .i64 a, .int .i64 m, .int .i64 b, .func (.func 44) #[] #[]] w fun e w' => e = .returned (.tuple #[]) ∧ (∃ S, Srt S ∧ S.Perm (X ++ Y) ∧ CL w' g o (A ++ S ++ B)) ∧ But [g] w w' := by
  have mixed : Try.prog.follows .mixedOrders = true := by kernel_rfl
  have hbn : b ≤ n := by simp at hdl; omega
  have hma : ((m : Int) - (a : Int) == 1) = false := by simp; omega
  have hbm : ((b : Int) - (m : Int) == 1) = false := by simp; omega
  obtain ⟨mid, hmid⟩ : ∃ mid, mid = (a + b) / 2 := ⟨_, rfl⟩
  have hmi : ((a : Int) + (b : Int)) / 2 = (mid : Int) := by omega
  have hab : a + 2 ≤ m ∧ m + 2 ≤ b := by omega
  have hmb : a < mid ∧ mid < b := by omega
  obtain ⟨lo, hi, l1, l2, l3, l4, l5, l6, l7, hcase⟩ : ∃ lo hi : Nat, a ≤ lo ∧ lo ≤ hi ∧ hi ≤ m ∧ hi ≤ mid ∧ mid + m ≤ lo + b ∧ (lo = a ∨ lo + b = mid + m) ∧ (hi = m ∨ hi = mid) ∧ ((decide (mid < m) = true ∧ (mid : Int) + (m : Int) - (b : Int) = (lo : Int) ∧ Hid (lo = lo) ∧ Hid (hi = mid)) ∨ (decide (mid < m) = false ∧ (0 : Int) ≤ (m : Int) ∧ Hid (lo = a) ∧ Hid (hi = m))) := by
    by_cases h : mid < m
    · exact ⟨mid + m - b, mid, by omega, by omega, by omega, by omega, by omega, by omega, by omega, .inl ⟨by simpa using h, by omega, Lib.hid rfl, Lib.hid rfl⟩⟩
    · exact ⟨a, m, by omega, by omega, by omega, by omega, by omega, by omega, by omega, .inr ⟨by simpa using h, by omega, Lib.hid rfl, Lib.hid rfl⟩⟩
  obtain ⟨p, hp⟩ : ∃ p, p = mid + m - 1 := ⟨_, rfl⟩
  have hpi : (mid : Int) + (m : Int) - 1 = (p : Int) := by omega
  have HA := Lib.hid ha
  have HM := Lib.hid hm
  have HBB := Lib.hid hb
  have HDL := Lib.hid hdl
  have HSX := Lib.hid hX
  have HSY := Lib.hid hY
  have HP := Lib.hid hp
  have HN := Lib.hid hN
  have HIH := Lib.hid IH
  have L6 := Lib.hid l6
  have L7 := Lib.hid l7
  have HC := Lib.hid hc
  clear ha hm hb hdl hX hY hp hN IH l6 l7 hmid hc
  rcases hcase with ⟨d1, d2, HL, HH⟩ | ⟨d1, d2, HL, HH⟩
  all_goals
    go_enter Try.func53, Try.ntmps53
    go_wp2
    clear d2
    go_loopw [20, 21] (fun iv jv wr => ∃ i j : Nat, lo ≤ i ∧ i ≤ j ∧ j ≤ hi ∧ iv = .int .i64 i ∧ jv = .int .i64 j ∧ Low X Y (i - a) (mid - i) ∧ High X Y (j - a) (mid - j) ∧ CL wr g o (A ++ X ++ Y ++ B) ∧ But [g] w wr) (fun iv jv _ => (intOf jv).toNat - (intOf iv).toNat)
    case atStart =>
      refine ⟨lo, hi, Nat.le_refl _, l2, Nat.le_refl _, by first | rfl | rw [HL.out], by rw [HH.out], low_nil ?_, high_nil ?_, hd, But.refl _ _⟩
      · have := L6.out; have := HBB.out; omega
      · have := L7.out; have := HM.out; omega
    case round =>
      obtain ⟨i, j, hmi', hij, hjb, rfl, rfl, h1, h2, hd', hB⟩ := hrel
      clear hd hma hbm HL HH
      have hgj : g < wr.heap.size := Nat.lt_of_lt_of_le hgl hB.size
      by_cases hlt : i < j
      · obtain ⟨h, hh⟩ : ∃ h, h = (i + j) / 2 := ⟨_, rfl⟩
        have hhi : ((i : Int) + (j : Int)) / 2 = (h : Int) := by omega
        have hih : i ≤ h ∧ h < j := by omega
        have hhn : h < n := by omega
        obtain ⟨h', hh'⟩ : ∃ h', h' = mid + m - 1 - h := ⟨_, rfl⟩
        have hpc : (p : Int) - (h : Int) = (h' : Int) := by have := HP.out; omega
        have hwp : IntKind.i64.wrap ((p : Int) - (h : Int)) = (h' : Int) := by rw [IntKind.wrap_i64]; have := HP.out; omega
        have hwp2 : IntKind.i64.wrap (h' : Int) = (h' : Int) := by rw [IntKind.wrap_i64]; have := HP.out; omega
        have hhn' : m ≤ h' ∧ h' < b := by omega
        have hxm : h - a < X.length := by have := HM.out; omega
        have hym : h' - m < Y.length := by have := HBB.out; omega
        have hgx : (A ++ X ++ Y ++ B).getD h (0, 0) = X[h - a]'hxm := by
          have := getD_mid (d := A ++ X ++ Y ++ B) (A := A) (X := X) (B := Y ++ B) (i := h) (by simp) (by have := HA.out; omega) (by have := HA.out; have := HM.out; omega)
          rw [this]; congr 1; have := HA.out; omega
        have hgy : (A ++ X ++ Y ++ B).getD h' (0, 0) = Y[h' - m]'hym := by
          have := getD_mid (d := A ++ X ++ Y ++ B) (A := A ++ X) (X := Y) (B := B) (i := h') (by simp) (by have := HA.out; have := HM.out; simp; omega) (by have := HA.out; have := HM.out; have := HBB.out; simp; omega)
          rw [this]; congr 1; have := HA.out; have := HM.out; simp; omega
        have hx1 := last_take hxm
        have hx2 := head_drop hxm
        have hy1 := last_take hym
        have hy2 := head_drop hym
        have hcy := HC.out _ (List.getElem_mem hxm) _ (List.getElem_mem hym)
        generalize X[h - a]'hxm = x at *
        generalize Y[h' - m]'hym = y at *
        have x0' := fun n' os => ((hd'.grow hgj n' os).get (i := h) (by have := HDL.out; omega) hgx).1
        have x1' := fun n' os => ((hd'.grow hgj n' os).get (i := h) (by have := HDL.out; omega) hgx).2.1
        have y0' := fun n' os => ((hd'.grow hgj n' os).get (i := h') (by have := HDL.out; omega) hgy).1
        have y1' := fun n' os => ((hd'.grow hgj n' os).get (i := h') (by have := HDL.out; omega) hgy).2.1
        have hcg := fun n' os => cmp_coins y.1 y.2 x.1 x.2 (Sort.grow (wr.drewN n') os)
        have hz0 : (0 : Int) ≤ (h : Int) := by omega
        have hz1 : (h : Int) < (n : Int) := by omega
        have hz2 : (0 : Int) ≤ (h' : Int) := by omega
        have hz3 : (h' : Int) < (n : Int) := by omega
        have hl1 : Low X Y (h + 1 - a) (mid - (h + 1)) ↔ lx x y := by
          unfold Low
          rw [show h + 1 - a = (h - a) + 1 from by omega, hx1, show mid - (h + 1) = h' - m from by omega, hy2]
          simp
        have hh1 : High X Y (h - a) (mid - h) ↔ lx y x := by
          unfold High
          rw [hx2, show mid - h = (h' - m) + 1 from by omega, hy1]
          simp
        have HD := Lib.hid hd'
        have HB := Lib.hid hB
        have H1 := Lib.hid h1
        have H2 := Lib.hid h2
        have HL1 := Lib.hid hl1
        have HH1 := Lib.hid hh1
        have HCY := Lib.hid hcy
        clear hd' hB h1 h2 hx1 hx2 hy1 hy2 hgx hgy hh hh' hcy hl1 hh1
        by_cases hlv : (y.2 : Int) < (x.2 : Int)
        · have hcv := cmp_neg hlv
          generalize cmpOf (y.2 : Int) (x.2 : Int) = cv at *
          have hcb : (!decide (cv < 0)) = false := by simp; omega
          go_wp2_with fail
          go_quiet_grown (first | (go_at_call 44; refine Calls.grown_of (hcg _ _)))
          go_wp2
          go_roundw
          case rel => exact ⟨i, h, hmi', by omega, by omega, rfl, rfl, H1.out, HH1.out.2 (.inl (by omega)), HD.out.grow hgj nq osq, HB.out.grow nq osq⟩
          case measure => simp [intOf]; omega
        · have hcv := cmp_not hlv
          generalize cmpOf (y.2 : Int) (x.2 : Int) = cv at *
          have hcb : (!decide (cv < 0)) = true := by simp; omega
          go_wp2_with fail
          go_quiet_grown (first | (go_at_call 44; refine Calls.grown_of (hcg _ _)))
          go_wp2
          go_roundw
          case rel => exact ⟨h + 1, j, by omega, by omega, hjb, by go_num, rfl, HL1.out.2 (by have := HCY.out; unfold lx; omega), H2.out, HD.out.grow hgj nq osq, HB.out.grow nq osq⟩
          case measure => simp [intOf]; omega
      · obtain rfl : i = j := by omega
        obtain ⟨E, hE⟩ : ∃ E, E = mid + m - i := ⟨_, rfl⟩
        have hEi : (mid : Int) + (m : Int) - (i : Int) = (E : Int) := by omega
        have hEm : m ≤ E ∧ E ≤ b ∧ mid ≤ E := by omega
        have hs1 : (X.take (i - a)).length = i - a := by have := HM.out; simp; omega
        have hs2 : (X.drop (i - a)).length = m - i := by have := HM.out; simp; omega
        have hq1 : (Y.take (mid - i)).length = mid - i := by have := HBB.out; simp; omega
        have hq2 : (Y.drop (mid - i)).length = b - E := by have := HBB.out; simp; omega
        have hXe := List.take_append_drop (i - a) X
        have hYe := List.take_append_drop (mid - i) Y
        have hall := halves (S1 := []) (S2 := []) (X1 := X.take (i - a)) (X2 := X.drop (i - a)) (Y1 := Y.take (mid - i)) (Y2 := Y.drop (mid - i)) (by rw [hXe]; exact HSX.out) (by rw [hYe]; exact HSY.out) h1 h2
        have hall2 : ∀ S1 S2, Srt S1 → Srt S2 → S1.Perm (X.take (i - a) ++ Y.take (mid - i)) → S2.Perm (X.drop (i - a) ++ Y.drop (mid - i)) → Srt (S1 ++ S2) ∧ (S1 ++ S2).Perm (X ++ Y) := by
          intro S1 S2 a1 a2 a3 a4
          have := halves (X1 := X.take (i - a)) (X2 := X.drop (i - a)) (Y1 := Y.take (mid - i)) (Y2 := Y.drop (mid - i)) (by rw [hXe]; exact HSX.out) (by rw [hYe]; exact HSY.out) h1 h2 a1 a2 a3 a4
          rw [hXe, hYe] at this
          exact this
        have k1 := HSX.out.take (i - a)
        have k2 := HSX.out.drop (i - a)
        have k3 := HSY.out.take (mid - i)
        have k4 := HSY.out.drop (mid - i)
        have k5 := HC.out.take (i - a) (mid - i)
        have k6 := HC.out.drop (i - a) (mid - i)
        have hd1 : CL wr g o (A ++ X.take (i - a) ++ X.drop (i - a) ++ Y.take (mid - i) ++ (Y.drop (mid - i) ++ B)) := by
          have : A ++ X.take (i - a) ++ X.drop (i - a) ++ Y.take (mid - i) ++ (Y.drop (mid - i) ++ B) = A ++ (X.take (i - a) ++ X.drop (i - a)) ++ (Y.take (mid - i) ++ Y.drop (mid - i)) ++ B := by simp only [List.append_assoc]
          rw [this, hXe, hYe]; exact hd'
        clear hall hXe hYe h1 h2 hd'
        generalize X.take (i - a) = X1 at *
        generalize X.drop (i - a) = X2 at *
        generalize Y.take (mid - i) = Y1 at *
        generalize Y.drop (mid - i) = Y2 at *
        have HALL := Lib.hid hall2
        have K1 := Lib.hid k1
        have K2 := Lib.hid k2
        have K3 := Lib.hid k3
        have K4 := Lib.hid k4
        have K5 := Lib.hid k5
        have K6 := Lib.hid k6
        have S1 := Lib.hid hs1
        have S2 := Lib.hid hs2
        have Q1 := Lib.hid hq1
        have Q2 := Lib.hid hq2
        have HD := Lib.hid hd1
        have HB := Lib.hid hB
        have HE := Lib.hid hE
        have hlen : A.length + X1.length + X2.length + Y1.length + Y2.length + B.length = n := by have h := HDL.out; have := HM.out; have := HBB.out; simp at h; omega
        have HLEN := Lib.hid hlen
        clear hall2 k1 k2 k3 k4 k5 k6 hs1 hs2 hq1 hq2 hd1 hB hE hlen
        obtain ⟨r1, hr1⟩ : ∃ r : Bool, r = decide (i < m ∧ m < E) := ⟨_, rfl⟩
        have Hr1 := Lib.hid hr1
        clear hr1
        go_upto_region 39 with (fail)
        go_cut [185] from 178 to 185 (fun c wx => c = .bool r1 ∧ wr = wx)
        case first =>
          by_cases c1 : i < m
          · have b1 : decide (i < m) = true := by simpa using c1
            by_cases c2 : m < E
            · obtain rfl : r1 = true := by have := Hr1.out; simp [c1, c2] at this; exact this
              go_wp2
              go_meet
              exact ⟨rfl, rfl⟩
            · obtain rfl : r1 = false := by have := Hr1.out; simp [c1, c2] at this; exact this
              go_wp2
              go_meet
              exact ⟨rfl, rfl⟩
          · have b1 : decide (i < m) = false := by simpa using c1
            obtain rfl : r1 = false := by have := Hr1.out; simp [c1] at this; exact this
            go_wp2
            go_meet
            exact ⟨rfl, rfl⟩
        case rest =>
          obtain ⟨rfl, rfl⟩ := hcut
          go_upto_if 185 with (fail)
          go_cut [] from 186 to 191 (fun wx => Turned w wx g o (A ++ X1 ++ Y1 ++ X2 ++ (Y2 ++ B)))
          case first =>
            rcases r1 with _ | _
            · have c1 : ¬ (i < m ∧ m < E) := by have := Hr1.out; simpa using this
              have hone : X2 = [] ∨ Y1 = [] := by
                by_cases h : i < m
                · right; exact List.eq_nil_of_length_eq_zero (by have := Q1.out; have := HE.out; omega)
                · left; exact List.eq_nil_of_length_eq_zero (by have := S2.out; omega)
              have hT : Turned w wr g o (A ++ X1 ++ Y1 ++ X2 ++ (Y2 ++ B)) := ⟨by
                have h := HD.out
                have e : A ++ X1 ++ X2 ++ Y1 ++ (Y2 ++ B) = A ++ X1 ++ (X2 ++ Y1) ++ (Y2 ++ B) := by simp
                rw [e, swap_one hone] at h
                simpa using h, HB.out⟩
              clear hone c1
              go_wp2
              go_meet
              exact hT
            · have c1 : i < m ∧ m < E := by have := Hr1.out; simpa using this
              have hrot := rotate_any (n := n) (cap := cap) (a := i) (m := m) (b := E) HD.out (by have := HLEN.out; simp; omega) hn (by have := HA.out; have := S1.out; simp; omega) (by have := HA.out; have := S1.out; have := S2.out; simp; omega) (by have := HA.out; have := S1.out; have := S2.out; have := Q1.out; have := HE.out; simp; omega) (by have := S2.out; omega) (by have := Q1.out; have := HE.out; omega) (.func (.func 44) #[] #[])
              have HR := Lib.hid hrot
              clear hrot c1
              go_wp2_with fail
              refine HR.out.mono ?_
              rintro e w2 ⟨rfl, hd2, hB2⟩
              have hT : Turned w w2 g o (A ++ X1 ++ Y1 ++ X2 ++ (Y2 ++ B)) := ⟨hd2, HB.out.trans hB2⟩
              clear hd2 hB2
              go_wp2
              go_meet
              exact hT
          case rest =>
            obtain ⟨hd2, hB2⟩ := hcut
            have HD2 := Lib.hid hd2
            have HB2 := Lib.hid hB2
            clear hd2 hB2
            obtain ⟨r2, hr2⟩ : ∃ r : Bool, r = decide (a < i ∧ i < mid) := ⟨_, rfl⟩
            have Hr2 := Lib.hid hr2
            clear hr2
            go_upto_region 41 with (fail)
            go_cut [199] from 192 to 199 (fun c wx => c = .bool r2 ∧ wc = wx)
            case first =>
              by_cases c1 : a < i
              · have b1 : decide (a < i) = true := by simpa using c1
                by_cases c2 : i < mid
                · obtain rfl : r2 = true := by have := Hr2.out; simp [c1, c2] at this; exact this
                  go_wp2
                  go_meet
                  exact ⟨rfl, rfl⟩
                · obtain rfl : r2 = false := by have := Hr2.out; simp [c1, c2] at this; exact this
                  go_wp2
                  go_meet
                  exact ⟨rfl, rfl⟩
              · have b1 : decide (a < i) = false := by simpa using c1
                obtain rfl : r2 = false := by have := Hr2.out; simp [c1] at this; exact this
                go_wp2
                go_meet
                exact ⟨rfl, rfl⟩
            case rest =>
              obtain ⟨rfl, rfl⟩ := hcut
              go_upto_if 199 with (fail)
              go_cut [] from 200 to 205 (fun wx => Mid w wx g o A (X1 ++ Y1) (X2 ++ (Y2 ++ B)))
              case first =>
                rcases r2 with _ | _
                · have c1 : ¬ (a < i ∧ i < mid) := by have := Hr2.out; simpa using this
                  have hone : X1 = [] ∨ Y1 = [] := by
                    by_cases h : a < i
                    · right; exact List.eq_nil_of_length_eq_zero (by have := Q1.out; omega)
                    · left; exact List.eq_nil_of_length_eq_zero (by have := S1.out; omega)
                  have hT : Mid w wc g o A (X1 ++ Y1) (X2 ++ (Y2 ++ B)) := ⟨X1 ++ Y1, srt_one K1.out K3.out hone, List.Perm.refl _, by simpa using HD2.out, HB2.out⟩
                  clear hone c1
                  go_wp2
                  go_meet
                  exact hT
                · have c1 : a < i ∧ i < mid := by have := Hr2.out; simpa using this
                  have hsym := HIH.out wc g o n cap a i mid A X1 Y1 (X2 ++ (Y2 ++ B)) (by have := S1.out; have := Q1.out; have := HN.out; have := HM.out; have := HBB.out; omega) (by simpa using HD2.out) (by have := HLEN.out; simp; omega) hn (Nat.lt_of_lt_of_le hgl HB2.out.size) HA.out (by have := S1.out; omega) (by have := Q1.out; omega) (by have := S1.out; omega) (by have := Q1.out; omega) K1.out K3.out K5.out
                  have HR := Lib.hid hsym
                  clear hsym c1
                  go_wp2_with fail
                  refine HR.out.mono ?_
                  rintro e w2 ⟨rfl, ⟨S, j1, j2, j3⟩, hB2⟩
                  have hT : Mid w w2 g o A (X1 ++ Y1) (X2 ++ (Y2 ++ B)) := ⟨S, j1, j2, j3, HB2.out.trans hB2⟩
                  clear j1 j2 j3 hB2
                  go_wp2
                  go_meet
                  exact hT
              case rest =>
                obtain ⟨S, j1, j2, j3, hB3⟩ := hcut
                have hSl := j2.length_eq
                rw [List.length_append, S1.out, Q1.out] at hSl
                have J1 := Lib.hid j1
                have J2 := Lib.hid j2
                have J3 := Lib.hid j3
                have HB3 := Lib.hid hB3
                have HSL := Lib.hid hSl
                clear j1 j2 j3 hB3 hSl
                rename_i wc0
                obtain ⟨wd, rfl⟩ : ∃ wd, wd = wc := ⟨_, rfl⟩
                obtain ⟨r3, hr3⟩ : ∃ r : Bool, r = decide (mid < E ∧ E < b) := ⟨_, rfl⟩
                have Hr3 := Lib.hid hr3
                clear hr3
                go_upto_region 43 with (fail)
                go_cut [213] from 206 to 213 (fun c wx => c = .bool r3 ∧ wd = wx)
                case first =>
                  by_cases c1 : mid < E
                  · have b1 : decide (mid < E) = true := by simpa using c1
                    by_cases c2 : E < b
                    · obtain rfl : r3 = true := by have := Hr3.out; simp [c1, c2] at this; exact this
                      go_wp2
                      go_meet
                      exact ⟨rfl, rfl⟩
                    · obtain rfl : r3 = false := by have := Hr3.out; simp [c1, c2] at this; exact this
                      go_wp2
                      go_meet
                      exact ⟨rfl, rfl⟩
                  · have b1 : decide (mid < E) = false := by simpa using c1
                    obtain rfl : r3 = false := by have := Hr3.out; simp [c1] at this; exact this
                    go_wp2
                    go_meet
                    exact ⟨rfl, rfl⟩
                case rest =>
                  obtain ⟨rfl, rfl⟩ := hcut
                  go_upto_if 213 with (fail)
                  rcases r3 with _ | _
                  · have c1 : ¬ (mid < E ∧ E < b) := by have := Hr3.out; simpa using this
                    have hone : X2 = [] ∨ Y2 = [] := by
                      by_cases h : mid < E
                      · right; exact List.eq_nil_of_length_eq_zero (by have := Q2.out; omega)
                      · left; exact List.eq_nil_of_length_eq_zero (by have := S2.out; have := HE.out; omega)
                    have hT : Mid2 w wd g o A (X1 ++ Y1) (X2 ++ Y2) B := ⟨S, X2 ++ Y2, J1.out, J2.out, srt_one K2.out K4.out hone, List.Perm.refl _, by simpa using J3.out, HB3.out⟩
                    have HT := Lib.hid hT
                    clear hone c1 hT
                    go_wp2
                    go_end0
                    obtain ⟨S', T, m1, m2, m3, m4, m5, m6⟩ := HT.out
                    obtain ⟨q1, q2⟩ := HALL.out S' T m1 m3 m2 m4
                    exact ⟨rfl, ⟨S' ++ T, q1, q2, by simpa using m5⟩, m6⟩
                  · have c1 : mid < E ∧ E < b := by have := Hr3.out; simpa using this
                    have hsym := HIH.out wd g o n cap mid E b (A ++ S) X2 Y2 B (by have := S2.out; have := Q2.out; have := HN.out; have := HM.out; have := HBB.out; have := HE.out; omega) (by simpa using J3.out) (by have := HLEN.out; have := HSL.out; have := S1.out; have := Q1.out; simp; omega) hn (Nat.lt_of_lt_of_le hgl HB3.out.size) (by have := HA.out; have := HSL.out; simp; omega) (by have := S2.out; have := HE.out; omega) (by have := Q2.out; omega) (by have := S2.out; have := HE.out; omega) (by have := Q2.out; omega) K2.out K4.out K6.out
                    have HR := Lib.hid hsym
                    clear hsym c1
                    go_wp2_with fail
                    refine HR.out.mono ?_
                    rintro e w2 ⟨rfl, ⟨T, m1, m2, m3⟩, hB2⟩
                    have hT : Mid2 w w2 g o A (X1 ++ Y1) (X2 ++ Y2) B := ⟨S, T, J1.out, J2.out, m1, m2, m3, HB3.out.trans hB2⟩
                    have HT := Lib.hid hT
                    clear m1 m2 m3 hB2 hT
                    go_wp2
                    go_end0
                    obtain ⟨S', T, m1, m2, m3, m4, m5, m6⟩ := HT.out
                    obtain ⟨q1, q2⟩ := HALL.out S' T m1 m3 m2 m4
                    exact ⟨rfl, ⟨S' ++ T, q1, q2, by simpa using m5⟩, m6⟩
theorem sym_all : ∀ N, SymOk N
  | 0 => fun w g o n cap a m b A X Y B hN _ _ _ _ _ _ _ hX _ _ _ _ => by omega
  | N + 1 => fun w g o n cap a m b A X Y B hN hd hdl hn hgl ha hm hb hX0 hY0 hX hY hc => by
    by_cases hX1 : X.length = 1
    · obtain ⟨x, rfl⟩ := List.length_eq_one_iff.1 hX1
      have e : A ++ [x] ++ Y ++ B = A ++ x :: Y ++ B := by simp
      rw [e] at hd hdl
      exact sym_left hd hdl hn hgl ha (by simpa using hm) hb hY (fun y hy => hc x (by simp) y hy)
    · by_cases hY1 : Y.length = 1
      · obtain ⟨y, rfl⟩ := List.length_eq_one_iff.1 hY1
        have e : A ++ X ++ [y] ++ B = A ++ X ++ y :: B := by simp
        rw [e] at hd hdl
        exact sym_right hd hdl hn hgl ha hm (by simpa using hb) (by omega) hX (fun x hx => hc x hx y (by simp))
      · exact sym_more (sym_all N) hN hd hdl hn hgl ha hm hb (by omega) (by omega) hX hY hc
end Go.Proofs.Ytmafcmfafcjokaa
