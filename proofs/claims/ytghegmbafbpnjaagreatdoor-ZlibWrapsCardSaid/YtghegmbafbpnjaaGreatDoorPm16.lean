/- Several texts in one: SymC, StableB, LawI, RLimit, EfG, EfI (what Unwraps, Wraps reach of them). -/
import Derived.Test.YtghegmbafbpnjaaGreatDoorPm01
import Derived.Test.YtghegmbafbpnjaaGreatDoorPm02
import Derived.Test.YtghegmbafbpnjaaGreatDoorPm03
import Derived.Test.YtghegmbafbpnjaaGreatDoorPm04
import Derived.Test.YtghegmbafbpnjaaGreatDoorPm05
import Derived.Test.YtghegmbafbpnjaaGreatDoorPm06
import Derived.Test.YtghegmbafbpnjaaGreatDoorPm07
import Derived.Test.YtghegmbafbpnjaaGreatDoorPm08
import Derived.Test.YtghegmbafbpnjaaGreatDoorPm09
import Derived.Test.YtghegmbafbpnjaaGreatDoorPm10
import Derived.Test.YtghegmbafbpnjaaGreatDoorPm11
import Derived.Test.YtghegmbafbpnjaaGreatDoorPm12
import Derived.Test.YtghegmbafbpnjaaGreatDoorPm13
import Derived.Test.YtghegmbafbpnjaaGreatDoorPm14
import Derived.Test.YtghegmbafbpnjaaGreatDoorPm15
import Derived.Below
import Derived.BigQuiet
import Derived.BigRegion
import Derived.Deep.AppendLies
import Derived.Deep.CutBlock
import Derived.Deep.CutRange
import Derived.Deep.DeepCutAuto
import Derived.Deep.Draws
import Derived.Deep.LoopGhost
import Derived.Deep.QuietTactic
import Derived.Deep.RegionLaw
import Derived.Deep.RegionWith
import Derived.Deep.Slices
import Derived.Handy
import Derived.Laws.BitsAllLaws
import Derived.Laws.BitsLemmas
import Derived.Laws.CopyOwn
import Derived.Laws.IdiomStrings
import Derived.Laws.OwnMore
import Derived.Laws.Rows
import Derived.Laws.Strings2
import Derived.Laws.Strings3
import Derived.Laws.StructEq
import Derived.Lib.AppendStr
import Derived.Lib.Hide
import Derived.Lib.Strings
import Derived.LoopIn
import Derived.LoopNIn
import Derived.OneCell
import Derived.OpenShut
import Derived.Outline
import Derived.OwnWalk
import Derived.OwnWalkIn
import Derived.ProofKit
import Derived.RangeFuncBound
import Derived.RangeFuncCalls
import Derived.RangeFuncLeaves
import Derived.RangeFuncNested
import Derived.RegionTactic
import Derived.ScopeJumps
import Derived.Shelf.Abstract
import Derived.Shelf.RegionOpen
import Derived.Shelf.SlSortCmp.QuietGrown
import Derived.StillTailTactics
import Derived.TacticsInMore
import Derived.Test.YtghegmbafbpnjaaGreatDoorChecked
import Derived.WalkKit
import Derived.WalkLawsBesides
import Derived.WalkMore
import Derived.WalkSpells
set_option maxRecDepth 100000
set_option linter.unusedVariables false
namespace Go.Proofs.YtghegmbafbpnjaaGreatDoor
set_option maxRecDepth 100000
open Go Go.RowKit
/-- Merges of so many coins and fewer sort. -/
def SymOk (N : Nat) : Prop := ∀ (w : World) (g o n cap a m b : Nat) (A X Y B : List (Nat × Nat)), X.length + Y.length ≤ N → CL w g o (A ++ X ++ Y ++ B) → (A ++ X ++ Y ++ B).length = n → n ≤ 1000 → g < w.heap.size →
  a = A.length → m = a + X.length → b = m + Y.length → 0 < X.length → 0 < Y.length → Srt X → Srt Y → Crs X Y →
  Calls Tryz.prog 131 #[.slice (some ⟨g, o, none⟩) n cap, .int .i64 a, .int .i64 m, .int .i64 b, .func (.func 119) #[] #[]] w fun e w' => e = .returned (.tuple #[]) ∧ (∃ S, Srt S ∧ S.Perm (X ++ Y) ∧ CL w' g o (A ++ S ++ B)) ∧ But [g] w w'
/-- What is left of the first list ahead of s, and of the second one ahead of q, is in order with what stands behind. -/
def Low (X Y : List (Nat × Nat)) (s q : Nat) : Prop := ∀ x y, (X.take s).getLast? = some x → (Y.drop q).head? = some y → lx x y
def High (X Y : List (Nat × Nat)) (s q : Nat) : Prop := ∀ y x, (Y.take q).getLast? = some y → (X.drop s).head? = some x → lx y x

theorem low_nil {X Y : List (Nat × Nat)} {s q : Nat} (h : s = 0 ∨ Y.length ≤ q) : Low X Y s q := by
  intro x y hx hy
  rcases h with rfl | h
  · simp at hx
  · rw [List.drop_of_length_le h] at hy; cases hy
theorem high_nil {X Y : List (Nat × Nat)} {s q : Nat} (h : q = 0 ∨ X.length ≤ s) : High X Y s q := by
  intro x y hx hy
  rcases h with rfl | h
  · simp at hx
  · rw [List.drop_of_length_le h] at hy; cases hy
/-- The ones from these two lists stand in order, ahead of R. -/
def Mid (w W : World) (g o : Nat) (A L R : List (Nat × Nat)) : Prop := ∃ S, Srt S ∧ S.Perm L ∧ CL W g o (A ++ S ++ R) ∧ But [g] w W
def Mid2 (w W : World) (g o : Nat) (A L M R : List (Nat × Nat)) : Prop := ∃ S T, Srt S ∧ S.Perm L ∧ Srt T ∧ T.Perm M ∧ CL W g o (A ++ S ++ T ++ R) ∧ But [g] w W
def Turned (w W : World) (g o : Nat) (d : List (Nat × Nat)) : Prop := CL W g o d ∧ But [g] w W
theorem Crs.take {X Y : List (Nat × Nat)} (h : Crs X Y) (s q : Nat) : Crs (X.take s) (Y.take q) := fun x hx y hy => h x (List.mem_of_mem_take hx) y (List.mem_of_mem_take hy)
theorem Crs.drop {X Y : List (Nat × Nat)} (h : Crs X Y) (s q : Nat) : Crs (X.drop s) (Y.drop q) := fun x hx y hy => h x (List.mem_of_mem_drop hx) y (List.mem_of_mem_drop hy)
theorem Srt.take {X : List (Nat × Nat)} (h : Srt X) (s : Nat) : Srt (X.take s) := List.Pairwise.sublist (List.take_sublist _ _) h
theorem Srt.drop {X : List (Nat × Nat)} (h : Srt X) (s : Nat) : Srt (X.drop s) := List.Pairwise.sublist (List.drop_sublist _ _) h
theorem srt_one {X Y : List (Nat × Nat)} (hX : Srt X) (hY : Srt Y) (h : X = [] ∨ Y = []) : Srt (X ++ Y) := by
  rcases h with rfl | rfl
  · simpa using hY
  · simpa using hX
theorem swap_one {X Y : List (Nat × Nat)} (h : X = [] ∨ Y = []) : X ++ Y = Y ++ X := by
  rcases h with rfl | rfl <;> simp

set_option maxRecDepth 1000000 in
set_option maxHeartbeats 8000000 in
theorem sym_more {N : Nat} (IH : SymOk N) {w : World} {g o n cap a m b : Nat} {A X Y B : List (Nat × Nat)} (hN : X.length + Y.length ≤ N + 1) (hd : CL w g o (A ++ X ++ Y ++ B)) (hdl : (A ++ X ++ Y ++ B).length = n) (hn : n ≤ 1000) (hgl : g < w.heap.size)
    (ha : a = A.length) (hm : m = a + X.length) (hb : b = m + Y.length) (hX2 : 2 ≤ X.length) (hY2 : 2 ≤ Y.length) (hX : Srt X) (hY : Srt Y) (hc : Crs X Y) :
    Calls Tryz.prog 131 #[.slice (some ⟨g, o, none⟩) n cap, .int .i64 a, .int .i64 m, .int .i64 b, .func (.func 119) #[] #[]] w fun e w' => e = .returned (.tuple #[]) ∧ (∃ S, Srt S ∧ S.Perm (X ++ Y) ∧ CL w' g o (A ++ S ++ B)) ∧ But [g] w w' := by
  have mixed : Tryz.prog.follows .mixedOrders = true := by kernel_rfl
  have hbn : b ≤ n := by simp at hdl; omega
  have hma : ((m : Int) - (a : Int) == 1) = false := by simp; omega
  have hbm : ((b : Int) - (m : Int) == 1) = false := by simp; omega
  obtain ⟨mid, hmid⟩ : ∃ mid, mid = (a + b) / 2 := ⟨_, rfl⟩
  have hmi : ((a : Int) + (b : Int)) / 2 = (mid : Int) := by omega
  have hab : a + 2 ≤ m ∧ m + 2 ≤ b := by omega
  have hmb : a < mid ∧ mid < b := by omega
  obtain ⟨lo, hi, l1, l2, l3, l4, l5, l6, l7, hcase⟩ : ∃ lo hi : Nat, a ≤ lo ∧ lo ≤ hi ∧ hi ≤ m ∧ hi ≤ mid ∧ mid + m ≤ lo + b ∧ (lo = a ∨ lo + b = mid + m) ∧ (hi = m ∨ hi = mid) ∧ ((decide (mid < m) = true ∧ (mid : Int) + (m : Int) - (b : Int) = (lo : Int) ∧ Hid (lo = lo) ∧ Hid (hi = mid)) ∨ (decide (mid < m) = false ∧ (0 : Int) ≤ (m : Int) ∧ Hid (lo = a) ∧ Hid (hi = m))) := by
    by_cases h : mid < m
    · exact ⟨mid + m - b, mid, by omega, by omega, by omega, by omega, by omega, by omega, by omega, .inl ⟨by simpa using h, by omega, Lib.hid rfl, Lib.hid rfl⟩⟩
    · exact ⟨a, m, by omega, by omega, by omega, by omega, by omega, by omega, by omega, .inr ⟨by simpa using h, by omega, Lib.hid rfl, Lib.hid rfl⟩⟩
  obtain ⟨p, hp⟩ : ∃ p, p = mid + m - 1 := ⟨_, rfl⟩
  have hpi : (mid : Int) + (m : Int) - 1 = (p : Int) := by omega
  have HA := Lib.hid ha
  have HM := Lib.hid hm
  have HBB := Lib.hid hb
  have HDL := Lib.hid hdl
  have HSX := Lib.hid hX
  have HSY := Lib.hid hY
  have HP := Lib.hid hp
  have HN := Lib.hid hN
  have HIH := Lib.hid IH
  have L6 := Lib.hid l6
  have L7 := Lib.hid l7
  have HC := Lib.hid hc
  clear ha hm hb hdl hX hY hp hN IH l6 l7 hmid hc
  rcases hcase with ⟨d1, d2, HL, HH⟩ | ⟨d1, d2, HL, HH⟩
  all_goals
    go_enter Tryz.func131, Tryz.ntmps131
    go_wp2
    clear d2
    go_loopw [20, 21] (fun iv jv wr => ∃ i j : Nat, lo ≤ i ∧ i ≤ j ∧ j ≤ hi ∧ iv = .int .i64 i ∧ jv = .int .i64 j ∧ Low X Y (i - a) (mid - i) ∧ High X Y (j - a) (mid - j) ∧ CL wr g o (A ++ X ++ Y ++ B) ∧ But [g] w wr) (fun iv jv _ => (intOf jv).toNat - (intOf iv).toNat)
    case atStart =>
      refine ⟨lo, hi, Nat.le_refl _, l2, Nat.le_refl _, by first | rfl | rw [HL.out], by rw [HH.out], low_nil ?_, high_nil ?_, hd, But.refl _ _⟩
      · have := L6.out; have := HBB.out; omega
      · have := L7.out; have := HM.out; omega
    case round =>
      obtain ⟨i, j, hmi', hij, hjb, rfl, rfl, h1, h2, hd', hB⟩ := hrel
      clear hd hma hbm HL HH
      have hgj : g < wr.heap.size := Nat.lt_of_lt_of_le hgl hB.size
      by_cases hlt : i < j
      · obtain ⟨h, hh⟩ : ∃ h, h = (i + j) / 2 := ⟨_, rfl⟩
        have hhi : ((i : Int) + (j : Int)) / 2 = (h : Int) := by omega
        have hih : i ≤ h ∧ h < j := by omega
        have hhn : h < n := by omega
        obtain ⟨h', hh'⟩ : ∃ h', h' = mid + m - 1 - h := ⟨_, rfl⟩
        have hpc : (p : Int) - (h : Int) = (h' : Int) := by have := HP.out; omega
        have hwp : IntKind.i64.wrap ((p : Int) - (h : Int)) = (h' : Int) := by rw [IntKind.wrap_i64]; have := HP.out; omega
        have hwp2 : IntKind.i64.wrap (h' : Int) = (h' : Int) := by rw [IntKind.wrap_i64]; have := HP.out; omega
        have hhn' : m ≤ h' ∧ h' < b := by omega
        have hxm : h - a < X.length := by have := HM.out; omega
        have hym : h' - m < Y.length := by have := HBB.out; omega
        have hgx : (A ++ X ++ Y ++ B).getD h (0, 0) = X[h - a]'hxm := by
          have := getD_mid (d := A ++ X ++ Y ++ B) (A := A) (X := X) (B := Y ++ B) (i := h) (by simp) (by have := HA.out; omega) (by have := HA.out; have := HM.out; omega)
          rw [this]; congr 1; have := HA.out; omega
        have hgy : (A ++ X ++ Y ++ B).getD h' (0, 0) = Y[h' - m]'hym := by
          have := getD_mid (d := A ++ X ++ Y ++ B) (A := A ++ X) (X := Y) (B := B) (i := h') (by simp) (by have := HA.out; have := HM.out; simp; omega) (by have := HA.out; have := HM.out; have := HBB.out; simp; omega)
          rw [this]; congr 1; have := HA.out; have := HM.out; simp; omega
        have hx1 := last_take hxm
        have hx2 := head_drop hxm
        have hy1 := last_take hym
        have hy2 := head_drop hym
        have hcy := HC.out _ (List.getElem_mem hxm) _ (List.getElem_mem hym)
        generalize X[h - a]'hxm = x at *
        generalize Y[h' - m]'hym = y at *
        have x0' := fun n' os => ((hd'.grow hgj n' os).get (i := h) (by have := HDL.out; omega) hgx).1
        have x1' := fun n' os => ((hd'.grow hgj n' os).get (i := h) (by have := HDL.out; omega) hgx).2.1
        have y0' := fun n' os => ((hd'.grow hgj n' os).get (i := h') (by have := HDL.out; omega) hgy).1
        have y1' := fun n' os => ((hd'.grow hgj n' os).get (i := h') (by have := HDL.out; omega) hgy).2.1
        have hcg := fun n' os => cmp_coins y.1 y.2 x.1 x.2 (Sort.grow (wr.drewN n') os)
        have hz0 : (0 : Int) ≤ (h : Int) := by omega
        have hz1 : (h : Int) < (n : Int) := by omega
        have hz2 : (0 : Int) ≤ (h' : Int) := by omega
        have hz3 : (h' : Int) < (n : Int) := by omega
        have hl1 : Low X Y (h + 1 - a) (mid - (h + 1)) ↔ lx x y := by
          unfold Low
          rw [show h + 1 - a = (h - a) + 1 from by omega, hx1, show mid - (h + 1) = h' - m from by omega, hy2]
          simp
        have hh1 : High X Y (h - a) (mid - h) ↔ lx y x := by
          unfold High
          rw [hx2, show mid - h = (h' - m) + 1 from by omega, hy1]
          simp
        have HD := Lib.hid hd'
        have HB := Lib.hid hB
        have H1 := Lib.hid h1
        have H2 := Lib.hid h2
        have HL1 := Lib.hid hl1
        have HH1 := Lib.hid hh1
        have HCY := Lib.hid hcy
        clear hd' hB h1 h2 hx1 hx2 hy1 hy2 hgx hgy hh hh' hcy hl1 hh1
        by_cases hlv : (y.2 : Int) < (x.2 : Int)
        · have hcv := cmp_neg hlv
          generalize cmpOf (y.2 : Int) (x.2 : Int) = cv at *
          have hcb : (!decide (cv < 0)) = false := by simp; omega
          go_wp2_with fail
          go_quiet_grown (first | (go_at_call 119; refine Calls.grown_of (hcg _ _)))
          go_wp2
          go_roundw
          case rel => exact ⟨i, h, hmi', by omega, by omega, rfl, rfl, H1.out, HH1.out.2 (.inl (by omega)), HD.out.grow hgj nq osq, HB.out.grow nq osq⟩
          case measure => simp [intOf]; omega
        · have hcv := cmp_not hlv
          generalize cmpOf (y.2 : Int) (x.2 : Int) = cv at *
          have hcb : (!decide (cv < 0)) = true := by simp; omega
          go_wp2_with fail
          go_quiet_grown (first | (go_at_call 119; refine Calls.grown_of (hcg _ _)))
          go_wp2
          go_roundw
          case rel => exact ⟨h + 1, j, by omega, by omega, hjb, by go_num, rfl, HL1.out.2 (by have := HCY.out; unfold lx; omega), H2.out, HD.out.grow hgj nq osq, HB.out.grow nq osq⟩
          case measure => simp [intOf]; omega
      · obtain rfl : i = j := by omega
        obtain ⟨E, hE⟩ : ∃ E, E = mid + m - i := ⟨_, rfl⟩
        have hEi : (mid : Int) + (m : Int) - (i : Int) = (E : Int) := by omega
        have hEm : m ≤ E ∧ E ≤ b ∧ mid ≤ E := by omega
        have hs1 : (X.take (i - a)).length = i - a := by have := HM.out; simp; omega
        have hs2 : (X.drop (i - a)).length = m - i := by have := HM.out; simp; omega
        have hq1 : (Y.take (mid - i)).length = mid - i := by have := HBB.out; simp; omega
        have hq2 : (Y.drop (mid - i)).length = b - E := by have := HBB.out; simp; omega
        have hXe := List.take_append_drop (i - a) X
        have hYe := List.take_append_drop (mid - i) Y
        have hall := halves (S1 := []) (S2 := []) (X1 := X.take (i - a)) (X2 := X.drop (i - a)) (Y1 := Y.take (mid - i)) (Y2 := Y.drop (mid - i)) (by rw [hXe]; exact HSX.out) (by rw [hYe]; exact HSY.out) h1 h2
        have hall2 : ∀ S1 S2, Srt S1 → Srt S2 → S1.Perm (X.take (i - a) ++ Y.take (mid - i)) → S2.Perm (X.drop (i - a) ++ Y.drop (mid - i)) → Srt (S1 ++ S2) ∧ (S1 ++ S2).Perm (X ++ Y) := by
          intro S1 S2 a1 a2 a3 a4
          have := halves (X1 := X.take (i - a)) (X2 := X.drop (i - a)) (Y1 := Y.take (mid - i)) (Y2 := Y.drop (mid - i)) (by rw [hXe]; exact HSX.out) (by rw [hYe]; exact HSY.out) h1 h2 a1 a2 a3 a4
          rw [hXe, hYe] at this
          exact this
        have k1 := HSX.out.take (i - a)
        have k2 := HSX.out.drop (i - a)
        have k3 := HSY.out.take (mid - i)
        have k4 := HSY.out.drop (mid - i)
        have k5 := HC.out.take (i - a) (mid - i)
        have k6 := HC.out.drop (i - a) (mid - i)
        have hd1 : CL wr g o (A ++ X.take (i - a) ++ X.drop (i - a) ++ Y.take (mid - i) ++ (Y.drop (mid - i) ++ B)) := by
          have : A ++ X.take (i - a) ++ X.drop (i - a) ++ Y.take (mid - i) ++ (Y.drop (mid - i) ++ B) = A ++ (X.take (i - a) ++ X.drop (i - a)) ++ (Y.take (mid - i) ++ Y.drop (mid - i)) ++ B := by simp only [List.append_assoc]
          rw [this, hXe, hYe]; exact hd'
        clear hall hXe hYe h1 h2 hd'
        generalize X.take (i - a) = X1 at *
        generalize X.drop (i - a) = X2 at *
        generalize Y.take (mid - i) = Y1 at *
        generalize Y.drop (mid - i) = Y2 at *
        have HALL := Lib.hid hall2
        have K1 := Lib.hid k1
        have K2 := Lib.hid k2
        have K3 := Lib.hid k3
        have K4 := Lib.hid k4
        have K5 := Lib.hid k5
        have K6 := Lib.hid k6
        have S1 := Lib.hid hs1
        have S2 := Lib.hid hs2
        have Q1 := Lib.hid hq1
        have Q2 := Lib.hid hq2
        have HD := Lib.hid hd1
        have HB := Lib.hid hB
        have HE := Lib.hid hE
        have hlen : A.length + X1.length + X2.length + Y1.length + Y2.length + B.length = n := by have h := HDL.out; have := HM.out; have := HBB.out; simp at h; omega
        have HLEN := Lib.hid hlen
        clear hall2 k1 k2 k3 k4 k5 k6 hs1 hs2 hq1 hq2 hd1 hB hE hlen
        obtain ⟨r1, hr1⟩ : ∃ r : Bool, r = decide (i < m ∧ m < E) := ⟨_, rfl⟩
        have Hr1 := Lib.hid hr1
        clear hr1
        go_upto_region 39 with (fail)
        go_cut [185] from 178 to 185 (fun c wx => c = .bool r1 ∧ wr = wx)
        case first =>
          by_cases c1 : i < m
          · have b1 : decide (i < m) = true := by simpa using c1
            by_cases c2 : m < E
            · obtain rfl : r1 = true := by have := Hr1.out; simp [c1, c2] at this; exact this
              go_wp2
              go_meet
              exact ⟨rfl, rfl⟩
            · obtain rfl : r1 = false := by have := Hr1.out; simp [c1, c2] at this; exact this
              go_wp2
              go_meet
              exact ⟨rfl, rfl⟩
          · have b1 : decide (i < m) = false := by simpa using c1
            obtain rfl : r1 = false := by have := Hr1.out; simp [c1] at this; exact this
            go_wp2
            go_meet
            exact ⟨rfl, rfl⟩
        case rest =>
          obtain ⟨rfl, rfl⟩ := hcut
          go_upto_if 185 with (fail)
          go_cut [] from 186 to 191 (fun wx => Turned w wx g o (A ++ X1 ++ Y1 ++ X2 ++ (Y2 ++ B)))
          case first =>
            rcases r1 with _ | _
            · have c1 : ¬ (i < m ∧ m < E) := by have := Hr1.out; simpa using this
              have hone : X2 = [] ∨ Y1 = [] := by
                by_cases h : i < m
                · right; exact List.eq_nil_of_length_eq_zero (by have := Q1.out; have := HE.out; omega)
                · left; exact List.eq_nil_of_length_eq_zero (by have := S2.out; omega)
              have hT : Turned w wr g o (A ++ X1 ++ Y1 ++ X2 ++ (Y2 ++ B)) := ⟨by
                have h := HD.out
                have e : A ++ X1 ++ X2 ++ Y1 ++ (Y2 ++ B) = A ++ X1 ++ (X2 ++ Y1) ++ (Y2 ++ B) := by simp
                rw [e, swap_one hone] at h
                simpa using h, HB.out⟩
              clear hone c1
              go_wp2
              go_meet
              exact hT
            · have c1 : i < m ∧ m < E := by have := Hr1.out; simpa using this
              have hrot := rotate_any (n := n) (cap := cap) (a := i) (m := m) (b := E) HD.out (by have := HLEN.out; simp; omega) hn (by have := HA.out; have := S1.out; simp; omega) (by have := HA.out; have := S1.out; have := S2.out; simp; omega) (by have := HA.out; have := S1.out; have := S2.out; have := Q1.out; have := HE.out; simp; omega) (by have := S2.out; omega) (by have := Q1.out; have := HE.out; omega) (.func (.func 119) #[] #[])
              have HR := Lib.hid hrot
              clear hrot c1
              go_wp2_with fail
              refine HR.out.mono ?_
              rintro e w2 ⟨rfl, hd2, hB2⟩
              have hT : Turned w w2 g o (A ++ X1 ++ Y1 ++ X2 ++ (Y2 ++ B)) := ⟨hd2, HB.out.trans hB2⟩
              clear hd2 hB2
              go_wp2
              go_meet
              exact hT
          case rest =>
            obtain ⟨hd2, hB2⟩ := hcut
            have HD2 := Lib.hid hd2
            have HB2 := Lib.hid hB2
            clear hd2 hB2
            obtain ⟨r2, hr2⟩ : ∃ r : Bool, r = decide (a < i ∧ i < mid) := ⟨_, rfl⟩
            have Hr2 := Lib.hid hr2
            clear hr2
            go_upto_region 41 with (fail)
            go_cut [199] from 192 to 199 (fun c wx => c = .bool r2 ∧ wc = wx)
            case first =>
              by_cases c1 : a < i
              · have b1 : decide (a < i) = true := by simpa using c1
                by_cases c2 : i < mid
                · obtain rfl : r2 = true := by have := Hr2.out; simp [c1, c2] at this; exact this
                  go_wp2
                  go_meet
                  exact ⟨rfl, rfl⟩
                · obtain rfl : r2 = false := by have := Hr2.out; simp [c1, c2] at this; exact this
                  go_wp2
                  go_meet
                  exact ⟨rfl, rfl⟩
              · have b1 : decide (a < i) = false := by simpa using c1
                obtain rfl : r2 = false := by have := Hr2.out; simp [c1] at this; exact this
                go_wp2
                go_meet
                exact ⟨rfl, rfl⟩
            case rest =>
              obtain ⟨rfl, rfl⟩ := hcut
              go_upto_if 199 with (fail)
              go_cut [] from 200 to 205 (fun wx => Mid w wx g o A (X1 ++ Y1) (X2 ++ (Y2 ++ B)))
              case first =>
                rcases r2 with _ | _
                · have c1 : ¬ (a < i ∧ i < mid) := by have := Hr2.out; simpa using this
                  have hone : X1 = [] ∨ Y1 = [] := by
                    by_cases h : a < i
                    · right; exact List.eq_nil_of_length_eq_zero (by have := Q1.out; omega)
                    · left; exact List.eq_nil_of_length_eq_zero (by have := S1.out; omega)
                  have hT : Mid w wc g o A (X1 ++ Y1) (X2 ++ (Y2 ++ B)) := ⟨X1 ++ Y1, srt_one K1.out K3.out hone, List.Perm.refl _, by simpa using HD2.out, HB2.out⟩
                  clear hone c1
                  go_wp2
                  go_meet
                  exact hT
                · have c1 : a < i ∧ i < mid := by have := Hr2.out; simpa using this
                  have hsym := HIH.out wc g o n cap a i mid A X1 Y1 (X2 ++ (Y2 ++ B)) (by have := S1.out; have := Q1.out; have := HN.out; have := HM.out; have := HBB.out; omega) (by simpa using HD2.out) (by have := HLEN.out; simp; omega) hn (Nat.lt_of_lt_of_le hgl HB2.out.size) HA.out (by have := S1.out; omega) (by have := Q1.out; omega) (by have := S1.out; omega) (by have := Q1.out; omega) K1.out K3.out K5.out
                  have HR := Lib.hid hsym
                  clear hsym c1
                  go_wp2_with fail
                  refine HR.out.mono ?_
                  rintro e w2 ⟨rfl, ⟨S, j1, j2, j3⟩, hB2⟩
                  have hT : Mid w w2 g o A (X1 ++ Y1) (X2 ++ (Y2 ++ B)) := ⟨S, j1, j2, j3, HB2.out.trans hB2⟩
                  clear j1 j2 j3 hB2
                  go_wp2
                  go_meet
                  exact hT
              case rest =>
                obtain ⟨S, j1, j2, j3, hB3⟩ := hcut
                have hSl := j2.length_eq
                rw [List.length_append, S1.out, Q1.out] at hSl
                have J1 := Lib.hid j1
                have J2 := Lib.hid j2
                have J3 := Lib.hid j3
                have HB3 := Lib.hid hB3
                have HSL := Lib.hid hSl
                clear j1 j2 j3 hB3 hSl
                rename_i wc0
                obtain ⟨wd, rfl⟩ : ∃ wd, wd = wc := ⟨_, rfl⟩
                obtain ⟨r3, hr3⟩ : ∃ r : Bool, r = decide (mid < E ∧ E < b) := ⟨_, rfl⟩
                have Hr3 := Lib.hid hr3
                clear hr3
                go_upto_region 43 with (fail)
                go_cut [213] from 206 to 213 (fun c wx => c = .bool r3 ∧ wd = wx)
                case first =>
                  by_cases c1 : mid < E
                  · have b1 : decide (mid < E) = true := by simpa using c1
                    by_cases c2 : E < b
                    · obtain rfl : r3 = true := by have := Hr3.out; simp [c1, c2] at this; exact this
                      go_wp2
                      go_meet
                      exact ⟨rfl, rfl⟩
                    · obtain rfl : r3 = false := by have := Hr3.out; simp [c1, c2] at this; exact this
                      go_wp2
                      go_meet
                      exact ⟨rfl, rfl⟩
                  · have b1 : decide (mid < E) = false := by simpa using c1
                    obtain rfl : r3 = false := by have := Hr3.out; simp [c1] at this; exact this
                    go_wp2
                    go_meet
                    exact ⟨rfl, rfl⟩
                case rest =>
                  obtain ⟨rfl, rfl⟩ := hcut
                  go_upto_if 213 with (fail)
                  rcases r3 with _ | _
                  · have c1 : ¬ (mid < E ∧ E < b) := by have := Hr3.out; simpa using this
                    have hone : X2 = [] ∨ Y2 = [] := by
                      by_cases h : mid < E
                      · right; exact List.eq_nil_of_length_eq_zero (by have := Q2.out; omega)
                      · left; exact List.eq_nil_of_length_eq_zero (by have := S2.out; have := HE.out; omega)
                    have hT : Mid2 w wd g o A (X1 ++ Y1) (X2 ++ Y2) B := ⟨S, X2 ++ Y2, J1.out, J2.out, srt_one K2.out K4.out hone, List.Perm.refl _, by simpa using J3.out, HB3.out⟩
                    have HT := Lib.hid hT
                    clear hone c1 hT
                    go_wp2
                    go_end0
                    obtain ⟨S', T, m1, m2, m3, m4, m5, m6⟩ := HT.out
                    obtain ⟨q1, q2⟩ := HALL.out S' T m1 m3 m2 m4
                    exact ⟨rfl, ⟨S' ++ T, q1, q2, by simpa using m5⟩, m6⟩
                  · have c1 : mid < E ∧ E < b := by have := Hr3.out; simpa using this
                    have hsym := HIH.out wd g o n cap mid E b (A ++ S) X2 Y2 B (by have := S2.out; have := Q2.out; have := HN.out; have := HM.out; have := HBB.out; have := HE.out; omega) (by simpa using J3.out) (by have := HLEN.out; have := HSL.out; have := S1.out; have := Q1.out; simp; omega) hn (Nat.lt_of_lt_of_le hgl HB3.out.size) (by have := HA.out; have := HSL.out; simp; omega) (by have := S2.out; have := HE.out; omega) (by have := Q2.out; omega) (by have := S2.out; have := HE.out; omega) (by have := Q2.out; omega) K2.out K4.out K6.out
                    have HR := Lib.hid hsym
                    clear hsym c1
                    go_wp2_with fail
                    refine HR.out.mono ?_
                    rintro e w2 ⟨rfl, ⟨T, m1, m2, m3⟩, hB2⟩
                    have hT : Mid2 w w2 g o A (X1 ++ Y1) (X2 ++ Y2) B := ⟨S, T, J1.out, J2.out, m1, m2, m3, HB3.out.trans hB2⟩
                    have HT := Lib.hid hT
                    clear m1 m2 m3 hB2 hT
                    go_wp2
                    go_end0
                    obtain ⟨S', T, m1, m2, m3, m4, m5, m6⟩ := HT.out
                    obtain ⟨q1, q2⟩ := HALL.out S' T m1 m3 m2 m4
                    exact ⟨rfl, ⟨S' ++ T, q1, q2, by simpa using m5⟩, m6⟩
theorem sym_all : ∀ N, SymOk N
  | 0 => fun w g o n cap a m b A X Y B hN _ _ _ _ _ _ _ hX _ _ _ _ => by omega
  | N + 1 => fun w g o n cap a m b A X Y B hN hd hdl hn hgl ha hm hb hX0 hY0 hX hY hc => by
    by_cases hX1 : X.length = 1
    · obtain ⟨x, rfl⟩ := List.length_eq_one_iff.1 hX1
      have e : A ++ [x] ++ Y ++ B = A ++ x :: Y ++ B := by simp
      rw [e] at hd hdl
      exact sym_left hd hdl hn hgl ha (by simpa using hm) hb hY (fun y hy => hc x (by simp) y hy)
    · by_cases hY1 : Y.length = 1
      · obtain ⟨y, rfl⟩ := List.length_eq_one_iff.1 hY1
        have e : A ++ X ++ [y] ++ B = A ++ X ++ y :: B := by simp
        rw [e] at hd hdl
        exact sym_right hd hdl hn hgl ha hm (by simpa using hb) (by omega) hX (fun x hx => hc x hx y (by simp))
      · exact sym_more (sym_all N) hN hd hdl hn hgl ha hm hb (by omega) (by omega) hX hY hc
end Go.Proofs.YtghegmbafbpnjaaGreatDoor
namespace Go.Proofs.YtghegmbafbpnjaaGreatDoor
set_option maxRecDepth 100000
open Go Go.RowKit
/-- From a to b the same elements, sorted; the others as they were. -/
def Piece (d d' : List (Nat × Nat)) (a b : Nat) : Prop := d'.length = d.length ∧ Srt (slc d' a b) ∧ (slc d' a b).Perm (slc d a b) ∧ (∀ lo hi, hi ≤ a → slc d' lo hi = slc d lo hi) ∧ (∀ lo hi, b ≤ lo → slc d' lo hi = slc d lo hi)
theorem piece_of {d : List (Nat × Nat)} {a b : Nat} {S : List (Nat × Nat)} (hab : a ≤ b) (hb : b ≤ d.length) (hs : Srt S) (hp : S.Perm (slc d a b)) : Piece d (d.take a ++ S ++ d.drop b) a b := by
  have hl := hp.length_eq
  rw [length_slc d a b hab hb] at hl
  have h1 : (d.take a).length = a := by simp; omega
  have hsp := slc_split d a b hab
  have e : slc (d.take a ++ S ++ d.drop b) a b = S := slc_at _ _ _ _ _ h1.symm (by omega)
  refine ⟨by simp; omega, by rw [e]; exact hs, by rw [e]; exact hp, fun lo hi h => ?_, fun lo hi h => ?_⟩
  · conv => rhs; rw [hsp]
    rw [List.append_assoc, List.append_assoc, slc_left _ _ _ _ (by omega), slc_left _ _ _ _ (by omega)]
  · conv => rhs; rw [hsp]
    exact slc_right _ _ _ _ _ (by simp; omega) (by simp [length_slc d a b hab hb]; omega)
def GotPiece (w : World) (g o : Nat) (d : List (Nat × Nat)) (a b : Nat) (e : Ending) (w' : World) : Prop := e = .returned (.tuple #[]) ∧ But [g] w w' ∧ ∃ d', Piece d d' a b ∧ CL w' g o d'
theorem insertion_piece {w : World} {g o n cap a b : Nat} {d : List (Nat × Nat)} (hd : CL w g o d) (hdl : d.length = n) (hn : n ≤ 1000) (hgl : g < w.heap.size) (hab : a ≤ b) (hb : b ≤ n) (hX : (slc d a b).Pairwise fun x y => x.1 < y.1) :
    Calls Tryz.prog 130 #[.slice (some ⟨g, o, none⟩) n cap, .int .i64 a, .int .i64 b, .func (.func 119) #[] #[]] w (GotPiece w g o d a b) := by
  have hsp := slc_split d a b hab
  have h1 : (d.take a).length = a := by simp; omega
  refine (insertion_any (A := d.take a) (X := slc d a b) (B := d.drop b) (by rw [← hsp]; exact hd) (by rw [← hsp]; exact hdl) hn hgl h1.symm (by rw [length_slc d a b hab (by omega)]; omega) hX).mono ?_
  rintro e w' ⟨he, ⟨S, hS, hp, hc⟩, hB⟩
  exact ⟨he, hB, _, piece_of hab (by omega) hS hp, hc⟩
theorem sym_piece {w : World} {g o n cap a m b : Nat} {d : List (Nat × Nat)} (hd : CL w g o d) (hdl : d.length = n) (hn : n ≤ 1000) (hgl : g < w.heap.size) (ham : a < m) (hmb : m < b) (hb : b ≤ n)
    (hX : Srt (slc d a m)) (hY : Srt (slc d m b)) (hc : Crs (slc d a m) (slc d m b)) :
    Calls Tryz.prog 131 #[.slice (some ⟨g, o, none⟩) n cap, .int .i64 a, .int .i64 m, .int .i64 b, .func (.func 119) #[] #[]] w (GotPiece w g o d a b) := by
  have hsp := slc_split d a b (by omega)
  have hj := slc_join d a m b (by omega) (by omega)
  have h1 : (d.take a).length = a := by simp; omega
  have l1 := length_slc d a m (by omega) (by omega)
  have l2 := length_slc d m b (by omega) (by omega)
  have e : d.take a ++ slc d a m ++ slc d m b ++ d.drop b = d := by
    conv => rhs; rw [hsp, hj]
    simp only [List.append_assoc]
  refine (sym_all _ w g o n cap a m b (d.take a) (slc d a m) (slc d m b) (d.drop b) (Nat.le_refl _) (by rw [e]; exact hd) (by rw [e]; exact hdl) hn hgl h1.symm (by omega) (by omega) (by omega) (by omega) hX hY hc).mono ?_
  rintro e w' ⟨he, ⟨S, hS, hp, hc⟩, hB⟩
  exact ⟨he, hB, _, piece_of (by omega) (by omega) hS (by rw [hj]; exact hp), hc⟩

/-- The first part of the elements is in pieces, what stands behind is as it was. -/
def Fst (d0 d : List (Nat × Nat)) (a : Nat) : Prop := d.length = d0.length ∧ Done 20 d0 d a ∧ ∀ lo hi, a ≤ lo → slc d lo hi = slc d0 lo hi
theorem Fst.next {d0 d d' : List (Nat × Nat)} {a : Nat} (h : Fst d0 d a) (hp : Piece d d' a (a + 20)) : Fst d0 d' (a + 20) := by
  obtain ⟨h1, h2, h3⟩ := h
  obtain ⟨p1, p2, p3, p4, p5⟩ := hp
  exact ⟨p1.trans h1, (h2.of p4).more ⟨p2, by rw [← h3 a (a + 20) (Nat.le_refl _)]; exact p3⟩, fun lo hi hl => (p5 lo hi hl).trans (h3 lo hi (by omega))⟩
theorem Fst.last {d0 d d' : List (Nat × Nat)} {a n : Nat} (h : Fst d0 d a) (ha : a ≤ n) (hn : n ≤ a + 20) (hp : Piece d d' a n) : d'.length = d0.length ∧ Rest 20 d0 d' n 0 := by
  obtain ⟨h1, h2, h3⟩ := h
  obtain ⟨p1, p2, p3, p4, p5⟩ := hp
  exact ⟨p1.trans h1, (h2.of p4).join ha (.last hn ⟨p2, by rw [← h3 a n (Nat.le_refl _)]; exact p3⟩)⟩
theorem Fst.pair {d0 d : List (Nat × Nat)} {a b : Nat} (h : Fst d0 d a) (h0 : d0.Pairwise fun x y => x.1 < y.1) : (slc d a b).Pairwise fun x y => x.1 < y.1 := by
  rw [h.2.2 a b (Nat.le_refl _)]
  unfold slc
  exact List.Pairwise.sublist ((List.take_sublist _ _).trans (List.drop_sublist _ _)) h0
/-- Pieces of 2 B elements, and behind them pieces of B. -/
def Snd (B : Nat) (d0 d : List (Nat × Nat)) (n a : Nat) : Prop := d.length = d0.length ∧ Done (2 * B) d0 d a ∧ Rest B d0 d n a
theorem Rest.good {B n : Nat} {d0 d : List (Nat × Nat)} {a : Nat} (h : Rest B d0 d n a) (hn : a + B < n) : Good d0 d a (a + B) ∧ Rest B d0 d n (a + B) := by
  cases h with
  | last h _ => omega
  | more _ h1 h2 => exact ⟨h1, h2⟩
theorem Rest.end' {B n : Nat} {d0 d : List (Nat × Nat)} {a : Nat} (h : Rest B d0 d n a) (hn : n ≤ a + B) : Good d0 d a n := by
  cases h with
  | last _ h => exact h
  | more h h1 h2 =>
    have e : a + B = n := by omega
    rw [e] at h1; exact h1
theorem good_none {d0 d : List (Nat × Nat)} (n : Nat) : Good d0 d n n := by
  unfold Good slc; rw [Nat.sub_self, List.take_zero, List.take_zero]; exact ⟨List.Pairwise.nil, List.Perm.refl _⟩
theorem Rest.two {B n : Nat} {d0 d : List (Nat × Nat)} {a : Nat} (h : Rest B d0 d n a) (hB : 0 < B) (hn : a + 2 * B ≤ n) : Good d0 d a (a + B) ∧ Good d0 d (a + B) (a + 2 * B) ∧ Rest B d0 d n (a + 2 * B) := by
  obtain ⟨h1, h2⟩ := h.good (by omega)
  have e : a + B + B = a + 2 * B := by omega
  by_cases h3 : a + B + B < n
  · obtain ⟨h4, h5⟩ := h2.good h3
    rw [e] at h4 h5
    exact ⟨h1, h4, h5⟩
  · have e2 : n = a + 2 * B := by omega
    have := h2.end' (by omega)
    rw [e2] at this ⊢
    exact ⟨h1, this, .last (by omega) (good_none _)⟩
theorem good_join {d0 d d' : List (Nat × Nat)} {a m b : Nat} (h1 : Good d0 d a m) (h2 : Good d0 d m b) (ham : a ≤ m) (hmb : m ≤ b) (hp : Piece d d' a b) : Good d0 d' a b := by
  obtain ⟨p1, p2, p3, p4, p5⟩ := hp
  refine ⟨p2, p3.trans ?_⟩
  rw [slc_join d a m b ham hmb, slc_join d0 a m b ham hmb]
  exact h1.2.append h2.2
theorem Snd.next {B n : Nat} {d0 d d' : List (Nat × Nat)} {a : Nat} (h : Snd B d0 d n a) (hB : 0 < B) (hn : a + 2 * B ≤ n) (hp : Piece d d' a (a + 2 * B)) : Snd B d0 d' n (a + 2 * B) := by
  obtain ⟨h1, h2, h3⟩ := h
  obtain ⟨q1, q2, q3⟩ := h3.two hB hn
  have hg := good_join q1 q2 (by omega) (by omega) hp
  obtain ⟨p1, p2, p3, p4, p5⟩ := hp
  exact ⟨p1.trans h1, (h2.of p4).more hg, q3.of p5⟩
theorem Snd.half {B n : Nat} {d0 d d' : List (Nat × Nat)} {a : Nat} (h : Snd B d0 d n a) (h1 : a + B < n) (h2 : n ≤ a + 2 * B) (hp : Piece d d' a n) : d'.length = d0.length ∧ Rest (2 * B) d0 d' n 0 := by
  obtain ⟨k1, k2, k3⟩ := h
  obtain ⟨q1, q2⟩ := k3.good h1
  have hg := good_join q1 (q2.end' (by omega)) (by omega) (by omega) hp
  obtain ⟨p1, p2, p3, p4, p5⟩ := hp
  exact ⟨p1.trans k1, (k2.of p4).join (by omega) (.last h2 hg)⟩
theorem Snd.none {B n : Nat} {d0 d : List (Nat × Nat)} {a : Nat} (h : Snd B d0 d n a) (ha : a ≤ n) (h1 : n ≤ a + B) : d.length = d0.length ∧ Rest (2 * B) d0 d n 0 :=
  ⟨h.1, h.2.1.join ha (.last (by omega) (h.2.2.end' h1))⟩
theorem Snd.crs {B n : Nat} {d0 d : List (Nat × Nat)} {a : Nat} (h0 : d0.Pairwise fun x y => x.1 < y.1) (h : Snd B d0 d n a) (hB : 0 < B) (hn : a + 2 * B ≤ n) :
    Srt (slc d a (a + B)) ∧ Srt (slc d (a + B) (a + 2 * B)) ∧ Crs (slc d a (a + B)) (slc d (a + B) (a + 2 * B)) := by
  obtain ⟨q1, q2, q3⟩ := h.2.2.two hB hn
  exact ⟨q1.1, q2.1, Good.crs h0 q1 q2 (by omega) (by omega)⟩
theorem Snd.crs2 {B n : Nat} {d0 d : List (Nat × Nat)} {a : Nat} (h0 : d0.Pairwise fun x y => x.1 < y.1) (h : Snd B d0 d n a) (h1 : a + B < n) (h2 : n ≤ a + 2 * B) :
    Srt (slc d a (a + B)) ∧ Srt (slc d (a + B) n) ∧ Crs (slc d a (a + B)) (slc d (a + B) n) := by
  obtain ⟨q1, q2⟩ := h.2.2.good h1
  have q3 := q2.end' (by omega)
  exact ⟨q1.1, q3.1, Good.crs h0 q1 q3 (by omega) (by omega)⟩
attribute [local irreducible] slc
set_option maxRecDepth 100000 in
set_option maxHeartbeats 4000000 in
theorem stable_any {w : World} {g o n cap : Nat} {d : List (Nat × Nat)} (hd : CL w g o d) (hdl : d.length = n) (hn : n ≤ 1000) (hgl : g < w.heap.size) (hs : d.Pairwise fun x y => x.1 < y.1) :
    Calls Tryz.prog 127 #[.slice (some ⟨g, o, none⟩) n cap, .int .i64 n, .func (.func 119) #[] #[]] w fun e w' => e = .returned (.tuple #[]) ∧ (∃ S, Srt S ∧ S.Perm d ∧ CL w' g o S) ∧ But [g] w w' := by
  have HD := Lib.hid hd
  have HDL := Lib.hid hdl
  have HS := Lib.hid hs
  clear hd hdl hs
  go_enter Tryz.func127, Tryz.ntmps127
  go_wp2
  go_loopw [7, 8] (fun av bv wr => ∃ (a b : Nat) (d1 : List (Nat × Nat)), av = .int .i64 a ∧ bv = .int .i64 b ∧ Hid (b = a + 20) ∧ a ≤ n ∧ Fst d d1 a ∧ CL wr g o d1 ∧ But [g] w wr) (fun av _ _ => n - (intOf av).toNat)
  case atStart => exact ⟨0, 20, d, rfl, rfl, Lib.hid rfl, Nat.zero_le _, ⟨rfl, .zero, fun _ _ _ => rfl⟩, HD.out, But.refl _ _⟩
  case round =>
    obtain ⟨a, b, d1, rfl, rfl, hb, han, hF, hC, hB⟩ := hrel
    by_cases hlt : b ≤ n
    · have hins := insertion_piece (cap := cap) (a := a) (b := b) hC (hF.1.trans HDL.out) hn (Nat.lt_of_lt_of_le hgl hB.size) (by have := hb.out; omega) hlt (hF.pair HS.out)
      have HI := Lib.hid hins
      have HF := Lib.hid hF
      have HB := Lib.hid hB
      clear hins hF hB hC
      go_wp2_with fail
      refine HI.out.mono ?_
      rintro e w2 ⟨rfl, hB2, d2, hp, hC2⟩
      have HP := Lib.hid hp
      have HC2 := Lib.hid hC2
      have HB2 := Lib.hid hB2
      clear hp hC2 hB2
      go_wp2
      go_roundw
      case rel => exact ⟨b, b + 20, d2, rfl, by go_num, Lib.hid rfl, hlt, by have := HP.out; have h := hb.out; rw [h] at this ⊢; exact HF.out.next this, HC2.out, HB.out.trans HB2.out⟩
      case measure => have := hb.out; simp [intOf]; omega
    · have hins := insertion_piece (cap := cap) (a := a) (b := n) hC (hF.1.trans HDL.out) hn (Nat.lt_of_lt_of_le hgl hB.size) han (Nat.le_refl _) (hF.pair HS.out)
      have HI := Lib.hid hins
      have HF := Lib.hid hF
      have HB := Lib.hid hB
      have HLT := Lib.hid hlt
      clear hins hF hB hC
      go_wp2_with fail
      refine HI.out.mono ?_
      rintro e w2 ⟨rfl, hB2, d2, hp, hC2⟩
      have hr := HF.out.last han (by have := hb.out; have := HLT.out; omega) hp
      have HR := Lib.hid hr
      have HC2 := Lib.hid hC2
      have HB2 := Lib.hid (HB.out.trans hB2)
      clear hp hC2 hB2 hr hlt
      obtain ⟨wo, rfl⟩ : ∃ wo : World, wo = w2 := ⟨_, rfl⟩
      go_wp2
      go_loopw [6, 7, 8, 9] (fun bv av b2v mv wr => ∃ (B : Nat) (d1 : List (Nat × Nat)), bv = .int .i64 B ∧ 20 ≤ B ∧ B ≤ 2000 ∧ d1.length = d.length ∧ Rest B d d1 n 0 ∧ CL wr g o d1 ∧ But [g] w wr) (fun bv _ _ _ _ => n - (intOf bv).toNat)
      case atStart => exact ⟨20, d2, rfl, by omega, by omega, HR.out.1, HR.out.2, HC2.out, HB2.out⟩
      case round =>
        obtain ⟨B, d3, rfl, hB20, hB2k, hl3, hr3, hC3, hB3⟩ := hrel
        by_cases hBn : B < n
        · have HL3 := Lib.hid hl3
          have HR3 := Lib.hid hr3
          have HC3 := Lib.hid hC3
          have HB3 := Lib.hid hB3
          clear hl3 hr3 hC3 hB3
          obtain ⟨wi, rfl⟩ : ∃ wi : World, wi = wr := ⟨_, rfl⟩
          go_wp2
          go_loopw [7, 8] (fun av bv wr => ∃ (a b : Nat) (d1 : List (Nat × Nat)), av = .int .i64 a ∧ bv = .int .i64 b ∧ Hid (b = a + 2 * B) ∧ a ≤ n ∧ Snd B d d1 n a ∧ CL wr g o d1 ∧ But [g] w wr) (fun av _ _ => n - (intOf av).toNat)
          case atStart => exact ⟨0, 2 * B, d3, rfl, by go_num, Lib.hid (by omega), Nat.zero_le _, ⟨HL3.out, .zero, HR3.out⟩, HC3.out, HB3.out⟩
          case round =>
            obtain ⟨a, b, d4, rfl, rfl, hb4, han4, hS4, hC4, hB4⟩ := hrel
            have hal : (a : Int) + (B : Int) = ((a + B : Nat) : Int) := by omega
            by_cases hbl : b ≤ n
            · obtain ⟨c1, c2, c3⟩ := hS4.crs HS.out (by omega) (by have := hb4.out; omega)
              have hsy := sym_piece (cap := cap) (a := a) (m := a + B) (b := a + 2 * B) hC4 (hS4.1.trans HDL.out) hn (Nat.lt_of_lt_of_le hgl hB4.size) (by omega) (by omega) (by have := hb4.out; omega) c1 c2 c3
              have e4 := hb4.out
              rw [← e4] at hsy
              obtain ⟨ab, hab⟩ : ∃ ab, ab = a + B := ⟨_, rfl⟩
              rw [← hab] at hsy hal
              have HSY := Lib.hid hsy
              have HS4 := Lib.hid hS4
              have HB4 := Lib.hid hB4
              clear hsy hS4 hB4 hC4 c1 c2 c3 e4 hab
              go_wp2_with fail
              refine HSY.out.mono ?_
              rintro e w5 ⟨rfl, hB5, d5, hp5, hC5⟩
              have HP := Lib.hid hp5
              have HC5 := Lib.hid hC5
              have HB5 := Lib.hid hB5
              clear hp5 hC5 hB5 hal
              go_wp2
              go_roundw
              case rel => exact ⟨b, b + 2 * B, d5, rfl, by go_num, Lib.hid rfl, hbl, by have := HP.out; have h := hb4.out; rw [h] at this ⊢; exact HS4.out.next (by omega) (by omega) this, HC5.out, HB4.out.trans HB5.out⟩
              case measure => have := hb4.out; simp [intOf]; omega
            · obtain ⟨ab, hab⟩ : ∃ ab, ab = a + B := ⟨_, rfl⟩
              rw [← hab] at hal
              by_cases hmn : ab < n
              · obtain ⟨c1, c2, c3⟩ := hS4.crs2 HS.out (by omega) (by have := hb4.out; omega)
                have hsy := sym_piece (cap := cap) (a := a) (m := a + B) (b := n) hC4 (hS4.1.trans HDL.out) hn (Nat.lt_of_lt_of_le hgl hB4.size) (by omega) (by omega) (Nat.le_refl _) c1 c2 c3
                rw [← hab] at hsy
                have HSY := Lib.hid hsy
                have HS4 := Lib.hid hS4
                have HB4 := Lib.hid hB4
                have HBL := Lib.hid hbl
                have HAB := Lib.hid hab
                clear hsy hS4 hB4 hC4 c1 c2 c3 hab
                go_wp2_with fail
                refine HSY.out.mono ?_
                rintro e w5 ⟨rfl, hB5, d5, hp5, hC5⟩
                have hh := HS4.out.half (by have := HAB.out; omega) (by have := hb4.out; have := HBL.out; omega) hp5
                have HH := Lib.hid hh
                have HC5 := Lib.hid hC5
                have HB5 := Lib.hid hB5
                clear hp5 hC5 hB5 hh
                go_wp2
                go_roundw
                case rel => exact ⟨2 * B, d5, by go_num, by omega, by omega, HH.out.1, HH.out.2, HC5.out, HB4.out.trans HB5.out⟩
                case measure => simp [intOf]; omega
              · have hh := hS4.none han4 (by omega)
                have HH := Lib.hid hh
                have HC5 := Lib.hid hC4
                have HB5 := Lib.hid hB4
                clear hh hC4 hB4 hS4 hab
                go_wp2
                go_roundw
                case rel => exact ⟨2 * B, d4, by go_num, by omega, by omega, HH.out.1, HH.out.2, HC5.out, HB5.out⟩
                case measure => simp [intOf]; omega
        · have hg := hr3.end' (n := n) (by omega)
          have hw := Good.whole hl3 (by have e := HDL.out; rw [e]; exact hg)
          have HW := Lib.hid hw
          have HC3 := Lib.hid hC3
          have HB3 := Lib.hid hB3
          clear hl3 hr3 hC3 hB3 hg hw
          go_wp2
          go_end0
          exact ⟨rfl, ⟨d3, HW.out.1, HW.out.2, HC3.out⟩, HB3.out⟩
theorem sorts_all : SortsUpTo 1000 := sorts_of fun hd hdl hn hgl hs => stable_any hd hdl hn hgl hs
end Go.Proofs.YtghegmbafbpnjaaGreatDoor
namespace Go.Proofs.YtghegmbafbpnjaaGreatDoor
set_option maxRecDepth 100000
open Go Go.RowKit
theorem limit_list {w : World} {A : Option Addr} {len cap M : Nat} {l : List Int} (hl : Ints w A len l) (hM1 : 1 ≤ M) (hM2 : M ≤ 15) (h288 : len ≤ 288) (hok : okCounts l = true) (hp : (csOf l len).length ≤ 2 ^ M) {m : Int} (hm : (M : Int) = m) :
    Calls Tryz.prog 80 #[.int .i64 m, .slice A len cap] w (GotList w len (lims M l)) := by
  subst hm
  refine (limit_late sorts_all hl hM1 hM2 h288 (by have := length_coins0 l len; omega)).mono ?_
  rintro e w' (⟨_, _, h⟩ | ⟨h, _⟩)
  · exact h
  · rcases h with h | h
    · rw [hok] at h; cases h
    · omega
end Go.Proofs.YtghegmbafbpnjaaGreatDoor
namespace Go.Proofs.YtghegmbafbpnjaaGreatDoor
set_option maxRecDepth 100000
open Go Go.RowKit
/-- A row of so many numbers 0. -/
def zeroRow (n : Nat) : Array Value := madeCells (Value.int .i64 0).cells (n * 1)
theorem run_zeros (n : Nat) (hn : n ≤ 1000) (w : World) : (Instr.makeSlice 58 (.int .i64 (n : Int)) (.int .i64 (n : Int))).run Tryz.prog w = .ok (.slice (some ⟨w.heap.size, 0, none⟩) n n) (w.alloc (.cells (zeroRow n) 3)) := by
  obtain ⟨i0, hi0, hz0, hz1, hz2⟩ := info_parts info_int
  have h := run_makeSlice (P := Tryz.prog) w 58 3 i0 (.int .i64 0) Tryz.underlying58 hi0 hz0 .i64 .i64 (n : Int) (n : Int) (by omega) (by omega) (by rw [hz1]; omega) (by rw [hz2]; omega) (by omega)
  rw [hz1] at h
  simpa [zeroRow] using h
/-- A new thing: its own block, and the block of its numbers, all 0. -/
def NewThing (w W : World) (len x : Nat) (b : Bool) (v : Value) : Prop := ∃ gc gt, v = .pointer (some ⟨gc, 0, none⟩) ∧ w.heap.size ≤ gc ∧ w.heap.size ≤ gt ∧ gc ≠ gt ∧
  Is W gc 130 #[.int .i64 x, .bool b, .slice (some ⟨gt, 0, none⟩) len len] ∧ Is W gt 3 (zeroRow len) ∧ But [] w W

theorem NewThing.a (w : World) (len x : Nat) (b : Bool) : NewThing w ((w.alloc (.cells (zeroRow len) 3)).alloc (.cells #[.int .i64 x, .bool b, .slice (some ⟨w.heap.size, 0, none⟩) len len] 130)).drew len x b (.pointer (some ⟨w.heap.size + 1, 0, none⟩)) := by
  have h := Is.fresh (w.alloc (.cells (zeroRow len) 3)) 130 #[.int .i64 x, .bool b, .slice (some ⟨w.heap.size, 0, none⟩) len len]
  rw [show (w.alloc (.cells (zeroRow len) 3)).heap.size = w.heap.size + 1 from by simp] at h
  exact ⟨w.heap.size + 1, w.heap.size, rfl, by omega, by omega, by omega, h.drew, ((Is.fresh w 3 (zeroRow len)).alloc _).drew, (((But.refl [] w).alloc _).alloc _).drew⟩
theorem Things.take {w : World} {A : Option Addr} {n len sp : Nat} {L : List Th} (h : Things w A n len L) (hs : sp ≤ n) : Things w A sp len (L.take sp) := by
  refine ⟨by have := h.1; simp; omega, fun h0 => ?_, fun x hx => h.2.2 x (List.mem_of_mem_take hx)⟩
  obtain ⟨g, o, e, hg, hc⟩ := h.2.1 (by omega)
  exact ⟨g, o, e, hg, fun i hi => by
    have hi' : i < L.length := by simp at hi; omega
    rw [List.getElem_take]; exact hc i hi'⟩
theorem Things.drop {w : World} {g o n len sp : Nat} {L : List Th} (h : Things w (some ⟨g, o, none⟩) n len L) (hs : sp ≤ n) : Things w (some ⟨g, o + sp * 3, none⟩) (n - sp) len (L.drop sp) := by
  refine ⟨by have := h.1; simp; omega, fun h0 => ?_, fun x hx => h.2.2 x (List.mem_of_mem_drop hx)⟩
  obtain ⟨g', o', e, hg, hc⟩ := h.2.1 (by omega)
  injection e with e
  injection e with e1 e2
  subst e1 e2
  refine ⟨g, o + sp * 3, rfl, hg, fun i hi => ?_⟩
  have hi' : sp + i < L.length := by simp at hi; omega
  rw [List.getElem_drop]
  have := hc (sp + i) hi'
  rw [show o + sp * 3 + i * 3 = o + (sp + i) * 3 from by rw [Nat.add_mul]; omega]
  exact this
theorem OwnT.some {w : World} {base len : Nat} {v : Value} {L : List Th} (h : OwnT w base len v L) (h0 : 0 < L.length) : ∃ g c, v = .slice (some ⟨g, 0, none⟩) L.length c ∧ L.length ≤ c ∧ base ≤ g := by
  unfold OwnT at h
  rcases h.2 with ⟨_, e⟩ | ⟨g, cap, cur, e, hg, hh, hcap, r⟩
  · omega
  · exact ⟨g, cap, e, hcap, hg⟩
/-- The numbers of each of these lie in a block of their own. -/
def VecsT (w : World) (base len : Nat) (P : List Th) : Prop := ∀ y ∈ P, ∃ gt cs, y.a = some ⟨gt, 0, none⟩ ∧ base ≤ gt ∧ Is w gt 3 cs ∧ Ints w y.a len y.v
theorem VecsT.but {w w' : World} {base len : Nat} {P : List Th} (h : VecsT w base len P) {S : List Nat} (hw : But S w w') (hS : ∀ g cs, Is w g 3 cs → g ∉ S) : VecsT w' base len P := fun y hy => by
  obtain ⟨gt, cs, e, hb, hi, hv⟩ := h y hy
  refine ⟨gt, cs, e, hb, hi.but hw (hS gt cs hi), hv.but hw fun k hk a ea hab => ?_⟩
  rw [e] at ea
  injection ea with ea
  subst ea
  exact hS gt cs hi (by rw [show gt = k from hab]; exact hk)
end Go.Proofs.YtghegmbafbpnjaaGreatDoor
set_option maxRecDepth 100000
set_option linter.unusedVariables false
namespace Go.Proofs.YtghegmbafbpnjaaGreatDoor
set_option maxRecDepth 100000
open Go Go.RowKit
theorem zeroRow_eq (n : Nat) : zeroRow n = ((List.replicate n (0 : Int)).map (Value.int .i64)).toArray := by
  apply Array.ext_getElem?
  intro j
  unfold zeroRow madeCells
  have e : (Value.int .i64 0).cells = #[.int .i64 0] := rfl
  rw [e]
  by_cases hj : j < n
  · simp [hj, Nat.mod_one]
  · simp [hj]
theorem cntB_lit (ts : List Tk) (t : Tk) (h : t.1 = 0) : cntB (ts ++ [t]) = cntB ts := by unfold cntB; rw [tally_snoc, if_pos h]
theorem cntB_mat (ts : List Tk) (t : Tk) (h : t.1 ≠ 0) : cntB (ts ++ [t]) = inc (cntB ts) (dsym t.2.1) := by unfold cntB; rw [tally_snoc, if_neg h]
theorem cntA_few (ts : List Tk) (j : Nat) : 0 ≤ (cntA ts).getD j 0 ∧ (cntA ts).getD j 0 ≤ 1 + ts.length := by
  have h1 := tally_ge (fun t : Tk => some (symA t)) j ts ((List.replicate 286 (0 : Int)).set 256 1)
  have h2 := tally_le (fun t : Tk => some (symA t)) j ts ((List.replicate 286 (0 : Int)).set 256 1)
  have h3 := start_at j
  have h4 : ((List.replicate 286 (0 : Int)).set 256 1).getD j 0 ≤ 1 := by rw [set_getD, zeros_at]; split <;> omega
  unfold cntA
  omega
theorem cntB_few (ts : List Tk) (j : Nat) : 0 ≤ (cntB ts).getD j 0 ∧ (cntB ts).getD j 0 ≤ ts.length := by
  have h1 := tally_ge (fun t : Tk => if t.1 = 0 then none else some (dsym t.2.1)) j ts (List.replicate 30 (0 : Int))
  have h2 := tally_le (fun t : Tk => if t.1 = 0 then none else some (dsym t.2.1)) j ts (List.replicate 30 (0 : Int))
  have h3 := zeros_at 30 j
  unfold cntB
  omega
attribute [local irreducible] layTs layC layB fixL fixD toks textX cntA cntB zeroRow
theorem row_zeros (w : World) (n : Nat) : Row (w.alloc (.cells (zeroRow n) 3)) w.heap.size 3 (List.replicate n 0) := by
  unfold Row
  rw [← zeroRow_eq]
  exact Is.fresh w _ _
theorem Row.alloc {w : World} {B : Nat} {t : TypeId} {l : List Int} (h : Row w B t l) (o : Obj) : Row (w.alloc o) B t l := Is.alloc h o
theorem Row.far {w : World} {B : Nat} {t : TypeId} {l : List Int} (h : Row w B t l) {p : Addr} (hp : B ≠ p.block) (u : Value) : Row (w.setCell p u) B t l := Is.far h hp u
theorem Row.free {w : World} {B : Nat} {t : TypeId} {l : List Int} (h : Row w B t l) (i : Nat) : w.frozen? ⟨B, i, none⟩ = false := Is.free h i
/-- A row's number one more. -/
theorem Row.inc {w : World} {B : Nat} {t : TypeId} {l : List Int} (h : Row w B t l) {i : Nat} {v : Int} (hv : v = l.getD i 0) : Row (w.setCell ⟨B, i, none⟩ (.int .i64 (v + 1))) B t (Go.Proofs.YtghegmbafbpnjaaGreatDoor.inc l i) := by
  subst hv; exact h.set i _
end Go.Proofs.YtghegmbafbpnjaaGreatDoor
set_option maxRecDepth 100000
set_option linter.unusedVariables false
namespace Go.Proofs.YtghegmbafbpnjaaGreatDoor
set_option maxRecDepth 100000
open Go Go.RowKit
theorem cntB_nil : cntB [] = List.replicate 30 (0 : Int) := by unfold cntB; rfl
theorem dynL_eq (l : List UInt8) : dynL l = layC (lenA (toks l)) (layTs (lenA (toks l)) (lenB (toks l)) (layRs (lenS (lenA (toks l) ++ lenB (toks l))) (layS3 (lenS (lenA (toks l) ++ lenB (toks l))) (layB (layB (layB (layB (layB (0, 0) 1 1) 2 2) ((lenA (toks l)).length - 257) 5) ((lenB (toks l)).length - 1) 5) ((told (lenS (lenA (toks l) ++ lenB (toks l)))).length - 4) 4) (ordS.take (told (lenS (lenA (toks l) ++ lenB (toks l)))).length)) (runs (lenA (toks l) ++ lenB (toks l)))) (toks l)) 256 := rfl
attribute [local irreducible] layTs layC layB fixL fixD toks textX cntA cntB zeroRow dynL inc lsym dsym
theorem symA_lit {t : Tk} (h : t.1 = 0) : symA t = t.2.2 := by unfold symA; rw [if_pos h]
theorem symA_mat {t : Tk} (h : t.1 ≠ 0) : symA t = lsym t.1 := by unfold symA; rw [if_neg h]
theorem wrap1 {a : Int} (h0 : 0 ≤ a) (h1 : a ≤ 99990) : IntKind.i64.wrap (a + 1) = a + 1 := wrapi (by omega) (by omega) 
theorem okC {l : List Int} (h : ∀ j, 0 ≤ l.getD j 0 ∧ l.getD j 0 ≤ 1000000) : okCounts l = true := by
  unfold okCounts
  rw [List.all_eq_true]
  intro x hx
  obtain ⟨i, hi, rfl⟩ := List.getElem_of_mem hx
  have h1 := h i
  rw [List.getD_eq_getElem?_getD, List.getElem?_eq_getElem hi] at h1
  unfold okCount
  simp only [decide_eq_true_eq]
  have h2 : 0 ≤ l[i] ∧ l[i] ≤ 1000000 := h1
  omega
theorem take_self (l : List Int) (n : Nat) : l.take (l.take n).length = l.take n := by
  rw [List.take_eq_take_iff, List.length_take]; omega
theorem lenA_take (ts : List Tk) : (lims 15 (cntA ts)).take (lenA ts).length = lenA ts := take_self _ _
theorem lenB_take (ts : List Tk) : (lims 15 (cntB ts)).take (lenB ts).length = lenB ts := take_self _ _
theorem lenA_286 (ts : List Tk) : (lenA ts).length ≤ 286 := by
  unfold lenA; rw [upto0_len]
  have := uptoN_le (lims 15 (cntA ts)) 257 (lims 15 (cntA ts)).length
  rw [length_lims, length_cntA] at *; exact this
theorem lenB_30 (ts : List Tk) : (lenB ts).length ≤ 30 := by
  unfold lenB; rw [upto0_len]
  have := uptoN_le (lims 15 (cntB ts)) 1 (lims 15 (cntB ts)).length
  rw [length_lims, length_cntB] at *; exact this
/-- How often each code stands in runs. -/
def cntR (rs : List (Int × Nat)) : List Int := tally (fun c : Int × Nat => some c.1.toNat) (List.replicate 19 0) rs
theorem cntS_R (ls : List Int) : cntS ls = cntR (runs ls) := rfl
theorem cntR_nil : cntR [] = List.replicate 19 (0 : Int) := rfl
theorem length_cntR (rs : List (Int × Nat)) : (cntR rs).length = 19 := by unfold cntR; rw [length_tally]; simp
theorem cntR_snoc (rs : List (Int × Nat)) (c : Int × Nat) : cntR (rs ++ [c]) = Go.Proofs.YtghegmbafbpnjaaGreatDoor.inc (cntR rs) c.1.toNat := by unfold cntR; rw [tally_snoc]
theorem cntR_few (rs : List (Int × Nat)) (j : Nat) : 0 ≤ (cntR rs).getD j 0 ∧ (cntR rs).getD j 0 ≤ rs.length := by
  have h1 := tally_ge (fun c : Int × Nat => some c.1.toNat) j rs (List.replicate 19 (0 : Int))
  have h2 := tally_le (fun c : Int × Nat => some c.1.toNat) j rs (List.replicate 19 (0 : Int))
  have h3 := zeros_at 19 j
  unfold cntR
  omega
theorem runsG_few (l : List Int) : ∀ f i, (runsG l f i).length ≤ f
  | 0, _ => Nat.le_refl _
  | f + 1, i => by
    rw [runsG]
    split
    · have := runsG_few l f (i + (runAt l i).2.2)
      rw [List.length_cons]; omega
    · exact Nat.zero_le _
theorem runs_few (l : List Int) : (runs l).length ≤ l.length := runsG_few l _ _
theorem runs_codes {l : List Int} (h15 : ∀ i, 0 ≤ l.getD i 0 ∧ l.getD i 0 ≤ 15) : ∀ c ∈ runs l, 0 ≤ c.1 ∧ c.1 ≤ 18 := runsG_codes h15 _ _
attribute [local irreducible] cntR runs
theorem tellS_snoc (S : List Int) {k : Nat} (hk : k < 19) : (ordS.take (k + 1)).map (fun j => S.getD j 0) = (ordS.take k).map (fun j => S.getD j 0) ++ [S.getD (ordS.getD k 0) 0] := by
  have hl : k < ordS.length := hk
  rw [List.take_succ_eq_append_getElem hl, List.map_append, List.getD_eq_getElem?_getD (l := ordS), List.getElem?_eq_getElem hl]; rfl
theorem tellS_len (S : List Int) {k : Nat} (hk : k ≤ 19) : ((ordS.take k).map (fun j => S.getD j 0)).length = k := by
  have hl : ordS.length = 19 := rfl
  rw [List.length_map, List.length_take]; omega
theorem layS3_snoc (S : List Int) (q : Nat × Nat) {j : Nat} (hj : j < 19) : layS3 S q (ordS.take (j + 1)) = layB (layS3 S q (ordS.take j)) (S.getD (ordS.getD j 0) 0).toNat 3 := by
  have hl : j < ordS.length := hj
  rw [List.take_succ_eq_append_getElem hl, List.getD_eq_getElem?_getD (l := ordS), List.getElem?_eq_getElem hl]
  unfold layS3
  rw [List.foldl_append]; rfl
theorem layS3_nil (S : List Int) (q : Nat × Nat) : layS3 S q (ordS.take 0) = q := rfl
theorem layRs_snoc (S : List Int) (q : Nat × Nat) (rs : List (Int × Nat)) (c : Int × Nat) : layRs S q (rs ++ [c]) = layR S (layRs S q rs) c := by
  unfold layRs; rw [List.foldl_append]; rfl
theorem layR_plain {S : List Int} {q : Nat × Nat} {y m : Nat} (h : y < 16) : layR S q ((y : Int), m) = layC S q y := by
  unfold layR; rw [if_neg (by dsimp only; omega), if_neg (by dsimp only; omega), if_neg (by dsimp only; omega)]; rfl
theorem layR_c16 {S : List Int} {q : Nat × Nat} {y m : Nat} (h : y = 16) : layR S q ((y : Int), m) = layB (layC S q y) m 2 := by subst h; rfl
theorem layR_c17 {S : List Int} {q : Nat × Nat} {y m : Nat} (h : y = 17) : layR S q ((y : Int), m) = layB (layC S q y) m 3 := by subst h; rfl
theorem layR_c18 {S : List Int} {q : Nat × Nat} {y m : Nat} (h : y = 18) : layR S q ((y : Int), m) = layB (layC S q y) m 7 := by subst h; rfl
theorem csA {l : List Int} {n m : Nat} (hl : l.length = n) (h : n ≤ m) : (csOf l n).length ≤ m := by
  have := csOf_few l
  rw [hl] at this
  omega
end Go.Proofs.YtghegmbafbpnjaaGreatDoor
