/- Several texts in one: DkQ, DkS (what DiskDies reach of them). -/
import Derived.Test.YtchpincoddghfaaK01
import Derived.Test.YtchpincoddghfaaK02
import Derived.Test.YtchpincoddghfaaK06
import Derived.Below
import Derived.BigQuiet
import Derived.BigRegion
import Derived.Deep.AppendLies
import Derived.Deep.Cut
import Derived.Deep.CutBlock
import Derived.Deep.CutRange
import Derived.Deep.DeepCutAuto
import Derived.Deep.Draws
import Derived.Deep.Onto
import Derived.Deep.QuietTactic
import Derived.Deep.RegionLaw
import Derived.Deep.RegionWith
import Derived.Handy
import Derived.Laws.BitsAllLaws
import Derived.Laws.BitsLemmas
import Derived.Laws.BytesArg
import Derived.Laws.IdiomStrings
import Derived.Laws.MakeOwn
import Derived.Laws.OwnMore
import Derived.Laws.Rows
import Derived.Lib.Hide
import Derived.Maps.AppendAt
import Derived.OrdersHeld
import Derived.OrdersIn
import Derived.Outline
import Derived.OwnWalk
import Derived.OwnWalkIn
import Derived.RangeFuncCalls
import Derived.RegionTactic
import Derived.TacticsInMore
import Derived.Test.YtchpincoddghfaaChecked
import Derived.WalkKit
set_option maxRecDepth 100000
set_option linter.unusedVariables false
set_option maxRecDepth 100000
set_option linter.unusedVariables false
namespace Go.Proofs.Ytchpincoddghfaa
set_option maxRecDepth 100000
open Go Go.RowKit
section
variable {PD : World → Nat → List Nat → D16 → Prop}
theorem idead (C : DkC PD) {w wi : World} {b : Nat} {σ : D16} (h : Inv PD w wi b σ) :
    Calls Try.prog 30 #[.pointer (some ⟨b, 0, none⟩)] wi fun e w' => e = .returned (.bool σ.dead) ∧ Inv PD w w' b σ := by
  obtain ⟨S, h1, h2, h3⟩ := h
  exact (C.dead wi h1).mono fun e w' ⟨he, hl⟩ => ⟨he, inv_left (σ := σ) h2 h3 hl⟩
theorem icrash0 (C : DkC PD) {w wi : World} {b : Nat} {σ : D16} (h : Inv PD w wi b σ) :
    Calls Try.prog 21 #[.pointer (some ⟨b, 0, none⟩), .slice none 0 0] wi fun e w' => e = .returned (.tuple #[]) ∧ Inv PD w w' b (crashs16 σ []) := by
  obtain ⟨S, h1, h2, h3⟩ := h
  exact (C.crash wi (A := none) (nk := 0) (ck := 0) (all := []) h1 ⟨rfl, fun h => absurd h (by omega)⟩ (fun x hx => by simp at hx) (Nat.le_refl _) (fun h => absurd h (by omega))).mono fun e w' ⟨he, hl⟩ => ⟨he, inv_left (σ := σ) h2 h3 hl⟩
end
end Go.Proofs.Ytchpincoddghfaa
set_option maxRecDepth 100000
set_option linter.unusedVariables false
namespace Go.Proofs.Ytchpincoddghfaa
set_option maxRecDepth 100000
open Go Go.RowKit
/-- An empty disk that was armed at K (0: not), behind j calls of Sync. -/
def stD (K j : Nat) : D16 := if K = 0 ∨ j < K then ⟨[], 1000, K - j, false, j⟩ else ⟨[], 1000, 0, true, K⟩
theorem stD_live {K j : Nat} (h : K = 0 ∨ j < K) : stD K j = ⟨[], 1000, K - j, false, j⟩ := by unfold stD; rw [if_pos h]
theorem stD_dead {K j : Nat} (h : ¬ (K = 0 ∨ j < K)) : stD K j = ⟨[], 1000, 0, true, K⟩ := by unfold stD; rw [if_neg h]
theorem wrong_in {σ : D16} {n : Nat} (hd : σ.dead = false) (hn : n ≤ 65535) : wrong16 σ (n : Int) = 0 := by
  unfold wrong16
  rw [hd, if_neg (by decide), if_neg (by omega)]
theorem sync_live {K i : Nat} (h1 : 1 ≤ i) (hi : i ≤ 65535) (h : K = 0 ∨ i < K) : syncs16 (stD K (i - 1)) (i : Int) = (stD K i, 0) := by
  rw [stD_live (j := i - 1) (by omega), stD_live h]
  unfold syncs16
  rw [wrong_in rfl hi, if_neg (by decide)]
  have hd : (step16 ⟨[], 1000, K - (i - 1), false, i - 1⟩).dead = false := by
    show (false || (K - (i - 1) == 1)) = false
    rw [Bool.false_or, beq_eq_false_iff_ne]; omega
  rw [hd, if_neg (by decide)]
  unfold step16 sync16
  simp only [List.map_nil]
  have e1 : i - 1 + 1 = i := by omega
  have e2 : K - (i - 1) - 1 = K - i := by omega
  have e3 : (K - (i - 1) == 1) = false := by rw [beq_eq_false_iff_ne]; omega
  rw [e1, e2, e3]
  rfl
theorem sync_dead {K i : Nat} (h1 : 1 ≤ i) (hi : i ≤ 65535) (h : ¬ (K = 0 ∨ i < K)) : syncs16 (stD K (i - 1)) (i : Int) = (stD K i, 50) := by
  rw [stD_dead h]
  by_cases h2 : i - 1 < K
  · rw [stD_live (.inr h2)]
    have e0 : K = i := by omega
    unfold syncs16
    rw [wrong_in rfl hi, if_neg (by decide)]
    have e3 : (K - (i - 1) == 1) = true := by rw [beq_iff_eq]; omega
    have hd : (step16 ⟨[], 1000, K - (i - 1), false, i - 1⟩).dead = true := by
      show (false || (K - (i - 1) == 1)) = true
      rw [Bool.false_or]; exact e3
    rw [hd, if_pos rfl]
    unfold step16
    rw [e3, show i - 1 + 1 = K by omega, show K - (i - 1) - 1 = 0 by omega]
    rfl
  · rw [stD_dead (by omega)]
    unfold syncs16 wrong16
    simp
theorem stD_read (K j : Nat) : read16 (stD K j) 0 = ([], if K = 0 ∨ j < K then 0 else 50) := by
  unfold stD
  split
  · rfl
  · rfl
theorem stD_crash (K j : Nat) : ∃ s, crashs16 (stD K j) [] = ⟨[], 1000, 0, false, s⟩ ∧ s ≤ j := by
  unfold stD
  split
  · exact ⟨j, rfl, Nat.le_refl _⟩
  · exact ⟨K, rfl, by omega⟩
theorem app_after (s : Nat) : (append16 ⟨[], 1000, 0, false, s⟩ 0 [120]).2 = 0 := rfl
theorem stD_steps (K j : Nat) : (stD K j).steps ≤ j ∧ (stD K j).armed ≤ K ∧ (stD K j).dead = !decide (K = 0 ∨ j < K) := by
  unfold stD
  split
  · rename_i h; exact ⟨Nat.le_refl _, Nat.sub_le _ _, by rw [decide_eq_true h]; rfl⟩
  · rename_i h; exact ⟨by show K ≤ j; omega, Nat.zero_le _, by rw [decide_eq_false h]; rfl⟩
set_option maxHeartbeats 2000000 in
theorem diskDies_walk {PD : World → Nat → List Nat → D16 → Prop} (C : DkC PD) {a c : Int} {w : World} (ha : (Lit.int .i64 a).wf = true) (hc : (Lit.int .i64 c).wf = true) : Calls Try.prog 5 #[.int .i64 a, .int .i64 c] w fun e w' => e = .returned (.bool true) ∧ Below w.heap.size w w' := by
  have ha2 : -9223372036854775808 ≤ a ∧ a ≤ 9223372036854775807 := by simpa [Lit.wf, IntKind.min, IntKind.max, IntKind.bits, IntKind.signed] using ha
  have hc2 : -9223372036854775808 ≤ c ∧ c ≤ 9223372036854775807 := by simpa [Lit.wf, IntKind.min, IntKind.max, IntKind.bits, IntKind.signed] using hc
  have HA := Lib.hid (awake16_of C)
  obtain ⟨K, hK⟩ : ∃ K, K = a.toNat := ⟨_, rfl⟩
  obtain ⟨m, hm⟩ : ∃ m : Nat, (m : Int) = (if c < 0 then 0 else c) := ⟨(if c < 0 then 0 else c).toNat, by split <;> omega⟩
  obtain ⟨n, hn⟩ : ∃ n : Nat, (n : Int) = (if (200 : Int) < (m : Int) then 200 else (m : Int)) := ⟨(if (200 : Int) < (m : Int) then 200 else (m : Int)).toNat, by split <;> omega⟩
  have hnl : n ≤ 200 := by split at hn <;> omega
  have km : ∀ v, (Builtin.max_ #[3, 3] 3 #[.int .i64 c, .int .i64 0]).run Try.prog v = .ok (.int .i64 (m : Int)) v := fun v => by
    rw [hm]
    simp [Builtin.max_, Builtin.max2]
  have kn : ∀ v, (Builtin.min_ #[3, 3] 3 #[.int .i64 (m : Int), .int .i64 200]).run Try.prog v = .ok (.int .i64 (n : Int)) v := fun v => by
    rw [hn]
    simp [Builtin.min_, Builtin.min2]
  have H0 : Hid (Calls Try.prog 7 #[.int .i64 1000] w fun e w' => ∃ b, e = .returned (.tuple #[.pointer (some ⟨b, 0, none⟩), .int .i64 0]) ∧ Inv PD w w' b (new16 1000)) := Lib.hid (inew C w 1000 (by decide) (by decide))
  have H1 : Hid (∀ wi b, Inv PD w wi b (new16 1000) → Calls Try.prog 19 #[.pointer (some ⟨b, 0, none⟩), .int .i64 a] wi fun e w' => e = .returned (.tuple #[]) ∧ Inv PD w w' b (stD K 0)) := Lib.hid fun wi b h => by
    have e : arm16 (new16 1000) a = stD K 0 := by
      rw [stD_live (by omega)]
      unfold arm16 new16
      rw [← hK]; rfl
    rw [← e]; exact iarm C h a
  have H2 : Hid (∀ wi b (i : Nat), 1 ≤ i → i ≤ n → Inv PD w wi b (stD K (i - 1)) → Calls Try.prog 13 #[.pointer (some ⟨b, 0, none⟩), .int .i64 (i : Nat)] wi fun e w' => e = .returned (.int .i64 (if K = 0 ∨ i < K then 0 else 50)) ∧ Inv PD w w' b (stD K i)) := Lib.hid fun wi b i h1 h2 h => by
    have hs := stD_steps K (i - 1)
    have := isync C h (i : Int) (by omega) (by omega)
    by_cases hl : K = 0 ∨ i < K
    · rw [sync_live h1 (by omega) hl] at this
      rw [if_pos hl]; exact this
    · rw [sync_dead h1 (by omega) hl] at this
      rw [if_neg hl]; exact this
  have H3 : Hid (∀ wi b, Inv PD w wi b (stD K n) → Calls Try.prog 23 #[.pointer (some ⟨b, 0, none⟩), .int .i64 0] wi fun e w' => e = .returned (.tuple #[.string (strL []), .int .i64 (if K = 0 ∨ n < K then 0 else 50)]) ∧ Inv PD w w' b (stD K n)) := Lib.hid fun wi b h => by
    have := iread C h 0
    rw [stD_read] at this
    exact this
  have H4 : Hid (∀ wi b, Inv PD w wi b (stD K n) → Calls Try.prog 30 #[.pointer (some ⟨b, 0, none⟩)] wi fun e w' => e = .returned (.bool (!decide (K = 0 ∨ n < K))) ∧ Inv PD w w' b (stD K n)) := Lib.hid fun wi b h => by
    have := idead C h
    rw [(stD_steps K n).2.2] at this
    exact this
  obtain ⟨s, hs, hsn⟩ := stD_crash K n
  have H5 : Hid (∀ wi b, Inv PD w wi b (stD K n) → Calls Try.prog 21 #[.pointer (some ⟨b, 0, none⟩), .slice none 0 0] wi fun e w' => e = .returned (.tuple #[]) ∧ Inv PD w w' b ⟨[], 1000, 0, false, s⟩) := Lib.hid fun wi b h => by
    rw [← hs]; exact icrash0 C h
  have H6 : Hid (∀ wi b, Inv PD w wi b ⟨[], 1000, 0, false, s⟩ → Calls Try.prog 30 #[.pointer (some ⟨b, 0, none⟩)] wi fun e w' => e = .returned (.bool false) ∧ Inv PD w w' b ⟨[], 1000, 0, false, s⟩) := Lib.hid fun wi b h => idead C h
  have H7 : Hid (∀ wi b, Inv PD w wi b ⟨[], 1000, 0, false, s⟩ → Calls Try.prog 10 #[.pointer (some ⟨b, 0, none⟩), .int .i64 0, .string { data := #[120] }] wi fun e w' => e = .returned (.int .i64 0) ∧ But [] w w') := Lib.hid fun wi b h => by
    refine (iappend C h 0 { data := #[120] } (by show s < _; omega) (by show 0 ≤ _; decide) (by decide)).mono ?_
    rintro e w' ⟨he, hi⟩
    exact ⟨he.trans (congrArg (fun z => Ending.returned (.int .i64 z)) (app_after s)), hi.all⟩
  clear hs hm hn ha hc hsn
  by_cases ha1 : a < 1
  · have hK0 : K = 0 := by omega
    go_enter Try.func5, Try.ntmps5
    go_wp2_with fail
    refine H0.out.mono ?_
    rintro e w1 ⟨b, rfl, hI⟩
    have HI := Lib.hid hI
    clear hI
    go_wp2_with fail
    refine (H1.out _ _ HI.out).mono ?_
    rintro e w2 ⟨rfl, hI⟩
    have HI := Lib.hid hI
    clear hI
    go_wp2_with fail
    go_loopw [8] (fun kv wr => ∃ i : Nat, 1 ≤ i ∧ i ≤ n + 1 ∧ kv = .int .i64 i ∧ Hid (Inv PD w wr b (stD K (i - 1)))) (fun kv _ => n + 1 - (intOf kv).toNat)
    case atStart => exact ⟨1, Nat.le_refl _, by omega, rfl, HI⟩
    case round =>
      clear HI
      obtain ⟨i, hi1, hi2, rfl, HI⟩ := hrel
      by_cases hlt : i ≤ n
      · have c1 : decide ((i : Int) ≤ (n : Int)) = true := by simp; omega
        have c1n : decide (i ≤ n) = true := by simp; omega
        have HS := Lib.hid (H2.out wr b i hi1 hlt HI.out)
        rw [if_pos (.inl hK0)] at HS
        have c2 : a < 1 := ha1
        go_wp2_with fail
        refine HS.out.mono ?_
        rintro e w3 ⟨rfl, hI⟩
        have HI := Lib.hid hI
        clear hI HS
        go_wp2
        go_roundw
        case rel => exact ⟨i + 1, by omega, by omega, by go_num, by rw [Nat.add_sub_cancel]; exact HI⟩
        case measure => simp [intOf] <;> omega
      · obtain rfl : i = n + 1 := by omega
        rw [Nat.add_sub_cancel] at HI
        have c1 : decide ((n : Int) + 1 ≤ (n : Int)) = false := by simp; omega
        have c1b : decide (((n + 1 : Nat) : Int) ≤ (n : Int)) = false := by simp; omega
        have c1n : decide (n + 1 ≤ n) = false := by simp
        have c1p : ¬ ((n + 1 : Nat) : Int) ≤ (n : Int) := by omega
        rw [if_pos (.inl hK0)] at H3
        rw [decide_eq_true (.inl hK0 : K = 0 ∨ n < K)] at H4
        have c2 : ¬ 1 ≤ a := by omega
        go_wp2_with fail
        refine (H3.out _ _ HI.out).mono ?_
        rintro e w4 ⟨rfl, hI⟩
        have HI := Lib.hid hI
        clear hI
        go_wp2_with fail
        refine (H4.out _ _ HI.out).mono ?_
        rintro e w5 ⟨rfl, hI⟩
        have HI := Lib.hid hI
        clear hI
        go_wp2_with fail
        refine (H5.out _ _ HI.out).mono ?_
        rintro e w6 ⟨rfl, hI⟩
        have HI := Lib.hid hI
        clear hI
        go_wp2_with fail
        refine (H6.out _ _ HI.out).mono ?_
        rintro e w7 ⟨rfl, hI⟩
        have HI := Lib.hid hI
        clear hI
        go_wp2_with fail
        refine (H7.out _ _ HI.out).mono ?_
        rintro e w8 ⟨rfl, hB⟩
        have HB := Lib.hid hB
        clear hB HI
        go_wp2_with fail
        refine (HA.out _).mono ?_
        rintro e w9 ⟨rfl, hB⟩
        have HB := Lib.hid (HB.out.trans hB)
        clear hB
        go_wp2
        go_ret
        exact ⟨rfl, HB.out.belowD⟩
  · obtain rfl : a = (K : Int) := by omega
    have hK1 : ¬ (K : Int) < 1 := by omega
    have hK1d : decide ((K : Int) < 1) = false := decide_eq_false hK1
    have hK2 : (1 : Int) ≤ (K : Int) := by omega
    have hK2d : decide ((1 : Int) ≤ (K : Int)) = true := decide_eq_true hK2
    clear hK
    go_enter Try.func5, Try.ntmps5
    go_wp2_with fail
    refine H0.out.mono ?_
    rintro e w1 ⟨b, rfl, hI⟩
    have HI := Lib.hid hI
    clear hI
    go_wp2_with fail
    refine (H1.out _ _ HI.out).mono ?_
    rintro e w2 ⟨rfl, hI⟩
    have HI := Lib.hid hI
    clear hI
    go_wp2_with fail
    go_loopw [8] (fun kv wr => ∃ i : Nat, 1 ≤ i ∧ i ≤ n + 1 ∧ kv = .int .i64 i ∧ Hid (Inv PD w wr b (stD K (i - 1)))) (fun kv _ => n + 1 - (intOf kv).toNat)
    case atStart => exact ⟨1, Nat.le_refl _, by omega, rfl, HI⟩
    case round =>
      clear HI
      obtain ⟨i, hi1, hi2, rfl, HI⟩ := hrel
      by_cases hlt : i ≤ n
      · have c1 : decide ((i : Int) ≤ (n : Int)) = true := by simp; omega
        have c1n : decide (i ≤ n) = true := by simp; omega
        have HS := Lib.hid (H2.out wr b i hi1 hlt HI.out)
        by_cases hl : i < K
        · rw [if_pos (.inr hl)] at HS
          have c3 : (i : Int) < (K : Int) := by omega
          go_wp2_with fail
          refine HS.out.mono ?_
          rintro e w3 ⟨rfl, hI⟩
          have HI := Lib.hid hI
          clear hI HS
          go_wp2
          go_roundw
          case rel => exact ⟨i + 1, by omega, by omega, by go_num, by rw [Nat.add_sub_cancel]; exact HI⟩
          case measure => simp [intOf] <;> omega
        · rw [if_neg (by omega)] at HS
          have c3 : ¬ (i : Int) < (K : Int) := by omega
          go_wp2_with fail
          refine HS.out.mono ?_
          rintro e w3 ⟨rfl, hI⟩
          have HI := Lib.hid hI
          clear hI HS
          go_wp2
          go_roundw
          case rel => exact ⟨i + 1, by omega, by omega, by go_num, by rw [Nat.add_sub_cancel]; exact HI⟩
          case measure => simp [intOf] <;> omega
      · obtain rfl : i = n + 1 := by omega
        rw [Nat.add_sub_cancel] at HI
        have c1 : decide ((n : Int) + 1 ≤ (n : Int)) = false := by simp; omega
        have c1b : decide (((n + 1 : Nat) : Int) ≤ (n : Int)) = false := by simp; omega
        have c1n : decide (n + 1 ≤ n) = false := by simp
        have c1p : ¬ ((n + 1 : Nat) : Int) ≤ (n : Int) := by omega
        by_cases hl : n < K
        · rw [if_pos (.inr hl)] at H3
          rw [decide_eq_true (.inr hl : K = 0 ∨ n < K)] at H4
          have c3 : ¬ (K : Int) ≤ (n : Int) := by omega
          have c3d : decide ((K : Int) ≤ (n : Int)) = false := decide_eq_false c3
          have c3n : decide (K ≤ n) = false := by simp; omega
          go_wp2_with fail
          refine (H3.out _ _ HI.out).mono ?_
          rintro e w4 ⟨rfl, hI⟩
          have HI := Lib.hid hI
          clear hI
          go_wp2_with fail
          refine (H4.out _ _ HI.out).mono ?_
          rintro e w5 ⟨rfl, hI⟩
          have HI := Lib.hid hI
          clear hI
          go_wp2_with fail
          refine (H5.out _ _ HI.out).mono ?_
          rintro e w6 ⟨rfl, hI⟩
          have HI := Lib.hid hI
          clear hI
          go_wp2_with fail
          refine (H6.out _ _ HI.out).mono ?_
          rintro e w7 ⟨rfl, hI⟩
          have HI := Lib.hid hI
          clear hI
          go_wp2_with fail
          refine (H7.out _ _ HI.out).mono ?_
          rintro e w8 ⟨rfl, hB⟩
          have HB := Lib.hid hB
          clear hB HI
          go_wp2_with fail
          refine (HA.out _).mono ?_
          rintro e w9 ⟨rfl, hB⟩
          have HB := Lib.hid (HB.out.trans hB)
          clear hB
          go_wp2
          go_ret
          exact ⟨rfl, HB.out.belowD⟩
        · rw [if_neg (by omega)] at H3
          rw [decide_eq_false (by omega : ¬ (K = 0 ∨ n < K))] at H4
          have c3 : (K : Int) ≤ (n : Int) := by omega
          have c3d : decide ((K : Int) ≤ (n : Int)) = true := decide_eq_true c3
          have c3n : decide (K ≤ n) = true := by simp; omega
          go_wp2_with fail
          refine (H3.out _ _ HI.out).mono ?_
          rintro e w4 ⟨rfl, hI⟩
          have HI := Lib.hid hI
          clear hI
          go_wp2_with fail
          refine (H4.out _ _ HI.out).mono ?_
          rintro e w5 ⟨rfl, hI⟩
          have HI := Lib.hid hI
          clear hI
          go_wp2_with fail
          refine (H5.out _ _ HI.out).mono ?_
          rintro e w6 ⟨rfl, hI⟩
          have HI := Lib.hid hI
          clear hI
          go_wp2_with fail
          refine (H6.out _ _ HI.out).mono ?_
          rintro e w7 ⟨rfl, hI⟩
          have HI := Lib.hid hI
          clear hI
          go_wp2_with fail
          refine (H7.out _ _ HI.out).mono ?_
          rintro e w8 ⟨rfl, hB⟩
          have HB := Lib.hid hB
          clear hB HI
          go_wp2_with fail
          refine (HA.out _).mono ?_
          rintro e w9 ⟨rfl, hB⟩
          have HB := Lib.hid (HB.out.trans hB)
          clear hB
          go_wp2
          go_ret
          exact ⟨rfl, HB.out.belowD⟩
end Go.Proofs.Ytchpincoddghfaa
