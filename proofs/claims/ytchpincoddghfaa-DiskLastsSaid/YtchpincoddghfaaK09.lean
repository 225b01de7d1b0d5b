/- Several texts in one: DkM, DkT, RaO, StO, DkO (what DiskLasts reach of them). -/
import Derived.Test.YtchpincoddghfaaK01
import Derived.Test.YtchpincoddghfaaK02
import Derived.Test.YtchpincoddghfaaK06
import Derived.Test.YtchpincoddghfaaK07
import Derived.Below
import Derived.BigQuiet
import Derived.BigRegion
import Derived.Deep.AppendLies
import Derived.Deep.Cut
import Derived.Deep.CutBlock
import Derived.Deep.CutRange
import Derived.Deep.DeepCutAuto
import Derived.Deep.Draws
import Derived.Deep.Onto
import Derived.Deep.QuietTactic
import Derived.Deep.RegionLaw
import Derived.Deep.RegionWith
import Derived.Deep.Slices
import Derived.Handy
import Derived.Laws.BitsAllLaws
import Derived.Laws.BitsLemmas
import Derived.Laws.BytesArg
import Derived.Laws.IdiomStrings
import Derived.Laws.MakeOwn
import Derived.Laws.OwnMore
import Derived.Laws.Rows
import Derived.Lib.Hide
import Derived.Maps.AppendAt
import Derived.OpenShut
import Derived.OrdersHeld
import Derived.OrdersIn
import Derived.Outline
import Derived.OwnWalk
import Derived.OwnWalkIn
import Derived.ProofKit
import Derived.RangeFuncCalls
import Derived.RegionTactic
import Derived.SizedLaws
import Derived.TacticsInMore
import Derived.Test.YtchpincoddghfaaChecked
import Derived.WalkKit
set_option maxRecDepth 100000
set_option linter.unusedVariables false
set_option linter.unusedVariables false
namespace Go.Proofs.Ytchpincoddghfaa
set_option maxRecDepth 100000
open Go
theorem keep16_le (k : Int) (n : Nat) : keep16 k n ≤ n := by
  unfold keep16
  have := Nat.mod_lt (if k < 0 then -(k + 1) else k).toNat (show 0 < n + 1 by omega)
  omega
end Go.Proofs.Ytchpincoddghfaa
set_option maxRecDepth 100000
set_option linter.unusedVariables false
namespace Go.Proofs.Ytchpincoddghfaa
set_option maxRecDepth 100000
open Go Go.RowKit
/-- A disk of one file, appended to k times. -/
def stL (k : Nat) (s m : List UInt8) (st : Nat) : D16 := ⟨if k = 0 then [] else [⟨3, s ++ m, s.length⟩], 1048576, 0, false, st⟩
theorem stL_size (k : Nat) (s m : List UInt8) (st : Nat) : size16 (stL k s m st).l ≤ s.length + m.length := by
  unfold stL
  by_cases h : k = 0
  · show size16 (if k = 0 then [] else _) ≤ _
    rw [if_pos h]; exact Nat.zero_le _
  · show size16 (if k = 0 then [] else _) ≤ _
    rw [if_neg h]; simp [size16]
theorem app_L {k : Nat} {s m x : List UInt8} {st : Nat} (h0 : k = 0 → s = [] ∧ m = []) (hz : s.length + m.length + x.length ≤ 1048576) : append16 (stL k s m st) 3 x = (stL (k + 1) s (m ++ x) (st + 1), 0) := by
  have hs := stL_size k s m st
  have hw : wrong16 (stL k s m st) 3 = 0 := rfl
  have hl : ¬ (stL k s m st).limit < size16 (stL k s m st).l + x.length := by show ¬ 1048576 < _; omega
  have hd : (step16 (stL k s m st)).dead = false := rfl
  have hp : put16 (stL k s m st).l (3 : Int).toNat x = (stL (k + 1) s (m ++ x) (st + 1)).l := by
    show put16 (if k = 0 then [] else _) 3 x = (if k + 1 = 0 then [] else _)
    rw [if_neg (Nat.succ_ne_zero k)]
    by_cases h : k = 0
    · obtain ⟨rfl, rfl⟩ := h0 h
      rw [if_pos h]; rfl
    · rw [if_neg h]
      unfold put16 has16
      simp
      rfl
  unfold append16
  rw [hw, if_neg (by decide), if_neg hl, hd, hp]
  rfl
theorem sync_L {k : Nat} {s m : List UInt8} {st : Nat} (hk : k ≠ 0) : syncs16 (stL k s m st) 3 = (stL k (s ++ m) [] (st + 1), 0) := by
  have hw : wrong16 (stL k s m st) 3 = 0 := rfl
  have hd : (step16 (stL k s m st)).dead = false := rfl
  have hp : sync16 (stL k s m st).l (3 : Int).toNat = (stL k (s ++ m) [] (st + 1)).l := by
    show sync16 (if k = 0 then [] else _) 3 = (if k = 0 then [] else _)
    rw [if_neg hk, if_neg hk]
    unfold sync16
    simp
  unfold syncs16
  rw [hw, if_neg (by decide), hd, if_neg (by decide), hp]
  rfl
theorem crash_L {k : Nat} {s m : List UInt8} {st : Nat} (h0 : k = 0 → s = [] ∧ m = []) (kp : Int) : ∃ r, r ≤ m.length ∧ crashs16 (stL k s m st) [kp] = stL k (s ++ m.take r) [] st := by
  by_cases h : k = 0
  · obtain ⟨rfl, rfl⟩ := h0 h
    refine ⟨0, Nat.le_refl _, ?_⟩
    unfold crashs16 stL
    rw [if_pos h, if_pos h]
    rfl
  · by_cases hm : m = []
    · subst hm
      refine ⟨0, Nat.le_refl _, ?_⟩
      unfold crashs16 stL
      rw [if_neg h, if_neg h]
      show (⟨crash16 [⟨3, s ++ [], s.length⟩] [kp], _, _, _, _⟩ : D16) = _
      unfold crash16
      rw [if_pos (by simp)]
      unfold crash16
      simp
    · refine ⟨keep16 kp m.length, keep16_le _ _, ?_⟩
      have hml : m.length ≠ 0 := fun e => hm (List.eq_nil_of_length_eq_zero e)
      unfold crashs16 stL
      rw [if_neg h, if_neg h]
      show (⟨crash16 [⟨3, s ++ m, s.length⟩] [kp], _, _, _, _⟩ : D16) = _
      unfold crash16
      rw [if_neg (show ¬ (s ++ m).length = s.length from by rw [List.length_append]; omega)]
      unfold crash16 lose16
      have e1 : (s ++ m).length - s.length = m.length := by rw [List.length_append]; omega
      simp only [List.headD_cons, e1, List.append_nil]
      rw [List.take_length_add_append]
theorem read_L {k : Nat} {s : List UInt8} {st : Nat} (h0 : k = 0 → s = []) : read16 (stL k s [] st) 3 = (s, 0) := by
  have hw : wrong16 (stL k s [] st) 3 = 0 := rfl
  unfold read16
  rw [hw, if_neg (by decide)]
  show (get16 (if k = 0 then [] else _) 3, _) = _
  by_cases h : k = 0
  · rw [if_pos h, h0 h]; rfl
  · rw [if_neg h]; unfold get16; simp
set_option maxHeartbeats 2000000 in
theorem diskLasts_walk {PD : World → Nat → List Nat → D16 → Prop} (C : DkC PD) {A B : Option Addr} {n ca nb cb : Nat} {L : List ByteArray} {M : List Bool} {kp : Int} {w : World} (hA : Sr w A n L) (hB : Bo w B nb M) (hn : n * 16 ≤ 140737488351232) (hnb : nb ≤ 140737488351232) (hk : (Lit.int .i64 kp).wf = true) :
    Calls Try.prog 4 #[.slice A n ca, .slice B nb cb, .int .i64 kp] w fun e w' => e = .returned (.bool true) ∧ Below w.heap.size w w' := by
  have hk2 : -9223372036854775808 ≤ kp ∧ kp ≤ 9223372036854775807 := by simpa [Lit.wf, IntKind.min, IntKind.max, IntKind.bits, IntKind.signed] using hk
  have HA := Lib.hid (awake16_of C)
  have HT : Hid (∀ v, But [] w v → Sr v A n L) := Lib.hid fun v hv => hA.but hv
  have HS : Hid (∀ v, But [] w v → Bo v B nb M) := Lib.hid fun v hv => hB.but hv
  have HTL : Hid (L.length = n) := Lib.hid hA.1
  have HSL : Hid (M.length = nb) := Lib.hid hB.1
  have H0 : Hid (Calls Try.prog 7 #[.int .i64 1048576] w fun e w' => ∃ b, e = .returned (.tuple #[.pointer (some ⟨b, 0, none⟩), .int .i64 0]) ∧ Inv PD w w' b (stL 0 [] [] 0)) := Lib.hid (inew C w 1048576 (by decide) (by decide))
  have H1 : Hid (∀ wi b k s m (x : ByteArray) st, Inv PD w wi b (stL k s m st) → (k = 0 → s = [] ∧ m = []) → s.length + m.length + x.size ≤ 1048576 → st ≤ 1000 → Calls Try.prog 10 #[.pointer (some ⟨b, 0, none⟩), .int .i64 3, .string x] wi fun e w' => e = .returned (.int .i64 0) ∧ Inv PD w w' b (stL (k + 1) s (m ++ x.data.toList) (st + 1))) := Lib.hid fun wi b k s m x st h h0 hz hst => by
    have := iappend C h 3 x (by show st < _; omega) (by show 0 ≤ _; decide) (by omega)
    rw [app_L h0 (by rw [Array.length_toList]; exact hz)] at this
    exact this
  have H2 : Hid (∀ wi b k s m st, Inv PD w wi b (stL k s m st) → k ≠ 0 → st ≤ 1000 → Calls Try.prog 13 #[.pointer (some ⟨b, 0, none⟩), .int .i64 3] wi fun e w' => e = .returned (.int .i64 0) ∧ Inv PD w w' b (stL k (s ++ m) [] (st + 1))) := Lib.hid fun wi b k s m st h h0 hst => by
    have := isync C h 3 (by show st < _; omega) (by show 0 ≤ _; decide)
    rw [sync_L h0] at this
    exact this
  have H3 : Hid (∀ wi b k s m st, Inv PD w wi b (stL k s m st) → (k = 0 → s = [] ∧ m = []) → ∃ r, r ≤ m.length ∧ Calls Try.prog 21 #[.pointer (some ⟨b, 0, none⟩), .slice (some ⟨wi.heap.size, 0, none⟩) 1 1] (wi.alloc (.cells #[.int .i64 kp] 3)) fun e w' => e = .returned (.tuple #[]) ∧ Inv PD w w' b (stL k (s ++ m.take r) [] st)) := Lib.hid fun wi b k s m st h h0 => by
    obtain ⟨r, hr, e⟩ := crash_L (st := st) h0 kp
    exact ⟨r, hr, by rw [← e]; exact icrash1 C h kp hk2⟩
  have H4 : Hid (∀ wi b k s st, Inv PD w wi b (stL k s [] st) → (k = 0 → s = []) → Calls Try.prog 23 #[.pointer (some ⟨b, 0, none⟩), .int .i64 3] wi fun e w' => e = .returned (.tuple #[.string (strL s), .int .i64 0]) ∧ Inv PD w w' b (stL k s [] st)) := Lib.hid fun wi b k s st h h0 => by
    have := iread C h 3
    rw [read_L h0] at this
    exact this
  have H5 : Hid (∀ wi b k s st, Inv PD w wi b (stL k s [] st) → (k = 0 → s = []) → Calls Try.prog 21 #[.pointer (some ⟨b, 0, none⟩), .slice (some ⟨wi.heap.size, 0, none⟩) 1 1] (wi.alloc (.cells #[.int .i64 0] 3)) fun e w' => e = .returned (.tuple #[]) ∧ Inv PD w w' b (stL k s [] st)) := Lib.hid fun wi b k s st h h0 => by
    obtain ⟨r, hr, e⟩ := crash_L (k := k) (s := s) (m := []) (st := st) (fun e => ⟨h0 e, rfl⟩) 0
    have := icrash1 C h 0 (by decide)
    rw [e, List.take_nil, List.append_nil] at this
    exact this
  clear hA hB hk hk2
  go_enter Try.func4, Try.ntmps4
  go_wp2_with fail
  refine H0.out.mono ?_
  rintro e w1 ⟨b, rfl, hI⟩
  have HI := Lib.hid hI
  clear hI
  go_wp2_with fail
  go_loopw [9, 10, 11] (fun sv mv iv wr => ∃ (i : Nat) (s m : List UInt8) (st : Nat), i ≤ n ∧ i ≤ 100 ∧ sv = .string (strL s) ∧ mv = .string (strL m) ∧ iv = .int .i64 i ∧ Hid (st ≤ 2 * i) ∧ Hid (s.length + m.length ≤ 1000 * i) ∧ Hid (i = 0 → s = [] ∧ m = []) ∧ Hid (Inv PD w wr b (stL i s m st))) (fun _ _ iv _ => 100 - (intOf iv).toNat)
  case atStart => exact ⟨0, [], [], 0, Nat.zero_le _, by omega, rfl, rfl, rfl, Lib.hid (Nat.le_refl _), Lib.hid (Nat.le_refl _), Lib.hid (fun _ => ⟨rfl, rfl⟩), HI⟩
  case round =>
    clear HI
    obtain ⟨i, s, m, st, hin, hi100, rfl, rfl, rfl, HST, HLE, HZ, HI⟩ := hrel
    have i0 : (0 : Int) ≤ (i : Int) := by omega
    by_cases hlt : i < n ∧ i < 100
    · obtain ⟨hlt1, hlt2⟩ := hlt
      obtain ⟨x, hx⟩ : ∃ x, L[i]? = some x := ⟨_, List.getElem?_eq_getElem (by rw [HTL.out]; exact hlt1)⟩
      have HX := Lib.hid hx
      have i1 : (i : Int) < (n : Int) := by omega
      have i2 : (i : Int) < 100 := by omega
      have HTC : Hid (∀ v, But [] w v → ∃ g o, A = some ⟨g, o, none⟩ ∧ g < v.heap.size ∧ v.cell? ⟨g, o + i, none⟩ = some (.string x)) := Lib.hid fun v hv => (HT.out v hv).at HX.out
      obtain ⟨g, o, rfl, hg, k0⟩ := HTC.out _ HI.out.all
      clear hx
      by_cases hbig : 1000 < x.size
      · have b1 : (1000 : Int) < (x.size : Int) := by omega
        go_wp2_with fail
        refine (HA.out _).mono ?_
        rintro e w2 ⟨rfl, hB⟩
        have HB := Lib.hid (HI.out.all.trans hB)
        clear hB
        go_wp2
        go_ret
        exact ⟨rfl, HB.out.belowD⟩
      · have b1 : ¬ (1000 : Int) < (x.size : Int) := by omega
        have H1i := Lib.hid (H1.out wr b i s m x st HI.out HZ.out (by have := HLE.out; omega) (by have := HST.out; omega))
        obtain ⟨sv, hsv⟩ : ∃ z, z = strL s := ⟨_, rfl⟩
        obtain ⟨mv, hmv⟩ : ∃ z, z = strL m := ⟨_, rfl⟩
        have hms : mv.size = m.length := by rw [hmv, strL_size]
        have hss : sv.size = s.length := by rw [hsv, strL_size]
        have HMX : Hid (mv ++ x = strL (m ++ x.data.toList)) := Lib.hid (by rw [strL_append, strL_of, hmv])
        have HSX : Hid (sv ++ (mv ++ x) = strL (s ++ (m ++ x.data.toList))) := Lib.hid (by rw [HMX.out, strL_append s, ← hsv])
        have hmx : mv.size + x.size ≤ 9223372036854775807 := by have := HLE.out; omega
        have hsx : sv.size + (mv.size + x.size) ≤ 9223372036854775807 := by have := HLE.out; omega
        have hsx2 : sv.size + (mv ++ x).size ≤ 9223372036854775807 := by rw [ByteArray.size_append]; exact hsx
        have HXL : Hid (x.data.toList.length = x.size) := Lib.hid Array.length_toList
        have HLE2 : Hid (s.length + (m ++ x.data.toList).length ≤ 1000 * (i + 1)) := Lib.hid (by rw [List.length_append, HXL.out]; have := HLE.out; omega)
        have HLE3 : Hid ((s ++ (m ++ x.data.toList)).length + ([] : List UInt8).length ≤ 1000 * (i + 1)) := Lib.hid (by rw [List.length_append]; have := HLE2.out; simpa using this)
        rw [← hsv, ← hmv]
        have HSV := Lib.hid hsv
        clear hsv hmv hms hss
        go_wp2_with fail
        refine H1i.out.mono ?_
        rintro e w2 ⟨rfl, hI⟩
        have HI2 := Lib.hid hI
        clear hI k0 hg
        obtain ⟨g', o', e', hg, k0⟩ := HTC.out _ HI2.out.all
        injection e' with e'
        injection e' with e1 e2
        subst e1 e2
        by_cases hsy : i < nb ∧ M[i]? = some true
        · obtain ⟨hs1, hs2⟩ := hsy
          have i3 : (i : Int) < (nb : Int) := by omega
          obtain ⟨gb, ob, rfl, hgb, kb⟩ := (HS.out _ HI2.out.all).at hs2
          have H2i := Lib.hid (H2.out w2 b (i + 1) s (m ++ x.data.toList) (st + 1) HI2.out (by omega) (by have := HST.out; omega))
          go_wp2_with fail
          refine H2i.out.mono ?_
          rintro e w3 ⟨rfl, hI⟩
          have HI3 := Lib.hid hI
          clear hI
          go_wp2
          go_roundw
          case rel => exact ⟨i + 1, s ++ (m ++ x.data.toList), [], st + 1 + 1, by omega, by omega, by rw [HSX.out], rfl, by go_num, Lib.hid (by have := HST.out; omega), HLE3, Lib.hid (fun h => by omega), HI3⟩
          case measure => simp [intOf] <;> omega
        · by_cases hs1 : i < nb
          · have i3 : (i : Int) < (nb : Int) := by omega
            obtain ⟨y, hy⟩ : ∃ y, M[i]? = some y := ⟨_, List.getElem?_eq_getElem (by rw [HSL.out]; exact hs1)⟩
            obtain rfl : y = false := by
              cases y with
              | false => rfl
              | true => exact absurd ⟨hs1, hy⟩ hsy
            obtain ⟨gb, ob, rfl, hgb, kb⟩ := (HS.out _ HI2.out.all).at hy
            clear hy hsy
            go_wp2
            go_roundw
            case rel => exact ⟨i + 1, s, m ++ x.data.toList, st + 1, by omega, by omega, by rw [HSV.out], by rw [HMX.out], by go_num, Lib.hid (by have := HST.out; omega), HLE2, Lib.hid (fun h => by omega), HI2⟩
            case measure => simp [intOf] <;> omega
          · have i3 : ¬ (i : Int) < (nb : Int) := by omega
            clear hsy
            go_wp2
            go_roundw
            case rel => exact ⟨i + 1, s, m ++ x.data.toList, st + 1, by omega, by omega, by rw [HSV.out], by rw [HMX.out], by go_num, Lib.hid (by have := HST.out; omega), HLE2, Lib.hid (fun h => by omega), HI2⟩
            case measure => simp [intOf] <;> omega
    · by_cases hn1 : i < n
      · have i1 : (i : Int) < (n : Int) := by omega
        have i2 : ¬ (i : Int) < 100 := by omega
        obtain ⟨r, hr, hC⟩ := H3.out wr b i s m st HI.out HZ.out
        have HC := Lib.hid hC
        have hle := HLE.out
        obtain ⟨s', hs'⟩ : ∃ z, z = s ++ m.take r := ⟨_, rfl⟩
        have hsl : s'.length = s.length + r := by rw [hs', List.length_append, List.length_take]; omega
        rw [← hs'] at HC
        have HZ2 : Hid (i = 0 → s' = []) := Lib.hid fun e => by
          obtain ⟨rfl, rfl⟩ := HZ.out e
          rw [hs']; simp
        obtain ⟨F, hF⟩ : ∃ z, z = strL s' := ⟨_, rfl⟩
        obtain ⟨S1, hS1⟩ : ∃ z, z = strL s := ⟨_, rfl⟩
        obtain ⟨M1, hM1⟩ : ∃ z, z = strL m := ⟨_, rfl⟩
        obtain ⟨R1, hR1⟩ : ∃ z, z = strL (m.take r) := ⟨_, rfl⟩
        have fF : F.size = s'.length := by rw [hF, strL_size]
        have fS : S1.size = s.length := by rw [hS1, strL_size]
        have fM : M1.size = m.length := by rw [hM1, strL_size]
        obtain ⟨tot, htot⟩ : ∃ z, z = S1.size + M1.size := ⟨_, rfl⟩
        have q1 : decide ((F.size : Int) < (S1.size : Int)) = false := by simp; omega
        have q1n : decide (F.size < S1.size) = false := by simp; omega
        have q2 : decide ((tot : Int) < (F.size : Int)) = false := by simp; omega
        have q2n : decide (tot < F.size) = false := by simp; omega
        have a1 : (S1.size : Int) + (M1.size : Int) = (tot : Int) := by omega
        have a2 : (F.size : Int) - (S1.size : Int) = (r : Int) := by omega
        have v1 := wrapI_in (show tot < 1000000000000000 by omega)
        have v2 := wrapI_in (show r < 1000000000000000 by omega)
        have k1 : ∀ v, (Instr.slice 9 (.string F) none (some (.int .i64 (S1.size : Int))) none).run Try.prog v = .ok (.string S1) v := fun v => by
          rw [run_slice_string_to_if v 9 F .i64 (S1.size : Int) Try.underlying9, if_pos (by omega), Int.toNat_natCast, hF, ext_list, strL_list, List.drop_zero, fS, hs', List.take_left' rfl, ← hS1]
        have k2 : ∀ v, (Instr.slice 9 (.string F) (some (.int .i64 (S1.size : Int))) none none).run Try.prog v = .ok (.string R1) v := fun v => by
          rw [run_slice_string_from_if v 9 F .i64 (S1.size : Int) Try.underlying9, if_pos (by omega), Int.toNat_natCast, hF, ext_list, strL_list, List.take_of_length_le (by rw [strL_size]; exact Nat.le_refl _), fS, hs', List.drop_left' rfl, ← hR1]
        have k3 : ∀ v, (Instr.slice 9 (.string M1) none (some (.int .i64 (r : Int))) none).run Try.prog v = .ok (.string R1) v := fun v => by
          rw [run_slice_string_to_if v 9 M1 .i64 (r : Int) Try.underlying9, if_pos (by omega), Int.toNat_natCast, hM1, ext_list, strL_list, List.drop_zero, ← hR1]
        have HFF := Lib.hid hF
        rw [← hS1, ← hM1]
        clear hs' hsl hF hS1 hM1 hR1 fF fS fM htot hr hC hle
        go_wp2_with fail
        refine HC.out.mono ?_
        rintro e w2 ⟨rfl, hI⟩
        have HI2 := Lib.hid hI
        clear hI
        have H4a := Lib.hid (H4.out w2 b i s' st HI2.out HZ2.out)
        rw [← HFF.out] at H4a
        go_wp2_with fail
        refine H4a.out.mono ?_
        rintro e w3 ⟨rfl, hI⟩
        have HI3 := Lib.hid hI
        clear hI
        go_upto_region 21 with (fail)
        refine wp_region_m (S := fun v => But [] w3 v) (R := fun v v' => But [] v v') (fun w => But.refl [] w) (by kernel_rfl) ((But.refl [] w3).drew) ?_
        refine rdk 0 (.int .i64 0) ?_
        refine rdk 1 (.bool false) ?_
        refine rdk 2 (.bool false) ?_
        refine rdk 3 (.string F) ?_
        refine rdk 4 (.int .i64 (F.size : Int)) ?_
        refine rdk 5 (.string S1) ?_
        refine rdk 6 (.int .i64 (S1.size : Int)) ?_
        refine rdk 7 (.bool false) ?_
        refine rdk 8 (.bool false) ?_
        refine rdk 9 (.bool false) ?_
        refine rdk 10 (.string F) ?_
        refine rdk 11 (.int .i64 (F.size : Int)) ?_
        refine rdk 12 (.string S1) ?_
        refine rdk 13 (.int .i64 (S1.size : Int)) ?_
        refine rdk 14 (.string M1) ?_
        refine rdk 15 (.int .i64 (M1.size : Int)) ?_
        refine rdk 16 (.int .i64 (tot : Int)) ?_
        refine rdk 17 (.bool false) ?_
        refine rdk 18 (.bool false) ?_
        refine rdk 19 (.bool false) ?_
        refine rdk 20 (.string F) ?_
        refine rdk 21 (.string S1) ?_
        refine rdk 22 (.int .i64 (S1.size : Int)) ?_
        refine rdk 23 (.string S1) ?_
        refine rdk 24 (.string S1) ?_
        refine rdk 25 (.bool false) ?_
        refine rdk 26 (.bool false) ?_
        refine rdk 27 (.bool false) ?_
        refine rdk 28 (.string F) ?_
        refine rdk 29 (.string S1) ?_
        refine rdk 30 (.int .i64 (S1.size : Int)) ?_
        refine rdk 31 (.string R1) ?_
        refine rdk 32 (.string M1) ?_
        refine rdk 33 (.string F) ?_
        refine rdk 34 (.int .i64 (F.size : Int)) ?_
        refine rdk 35 (.string S1) ?_
        refine rdk 36 (.int .i64 (S1.size : Int)) ?_
        refine rdk 37 (.int .i64 (r : Int)) ?_
        refine rdk 38 (.string R1) ?_
        refine rdk 39 (.bool false) ?_
        refine rdk 40 (.bool false) ?_
        refine ⟨by kernel_rfl, fun w8 hR8 hS8 => ?_⟩
        have HI4 := Lib.hid (HI3.out.but C hS8)
        clear hR8 hS8 k1 k2 k3 q1 q1n q2 q2n a1 a2 v1 v2
        go_simp
        go_wp2_with fail
        refine (H5.out w8 b i s' st HI4.out HZ2.out).mono ?_
        rintro e w9 ⟨rfl, hI⟩
        have HI5 := Lib.hid hI
        clear hI
        have H4b := Lib.hid (H4.out w9 b i s' st HI5.out HZ2.out)
        rw [← HFF.out] at H4b
        go_wp2_with fail
        refine H4b.out.mono ?_
        rintro e w10 ⟨rfl, hI⟩
        have HI6 := Lib.hid hI
        clear hI
        go_wp2_with fail
        refine (HA.out _).mono ?_
        rintro e w11 ⟨rfl, hB⟩
        have HB := Lib.hid (HI6.out.all.trans hB)
        clear hB
        go_wp2
        go_ret
        exact ⟨rfl, HB.out.belowD⟩
      · have i1 : ¬ (i : Int) < (n : Int) := by omega
        obtain ⟨r, hr, hC⟩ := H3.out wr b i s m st HI.out HZ.out
        have HC := Lib.hid hC
        have hle := HLE.out
        obtain ⟨s', hs'⟩ : ∃ z, z = s ++ m.take r := ⟨_, rfl⟩
        have hsl : s'.length = s.length + r := by rw [hs', List.length_append, List.length_take]; omega
        rw [← hs'] at HC
        have HZ2 : Hid (i = 0 → s' = []) := Lib.hid fun e => by
          obtain ⟨rfl, rfl⟩ := HZ.out e
          rw [hs']; simp
        obtain ⟨F, hF⟩ : ∃ z, z = strL s' := ⟨_, rfl⟩
        obtain ⟨S1, hS1⟩ : ∃ z, z = strL s := ⟨_, rfl⟩
        obtain ⟨M1, hM1⟩ : ∃ z, z = strL m := ⟨_, rfl⟩
        obtain ⟨R1, hR1⟩ : ∃ z, z = strL (m.take r) := ⟨_, rfl⟩
        have fF : F.size = s'.length := by rw [hF, strL_size]
        have fS : S1.size = s.length := by rw [hS1, strL_size]
        have fM : M1.size = m.length := by rw [hM1, strL_size]
        obtain ⟨tot, htot⟩ : ∃ z, z = S1.size + M1.size := ⟨_, rfl⟩
        have q1 : decide ((F.size : Int) < (S1.size : Int)) = false := by simp; omega
        have q1n : decide (F.size < S1.size) = false := by simp; omega
        have q2 : decide ((tot : Int) < (F.size : Int)) = false := by simp; omega
        have q2n : decide (tot < F.size) = false := by simp; omega
        have a1 : (S1.size : Int) + (M1.size : Int) = (tot : Int) := by omega
        have a2 : (F.size : Int) - (S1.size : Int) = (r : Int) := by omega
        have v1 := wrapI_in (show tot < 1000000000000000 by omega)
        have v2 := wrapI_in (show r < 1000000000000000 by omega)
        have k1 : ∀ v, (Instr.slice 9 (.string F) none (some (.int .i64 (S1.size : Int))) none).run Try.prog v = .ok (.string S1) v := fun v => by
          rw [run_slice_string_to_if v 9 F .i64 (S1.size : Int) Try.underlying9, if_pos (by omega), Int.toNat_natCast, hF, ext_list, strL_list, List.drop_zero, fS, hs', List.take_left' rfl, ← hS1]
        have k2 : ∀ v, (Instr.slice 9 (.string F) (some (.int .i64 (S1.size : Int))) none none).run Try.prog v = .ok (.string R1) v := fun v => by
          rw [run_slice_string_from_if v 9 F .i64 (S1.size : Int) Try.underlying9, if_pos (by omega), Int.toNat_natCast, hF, ext_list, strL_list, List.take_of_length_le (by rw [strL_size]; exact Nat.le_refl _), fS, hs', List.drop_left' rfl, ← hR1]
        have k3 : ∀ v, (Instr.slice 9 (.string M1) none (some (.int .i64 (r : Int))) none).run Try.prog v = .ok (.string R1) v := fun v => by
          rw [run_slice_string_to_if v 9 M1 .i64 (r : Int) Try.underlying9, if_pos (by omega), Int.toNat_natCast, hM1, ext_list, strL_list, List.drop_zero, ← hR1]
        have HFF := Lib.hid hF
        rw [← hS1, ← hM1]
        clear hs' hsl hF hS1 hM1 hR1 fF fS fM htot hr hC hle
        go_wp2_with fail
        refine HC.out.mono ?_
        rintro e w2 ⟨rfl, hI⟩
        have HI2 := Lib.hid hI
        clear hI
        have H4a := Lib.hid (H4.out w2 b i s' st HI2.out HZ2.out)
        rw [← HFF.out] at H4a
        go_wp2_with fail
        refine H4a.out.mono ?_
        rintro e w3 ⟨rfl, hI⟩
        have HI3 := Lib.hid hI
        clear hI
        go_upto_region 21 with (fail)
        refine wp_region_m (S := fun v => But [] w3 v) (R := fun v v' => But [] v v') (fun w => But.refl [] w) (by kernel_rfl) ((But.refl [] w3).drew) ?_
        refine rdk 0 (.int .i64 0) ?_
        refine rdk 1 (.bool false) ?_
        refine rdk 2 (.bool false) ?_
        refine rdk 3 (.string F) ?_
        refine rdk 4 (.int .i64 (F.size : Int)) ?_
        refine rdk 5 (.string S1) ?_
        refine rdk 6 (.int .i64 (S1.size : Int)) ?_
        refine rdk 7 (.bool false) ?_
        refine rdk 8 (.bool false) ?_
        refine rdk 9 (.bool false) ?_
        refine rdk 10 (.string F) ?_
        refine rdk 11 (.int .i64 (F.size : Int)) ?_
        refine rdk 12 (.string S1) ?_
        refine rdk 13 (.int .i64 (S1.size : Int)) ?_
        refine rdk 14 (.string M1) ?_
        refine rdk 15 (.int .i64 (M1.size : Int)) ?_
        refine rdk 16 (.int .i64 (tot : Int)) ?_
        refine rdk 17 (.bool false) ?_
        refine rdk 18 (.bool false) ?_
        refine rdk 19 (.bool false) ?_
        refine rdk 20 (.string F) ?_
        refine rdk 21 (.string S1) ?_
        refine rdk 22 (.int .i64 (S1.size : Int)) ?_
        refine rdk 23 (.string S1) ?_
        refine rdk 24 (.string S1) ?_
        refine rdk 25 (.bool false) ?_
        refine rdk 26 (.bool false) ?_
        refine rdk 27 (.bool false) ?_
        refine rdk 28 (.string F) ?_
        refine rdk 29 (.string S1) ?_
        refine rdk 30 (.int .i64 (S1.size : Int)) ?_
        refine rdk 31 (.string R1) ?_
        refine rdk 32 (.string M1) ?_
        refine rdk 33 (.string F) ?_
        refine rdk 34 (.int .i64 (F.size : Int)) ?_
        refine rdk 35 (.string S1) ?_
        refine rdk 36 (.int .i64 (S1.size : Int)) ?_
        refine rdk 37 (.int .i64 (r : Int)) ?_
        refine rdk 38 (.string R1) ?_
        refine rdk 39 (.bool false) ?_
        refine rdk 40 (.bool false) ?_
        refine ⟨by kernel_rfl, fun w8 hR8 hS8 => ?_⟩
        have HI4 := Lib.hid (HI3.out.but C hS8)
        clear hR8 hS8 k1 k2 k3 q1 q1n q2 q2n a1 a2 v1 v2
        go_simp
        go_wp2_with fail
        refine (H5.out w8 b i s' st HI4.out HZ2.out).mono ?_
        rintro e w9 ⟨rfl, hI⟩
        have HI5 := Lib.hid hI
        clear hI
        have H4b := Lib.hid (H4.out w9 b i s' st HI5.out HZ2.out)
        rw [← HFF.out] at H4b
        go_wp2_with fail
        refine H4b.out.mono ?_
        rintro e w10 ⟨rfl, hI⟩
        have HI6 := Lib.hid hI
        clear hI
        go_wp2_with fail
        refine (HA.out _).mono ?_
        rintro e w11 ⟨rfl, hB⟩
        have HB := Lib.hid (HI6.out.all.trans hB)
        clear hB
        go_wp2
        go_ret
        exact ⟨rfl, HB.out.belowD⟩
end Go.Proofs.Ytchpincoddghfaa
set_option maxRecDepth 100000
set_option linter.unusedVariables false
namespace Go.Proofs.Ytchpincoddghfaa
set_option maxRecDepth 100000
open Go Go.RowKit Go.ChangeShapes Go.WideShapes
theorem cells_strR : Try.prog.cellsOf 9 = 1 := by kernel_rfl
end Go.Proofs.Ytchpincoddghfaa
set_option maxRecDepth 100000
set_option linter.unusedVariables false
namespace Go.Proofs.Ytchpincoddghfaa
set_option maxRecDepth 100000
open Go Go.RowKit Go.ChangeShapes Go.WideShapes
theorem weightsAll_memS {H : Type} {P : Program} {e : TypeId} : ∀ {l : List (DataW H)} {d : DataW H}, d ∈ l → ∀ n ∈ d.weights P e, n ∈ DataW.weightsAll P e l
  | x :: l, d, hd, n, hn => by
    simp only [DataW.weightsAll, List.mem_append]
    rcases List.mem_cons.1 hd with rfl | hd
    · exact Or.inl hn
    · exact Or.inr (weightsAll_memS hd n hn)
theorem weights_sr {H : Type} {a : List UInt8} : (DataW.lit (.string a) : DataW H).weights Try.prog 9 = [a.length] := by
  simp only [DataW.weights]
theorem open_sr {H : Type} {enc : TypeId × Value → H} {W : World} {base : Nat} {v : Value} {d : DataW H} {p : List MemPlace} (hv : Value.okWide Try.prog W .any base 47 v)
    (hk : DataW.Trod enc Try.prog W 0 (fun _ => true) true 47 v d p) {ts : List TypeId} {ds : List (DataW H)} (hsz : (DataW.weightsEach Try.prog ts ds).all (· ≤ reachBytes) = true) {j : Nat} (ht : ts[j]? = some 47) (hd : ds[j]? = some d) :
    ∃ A len cap L, v = .slice A len cap ∧ (Sr W A len L ∧ ∀ (i : Nat) (c : ByteArray), L[i]? = some c → c.size ≤ 140737488351232) ∧ len * 16 ≤ 140737488351232 ∧ len ≤ cap ∧ (A = none → cap = 0) := by
  obtain ⟨a0, len, cap, rfl⟩ := okWide_slice Try.underlying47 hv
  obtain ⟨fuel, hf⟩ := hk
  rcases Deep.open_slice Try.underlying47 hf with ⟨hcs, _⟩ | ⟨a, len', cap', m, n, D, Pl, hcs, hb, hl, hm, hmm, hx, hi⟩
  · simp [Value.cells] at hcs
    obtain ⟨rfl, rfl, rfl⟩ := hcs
    exact ⟨none, 0, 0, [], rfl, ⟨⟨rfl, fun h => absurd h (by omega)⟩, fun i c h => by simp at h⟩, by omega, Nat.le_refl _, fun _ => rfl⟩
  · simp [Value.cells] at hcs
    obtain ⟨rfl, rfl, rfl⟩ := hcs
    have hmc : m = cap := by simpa using hmm
    rw [cells_strR] at hi
    have hr : reachBytes = 140737488351232 := rfl
    have hde : d = .slice ((List.range len).map D) ((List.range (m - len)).map fun j => D (len + j)) := (Prod.mk.inj hx).1
    have hbound : len * 16 ≤ 140737488351232 := by
      have h := sized_slice hsz (e := 9) ht (by rw [hd, hde]) Try.underlying47
      have hb8 : Try.prog.bytesOf 9 = 16 := by kernel_rfl
      rw [hb8, hr] at h
      simp only [List.length_map, List.length_range] at h
      omega
    have hel : ∀ i, i < len → ∃ q : ByteArray, W.cell? (a.add (i * 1 + 0)) = some (.string q) ∧ q.size ≤ 140737488351232 := by
      intro i hil
      obtain ⟨cs', h1, h2⟩ := hi i (by omega)
      obtain ⟨_, hlen, hat⟩ := World.cells?_some h1
      obtain ⟨x, rfl, hD, _⟩ := DataW.trod_string Try.underlying9 h2
      have hD : D i = .lit (.string x.data.toList) := (Prod.mk.inj hD).1
      have hw : x.data.toList.length ≤ reachBytes := by
        have hmem : D i ∈ (List.range len).map D := List.mem_map.2 ⟨i, List.mem_range.2 hil, rfl⟩
        have h1 := weightsAll_memS (P := Try.prog) (e := 9) hmem x.data.toList.length (by rw [hD, weights_sr]; exact List.mem_singleton.2 rfl)
        have h2 : x.data.toList.length ∈ d.weights Try.prog 47 := by
          rw [hde]
          simp only [DataW.weights, Try.underlying47, List.mem_cons, List.mem_append]
          exact Or.inr (Or.inl h1)
        have h3 := List.all_eq_true.1 hsz _ (DataW.weights_mem_each ht hd _ h2)
        simpa using h3
      rw [← Deep.add_add]
      refine ⟨x, by rw [hat 0 (by omega)]; rfl, ?_⟩
      rw [hr, Array.length_toList] at hw; exact hw
    obtain ⟨V, hV⟩ := Deep.choose_lt hel
    refine ⟨some a, len, cap, (List.range len).map V, rfl, ⟨⟨by simp, fun hp => ?_⟩, fun i c h => ?_⟩, hbound, by omega, fun e => by cases e⟩
    · obtain ⟨g, o, spot⟩ := a
      have hs : spot = none := by
        have := World.cell?_spot (hV 0 hp).1
        simpa [Addr.add] using this
      subst hs
      have hlt : g < W.heap.size := by
        have := World.block_lt_of_cell? W _ (hV 0 hp).1
        simpa [Addr.add] using this
      refine ⟨g, o, rfl, hlt, fun i hi => ?_⟩
      have hi' : i < len := by simpa using hi
      obtain ⟨c0, _⟩ := hV i hi'
      rw [add_plain] at c0
      simp only [List.getElem_map, List.getElem_range]
      rw [show o + (i * 1 + 0) = o + i by omega] at c0
      exact c0
    · have hil : i < len := by
        have := (List.getElem?_eq_some_iff.1 h).1
        simpa using this
      rw [List.getElem?_map, List.getElem?_range hil] at h
      have e : V i = c := by simpa using h
      rw [← e]
      exact (hV i hil).2
end Go.Proofs.Ytchpincoddghfaa
set_option maxRecDepth 100000
set_option linter.unusedVariables false
namespace Go.Proofs.Ytchpincoddghfaa
set_option maxRecDepth 100000
open Go Go.RowKit Go.ChangeShapes Go.WideShapes
theorem open_bo {H : Type} {enc : TypeId × Value → H} {W : World} {base : Nat} {v : Value} {d : DataW H} {p : List MemPlace} (hv : Value.okWide Try.prog W .any base 48 v)
    (hk : DataW.Trod enc Try.prog W 0 (fun _ => true) true 48 v d p) {ts : List TypeId} {ds : List (DataW H)} (hsz : (DataW.weightsEach Try.prog ts ds).all (· ≤ reachBytes) = true) {j : Nat} (ht : ts[j]? = some 48) (hd : ds[j]? = some d) :
    ∃ A len cap L, v = .slice A len cap ∧ Bo W A len L ∧ len ≤ 140737488351232 := by
  obtain ⟨a0, len, cap, rfl⟩ := okWide_slice Try.underlying48 hv
  obtain ⟨fuel, hf⟩ := hk
  rcases Deep.open_slice1 Try.underlying48 (by kernel_rfl) hf with ⟨hcs, _⟩ | ⟨a, len', cap', m, n, V, D, Pl, hcs, hb, hl, hm, hmm, hx, hi⟩
  · simp [Value.cells] at hcs
    obtain ⟨rfl, rfl, rfl⟩ := hcs
    exact ⟨none, 0, 0, [], rfl, ⟨rfl, fun h => absurd h (by omega)⟩, by omega⟩
  · simp [Value.cells] at hcs
    obtain ⟨rfl, rfl, rfl⟩ := hcs
    have hmc : m = cap := by simpa using hmm
    have hr : reachBytes = 140737488351232 := rfl
    have hde : d = .slice ((List.range len).map D) ((List.range (m - len)).map fun j => D (len + j)) := (Prod.mk.inj hx).1
    have hbound : len ≤ 140737488351232 := by
      have h := sized_slice hsz (e := 4) ht (by rw [hd, hde]) Try.underlying48
      have hb1 : Try.prog.bytesOf 4 = 1 := by kernel_rfl
      rw [hb1, hr] at h
      simp only [List.length_map, List.length_range] at h
      omega
    have hel : ∀ i, i < len → ∃ q : Bool, W.cell? (a.add i) = some (.bool q) := by
      intro i hil
      obtain ⟨h1, h2⟩ := hi i (by omega)
      obtain ⟨q, hq, _⟩ := DataW.trod_bool Try.underlying4 h2
      have : V i = .bool q := by simpa using hq
      exact ⟨q, by rw [h1, this]⟩
    obtain ⟨B, hB⟩ := Deep.choose_lt hel
    refine ⟨some a, len, cap, (List.range len).map B, rfl, ⟨by simp, fun hp => ?_⟩, hbound⟩
    obtain ⟨g, o, spot⟩ := a
    have hs : spot = none := by
      have := World.cell?_spot (hB 0 hp)
      simpa [Addr.add] using this
    subst hs
    have hlt : g < W.heap.size := by
      have := World.block_lt_of_cell? W _ (hB 0 hp)
      simpa [Addr.add] using this
    refine ⟨g, o, rfl, hlt, fun i hi' => ?_⟩
    have hi2 : i < len := by simpa using hi'
    have c0 := hB i hi2
    rw [add_plain] at c0
    simp only [List.getElem_map, List.getElem_range]
    exact c0
end Go.Proofs.Ytchpincoddghfaa
