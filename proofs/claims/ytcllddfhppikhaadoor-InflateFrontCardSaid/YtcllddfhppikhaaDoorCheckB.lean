/- The contracts of the document's answer to Check, and of the test that two lists are the same. -/
import Derived.Test.YtcllddfhppikhaaDoorCheck
namespace Go.Proofs.YtcllddfhppikhaaDoor
set_option maxRecDepth 100000
open Go Go.RowKit

theorem kr_shl {m : Nat} (h0 : 0 < (m : Int)) : (2 : Int) ^ (15 - m) = (kr m : Nat) := by
  unfold kr; rw [if_pos h0]; simp

theorem ref_sum {w : World} {A : Option Addr} {len cap : Nat} {l : List Int} (hl : Ints w A len l) (h288 : len ≤ 288) (hok : okLens l = true) :
    Calls Tryd.prog 48 #[.slice A len cap] w fun e w' => e = .returned (.tuple #[.int .i64 (ksum l), .int .i64 (many l), .int .i64 (top l)]) ∧ w = w' := by
  have hlen := hl.1
  go_enter Tryd.func48, Tryd.ntmps48
  go_wp2
  go_loop [5, 6, 7, 8] (fun sm wd tp i => ∃ k : Nat, k ≤ len ∧ i = .int .i64 k ∧ sm = .int .i64 (ksum (l.take k)) ∧ wd = .int .i64 (many (l.take k)) ∧ tp = .int .i64 (top (l.take k))) (fun _ _ _ i => len - (intOf i).toNat)
  case atStart => exact ⟨0, Nat.zero_le _, rfl, rfl, rfl, rfl⟩
  case round =>
    obtain ⟨k, hk, rfl, rfl, rfl, rfl⟩ := hrel
    have hks := ksum_le (l.take k)
    have hms := many_le (l.take k)
    rw [List.length_take] at hks hms
    by_cases hlt : k < len
    · obtain ⟨g, o, rfl, hg, hc⟩ := hl.at hlt
      have hts := lens_take (l := l) (k := k) (by omega)
      have HS := Lib.hid hts
      have hx := List.all_eq_true.1 hok _ (List.getElem_mem (show k < l.length by omega))
      generalize l[k]'(by omega) = x at *
      clear hl hts hok
      simp only [okLen, decide_eq_true_eq] at hx
      obtain ⟨m, rfl⟩ := Int.eq_ofNat_of_zero_le hx.1
      have hm15 : m ≤ 15 := by omega
      have HK := Lib.hid (show ksum (l.take (k + 1)) = ksum (l.take k) + kr m by rw [HS.out, ksum_snoc])
      have HM := Lib.hid (show many (l.take (k + 1)) = many (l.take k) + (if 0 < (m : Int) then 1 else 0) by rw [HS.out, many_snoc])
      have HT := Lib.hid (show top (l.take (k + 1)) = if 0 < (m : Int) then max (top (l.take k)) m else top (l.take k) by rw [HS.out, top_snoc])
      clear HS hx
      generalize ksum (l.take k) = S at *
      generalize many (l.take k) = M at *
      generalize top (l.take k) = T at *
      by_cases h0 : 0 < (m : Int)
      · have HP := Lib.hid (kr_shl h0)
        have hkl := kr_le m
        have e15 : IntKind.i64.wrap (15 - (m : Int)) = ((15 - m : Nat) : Int) := by rw [IntKind.wrap_i64]; omega
        go_wp2
        all_goals
          go_round
          case rel => exact ⟨k + 1, by omega, by go_num, by rw [HK.out, HP.out, IntWalk.wrap64_in ((kr (m : Int) : Nat) : Int) ⟨by omega, by omega⟩, IntWalk.wrap64_in _ ⟨by omega, by omega⟩]; go_num, by rw [HM.out, if_pos h0]; go_num, by rw [HT.out, if_pos h0]; congr 1; split <;> omega⟩
          case measure => simp [intOf]; omega
      · go_wp2
        go_round
        case rel => exact ⟨k + 1, by omega, by go_num, by rw [HK.out]; unfold kr; rw [if_neg h0]; rfl, by rw [HM.out, if_neg h0]; rfl, by rw [HT.out, if_neg h0]⟩
        case measure => simp [intOf]; omega
    · obtain rfl : k = len := by omega
      rw [List.take_of_length_le (by omega)] at hks hms ⊢
      clear hl hok hlen
      go_wp2
      go_ret3
      exact ⟨rfl, rfl⟩

set_option maxRecDepth 100000 in
theorem ref_check {w : World} {A : Option Addr} {len cap : Nat} {l : List Int} (hl : Ints w A len l) (hm : len ≤ maxLen) :
    Calls Tryd.prog 54 #[.slice A len cap] w fun e w' => e = .returned (.int .i64 (chk l)) ∧ w = w' := by
  unfold maxLen at hm
  have hlen := hl.1
  by_cases h288 : 288 < len
  · have hc : chk l = 1 := by unfold chk; rw [if_pos (by omega)]
    rw [hc]
    clear hc hl hlen
    go_enter Tryd.func54, Tryd.ntmps54
    go_wp2
    go_ret
    exact ⟨rfl, rfl⟩
  · have hsum := fun hok => ref_sum (cap := cap) hl (by omega) hok
    have HSUM := Lib.hid hsum
    clear hsum
    go_enter Tryd.func54, Tryd.ntmps54
    go_wp2
    go_loop [3] (fun i => ∃ k : Nat, k ≤ len ∧ okLens (l.take k) = true ∧ i = .int .i64 k) (fun i => len - (intOf i).toNat)
    case atStart => exact ⟨0, Nat.zero_le _, rfl, rfl⟩
    case round =>
      obtain ⟨k, hk, hok, rfl⟩ := hrel
      by_cases hlt : k < len
      · obtain ⟨g, o, rfl, hg, hc⟩ := hl.at hlt
        have hts := lens_take (l := l) (k := k) (by omega)
        have HS := Lib.hid hts
        have HX := Lib.hid (show l[k]'(by omega) ∈ l from List.getElem_mem _)
        generalize l[k]'(by omega) = x at *
        clear hl hts
        by_cases hr : 0 ≤ x ∧ x ≤ 15
        · have HO := Lib.hid (show okLens (l.take (k + 1)) = true by rw [HS.out, okLens_snoc, hok]; simp [okLen]; omega)
          have n0 : decide (x < 0) = false := by simp; omega
          have n1 : decide ((15 : Int) < x) = false := by simp; omega
          clear hr HS hok HX
          go_wp2
          go_round
          case rel => exact ⟨k + 1, by omega, HO.out, by go_num⟩
          case measure => simp [intOf]; omega
        · have hc1 : chk l = 1 := by
            unfold chk; split
            · rfl
            · rw [if_pos]
              apply Classical.byContradiction
              intro h
              have h2 : okLens l = true := by simpa using h
              have := List.all_eq_true.1 h2 x HX.out
              simp only [okLen, decide_eq_true_eq] at this
              exact hr this
          have HC1 := Lib.hid hc1
          clear hc1 HS hok HX hlen
          by_cases hn : x < 0
          · go_wp2
            go_ret
            rw [HC1.out]
            exact ⟨rfl, rfl⟩
          · have n0 : decide (x < 0) = false := by simp; omega
            have n1 : 15 < x := by omega
            go_wp2
            go_ret
            rw [HC1.out]
            exact ⟨rfl, rfl⟩
      · obtain rfl : k = len := by omega
        rw [List.take_of_length_le (by omega)] at hok
        have HC := Lib.hid (show chk l = (if 32768 < ksum l then 10 else if ksum l < 32768 ∧ 0 < many l ∧ ¬ (many l = 1 ∧ top l = 1) then 11 else 0) by
          rw [chk_ref, if_neg (by omega), if_neg (by simp [hok])])
        have hs := HSUM.out hok
        generalize ksum l = S at *
        generalize many l = M at *
        generalize top l = T at *
        clear hl hok hlen HSUM
        obtain ⟨s, hS⟩ : ∃ s : Int, s = (S : Int) := ⟨_, rfl⟩
        obtain ⟨m, hM⟩ : ∃ m : Int, m = (M : Int) := ⟨_, rfl⟩
        have HC2 := Lib.hid (show (if 32768 < S then (10 : Int) else if S < 32768 ∧ 0 < M ∧ ¬ (M = 1 ∧ T = 1) then 11 else 0) = (if 32768 < s then 10 else if s < 32768 ∧ 0 < m ∧ ¬ (m = 1 ∧ T = 1) then 11 else 0) by
          have e1 : (32768 < S) = ((32768 : Int) < s) := by rw [hS]; apply propext; omega
          have e2 : (S < 32768 ∧ 0 < M ∧ ¬ (M = 1 ∧ T = 1)) = (s < 32768 ∧ 0 < m ∧ ¬ (m = 1 ∧ T = 1)) := by rw [hS, hM]; apply propext; omega
          simp only [e1, e2])
        rw [← hS, ← hM] at hs
        clear hS hM
        have HS := Lib.hid hs
        clear hs
        by_cases c1 : 32768 < s
        · go_wp2_with fail
          refine HS.out.mono ?_
          rintro e w' ⟨rfl, rfl⟩
          go_wp2
          go_ret
          rw [HC.out, HC2.out, if_pos c1]
          exact ⟨rfl, rfl⟩
        · have C1 := Lib.hid c1
          have d1 : decide ((32768 : Int) < s) = false := by simp; omega
          clear c1
          have fin : ∀ v : Int, v = (if s < 32768 ∧ 0 < m ∧ ¬ (m = 1 ∧ T = 1) then 11 else 0) → Ending.returned (.int .i64 v) = .returned (.int .i64 (chk l)) := by
            intro v hv; rw [HC.out, HC2.out, if_neg (by have := C1.out; omega), hv]
          have FIN := Lib.hid fin
          clear fin HC HC2
          by_cases c2 : s < 32768
          · have C2 := Lib.hid c2
            have d2 : decide (s < 32768) = true := by simp; omega
            clear c2
            by_cases c3 : 0 < m
            · have C3 := Lib.hid c3
              have d3 : decide (0 < m) = true := by simp; omega
              clear c3
              by_cases c4 : m = 1
              · have e4 : (m == 1) = true := by simp; omega
                have C4 := Lib.hid c4
                clear c4
                by_cases c5 : T = 1
                · have e5 : (T == 1) = true := by simp; omega
                  have C5 := Lib.hid c5
                  clear c5
                  go_wp2_with fail
                  refine HS.out.mono ?_
                  rintro e w' ⟨rfl, rfl⟩
                  go_wp2
                  go_ret
                  exact ⟨FIN.out _ (by rw [if_neg (by have := C4.out; have := C5.out; omega)]), rfl⟩
                · have e5 : (T == 1) = false := by simp; omega
                  have C5 := Lib.hid c5
                  clear c5
                  go_wp2_with fail
                  refine HS.out.mono ?_
                  rintro e w' ⟨rfl, rfl⟩
                  go_wp2
                  go_ret
                  exact ⟨FIN.out _ (by rw [if_pos (by have := C2.out; have := C3.out; have := C5.out; omega)]), rfl⟩
              · have e4 : (m == 1) = false := by simp; omega
                have C4 := Lib.hid c4
                clear c4
                go_wp2_with fail
                refine HS.out.mono ?_
                rintro e w' ⟨rfl, rfl⟩
                go_wp2
                go_ret
                exact ⟨FIN.out _ (by rw [if_pos (by have := C2.out; have := C3.out; have := C4.out; omega)]), rfl⟩
            · have d3 : decide (0 < m) = false := by simp; omega
              have C3 := Lib.hid c3
              clear c3
              go_wp2_with fail
              refine HS.out.mono ?_
              rintro e w' ⟨rfl, rfl⟩
              go_wp2
              go_ret
              exact ⟨FIN.out _ (by rw [if_neg (by have := C3.out; omega)]), rfl⟩
          · have C2 := Lib.hid c2
            have d2 : decide (s < 32768) = false := by simp; omega
            clear c2
            go_wp2_with fail
            refine HS.out.mono ?_
            rintro e w' ⟨rfl, rfl⟩
            go_wp2
            go_ret
            exact ⟨FIN.out _ (by rw [if_neg (by have := C2.out; omega)]), rfl⟩
end Go.Proofs.YtcllddfhppikhaaDoor
