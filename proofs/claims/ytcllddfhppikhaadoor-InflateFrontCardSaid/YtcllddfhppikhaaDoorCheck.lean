/- The contracts of Check, of the document's answer to it, and of the test that two lists are the same. -/
import Derived.Test.YtcllddfhppikhaaDoorInts
import Derived.WalkLawsBesides
namespace Go.Proofs.YtcllddfhppikhaaDoor
set_option maxRecDepth 100000
open Go Go.RowKit

theorem lens_take {l : List Int} {k : Nat} (h : k < l.length) : l.take (k + 1) = l.take k ++ [l[k]] := List.take_succ_eq_append_getElem h
theorem kr_pos {x : Int} {m : Nat} (h : x = m) (h0 : 0 < x) (h1 : m ≤ 15) : (32768 : Int) / 2 ^ m = (kr x : Nat) := by
  unfold kr; rw [if_pos h0]; subst h
  have e : (15 : Nat) - (m : Int).toNat = 15 - m := by omega
  rw [e]
  have : (2 : Int) ^ m * 2 ^ (15 - m) = 32768 := by rw [← Int.pow_add, show m + (15 - m) = 15 from by omega]; rfl
  rw [← this, Int.mul_ediv_cancel_left _ (by have := Int.pow_pos (n := 2) (m := m) (by decide); omega)]
  simp

set_option maxRecDepth 100000 in
theorem check_any {w : World} {A : Option Addr} {len cap : Nat} {l : List Int} (hl : Ints w A len l) (hm : len ≤ maxLen) :
    Calls Tryd.prog 56 #[.slice A len cap] w fun e w' => e = .returned (.int .i64 (chk l)) ∧ w = w' := by
  unfold maxLen at hm
  have hlen := hl.1
  by_cases h288 : 288 < len
  · have hc : chk l = 1 := by unfold chk; rw [if_pos (by omega)]
    rw [hc]
    clear hc hl hlen
    go_enter Tryd.func56, Tryd.ntmps56
    go_wp2
    go_ret
    exact ⟨rfl, rfl⟩
  · go_enter Tryd.func56, Tryd.ntmps56
    go_wp2
    go_loop [3, 4, 13] (fun sm wd i => ∃ k : Nat, k ≤ len ∧ okLens (l.take k) = true ∧ i = .int .i64 k ∧ sm = .int .i64 (ksum (l.take k)) ∧ wd = .int .i64 (many (l.take k))) (fun _ _ i => len - (intOf i).toNat)
    case atStart => exact ⟨0, Nat.zero_le _, rfl, rfl, rfl, rfl⟩
    case round =>
      obtain ⟨k, hk, hok, rfl, rfl, rfl⟩ := hrel
      have hks := ksum_le (l.take k)
      have hms := many_le (l.take k)
      rw [List.length_take] at hks hms
      by_cases hlt : k < len
      · obtain ⟨g, o, rfl, hg, hc⟩ := hl.at hlt
        have hts := lens_take (l := l) (k := k) (by omega)
        have HS := Lib.hid hts
        have HX := Lib.hid (show l[k]'(by omega) ∈ l from List.getElem_mem _)
        generalize l[k]'(by omega) = x at *
        clear hl hts
        by_cases hr : 0 ≤ x ∧ x ≤ 15
        · obtain ⟨m, rfl⟩ := Int.eq_ofNat_of_zero_le hr.1
          have hm15 : m ≤ 15 := by omega
          have HO := Lib.hid (show okLens (l.take (k + 1)) = true by rw [HS.out, okLens_snoc, hok]; simp [okLen]; omega)
          have HK := Lib.hid (show ksum (l.take (k + 1)) = ksum (l.take k) + kr m by rw [HS.out, ksum_snoc])
          have HM := Lib.hid (show many (l.take (k + 1)) = many (l.take k) + (if 0 < (m : Int) then 1 else 0) by rw [HS.out, many_snoc])
          have n0 : decide ((m : Int) < 0) = false := by simp
          have n1 : decide ((15 : Int) < (m : Int)) = false := by simp; omega
          clear hr HS hok HX
          by_cases h0 : 0 < (m : Int)
          · have HP := Lib.hid (kr_pos (m := m) rfl h0 hm15)
            have hkl := kr_le m
            go_wp2
            go_round
            case rel => exact ⟨k + 1, by omega, HO.out, by go_num, by rw [HP.out, HK.out, IntWalk.wrap64_in _ ⟨by omega, by omega⟩]; go_num, by rw [HM.out, if_pos h0]; go_num⟩
            case measure => simp [intOf]; omega
          · go_wp2
            go_round
            case rel => exact ⟨k + 1, by omega, HO.out, by go_num, by rw [HK.out]; unfold kr; rw [if_neg h0]; rfl, by rw [HM.out, if_neg h0]; rfl⟩
            case measure => simp [intOf]; omega
        · have hc1 : chk l = 1 := by
            unfold chk; split
            · rfl
            · rw [if_pos]
              apply Classical.byContradiction
              intro h
              have h2 : okLens l = true := by simpa using h
              have := List.all_eq_true.1 h2 x HX.out
              simp only [okLen, decide_eq_true_eq] at this
              exact hr this
          have HC1 := Lib.hid hc1
          clear hc1 HS hok HX hlen
          by_cases hn : x < 0
          · go_wp2
            go_ret
            rw [HC1.out]
            exact ⟨rfl, rfl⟩
          · have n0 : decide (x < 0) = false := by simp; omega
            have n1 : 15 < x := by omega
            go_wp2
            go_ret
            rw [HC1.out]
            exact ⟨rfl, rfl⟩
      · obtain rfl : k = len := by omega
        rw [List.take_of_length_le (by omega)] at hok hks hms ⊢
        have HC := Lib.hid (show chk l = (if 32768 < ksum l then 10 else if ksum l < 32768 ∧ 0 < many l ∧ ¬ (many l = 1 ∧ ksum l = 16384) then 11 else 0) by
          unfold chk; rw [if_neg (by omega), if_neg (by simp [hok])])
        generalize ksum l = S at *
        generalize many l = M at *
        clear hl hok hlen
        obtain ⟨s, hs⟩ : ∃ s : Int, s = (S : Int) := ⟨_, rfl⟩
        obtain ⟨m, hmm⟩ : ∃ m : Int, m = (M : Int) := ⟨_, rfl⟩
        have HC2 := Lib.hid (show (if 32768 < S then (10 : Int) else if S < 32768 ∧ 0 < M ∧ ¬ (M = 1 ∧ S = 16384) then 11 else 0) = (if 32768 < s then 10 else if s < 32768 ∧ 0 < m ∧ ¬ (m = 1 ∧ s = 16384) then 11 else 0) by
          have e1 : (32768 < S) = ((32768 : Int) < s) := by rw [hs]; apply propext; omega
          have e2 : (S < 32768 ∧ 0 < M ∧ ¬ (M = 1 ∧ S = 16384)) = (s < 32768 ∧ 0 < m ∧ ¬ (m = 1 ∧ s = 16384)) := by rw [hs, hmm]; apply propext; omega
          simp only [e1, e2])
        rw [← hs, ← hmm]
        clear hs hmm hks hms
        by_cases c1 : 32768 < s
        · go_wp2
          all_goals
            go_ret
            rw [HC.out, HC2.out, if_pos c1]
            exact ⟨rfl, rfl⟩
        · have C1 := Lib.hid c1
          have d1 : decide ((32768 : Int) < s) = false := by simp; omega
          clear c1
          by_cases c2 : s < 32768
          · have C2 := Lib.hid c2
            have d2 : decide (s < 32768) = true := by simp; omega
            clear c2
            by_cases c3 : 0 < m
            · have C3 := Lib.hid c3
              have d3 : decide (0 < m) = true := by simp; omega
              clear c3
              by_cases c4 : m = 1
              · have e4 : (m == 1) = true := by simp; omega
                have C4 := Lib.hid c4
                clear c4
                by_cases c5 : s = 16384
                · have e5 : (s == 16384) = true := by simp; omega
                  have C5 := Lib.hid c5
                  clear c5
                  go_wp2
                  go_ret
                  rw [HC.out, HC2.out, if_neg (by have := C1.out; omega), if_neg (by have := C4.out; have := C5.out; omega)]
                  exact ⟨rfl, rfl⟩
                · have e5 : (s == 16384) = false := by simp; omega
                  have C5 := Lib.hid c5
                  clear c5
                  go_wp2
                  go_ret
                  rw [HC.out, HC2.out, if_neg (by have := C1.out; omega), if_pos (by have := C2.out; have := C3.out; have := C5.out; omega)]
                  exact ⟨rfl, rfl⟩
              · have e4 : (m == 1) = false := by simp; omega
                have C4 := Lib.hid c4
                clear c4
                go_wp2
                go_ret
                rw [HC.out, HC2.out, if_neg (by have := C1.out; omega), if_pos (by have := C2.out; have := C3.out; have := C4.out; omega)]
                exact ⟨rfl, rfl⟩
            · have e4 : (m == 1) = false := by simp; omega
              have d3 : decide (0 < m) = false := by simp; omega
              have C3 := Lib.hid c3
              clear c3
              go_wp2
              go_ret
              rw [HC.out, HC2.out, if_neg (by have := C1.out; omega), if_neg (by have := C3.out; omega)]
              exact ⟨rfl, rfl⟩
          · have C2 := Lib.hid c2
            have d2 : decide (s < 32768) = false := by simp; omega
            clear c2
            by_cases c4 : m = 1
            · have e4 : (m == 1) = true := by simp; omega
              have C4 := Lib.hid c4
              have e5 : (s == 16384) = false := by have := C2.out; simp; omega
              clear c4
              go_wp2
              go_ret
              rw [HC.out, HC2.out, if_neg (by have := C1.out; omega), if_neg (by have := C2.out; omega)]
              exact ⟨rfl, rfl⟩
            · have e4 : (m == 1) = false := by simp; omega
              have C4 := Lib.hid c4
              clear c4
              go_wp2
              go_ret
              rw [HC.out, HC2.out, if_neg (by have := C1.out; omega), if_neg (by have := C2.out; omega)]
              exact ⟨rfl, rfl⟩
end Go.Proofs.YtcllddfhppikhaaDoor
