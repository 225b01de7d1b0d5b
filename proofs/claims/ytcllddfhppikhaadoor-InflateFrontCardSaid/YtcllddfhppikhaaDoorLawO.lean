/- The walk of the statement on what stands behind a stream. -/
import Derived.Test.YtcllddfhppikhaaDoorLawN
namespace Go.Proofs.YtcllddfhppikhaaDoor
set_option maxRecDepth 100000
open Go Go.RowKit

section
variable {w : World}
theorem pre_append (s t : ByteArray) : Pre s (s ++ t) := ⟨t.data.toList, by simp⟩
theorem pre_extract (s : ByteArray) (k : Nat) : Pre (s.extract 0 k) s := by
  unfold Pre
  rw [Lib.extract_data]
  simp [List.take_prefix]
theorem mod_place (c : Int) {n : Nat} (hn : 0 < n) (hn2 : n ≤ 20000) : ∃ k : Nat, k < n ∧ (wrap64 (c.tmod (n : Int) + (n : Int))).tmod (n : Int) = (k : Int) := by
  have h1 := Int.tmod_lt_of_pos c (show (0 : Int) < (n : Int) by omega)
  have h2 := Int.tmod_lt_of_pos (-c) (show (0 : Int) < (n : Int) by omega)
  rw [Int.neg_tmod] at h2
  have e : wrap64 (c.tmod (n : Int) + (n : Int)) = c.tmod (n : Int) + (n : Int) := IntWalk.wrap64_in _ ⟨by omega, by omega⟩
  rw [e]
  have h3 := Int.tmod_lt_of_pos (c.tmod (n : Int) + (n : Int)) (show (0 : Int) < (n : Int) by omega)
  have h4 := Int.tmod_nonneg (n : Int) (show 0 ≤ c.tmod (n : Int) + (n : Int) by omega)
  exact ⟨((c.tmod (n : Int) + (n : Int)).tmod (n : Int)).toNat, by omega, by omega⟩
theorem inflateFront_walk {s t : ByteArray} {a c : Int} (hs : s.size ≤ 140737488351232) (ht : t.size ≤ 140737488351232) (hb : -9223372036854775808 ≤ a ∧ a ≤ 9223372036854775807 ∧ -9223372036854775808 ≤ c ∧ c ≤ 9223372036854775807) (hG : GL w) :
    Calls Tryd.prog 4 #[.string s, .string t, .agg #[.int .i64 a, .int .i64 c]] w fun e w' => e = .returned (.bool true) ∧ Below w.heap.size w w' := by
  have hBa := but_alloc w (.cells #[.int .i64 a, .int .i64 c] 27)
  have HG1 := Lib.hid (hG.but hBa)
  have HBA := Lib.hid hBa
  have hI := Is.fresh w 27 #[.int .i64 a, .int .i64 c]
  have HI := Lib.hid hI
  clear hI hBa hG
  by_cases h1 : 20000 < s.size
  · have d1 : decide ((20000 : Int) < (s.size : Int)) = true := by simp; omega
    clear h1 hb
    go_enter Tryd.func4, Tryd.ntmps4
    go_wp2_with fail
    refine (awake3_any _ HG1.out).mono ?_
    rintro e w9 ⟨rfl, hB⟩
    have HF := Lib.hid (HBA.out.trans hB).belowNew
    clear hB
    go_wp2
    go_ret
    exact ⟨rfl, HF.out⟩
  · have d1 : decide ((20000 : Int) < (s.size : Int)) = false := by simp; omega
    by_cases h2 : 1000 < t.size
    · have d2 : decide ((1000 : Int) < (t.size : Int)) = true := by simp; omega
      clear h1 h2 hb
      go_enter Tryd.func4, Tryd.ntmps4
      go_wp2_with fail
      refine (awake3_any _ HG1.out).mono ?_
      rintro e w9 ⟨rfl, hB⟩
      have HF := Lib.hid (HBA.out.trans hB).belowNew
      clear hB
      go_wp2
      go_ret
      exact ⟨rfl, HF.out⟩
    · have d2 : decide ((1000 : Int) < (t.size : Int)) = false := by simp; omega
      by_cases h3 : 100000 < a
      · have d3 : decide ((100000 : Int) < a) = true := by simpa using h3
        clear h1 h2 h3 hb
        go_enter Tryd.func4, Tryd.ntmps4
        go_wp2_with fail
        refine (awake3_any _ HG1.out).mono ?_
        rintro e w9 ⟨rfl, hB⟩
        have HF := Lib.hid (HBA.out.trans hB).belowNew
        clear hB
        go_wp2
        go_ret
        exact ⟨rfl, HF.out⟩
      · have d3 : decide ((100000 : Int) < a) = false := by simpa using h3
        have hst : (s ++ t).size ≤ 1099511627776 := by rw [ByteArray.size_append]; omega
        have f1 : (inflT s a).2.2 = 3 → txt (inflT s a).1 = ⟨#[]⟩ ∧ (inflT s a).2.1 = 0 := fun h => by
          rw [inflT_end h]; exact ⟨rfl, rfl⟩
        have f2 : (inflT s a).2.2 ≠ 3 → txt (inflT (s ++ t) a).1 = txt (inflT s a).1 ∧ (inflT (s ++ t) a).2.1 = (inflT s a).2.1 ∧ (inflT (s ++ t) a).2.2 = (inflT s a).2.2 := fun h => by
          rw [inflT_front (pre_append s t) h]; exact ⟨rfl, rfl, rfl⟩
        have f3 : ((txt (inflT s a).1).size : Int) ≤ max a 0 := by rw [size_txt]; exact inflT_size.2
        have f4 : (inflT s a).2.1 ≤ s.size := inflT_size.1
        have f5 : (inflT s a).2.2 = 0 → ∀ k, k < (inflT s a).2.1 → (inflT (s.extract 0 k) a).2.2 = 3 := fun h k hk => inflT_cut h (pre_extract s k) (by
          have : (s.extract 0 k).size ≤ k := by rw [ByteArray.size_extract]; omega
          omega)
        have c1 := fun (w : World) (hG : GL w) => inflate_at (w := w) s a (by omega) (by omega) hG rfl rfl rfl
        have c2 := fun (w : World) (hG : GL w) => inflate_at (w := w) (s ++ t) a hst (by omega) hG rfl rfl rfl
        have c3 := fun (w : World) (hG : GL w) (k : Nat) => inflate_at (w := w) (s.extract 0 k) a (by rw [ByteArray.size_extract]; omega) (by omega) hG rfl rfl rfl
        generalize txt (inflT s a).1 = X1 at *
        generalize (inflT s a).2.1 = N1 at *
        generalize (inflT s a).2.2 = E1 at *
        generalize txt (inflT (s ++ t) a).1 = X2 at *
        generalize (inflT (s ++ t) a).2.1 = N2 at *
        generalize (inflT (s ++ t) a).2.2 = E2 at *
        have F1 := Lib.hid f1
        have F2 := Lib.hid f2
        have F5 := Lib.hid f5
        have C1 := Lib.hid c1
        have C2 := Lib.hid c2
        have C3 := Lib.hid c3
        have HST := Lib.hid hst
        have hsb : s.size ≤ 20000 := by omega
        have htb : t.size ≤ 1000 := by omega
        clear f1 f2 f5 c1 c2 c3 h1 h2 hst
        by_cases hE3 : E1 = 3
        · obtain ⟨rfl, rfl⟩ := F1.out hE3
          subst hE3
          clear F1 F2 F5 f3 f4
          go_enter Tryd.func4, Tryd.ntmps4
          go_wp2_with fail
          refine (C1.out _ HG1.out).mono ?_
          rintro e w2 ⟨rfl, hB2⟩
          have HG2 := Lib.hid (HG1.out.but hB2)
          have HB2 := Lib.hid (HBA.out.trans hB2)
          clear hB2
          go_wp2_with fail
          refine (C2.out _ HG2.out).mono ?_
          rintro e w3 ⟨rfl, hB3⟩
          have HG3 := Lib.hid (HG2.out.but hB3)
          have HB3 := Lib.hid (HB2.out.trans hB3)
          clear hB3
          go_wp2_with (go_at_call 6; refine (awake3_any _ HG3.out).mono ?_; rintro e w9 ⟨rfl, hB⟩; have HF := Lib.hid (HB3.out.trans hB).belowNew; clear hB)
          all_goals
            go_ret
            exact ⟨rfl, HF.out⟩
        · obtain ⟨rfl, rfl, rfl⟩ := F2.out hE3
          have d4 : (E2 == 3) = false := by simpa using hE3
          have b2 : ((N2 : Int) != (N2 : Int)) = false := by simp
          have b3 : (E2 != E2) = false := by simp
          have b4 : decide ((N2 : Int) < 0) = false := by simp
          have b5 : decide ((s.size : Int) < (N2 : Int)) = false := by simp; omega
          have b6 : decide (s.size < N2) = false := by simp; omega
          by_cases hE0 : E2 = 0
          · subst hE0
            by_cases hn0 : N2 = 0
            · subst hn0
              have hn2 : decide (0 < 0) = false := by decide
              by_cases ha : 0 ≤ a
              · have b7 : decide (a < (X2.size : Int)) = false := by simp; omega
                clear F1 F2 F5 f3 b2 hE3
                go_enter Tryd.func4, Tryd.ntmps4
                go_wp2_with fail
                refine (C1.out _ HG1.out).mono ?_
                rintro e w2 ⟨rfl, hB2⟩
                have hI2 := HI.out.but hB2 (by simp)
                have HG2 := Lib.hid (HG1.out.but hB2)
                have HB2 := Lib.hid (HBA.out.trans hB2)
                have HI2 := Lib.hid hI2
                clear hB2 hI2
                go_wp2_with fail
                refine (C2.out _ HG2.out).mono ?_
                rintro e w3 ⟨rfl, hB3⟩
                have hI3 := HI2.out.but hB3 (by simp)
                have k3 : w3.cell? ⟨w.heap.size, 1, none⟩ = some (.int .i64 c) := hI3.cell 1
                have HG3 := Lib.hid (HG2.out.but hB3)
                have HB3 := Lib.hid (HB2.out.trans hB3)
                clear hB3 hI3
                go_wp2_with (go_at_call 6; refine (awake3_any _ HG3.out).mono ?_; rintro e w9 ⟨rfl, hB⟩; have HF := Lib.hid (HB3.out.trans hB).belowNew; clear hB)
                all_goals
                  go_ret
                  exact ⟨rfl, HF.out⟩
              · obtain rfl : X2 = ByteArray.empty := empty_of_size (by omega)
                have ha2 : a < 0 := by omega
                clear F1 F2 F5 f3 b2 hE3
                go_enter Tryd.func4, Tryd.ntmps4
                go_wp2_with fail
                refine (C1.out _ HG1.out).mono ?_
                rintro e w2 ⟨rfl, hB2⟩
                have hI2 := HI.out.but hB2 (by simp)
                have HG2 := Lib.hid (HG1.out.but hB2)
                have HB2 := Lib.hid (HBA.out.trans hB2)
                have HI2 := Lib.hid hI2
                clear hB2 hI2
                go_wp2_with fail
                refine (C2.out _ HG2.out).mono ?_
                rintro e w3 ⟨rfl, hB3⟩
                have hI3 := HI2.out.but hB3 (by simp)
                have k3 : w3.cell? ⟨w.heap.size, 1, none⟩ = some (.int .i64 c) := hI3.cell 1
                have HG3 := Lib.hid (HG2.out.but hB3)
                have HB3 := Lib.hid (HB2.out.trans hB3)
                clear hB3 hI3
                go_wp2_with (go_at_call 6; refine (awake3_any _ HG3.out).mono ?_; rintro e w9 ⟨rfl, hB⟩; have HF := Lib.hid (HB3.out.trans hB).belowNew; clear hB)
                all_goals
                  go_ret
                  exact ⟨rfl, HF.out⟩
            · have hn1 : (0 : Int) < (N2 : Int) := by omega
              have hn2 : decide (0 < N2) = true := by simp; omega
              have hN20 : N2 ≤ 20000 := by omega
              obtain ⟨k, hk, hke⟩ := mod_place c (show 0 < N2 by omega) hN20
              have hcut := F5.out rfl k hk
              have HCUT := Lib.hid hcut
              have hks : k ≤ s.size := by omega
              clear hcut hn0
              by_cases ha : 0 ≤ a
              · have b7 : decide (a < (X2.size : Int)) = false := by simp; omega
                clear F1 F2 F5 f3 b2 hE3
                go_enter Tryd.func4, Tryd.ntmps4
                go_wp2_with fail
                refine (C1.out _ HG1.out).mono ?_
                rintro e w2 ⟨rfl, hB2⟩
                have hI2 := HI.out.but hB2 (by simp)
                have HG2 := Lib.hid (HG1.out.but hB2)
                have HB2 := Lib.hid (HBA.out.trans hB2)
                have HI2 := Lib.hid hI2
                clear hB2 hI2
                go_wp2_with fail
                refine (C2.out _ HG2.out).mono ?_
                rintro e w3 ⟨rfl, hB3⟩
                have hI3 := HI2.out.but hB3 (by simp)
                have k3 : w3.cell? ⟨w.heap.size, 1, none⟩ = some (.int .i64 c) := hI3.cell 1
                have HG3 := Lib.hid (HG2.out.but hB3)
                have HB3 := Lib.hid (HB2.out.trans hB3)
                clear hB3 hI3
                go_wp2_with fail
                refine (C3.out _ HG3.out k).mono ?_
                rintro e w4 ⟨rfl, hB4⟩
                have HG4 := Lib.hid (HG3.out.but hB4)
                have HB4 := Lib.hid (HB3.out.trans hB4)
                have d5 : ((inflT (s.extract 0 k) a).2.2 == 3) = true := by rw [HCUT.out]; rfl
                clear hB4 k3
                go_wp2_with (go_at_call 6; refine (awake3_any _ HG4.out).mono ?_; rintro e w9 ⟨rfl, hB⟩; have HF := Lib.hid (HB4.out.trans hB).belowNew; clear hB)
                all_goals
                  go_ret
                  exact ⟨rfl, HF.out⟩
              · obtain rfl : X2 = ByteArray.empty := empty_of_size (by omega)
                have ha2 : a < 0 := by omega
                clear F1 F2 F5 f3 b2 hE3
                go_enter Tryd.func4, Tryd.ntmps4
                go_wp2_with fail
                refine (C1.out _ HG1.out).mono ?_
                rintro e w2 ⟨rfl, hB2⟩
                have hI2 := HI.out.but hB2 (by simp)
                have HG2 := Lib.hid (HG1.out.but hB2)
                have HB2 := Lib.hid (HBA.out.trans hB2)
                have HI2 := Lib.hid hI2
                clear hB2 hI2
                go_wp2_with fail
                refine (C2.out _ HG2.out).mono ?_
                rintro e w3 ⟨rfl, hB3⟩
                have hI3 := HI2.out.but hB3 (by simp)
                have k3 : w3.cell? ⟨w.heap.size, 1, none⟩ = some (.int .i64 c) := hI3.cell 1
                have HG3 := Lib.hid (HG2.out.but hB3)
                have HB3 := Lib.hid (HB2.out.trans hB3)
                clear hB3 hI3
                go_wp2_with fail
                refine (C3.out _ HG3.out k).mono ?_
                rintro e w4 ⟨rfl, hB4⟩
                have HG4 := Lib.hid (HG3.out.but hB4)
                have HB4 := Lib.hid (HB3.out.trans hB4)
                have d5 : ((inflT (s.extract 0 k) a).2.2 == 3) = true := by rw [HCUT.out]; rfl
                clear hB4 k3
                go_wp2_with (go_at_call 6; refine (awake3_any _ HG4.out).mono ?_; rintro e w9 ⟨rfl, hB⟩; have HF := Lib.hid (HB4.out.trans hB).belowNew; clear hB)
                all_goals
                  go_ret
                  exact ⟨rfl, HF.out⟩
          · have b8 : (E2 == 0) = false := by simpa using hE0
            by_cases ha : 0 ≤ a
            · have b7 : decide (a < (X2.size : Int)) = false := by simp; omega
              clear F1 F2 F5 f3 b2
              go_enter Tryd.func4, Tryd.ntmps4
              go_wp2_with fail
              refine (C1.out _ HG1.out).mono ?_
              rintro e w2 ⟨rfl, hB2⟩
              have hI2 := HI.out.but hB2 (by simp)
              have HG2 := Lib.hid (HG1.out.but hB2)
              have HB2 := Lib.hid (HBA.out.trans hB2)
              have HI2 := Lib.hid hI2
              clear hB2 hI2
              go_wp2_with fail
              refine (C2.out _ HG2.out).mono ?_
              rintro e w3 ⟨rfl, hB3⟩
              have hI3 := HI2.out.but hB3 (by simp)
              have k3 : w3.cell? ⟨w.heap.size, 1, none⟩ = some (.int .i64 c) := hI3.cell 1
              have HG3 := Lib.hid (HG2.out.but hB3)
              have HB3 := Lib.hid (HB2.out.trans hB3)
              clear hB3 hI3
              go_wp2_with (go_at_call 6; refine (awake3_any _ HG3.out).mono ?_; rintro e w9 ⟨rfl, hB⟩; have HF := Lib.hid (HB3.out.trans hB).belowNew; clear hB)
              all_goals
                go_ret
                exact ⟨rfl, HF.out⟩
            · obtain rfl : X2 = ByteArray.empty := empty_of_size (by omega)
              have ha2 : a < 0 := by omega
              clear F1 F2 F5 f3 b2
              go_enter Tryd.func4, Tryd.ntmps4
              go_wp2_with fail
              refine (C1.out _ HG1.out).mono ?_
              rintro e w2 ⟨rfl, hB2⟩
              have hI2 := HI.out.but hB2 (by simp)
              have HG2 := Lib.hid (HG1.out.but hB2)
              have HB2 := Lib.hid (HBA.out.trans hB2)
              have HI2 := Lib.hid hI2
              clear hB2 hI2
              go_wp2_with fail
              refine (C2.out _ HG2.out).mono ?_
              rintro e w3 ⟨rfl, hB3⟩
              have hI3 := HI2.out.but hB3 (by simp)
              have k3 : w3.cell? ⟨w.heap.size, 1, none⟩ = some (.int .i64 c) := hI3.cell 1
              have HG3 := Lib.hid (HG2.out.but hB3)
              have HB3 := Lib.hid (HB2.out.trans hB3)
              clear hB3 hI3
              go_wp2_with (go_at_call 6; refine (awake3_any _ HG3.out).mono ?_; rintro e w9 ⟨rfl, hB⟩; have HF := Lib.hid (HB3.out.trans hB).belowNew; clear hB)
              all_goals
                go_ret
                exact ⟨rfl, HF.out⟩
end
end Go.Proofs.YtcllddfhppikhaaDoor
