/- The program's test of a type, and which types must be known. -/
import Derived.Test.YtdfjdajfkamafaaCkP
import Derived.Test.YtdfjdajfkamafaaCkB
import Derived.Test.YtdfjdajfkamafaaHeM
set_option maxRecDepth 100000
set_option linter.unusedVariables false
namespace Go.Proofs.Ytdfjdajfkamafaa
set_option maxRecDepth 100000
open Go Go.RowKit
theorem critT_at {l : List UInt8} (h : 0 < l.length) : critT l = decide (65 ≤ (l[0]).toNat ∧ (l[0]).toNat ≤ 90) := by
  match l, h with
  | b :: _, _ => rfl
theorem pcrit_any (w : World) {s : ByteArray} (hs : s.size ≤ 140737488351232) : Calls Try.prog 16 #[.string s] w fun e w' => e = .returned (.bool (critT s.data.toList)) ∧ w = w' := by
  have hl : s.data.toList.length = s.size := by simp
  by_cases h0 : s.size = 0
  · have HN := Lib.hid (show critT s.data.toList = false by rw [show s.data.toList = [] from List.eq_nil_of_length_eq_zero (by omega)]; rfl)
    have dn : s.toList = [] := by
      rw [ByteArray.toList_eq]
      exact List.eq_nil_of_length_eq_zero (by omega)
    clear hl hs h0
    go_enter Try.func16, Try.ntmps16
    go_wp2
    go_ret
    exact ⟨by rw [HN.out]; rfl, rfl⟩
  · have hpos : 0 < s.size := by omega
    have k0 : ∀ W, (Instr.index 9 (.string s) (.int .i64 0)).run Try.prog W = .ok (.int .u8 ((s.data.toList[0]'(by rw [hl]; exact hpos)).toNat : Nat)) W := fun W => byteC_run (k := 0) hpos W
    have hcr := critT_at (l := s.data.toList) (by rw [hl]; exact hpos)
    have dm : ¬ s.toList = [] := by
      rw [ByteArray.toList_eq]
      exact fun e => by rw [e] at hl; simp at hl; omega
    have dn : s.toList.isEmpty = false := by simpa using dm
    have hb8 := (s.data.toList[0]'(by rw [hl]; exact hpos)).toNat_lt
    obtain ⟨x, hx⟩ : ∃ x, x = (s.data.toList[0]'(by rw [hl]; exact hpos)).toNat := ⟨_, rfl⟩
    rw [← hx] at hcr hb8
    simp only [← hx] at k0
    have HCR := Lib.hid hcr
    have HU := Lib.hid (fun v => pupper_any v (x := x) hb8)
    obtain ⟨u, hu⟩ : ∃ u, u = decide (65 ≤ x ∧ x ≤ 90) := ⟨_, rfl⟩
    rw [← hu] at HCR HU
    clear hx hcr hl hs hu
    go_enter Try.func16, Try.ntmps16
    go_wp2_with (go_at_call 28; refine (HU.out _).mono ?_; rintro e w1 ⟨rfl, rfl⟩)
    go_ret
    exact ⟨by rw [HCR.out]; rfl, rfl⟩
theorem pfits_any (w : World) {t : List UInt8} {m : Nat} :
    Calls Try.prog 23 #[.string (strL t), .int .i64 (m : Int)] w fun e w' => e = .returned (.bool (rightT t && decide (m ≤ 2147483647))) ∧ w = w' := by
  have hlen : (strL t).size = t.length := strL_size t
  by_cases h4 : t.length = 4
  · have d4 : (((strL t).size : Int) != 4) = false := by rw [hlen]; simp; omega
    by_cases hb : m ≤ 2147483647
    · have db : decide ((2147483647 : Int) < (m : Int)) = false := by simp; omega
      have HE := Lib.hid hlen
      have HT := Lib.hid (show (t.take 4).all letterB = true → (rightT t && decide (m ≤ 2147483647)) = true from fun ha => by rw [right_whole h4 ha, decide_eq_true hb]; rfl)
      have HF := Lib.hid (fun k (hk : k < t.length) h => (show (rightT t && decide (m ≤ 2147483647)) = false by rw [letter_not hk h]; rfl))
      have HX := Lib.hid (fun k (hk : k < t.length) h ha => letter_next hk h ha)
      have HK := Lib.hid (fun k (hk : k < (strL t).size) w => byteC_run hk w)
      have HL := Lib.hid h4
      obtain ⟨S, hS⟩ : ∃ S, S = strL t := ⟨_, rfl⟩
      have HS := Lib.hid hS
      obtain ⟨r, hr⟩ : ∃ r, r = (rightT t && decide (m ≤ 2147483647)) := ⟨_, rfl⟩
      rw [← hr] at HT HF ⊢
      rw [← hS] at d4 ⊢
      have hS4 : S.size = 4 := by rw [hS, hlen, h4]
      clear hlen hS hr h4 hb
      go_enter Try.func23, Try.ntmps23
      go_wp2
      go_loop [15] (fun i => ∃ k : Nat, k ≤ 4 ∧ i = .int .i64 k ∧ Hid ((t.take k).all letterB = true)) (fun i => 4 - (intOf i).toNat)
      case atStart => exact ⟨0, Nat.zero_le _, rfl, Lib.hid rfl⟩
      case round =>
        obtain ⟨k, hk, rfl, HA⟩ := hrel
        by_cases hlt : k < 4
        · have hkl : k < t.length := by rw [HL.out]; exact hlt
          have hkt : k < (strL t).size := by rw [HE.out]; exact hkl
          have hf := HF.out k hkl
          have hn := HX.out k hkl
          have kx : ∀ w, (Instr.index 9 (.string S) (.int .i64 (k : Int))).run Try.prog w = .ok (.int .u8 ((t[k]'hkl).toNat : Nat)) w := fun w => by
            have h := HK.out k hkt w
            simp only [strL_list] at h
            rw [HS.out]
            exact h
          obtain ⟨b, hb⟩ : ∃ b, b = t[k]'hkl := ⟨_, rfl⟩
          simp only [← hb] at hf hn kx
          have hlb : letterB b = decide (65 ≤ b.toNat ∧ b.toNat ≤ 90 ∨ 97 ≤ b.toNat ∧ b.toNat ≤ 122) := rfl
          have hb8 := b.toNat_lt
          obtain ⟨x, hx⟩ : ∃ x, x = b.toNat := ⟨_, rfl⟩
          rw [← hx] at hlb hb8
          simp only [← hx] at kx
          have HU := Lib.hid (fun v => pupper_any v (x := x) hb8)
          have HW := Lib.hid (fun v => plower_any v (x := x) hb8)
          clear hb hx hkt hkl
          obtain ⟨u, hu⟩ : ∃ u, u = decide (65 ≤ x ∧ x ≤ 90) := ⟨_, rfl⟩
          obtain ⟨v, hv⟩ : ∃ u, u = decide (97 ≤ x ∧ x ≤ 122) := ⟨_, rfl⟩
          have hlb2 : letterB b = (u || v) := by rw [hlb, hu, hv]; by_cases h1 : 65 ≤ x ∧ x ≤ 90 <;> by_cases h2 : 97 ≤ x ∧ x ≤ 122 <;> simp [h1, h2]
          rw [← hu] at HU
          rw [← hv] at HW
          clear hlb hu hv
          cases u
          · cases v
            · have HN := Lib.hid (hf (by rw [hlb2]; rfl))
              clear hf hn hlb2
              go_wp2_with (first | (go_at_call 28; refine (HU.out _).mono ?_; rintro e w1 ⟨rfl, rfl⟩) | (go_at_call 33; refine (HW.out _).mono ?_; rintro e w1 ⟨rfl, rfl⟩))
              go_ret
              exact ⟨by rw [HN.out]; rfl, rfl⟩
            · have HN := Lib.hid (hn (by rw [hlb2]; rfl) HA.out)
              clear hf hn hlb2
              go_wp2_with (first | (go_at_call 28; refine (HU.out _).mono ?_; rintro e w1 ⟨rfl, rfl⟩) | (go_at_call 33; refine (HW.out _).mono ?_; rintro e w1 ⟨rfl, rfl⟩))
              go_round
              case rel => exact ⟨k + 1, by omega, by go_num, HN⟩
              case measure => simp [intOf]; omega
          · have HN := Lib.hid (hn (by rw [hlb2]; rfl) HA.out)
            clear hf hn hlb2
            go_wp2_with (first | (go_at_call 28; refine (HU.out _).mono ?_; rintro e w1 ⟨rfl, rfl⟩) | (go_at_call 33; refine (HW.out _).mono ?_; rintro e w1 ⟨rfl, rfl⟩))
            go_round
            case rel => exact ⟨k + 1, by omega, by go_num, HN⟩
            case measure => simp [intOf]; omega
        · obtain rfl : k = 4 := by omega
          have HN := Lib.hid (HT.out HA.out)
          go_wp2
          go_ret
          exact ⟨by rw [HN.out]; rfl, rfl⟩
    · have db : decide ((2147483647 : Int) < (m : Int)) = true := by simp; omega
      have HN := Lib.hid (show (rightT t && decide (m ≤ 2147483647)) = false by rw [decide_eq_false hb, Bool.and_false])
      clear hlen h4 hb
      go_enter Try.func23, Try.ntmps23
      go_wp2
      go_ret
      exact ⟨by rw [HN.out]; rfl, rfl⟩
  · have d4 : (((strL t).size : Int) != 4) = true := by rw [hlen]; simp; omega
    have HN := Lib.hid (show (rightT t && decide (m ≤ 2147483647)) = false by rw [right_long h4]; rfl)
    clear hlen h4
    go_enter Try.func23, Try.ntmps23
    go_wp2
    go_ret
    exact ⟨by rw [HN.out]; rfl, rfl⟩
end Go.Proofs.Ytdfjdajfkamafaa
