/- The contracts of the cyclic sum and the other sum: the program's functions and the document's answer compute the same numbers, and write nothing. -/
import Derived.Test.YtdfjdajfkamafaaChecked
import Derived.Test.YtdfjdajfkamafaaMath
import Derived.Test.YtdfjdajfkamafaaWords
import Derived.WalkKit
import Derived.Lib.Hide
import Derived.Outline
namespace Go.Proofs.Ytdfjdajfkamafaa
set_option maxRecDepth 100000
open Go Go.RowKit

theorem ret_int {k : IntKind} {a b : Int} (h : a = b) : Ending.returned (.int k a) = .returned (.int k b) := by rw [h]
theorem crcBits_succ (n c : Nat) : crcBits (n + 1) c = crcBit (crcBits n c) := rfl
theorem crcBit_odd {c : Nat} (h : (c : Int) % 2 = 1) : crcBit c = (c / 2) ^^^ 3988292384 := by unfold crcBit; rw [if_pos (by omega)]
theorem crcBit_even {c : Nat} (h : ¬ (c : Int) % 2 = 1) : crcBit c = c / 2 := by unfold crcBit; rw [if_neg (by omega)]

theorem ref_crc (s : ByteArray) (w : World) (hs : s.size ≤ maxLen) :
    Calls Try.prog 21 #[.string s] w fun e w' => e = .returned (.int .i64 (crcSum s.data.toList)) ∧ w = w' := by
  unfold maxLen at hs
  go_enter Try.func21, Try.ntmps21
  go_wp2
  go_loop [3, 4, 5, 6] (fun c i _ _ => ∃ k : Nat, k ≤ s.size ∧ i = .int .i64 k ∧ c = .int .i64 (crcRaw (s.data.toList.take k))) (fun _ i _ _ => s.size - (intOf i).toNat)
  case atStart => exact ⟨0, Nat.zero_le _, rfl, rfl⟩
  case round =>
    obtain ⟨k, hk, rfl, rfl⟩ := hrel
    have hlt := crcRaw_lt (s.data.toList.take k)
    by_cases hk2 : k < s.size
    · have hb := s[k].toNat_lt
      have hx := i64_xor (crcRaw (s.data.toList.take k)) s[k].toNat (by omega) (by omega)
      have hcl := xor_lt32 hlt (show s[k].toNat < 4294967296 by omega)
      have hts := take_snoc s k hk2
      have HS : Hid (crcRaw (s.data.toList.take (k + 1)) = crcBits 8 (crcRaw (s.data.toList.take k) ^^^ s[k].toNat)) := by rw [hts, crcRaw_snoc]; rfl
      clear hts
      go_wp2
      go_loop [3, 5, 6] (fun c j _ => ∃ n : Nat, n ≤ 8 ∧ j = .int .i64 n ∧ c = .int .i64 (crcBits n (crcRaw (s.data.toList.take k) ^^^ s[k].toNat))) (fun _ j _ => 8 - (intOf j).toNat)
      case atStart => exact ⟨0, Nat.zero_le _, rfl, rfl⟩
      case round =>
        obtain ⟨n, hn, rfl, rfl⟩ := hrel
        have hcn := crcBits_lt n hcl
        generalize crcRaw (s.data.toList.take k) ^^^ s[k].toNat = x at *
        have hxor := i64_xor (crcBits n x / 2) 3988292384 (by omega) (by omega)
        have hq : ((crcBits n x : Nat) : Int) / 2 = ((crcBits n x / 2 : Nat) : Int) := by simp
        have HX : Hid (bits .xor .i64 (((crcBits n x : Nat) : Int) / 2) 3988292384 = ((crcBits n x / 2 ^^^ 3988292384 : Nat) : Int)) := by rw [hq]; exact hxor
        clear hxor hq
        go_wp2
        · have h1 : ((crcBits n x : Nat) : Int) % 2 = 1 := by have h : (((crcBits n x : Nat) : Int) % 2 == 1) = true := by assumption
                                                              simpa using h
          go_round
          case rel => exact ⟨n + 1, by omega, by go_num, by rw [HX.out, crcBits_succ, crcBit_odd h1]⟩
          case measure => simp [intOf]; omega
        · have h1 : ¬ ((crcBits n x : Nat) : Int) % 2 = 1 := by have h : (((crcBits n x : Nat) : Int) % 2 == 1) = false := by assumption
                                                                simpa using h
          go_round
          case rel => exact ⟨n + 1, by omega, by go_num, by rw [crcBits_succ, crcBit_even h1]; go_num⟩
          case measure => simp [intOf]; omega
        · obtain rfl : n = 8 := by omega
          go_round
          case rel => exact ⟨k + 1, by omega, by go_num, by rw [HS.out]⟩
          case measure => simp [intOf]; omega
    · have HL : Hid (bits .xor .i64 ((crcRaw (s.data.toList.take k) : Nat) : Int) 4294967295 = ((crcSum s.data.toList : Nat) : Int)) := by
        have e : s.data.toList.take k = s.data.toList := by rw [show k = s.size from by omega]; exact take_all s
        rw [e] at hlt ⊢
        exact i64_xor _ 4294967295 (by omega) (by omega)
      go_wp2
      go_ret
      exact ⟨ret_int HL.out, rfl⟩

theorem bits_crc (s : ByteArray) (w : World) (hs : s.size ≤ maxLen) :
    Calls Try.prog 25 #[.string s] w fun e w' => e = .returned (.int .i64 (crcSum s.data.toList)) ∧ w = w' := by
  unfold maxLen at hs
  go_enter Try.func25, Try.ntmps25
  go_wp2
  go_loop [3, 4, 5, 8] (fun c _ _ i => ∃ k : Nat, k ≤ s.size ∧ i = .int .i64 k ∧ c = .int .u32 (crcRaw (s.data.toList.take k))) (fun _ _ _ i => s.size - (intOf i).toNat)
  case atStart => exact ⟨0, Nat.zero_le _, rfl, rfl⟩
  case round =>
    obtain ⟨k, hk, rfl, rfl⟩ := hrel
    have hlt := crcRaw_lt (s.data.toList.take k)
    by_cases hk2 : k < s.size
    · have hb := s[k].toNat_lt
      have hx := u32_xor_nat (crcRaw (s.data.toList.take k)) s[k].toNat (by omega) (by omega)
      have hcl := xor_lt32 hlt (show s[k].toNat < 4294967296 by omega)
      have hts := take_snoc s k hk2
      have HS : Hid (crcRaw (s.data.toList.take (k + 1)) = crcBits 8 (crcRaw (s.data.toList.take k) ^^^ s[k].toNat)) := by rw [hts, crcRaw_snoc]; rfl
      clear hts
      go_wp2
      go_loop [3, 5, 17] (fun c _ j => ∃ n : Nat, n ≤ 8 ∧ j = .int .i64 n ∧ c = .int .u32 (crcBits n (crcRaw (s.data.toList.take k) ^^^ s[k].toNat))) (fun _ _ j => 8 - (intOf j).toNat)
      case atStart => exact ⟨0, Nat.zero_le _, rfl, rfl⟩
      case round =>
        obtain ⟨n, hn, rfl, rfl⟩ := hrel
        have hcn := crcBits_lt n hcl
        generalize crcRaw (s.data.toList.take k) ^^^ s[k].toNat = x at *
        have hxor := u32_xor_nat (crcBits n x / 2) 3988292384 (by omega) (by omega)
        have hq : ((crcBits n x : Nat) : Int) / 2 = ((crcBits n x / 2 : Nat) : Int) := by simp
        have HX : Hid (bits .xor .u32 (((crcBits n x : Nat) : Int) / 2) 3988292384 = ((crcBits n x / 2 ^^^ 3988292384 : Nat) : Int)) := by rw [hq]; exact hxor
        have HA : Hid (bits .and .u32 ((crcBits n x : Nat) : Int) 1 = ((crcBits n x : Nat) : Int) % 2) := by
          have h := u32_and_nat (crcBits n x) 1 (by omega) (by omega)
          rw [nat_mask1] at h
          exact h.trans (by simp)
        clear hxor hq
        go_wp2
        · have h1 : ((crcBits n x : Nat) : Int) % 2 = 1 := by have h : (bits .and .u32 ((crcBits n x : Nat) : Int) 1 == 1) = true := by assumption
                                                              rw [HA.out] at h; simpa using h
          go_round
          case rel => exact ⟨n + 1, by omega, by go_num, by rw [HX.out, crcBits_succ, crcBit_odd h1]⟩
          case measure => simp [intOf]; omega
        · have h1 : ¬ ((crcBits n x : Nat) : Int) % 2 = 1 := by have h : (bits .and .u32 ((crcBits n x : Nat) : Int) 1 == 1) = false := by assumption
                                                                rw [HA.out] at h; simpa using h
          go_round
          case rel => exact ⟨n + 1, by omega, by go_num, by rw [crcBits_succ, crcBit_even h1]; go_num⟩
          case measure => simp [intOf]; omega
        · obtain rfl : n = 8 := by omega
          go_round
          case rel => exact ⟨k + 1, by omega, by go_num, by rw [HS.out]⟩
          case measure => simp [intOf]; omega
    · have HL : Hid (wrap64 (bits .xor .u32 IntKind.u32.max ((crcRaw (s.data.toList.take k) : Nat) : Int)) = ((crcSum s.data.toList : Nat) : Int)) := by
        have e : s.data.toList.take k = s.data.toList := by rw [show k = s.size from by omega]; exact take_all s
        rw [e] at hlt ⊢
        have hm : IntKind.u32.max = ((4294967295 : Nat) : Int) := by decide
        have hs := crcSum_lt s.data.toList
        rw [hm, u32_xor_nat _ _ (by omega) hlt, Nat.xor_comm]
        exact IntWalk.wrap64_in _ ⟨by omega, by unfold crcSum at hs; omega⟩
      go_wp2
      go_ret
      exact ⟨ret_int HL.out, rfl⟩

end Go.Proofs.Ytdfjdajfkamafaa
