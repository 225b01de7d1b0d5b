/- The document's four bytes of a number, and the number of bytes. -/
import Derived.Test.YtedffeimcccobaaZlA
set_option maxRecDepth 100000
set_option linter.unusedVariables false
namespace Go.Proofs.Ytedffeimcccobaa
set_option maxRecDepth 100000
open Go Go.RowKit
theorem ofL_snoc (l : List UInt8) (b : UInt8) : ofL (l ++ [b]) = 256 * ofL l + b.toNat := by
  unfold ofL; rw [List.foldl_append]; rfl
theorem ofL_small : ∀ (n : Nat) (l : List UInt8), l.length = n → n ≤ 7 → ofL l < 256 ^ n
  | 0, l, h, _ => by rw [List.length_eq_zero_iff.1 h]; decide
  | n + 1, l, h, h7 => by
    have hne : l ≠ [] := fun e => by rw [e] at h; simp at h
    rw [← List.dropLast_concat_getLast hne, ofL_snoc]
    have ih := ofL_small n l.dropLast (by rw [List.length_dropLast, h]; rfl) (by omega)
    have hb := (l.getLast hne).toNat_lt
    rw [Nat.pow_succ]
    omega
theorem eof_any (w : World) {s : ByteArray} (hs : s.size ≤ 7) :
    Calls Try.prog 29 #[.string s] w fun e w' => e = .returned (.int .i64 (ofL s.data.toList)) ∧ w = w' := by
  have hsm : ∀ k, k < s.size → ofL (s.data.toList.take k) < 281474976710656 := fun k hk => by
    have h := ofL_small k (s.data.toList.take k) (by rw [List.length_take, show s.data.toList.length = s.size by simp]; omega) (by omega)
    have h2 : 256 ^ k ≤ 256 ^ 6 := Nat.pow_le_pow_right (by decide) (by omega)
    omega
  have HSM := Lib.hid hsm
  clear hsm
  go_enter Try.func29, Try.ntmps29
  go_wp2
  go_loop [3, 4] (fun n i => ∃ k : Nat, k ≤ s.size ∧ i = .int .i64 k ∧ n = .int .i64 (ofL (s.data.toList.take k))) (fun _ i => s.size - (intOf i).toNat)
  case atStart => exact ⟨0, Nat.zero_le _, rfl, rfl⟩
  case round =>
    obtain ⟨k, hk, rfl, rfl⟩ := hrel
    by_cases hk2 : k < s.size
    · have hb := s[k].toNat_lt
      have hts := take_snoc s k hk2
      have h0 := HSM.out k hk2
      have HS : Hid (ofL (s.data.toList.take (k + 1)) = 256 * ofL (s.data.toList.take k) + s[k].toNat) := by rw [hts, ofL_snoc]; exact rfl
      obtain ⟨x, hx⟩ : ∃ x, x = ofL (s.data.toList.take k) := ⟨_, rfl⟩
      rw [← hx] at HS h0 ⊢
      clear hts hx
      go_wp2
      go_round
      case rel => exact ⟨k + 1, by omega, by go_num, by rw [HS.out]; go_num⟩
      case measure => simp [intOf]; omega
    · have e : s.data.toList.take k = s.data.toList := by rw [show k = s.size from by omega]; exact take_all s
      rw [e]
      clear e
      go_wp2
      go_ret
      exact ⟨rfl, rfl⟩
end Go.Proofs.Ytedffeimcccobaa
