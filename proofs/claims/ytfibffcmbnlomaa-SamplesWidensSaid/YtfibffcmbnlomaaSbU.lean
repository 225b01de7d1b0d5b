/- The program's pixel of samples: its parts. -/
import Derived.Test.YtfibffcmbnlomaaSbI
import Derived.Test.YtfibffcmbnlomaaSbN
import Derived.BigQuiet
set_option maxRecDepth 100000
set_option linter.unusedVariables false
namespace Go.Proofs.Ytfibffcmbnlomaa
set_option maxRecDepth 100000
open Go Go.RowKit
theorem low_in {D : Nat} {x : Int} (h : x = x % 2 ^ D) : 0 ≤ x ∧ x < ((2 ^ D : Nat) : Int) := by
  have e : ((2 ^ D : Nat) : Int) = (2 : Int) ^ D := by simp
  have hp : 0 < 2 ^ D := Nat.pow_pos (by decide)
  rw [h, ← e]
  exact ⟨Int.emod_nonneg _ (by omega), Int.emod_lt_of_pos _ (by omega)⟩
theorem in_low {D : Nat} {x : Int} (h : 0 ≤ x ∧ x < ((2 ^ D : Nat) : Int)) : x % 2 ^ D = x := by
  have e : ((2 ^ D : Nat) : Int) = (2 : Int) ^ D := by simp
  rw [← e]
  exact Int.emod_eq_of_lt h.1 h.2
set_option maxHeartbeats 1000000 in
theorem pwithin_any (w : World) {A : Option Addr} {n cp D : Nat} {l : List Int} (hZ : Zs w A n l) (hn : n ≤ 1000) (hD : D ≤ 16) :
    Calls Try.prog 27 #[.int .i64 D, .slice A n cp] w fun e w' => e = .returned (.bool (inR D l)) ∧ w' = w := by
  have HZ := Lib.hid hZ
  have HLq : Hid (∀ W x, Calls Try.prog 24 #[.int .i64 x, .int .i64 D] W fun e w' => e = .returned (.int .i64 (x % 2 ^ D)) ∧ W = w') := Lib.hid fun W x => plow_any W x hD
  have HNO : Hid (∀ (i : Nat) (x : Int), l[i]? = some x → ¬ x = x % 2 ^ D → inR D l = false) := Lib.hid fun i x hx hne => inR_no hx (by
    rcases Classical.em (x < 0) with h | h
    · exact .inl h
    · refine .inr (Int.not_lt.1 fun h2 => hne ?_)
      exact (in_low ⟨by omega, h2⟩).symm)
  have HYES : Hid ((∀ (i : Nat) (x : Int), i < n → l[i]? = some x → x = x % 2 ^ D) → inR D l = true) := Lib.hid fun h => inR_yes fun i x hx => low_in (h i x (by have := (List.getElem?_eq_some_iff.1 hx).1; have := HZ.out.1; omega) hx)
  obtain ⟨r, hr⟩ : ∃ r, r = inR D l := ⟨_, rfl⟩
  rw [← hr] at HNO HYES ⊢
  obtain ⟨F, hF⟩ : ∃ F : Int → Int, F = fun x => x % 2 ^ D := ⟨_, rfl⟩
  have HLf : Hid (∀ W x, Calls Try.prog 24 #[.int .i64 x, .int .i64 D] W fun e w' => e = .returned (.int .i64 (F x)) ∧ W = w') := Lib.hid fun W x => by rw [hF]; exact HLq.out W x
  have HNF : Hid (∀ (i : Nat) (x : Int), l[i]? = some x → ¬ x = F x → r = false) := Lib.hid fun i x hx h => HNO.out i x hx (by rw [hF] at h; exact h)
  have HYF : Hid ((∀ (i : Nat) (x : Int), i < n → l[i]? = some x → x = F x) → r = true) := Lib.hid fun h => HYES.out fun i x hi hx => by have := h i x hi hx; rw [hF] at this; exact this
  clear hr hF hZ HLq HNO HYES
  go_enter Try.func27, Try.ntmps27
  go_wp2_with fail
  go_loopw [9] (fun iv wr => ∃ i : Nat, i ≤ n ∧ iv = .int .i64 i ∧ wr = w ∧ Hid (∀ (j : Nat) (x : Int), j < i → l[j]? = some x → x = F x)) (fun iv _ => n - (intOf iv).toNat)
  case atStart => exact ⟨0, Nat.zero_le _, rfl, rfl, Lib.hid (fun j x h => absurd h (by omega))⟩
  case round =>
    obtain ⟨i, hi, rfl, hw, HJ⟩ := hrel
    obtain rfl : w = wr := hw.symm
    by_cases hlt : i < n
    · obtain ⟨g, o, x, rfl, hg, hx, k0⟩ := HZ.out.at hlt
      have i0 : (0 : Int) ≤ (i : Int) := by omega
      have i1 : (i : Int) < (n : Int) := by omega
      obtain ⟨y, hy⟩ : ∃ y, y = F x := ⟨_, rfl⟩
      have HLx : Hid (∀ W, Calls Try.prog 24 #[.int .i64 x, .int .i64 D] W fun e w' => e = .returned (.int .i64 y) ∧ W = w') := Lib.hid fun W => by rw [hy]; exact HLf.out W x
      by_cases hxy : x = y
      · have HJ2 : Hid (∀ (j : Nat) (x : Int), j < i + 1 → l[j]? = some x → x = F x) := Lib.hid fun j z hj hz => by
          by_cases e : j = i
          · rw [e, hx] at hz
            cases hz
            rw [← hy]; exact hxy
          · exact HJ.out j z (by omega) hz
        subst hxy
        clear hx hy
        go_wp2_with fail
        refine (HLx.out _).mono ?_
        rintro e w2 ⟨rfl, rfl⟩
        go_wp2
        go_roundw
        case rel => exact ⟨i + 1, by omega, by go_num, by first | rfl | trivial, HJ2⟩
        case measure => simp [intOf] <;> omega
      · have HR := Lib.hid (HNF.out i x hx (by rw [← hy]; exact hxy))
        have hb : (x != y) = true := by simpa using hxy
        clear hx hy
        go_wp2_with fail
        refine (HLx.out _).mono ?_
        rintro e w2 ⟨rfl, rfl⟩
        go_wp2
        go_ret
        exact ⟨by rw [HR.out]; rfl, rfl⟩
    · obtain rfl : i = n := by omega
      have HR := Lib.hid (HYF.out HJ.out)
      go_wp2
      go_ret
      exact ⟨by rw [HR.out]; rfl, rfl⟩
end Go.Proofs.Ytfibffcmbnlomaa
