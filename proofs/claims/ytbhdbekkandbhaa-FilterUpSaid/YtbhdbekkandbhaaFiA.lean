/- The document's small functions of layer 9: the byte at a place, how far two numbers are apart, what a kind foretells, which arguments may be. -/
import Derived.Test.YtbhdbekkandbhaaFiM
import Derived.Test.YtbhdbekkandbhaaFour
import Derived.Test.YtbhdbekkandbhaaMem
import Derived.Test.YtbhdbekkandbhaaChecked
import Derived.WalkKit
import Derived.Handy
import Derived.Lib.Hide
import Derived.Outline
import Derived.Deep.QuietTactic
import Derived.BigQuiet
import Derived.Deep.DeepCutAuto
import Derived.Deep.CutRange
set_option maxRecDepth 100000
set_option linter.unusedVariables false
namespace Go.Proofs.Ytbhdbekkandbhaa
set_option maxRecDepth 100000
open Go Go.RowKit
/-- The byte at a place, nought where there is none. -/
def atF (s : ByteArray) (i : Int) : Nat := if i < 0 then 0 else (s.data.toList.getD i.toNat 0).toNat
theorem getD_byte (s : ByteArray) {k : Nat} (h : k < s.size) : s.data.toList.getD k 0 = s[k] := by
  have h2 : k < s.data.toList.length := by rw [Array.length_toList]; exact h
  rw [getD_lt h2]
  rfl
theorem getD_over (s : ByteArray) {k : Nat} (h : s.size ≤ k) : s.data.toList.getD k 0 = 0 := getD_ge (by rw [Array.length_toList]; exact h)
theorem atF_neg (s : ByteArray) {i : Int} (h : i < 0) : atF s i = 0 := by unfold atF; rw [if_pos h]
theorem atF_over (s : ByteArray) {i : Int} (h0 : 0 ≤ i) (h : (s.size : Int) ≤ i) : atF s i = 0 := by
  unfold atF; rw [if_neg (by omega), getD_over s (by omega)]; rfl
theorem atF_nat (s : ByteArray) (k : Nat) : atF s (k : Int) = (s.data.toList.getD k 0).toNat := by
  unfold atF; rw [if_neg (by omega)]; rfl
theorem atF_lt (s : ByteArray) (i : Int) : atF s i < 256 := by
  unfold atF
  split
  · omega
  · exact UInt8.toNat_lt _
theorem atF_behind (s : ByteArray) (n k : Nat) : atF s ((k : Int) - (n : Int)) = behindF s.data.toList n k := by
  unfold atF behindF
  by_cases h : k < n
  · rw [if_pos (by omega), if_pos h]
  · rw [if_neg (by omega), if_neg h, show ((k : Int) - (n : Int)).toNat = k - n by omega]
theorem eat_any (w : World) (s : ByteArray) (i : Int) (hs : s.size ≤ 140737488355328) :
    Calls Try.prog 20 #[.string s, .int .i64 i] w fun e w' => e = .returned (.int .i64 (atF s i)) ∧ w = w' := by
  by_cases h0 : i < 0
  · have h1 : decide (i < 0) = true := decide_eq_true h0
    have HR := Lib.hid (atF_neg s h0)
    go_enter Try.func20, Try.ntmps20
    go_wp2
    go_ret
    exact ⟨by rw [HR.out]; rfl, rfl⟩
  · obtain ⟨k, rfl⟩ : ∃ k : Nat, i = (k : Int) := ⟨i.toNat, by omega⟩
    by_cases h1 : k < s.size
    · have HR : Hid (atF s (k : Int) = s[k].toNat) := Lib.hid (by rw [atF_nat, getD_byte s h1])
      have hb := s[k].toNat_lt
      have hwr : wrap64 ((s[k].toNat : Nat) : Int) = (s[k].toNat : Nat) := IntWalk.wrap64_in _ ⟨by omega, by omega⟩
      go_enter Try.func20, Try.ntmps20
      go_wp2
      go_ret
      exact ⟨by rw [HR.out]; rfl, rfl⟩
    · have HR : Hid (atF s (k : Int) = 0) := Lib.hid (atF_over s (by omega) (by omega))
      go_enter Try.func20, Try.ntmps20
      go_wp2
      go_ret
      exact ⟨by rw [HR.out]; rfl, rfl⟩
/-- How far two numbers are apart. -/
theorem eaway_any (w : World) (a b : Int) (ha : -100000 ≤ a ∧ a ≤ 100000) (hb : -100000 ≤ b ∧ b ≤ 100000) :
    Calls Try.prog 25 #[.int .i64 a, .int .i64 b] w fun e w' => e = .returned (.int .i64 ((a - b).natAbs : Nat)) ∧ w = w' := by
  obtain ⟨a1, a2⟩ := ha
  obtain ⟨b1, b2⟩ := hb
  go_enter Try.func25, Try.ntmps25
  go_wp2
  all_goals
    go_ret
    refine ⟨?_, rfl⟩
    exact congrArg (fun x => Ending.returned (.int .i64 x)) (by omega)
theorem predF_1 (a b c : Nat) : predF 1 a b c = a := by unfold predF; rw [if_pos rfl]
theorem predF_2 (a b c : Nat) : predF 2 a b c = b := by unfold predF; rw [if_neg (by decide), if_pos rfl]
theorem predF_3 (a b c : Nat) : predF 3 a b c = (a + b) / 2 := by unfold predF; rw [if_neg (by decide), if_neg (by decide), if_pos rfl]
theorem predF_4 (a b c : Nat) : predF 4 a b c = if ((b : Int) - c).natAbs ≤ ((a : Int) - c).natAbs ∧ ((b : Int) - c).natAbs ≤ ((a : Int) + b - c - c).natAbs then a else if ((a : Int) - c).natAbs ≤ ((a : Int) + b - c - c).natAbs then b else c := by
  unfold predF; rw [if_neg (by decide), if_neg (by decide), if_neg (by decide), if_pos rfl]
theorem predF_none {kind : Int} (h1 : kind ≠ 1) (h2 : kind ≠ 2) (h3 : kind ≠ 3) (h4 : kind ≠ 4) (a b c : Nat) : predF kind a b c = 0 := by
  unfold predF; rw [if_neg h1, if_neg h2, if_neg h3, if_neg h4]
theorem predF_lt (kind : Int) {a b c : Nat} (ha : a < 256) (hb : b < 256) (hc : c < 256) : predF kind a b c < 256 := by
  unfold predF
  repeat' split
  all_goals omega
/-- What a kind foretells of a byte. -/
theorem etells_any (w : World) (kind : Int) {a b c : Nat} (ha : a < 256) (hb : b < 256) (hc : c < 256) :
    Calls Try.prog 21 #[.int .i64 kind, .int .i64 a, .int .i64 b, .int .i64 c] w fun e w' => e = .returned (.int .i64 (predF kind a b c : Nat)) ∧ w = w' := by
  by_cases h1 : kind = 1
  · subst h1
    rw [predF_1]
    go_enter Try.func21, Try.ntmps21
    go_wp2
    go_ret
    exact ⟨rfl, rfl⟩
  by_cases h2 : kind = 2
  · subst h2
    rw [predF_2]
    go_enter Try.func21, Try.ntmps21
    go_wp2
    go_ret
    exact ⟨rfl, rfl⟩
  by_cases h3 : kind = 3
  · subst h3
    rw [predF_3]
    go_enter Try.func21, Try.ntmps21
    go_wp2
    go_ret
    exact ⟨by first | rfl | (congr 2; omega), rfl⟩
  by_cases h4 : kind = 4
  · subst h4
    rw [predF_4]
    obtain ⟨p, hp⟩ : ∃ p, (a : Int) + b - c = p := ⟨_, rfl⟩
    obtain ⟨x, hx⟩ : ∃ x, x = ((b : Int) - c).natAbs := ⟨_, rfl⟩
    obtain ⟨y, hy⟩ : ∃ x, x = ((a : Int) - c).natAbs := ⟨_, rfl⟩
    obtain ⟨z, hz⟩ : ∃ x, x = ((a : Int) + b - c - c).natAbs := ⟨_, rfl⟩
    have H1 : Hid (∀ v, Calls Try.prog 25 #[.int .i64 p, .int .i64 a] v fun e w' => e = .returned (.int .i64 (x : Nat)) ∧ v = w') := Lib.hid fun v => by
      rw [hx, show (b : Int) - c = p - a by omega]; exact eaway_any v _ _ (by omega) (by omega)
    have H2 : Hid (∀ v, Calls Try.prog 25 #[.int .i64 p, .int .i64 b] v fun e w' => e = .returned (.int .i64 (y : Nat)) ∧ v = w') := Lib.hid fun v => by
      rw [hy, show (a : Int) - c = p - b by omega]; exact eaway_any v _ _ (by omega) (by omega)
    have H3 : Hid (∀ v, Calls Try.prog 25 #[.int .i64 p, .int .i64 c] v fun e w' => e = .returned (.int .i64 (z : Nat)) ∧ v = w') := Lib.hid fun v => by
      rw [hz, hp]; exact eaway_any v _ _ (by omega) (by omega)
    rw [← hx, ← hy, ← hz]
    have hpb : -1000 ≤ p ∧ p ≤ 1000 := by omega
    obtain ⟨p0, p1⟩ := hpb
    clear hx hy hz
    by_cases c1 : x ≤ y
    · by_cases c2 : x ≤ z
      · have HR := Lib.hid (show (if x ≤ y ∧ x ≤ z then a else if y ≤ z then b else c) = a by rw [if_pos ⟨c1, c2⟩])
        go_enter Try.func21, Try.ntmps21
        go_wp2_with fail
        refine (H1.out _).mono ?_; rintro e w1 ⟨rfl, rfl⟩
        go_wp2_with fail
        refine (H2.out _).mono ?_; rintro e w1 ⟨rfl, rfl⟩
        go_wp2_with fail
        refine (H1.out _).mono ?_; rintro e w1 ⟨rfl, rfl⟩
        go_wp2_with fail
        refine (H3.out _).mono ?_; rintro e w1 ⟨rfl, rfl⟩
        go_wp2_with fail
        go_ret
        first | exact ⟨rfl, rfl⟩ | exact ⟨by rw [HR.out]; rfl, rfl⟩
      · by_cases c3 : y ≤ z
        · exact absurd (Nat.le_trans c1 c3) c2
        · have HR : Hid ((if x ≤ y ∧ x ≤ z then a else if y ≤ z then b else c) = c) := Lib.hid (by rw [if_neg (by omega), if_neg c3])
          go_enter Try.func21, Try.ntmps21
          go_wp2_with fail
          refine (H1.out _).mono ?_; rintro e w1 ⟨rfl, rfl⟩
          go_wp2_with fail
          refine (H2.out _).mono ?_; rintro e w1 ⟨rfl, rfl⟩
          go_wp2_with fail
          refine (H1.out _).mono ?_; rintro e w1 ⟨rfl, rfl⟩
          go_wp2_with fail
          refine (H3.out _).mono ?_; rintro e w1 ⟨rfl, rfl⟩
          go_wp2_with fail
          refine (H2.out _).mono ?_; rintro e w1 ⟨rfl, rfl⟩
          go_wp2_with fail
          refine (H3.out _).mono ?_; rintro e w1 ⟨rfl, rfl⟩
          go_wp2_with fail
          go_ret
          first | exact ⟨rfl, rfl⟩ | exact ⟨by rw [HR.out]; rfl, rfl⟩
    · by_cases c3 : y ≤ z
      · have HR : Hid ((if x ≤ y ∧ x ≤ z then a else if y ≤ z then b else c) = b) := Lib.hid (by rw [if_neg (by omega), if_pos c3])
        go_enter Try.func21, Try.ntmps21
        go_wp2_with fail
        refine (H1.out _).mono ?_; rintro e w1 ⟨rfl, rfl⟩
        go_wp2_with fail
        refine (H2.out _).mono ?_; rintro e w1 ⟨rfl, rfl⟩
        go_wp2_with fail
        refine (H2.out _).mono ?_; rintro e w1 ⟨rfl, rfl⟩
        go_wp2_with fail
        refine (H3.out _).mono ?_; rintro e w1 ⟨rfl, rfl⟩
        go_wp2_with fail
        go_ret
        first | exact ⟨rfl, rfl⟩ | exact ⟨by rw [HR.out]; rfl, rfl⟩
      · have HR : Hid ((if x ≤ y ∧ x ≤ z then a else if y ≤ z then b else c) = c) := Lib.hid (by rw [if_neg (by omega), if_neg c3])
        go_enter Try.func21, Try.ntmps21
        go_wp2_with fail
        refine (H1.out _).mono ?_; rintro e w1 ⟨rfl, rfl⟩
        go_wp2_with fail
        refine (H2.out _).mono ?_; rintro e w1 ⟨rfl, rfl⟩
        go_wp2_with fail
        refine (H2.out _).mono ?_; rintro e w1 ⟨rfl, rfl⟩
        go_wp2_with fail
        refine (H3.out _).mono ?_; rintro e w1 ⟨rfl, rfl⟩
        go_wp2_with fail
        go_ret
        first | exact ⟨rfl, rfl⟩ | exact ⟨by rw [HR.out]; rfl, rfl⟩
  · have d1 : (kind == 1) = false := by simpa using h1
    have d2 : (kind == 2) = false := by simpa using h2
    have d3 : (kind == 3) = false := by simpa using h3
    have d4 : (kind == 4) = false := by simpa using h4
    rw [predF_none h1 h2 h3 h4]
    go_enter Try.func21, Try.ntmps21
    go_wp2
    go_ret
    exact ⟨rfl, rfl⟩
/-- Which arguments may be. -/
def wrongP (bpp : Int) (s t : ByteArray) : Int := if bpp < 1 ∨ 8 < bpp ∨ (t.size ≠ 0 ∧ t.size ≠ s.size) then 1 else 0
def wrongF (bpp kind : Int) (s t : ByteArray) : Int := if wrongP bpp s t ≠ 0 then 1 else if kind < 0 ∨ 4 < kind then 28 else 0
theorem wrongP_cases (bpp : Int) (s t : ByteArray) : wrongP bpp s t = 0 ∨ wrongP bpp s t = 1 := by unfold wrongP; split <;> simp
theorem wrongF_cases (bpp kind : Int) (s t : ByteArray) : wrongF bpp kind s t = 0 ∨ wrongF bpp kind s t = 1 ∨ wrongF bpp kind s t = 28 := by
  unfold wrongF
  repeat' split
  all_goals simp
theorem wrongF_zero {bpp kind : Int} {s t : ByteArray} (h : wrongF bpp kind s t = 0) : (1 ≤ bpp ∧ bpp ≤ 8) ∧ (t.size = 0 ∨ t.size = s.size) ∧ 0 ≤ kind ∧ kind ≤ 4 := by
  unfold wrongF at h
  by_cases h1 : wrongP bpp s t ≠ 0
  · rw [if_pos h1] at h; exact absurd h (by decide)
  · rw [if_neg h1] at h
    by_cases h2 : kind < 0 ∨ 4 < kind
    · rw [if_pos h2] at h; exact absurd h (by decide)
    · unfold wrongP at h1
      by_cases h3 : bpp < 1 ∨ 8 < bpp ∨ (t.size ≠ 0 ∧ t.size ≠ s.size)
      · rw [if_pos h3] at h1; exact absurd h1 (by decide)
      · omega
end Go.Proofs.Ytbhdbekkandbhaa
