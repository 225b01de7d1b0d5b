/- The program's small functions of layer 9: how far, the nearest, how great, which arguments may be. -/
import Derived.Test.YtbhdbekkandbhaaFiE
set_option maxRecDepth 100000
set_option linter.unusedVariables false
namespace Go.Proofs.Ytbhdbekkandbhaa
set_option maxRecDepth 100000
open Go Go.RowKit
theorem pdistance_any (w : World) (a b : Int) (ha : -100000 ≤ a ∧ a ≤ 100000) (hb : -100000 ≤ b ∧ b ≤ 100000) :
    Calls Try.prog 26 #[.int .i64 a, .int .i64 b] w fun e w' => e = .returned (.int .i64 ((a - b).natAbs : Nat)) ∧ w = w' := by
  obtain ⟨a1, a2⟩ := ha
  obtain ⟨b1, b2⟩ := hb
  go_enter Try.func26, Try.ntmps26
  go_wp2
  all_goals
    go_ret
    refine ⟨?_, rfl⟩
    exact congrArg (fun x => Ending.returned (.int .i64 x)) (by omega)
theorem psize_any (w : World) (b : Nat) (hb : b < 256) :
    Calls Try.prog 23 #[.int .u8 (b : Int)] w fun e w' => e = .returned (.int .i64 (farB (UInt8.ofNat b) : Nat)) ∧ w = w' := by
  have HR : Hid (farB (UInt8.ofNat b) = if 128 < b then 256 - b else b) := Lib.hid (by
    unfold farB
    have e : (UInt8.ofNat b).toNat = b := by rw [UInt8.toNat_ofNat']; omega
    rw [e])
  rw [HR.out]
  clear HR
  go_enter Try.func23, Try.ntmps23
  go_wp2
  all_goals
    go_ret
    refine ⟨?_, rfl⟩
    refine congrArg (fun x => Ending.returned (.int .i64 x)) ?_
    first | omega | (split <;> omega)
/-- The nearest of three bytes. -/
theorem pnearest_any (w : World) {a b c : Nat} (ha : a < 256) (hb : b < 256) (hc : c < 256) :
    Calls Try.prog 24 #[.int .i64 a, .int .i64 b, .int .i64 c] w fun e w' => e = .returned (.int .i64 (predF 4 a b c : Nat)) ∧ w = w' := by
  rw [predF_4]
  obtain ⟨p, hp⟩ : ∃ p, (a : Int) + b - c = p := ⟨_, rfl⟩
  obtain ⟨x, hx⟩ : ∃ x, x = ((b : Int) - c).natAbs := ⟨_, rfl⟩
  obtain ⟨y, hy⟩ : ∃ x, x = ((a : Int) - c).natAbs := ⟨_, rfl⟩
  obtain ⟨z, hz⟩ : ∃ x, x = ((a : Int) + b - c - c).natAbs := ⟨_, rfl⟩
  have H1 : Hid (∀ v, Calls Try.prog 26 #[.int .i64 p, .int .i64 a] v fun e w' => e = .returned (.int .i64 (x : Nat)) ∧ v = w') := Lib.hid fun v => by
    rw [hx, show (b : Int) - c = p - a by omega]; exact pdistance_any v _ _ (by omega) (by omega)
  have H2 : Hid (∀ v, Calls Try.prog 26 #[.int .i64 p, .int .i64 b] v fun e w' => e = .returned (.int .i64 (y : Nat)) ∧ v = w') := Lib.hid fun v => by
    rw [hy, show (a : Int) - c = p - b by omega]; exact pdistance_any v _ _ (by omega) (by omega)
  have H3 : Hid (∀ v, Calls Try.prog 26 #[.int .i64 p, .int .i64 c] v fun e w' => e = .returned (.int .i64 (z : Nat)) ∧ v = w') := Lib.hid fun v => by
    rw [hz, hp]; exact pdistance_any v _ _ (by omega) (by omega)
  rw [← hx, ← hy, ← hz]
  have hpb : -1000 ≤ p ∧ p ≤ 1000 := by omega
  obtain ⟨p0, p1⟩ := hpb
  clear hx hy hz
  have HR := Lib.hid (rfl : (if x ≤ y ∧ x ≤ z then a else if y ≤ z then b else c) = (if x ≤ y ∧ x ≤ z then a else if y ≤ z then b else c))
  by_cases c1 : x ≤ y
  · by_cases c2 : x ≤ z
    · go_enter Try.func24, Try.ntmps24
      go_wp2_with fail
      refine (H1.out _).mono ?_; rintro e w1 ⟨rfl, rfl⟩
      go_wp2_with fail
      refine (H2.out _).mono ?_; rintro e w1 ⟨rfl, rfl⟩
      go_wp2_with fail
      refine (H3.out _).mono ?_; rintro e w1 ⟨rfl, rfl⟩
      go_wp2_with fail
      go_ret
      first | exact ⟨rfl, rfl⟩ | exact ⟨by rw [if_pos ⟨c1, c2⟩]; rfl, rfl⟩
    · have c3 : ¬ y ≤ z := fun h => c2 (Nat.le_trans c1 h)
      go_enter Try.func24, Try.ntmps24
      go_wp2_with fail
      refine (H1.out _).mono ?_; rintro e w1 ⟨rfl, rfl⟩
      go_wp2_with fail
      refine (H2.out _).mono ?_; rintro e w1 ⟨rfl, rfl⟩
      go_wp2_with fail
      refine (H3.out _).mono ?_; rintro e w1 ⟨rfl, rfl⟩
      go_wp2_with fail
      go_ret
      first | exact ⟨rfl, rfl⟩ | exact ⟨by rw [if_neg (by omega), if_neg (by omega)]; rfl, rfl⟩
  · by_cases c3 : y ≤ z
    · go_enter Try.func24, Try.ntmps24
      go_wp2_with fail
      refine (H1.out _).mono ?_; rintro e w1 ⟨rfl, rfl⟩
      go_wp2_with fail
      refine (H2.out _).mono ?_; rintro e w1 ⟨rfl, rfl⟩
      go_wp2_with fail
      refine (H3.out _).mono ?_; rintro e w1 ⟨rfl, rfl⟩
      go_wp2_with fail
      go_ret
      first | exact ⟨rfl, rfl⟩ | exact ⟨by rw [if_neg (by omega), if_pos (by omega)]; rfl, rfl⟩
    · go_enter Try.func24, Try.ntmps24
      go_wp2_with fail
      refine (H1.out _).mono ?_; rintro e w1 ⟨rfl, rfl⟩
      go_wp2_with fail
      refine (H2.out _).mono ?_; rintro e w1 ⟨rfl, rfl⟩
      go_wp2_with fail
      refine (H3.out _).mono ?_; rintro e w1 ⟨rfl, rfl⟩
      go_wp2_with fail
      go_ret
      first | exact ⟨rfl, rfl⟩ | exact ⟨by rw [if_neg (by omega), if_neg (by omega)]; rfl, rfl⟩
theorem pfits_f (w : World) (bpp : Int) (s t : ByteArray) (hs : s.size ≤ 140737488355328) (ht : t.size ≤ 140737488355328) :
    Calls Try.prog 22 #[.int .i64 bpp, .string s, .string t] w fun e w' => e = .returned (.bool (decide (wrongP bpp s t = 0))) ∧ w = w' := by
  obtain ⟨r, hr⟩ : ∃ r, r = decide (wrongP bpp s t = 0) := ⟨_, rfl⟩
  rw [← hr]
  have HR := Lib.hid hr
  clear hr
  by_cases hz : t.size = 0
  · have e1 : (t.toList == []) = true := by rw [empty_toF hz]; rfl
    have HZ := Lib.hid hz
    go_enter Try.func22, Try.ntmps22
    go_wp2
    all_goals
      go_ret
      refine ⟨?_, rfl⟩
      rw [HR.out]
      have hz := HZ.out
      clear HR HZ e1
      unfold wrongP
      simp_all
      try omega
      try (by_cases hq : t.size = s.size <;> simp [hq]; try omega)
  · have e1 := empty_neF hz
    have HZ := Lib.hid hz
    go_enter Try.func22, Try.ntmps22
    go_wp2
    all_goals
      go_ret
      refine ⟨?_, rfl⟩
      rw [HR.out]
      have hz := HZ.out
      clear HR HZ e1
      unfold wrongP
      simp_all
      try omega
      try (by_cases hq : t.size = s.size <;> simp [hq]; try omega)
theorem pcheck_any (w : World) (bpp kind : Int) (s t : ByteArray) (hs : s.size ≤ 140737488355328) (ht : t.size ≤ 140737488355328) :
    Calls Try.prog 17 #[.int .i64 bpp, .int .i64 kind, .string s, .string t] w fun e w' => e = .returned (.int .i64 (wrongF bpp kind s t)) ∧ w = w' := by
  have hF := fun v => pfits_f v bpp s t hs ht
  obtain ⟨r, hr⟩ : ∃ r, r = wrongF bpp kind s t := ⟨_, rfl⟩
  rw [← hr]
  have HR := Lib.hid hr
  clear hr
  by_cases h0 : wrongP bpp s t = 0
  · rw [decide_eq_true h0] at hF
    have HF := Lib.hid hF
    have HZ := Lib.hid h0
    clear hF h0
    go_enter Try.func17, Try.ntmps17
    go_wp2_with (refine (HF.out _).mono ?_; rintro e w1 ⟨rfl, rfl⟩)
    all_goals
      go_ret
      refine ⟨?_, rfl⟩
      rw [HR.out]
      unfold wrongF
      rw [HZ.out, if_neg (by decide)]
      clear HR HZ HF
      refine congrArg (fun x => Ending.returned (.int .i64 x)) ?_
      split <;> first | rfl | (exfalso; simp_all; omega) | (exfalso; omega)
  · rw [decide_eq_false h0] at hF
    have HF := Lib.hid hF
    have HZ := Lib.hid h0
    clear hF h0
    go_enter Try.func17, Try.ntmps17
    go_wp2_with (refine (HF.out _).mono ?_; rintro e w1 ⟨rfl, rfl⟩)
    all_goals
      go_ret
      refine ⟨?_, rfl⟩
      rw [HR.out]
      unfold wrongF
      rw [if_pos HZ.out]
      rfl
end Go.Proofs.Ytbhdbekkandbhaa
