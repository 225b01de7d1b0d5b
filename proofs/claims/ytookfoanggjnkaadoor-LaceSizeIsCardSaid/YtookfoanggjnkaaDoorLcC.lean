/- The document's bytes of a row, and of an image. -/
import Derived.Test.YtookfoanggjnkaaDoorLcB
import Derived.Deep.RegionWith
import Derived.BigRegion
set_option maxRecDepth 100000
set_option linter.unusedVariables false
namespace Go.Proofs.YtookfoanggjnkaaDoor
set_option maxRecDepth 100000
open Go Go.RowKit
/-- How many bytes a row of so many pixels has, of whatever head. -/
def rowA (a b d c l n : Int) : Nat := if rightH a b d c l ≠ 0 ∨ n < 1 ∨ 1024 < n then 0 else ((d * samplesI c * n + 7) / 8).toNat
theorem rowA_bad {a b d c l n : Int} (h : rightH a b d c l ≠ 0 ∨ n < 1 ∨ 1024 < n) : rowA a b d c l n = 0 := by unfold rowA; rw [if_pos h]
theorem depth_nat {d c : Int} (h : depthOk d c = true) : ∃ D S : Nat, d = (D : Int) ∧ samplesI c = (S : Int) ∧ (1 ≤ D ∧ D ≤ 16) ∧ (1 ≤ S ∧ S ≤ 4) ∧ D * S ≤ 64 ∧ 1 ≤ D * S := by
  have h2 := of_decide_eq_true h
  have hd : 1 ≤ d ∧ d ≤ 16 := by omega
  have hs : 1 ≤ samplesI c ∧ samplesI c ≤ 4 := by
    unfold samplesI
    have hc : c = 0 ∨ c = 3 ∨ c = 2 ∨ c = 4 ∨ c = 6 := by omega
    rcases hc with rfl | rfl | rfl | rfl | rfl <;> decide
  refine ⟨d.toNat, (samplesI c).toNat, by omega, by omega, by omega, by omega, ?_, ?_⟩
  · show _ ≤ 16 * 4
    exact Nat.mul_le_mul (by omega) (by omega)
  · exact Nat.mul_pos (by omega) (by omega)
theorem rowA_ok {a b d c l : Int} {D S n : Nat} (h0 : rightH a b d c l = 0) (hd : d = (D : Int)) (hs : samplesI c = (S : Int)) (h1 : 1 ≤ n) (h2 : n ≤ 1024) : rowA a b d c l (n : Int) = (D * S * n + 7) / 8 := by
  unfold rowA
  rw [if_neg (by rw [h0]; omega), hd, hs, ← Int.natCast_mul, ← Int.natCast_mul]
  omega
theorem rowA_le (a b d c l n : Int) : rowA a b d c l n ≤ 8192 := by
  unfold rowA
  by_cases h : rightH a b d c l ≠ 0 ∨ n < 1 ∨ 1024 < n
  · rw [if_pos h]; exact Nat.zero_le _
  · rw [if_neg h]
    have h0 : rightH a b d c l = 0 := by
      by_cases e : rightH a b d c l = 0
      · exact e
      · exact absurd (Or.inl e) h
    obtain ⟨D, S, rfl, hs, _, _, hm, _⟩ := depth_nat (rightH_ok h0).2.2.2.2
    obtain ⟨N, rfl⟩ : ∃ N : Nat, n = (N : Int) := ⟨n.toNat, by omega⟩
    rw [hs, ← Int.natCast_mul, ← Int.natCast_mul]
    have : D * S * N ≤ 64 * 1024 := Nat.mul_le_mul hm (by omega)
    omega
set_option maxHeartbeats 1000000 in
theorem erow_any (w : World) (a b d c l n : Int) :
    Calls Tryd.prog 15 #[.agg #[.int .i64 a, .int .i64 b, .int .i64 d, .int .i64 c, .int .i64 l], .int .i64 n] w fun e w' => e = .returned (.int .i64 (rowA a b d c l n : Nat)) ∧ But [] w w' := by
  have hE := fun v => eright_h v a b d c l
  obtain ⟨er, her⟩ : ∃ x, x = rightH a b d c l := ⟨_, rfl⟩
  have HER := Lib.hid her
  simp only [← her] at hE
  have HE := Lib.hid hE
  have hI := Is.fresh w 23 #[.int .i64 a, .int .i64 b, .int .i64 d, .int .i64 c, .int .i64 l]
  have HA := Lib.hid ((But.refl [] w).alloc (.cells #[.int .i64 a, .int .i64 b, .int .i64 d, .int .i64 c, .int .i64 l] 23))
  have c0 := hI.cell 0
  have c1 := hI.cell 1
  have c2 := hI.cell 2
  have c3 := hI.cell 3
  have c4 := hI.cell 4
  have HI := Lib.hid hI
  clear hE hI
  by_cases h0 : er = 0
  · subst h0
    by_cases h1 : n < 1
    · have HR := Lib.hid (rowA_bad (a := a) (b := b) (d := d) (c := c) (l := l) (n := n) (.inr (.inl h1)))
      rw [HR.out]
      clear her
      go_enter Tryd.func15, Tryd.ntmps15
      go_wp2_with fail
      refine (HE.out _).mono ?_
      rintro e w1 ⟨rfl, hB⟩
      have HB := Lib.hid (HA.out.trans hB)
      clear hB
      go_wp2
      go_ret
      exact ⟨rfl, HB.out⟩
    · by_cases h2 : 1024 < n
      · have HR := Lib.hid (rowA_bad (a := a) (b := b) (d := d) (c := c) (l := l) (n := n) (.inr (.inr h2)))
        rw [HR.out]
        clear her
        go_enter Tryd.func15, Tryd.ntmps15
        go_wp2_with fail
        refine (HE.out _).mono ?_
        rintro e w1 ⟨rfl, hB⟩
        have HB := Lib.hid (HA.out.trans hB)
        clear hB
        go_wp2
        go_ret
        exact ⟨rfl, HB.out⟩
      · obtain ⟨D, S, hd, hs, hD, hS, hm, _⟩ := depth_nat (rightH_ok her.symm).2.2.2.2
        obtain ⟨P, rfl⟩ : ∃ P : Nat, n = (P : Int) := ⟨n.toNat, by omega⟩
        have hr := rowA_ok her.symm hd hs (n := P) (by omega) (by omega)
        obtain ⟨q, hq⟩ : ∃ q, q = D * S := ⟨_, rfl⟩
        rw [← hq] at hr hm
        obtain ⟨r, hr2⟩ : ∃ r, r = q * P := ⟨_, rfl⟩
        rw [← hr2] at hr
        have hr3 : r ≤ 65536 := by rw [hr2]; show _ ≤ 64 * 1024; exact Nat.mul_le_mul hm (by omega)
        have e1 : (D : Int) * (S : Int) = (q : Int) := by rw [hq, Int.natCast_mul]
        have e2 : (q : Int) * (P : Int) = (r : Int) := by rw [hr2, Int.natCast_mul]
        subst hd
        have HSM : Hid (∀ v, Calls Tryd.prog 23 #[.int .i64 c] v fun e w' => e = .returned (.int .i64 (S : Int)) ∧ v = w') := Lib.hid fun v => by rw [← hs]; exact esamples_any v c
        have HR := Lib.hid hr
        rw [HR.out]
        obtain ⟨x, hx⟩ : ∃ x, x = (r + 7) / 8 := ⟨_, rfl⟩
        have f1 : ((r : Int) + 7).tdiv 8 = (x : Int) := by rw [Int.tdiv_eq_ediv_of_nonneg (by omega)]; omega
        have f2 : ((r : Int) + 7) / 8 = (x : Int) := by omega
        have v1 : IntKind.i64.wrap (q : Int) = (q : Int) := by rw [IntKind.wrap_i64]; omega
        have v2 : IntKind.i64.wrap (r : Int) = (r : Int) := by rw [IntKind.wrap_i64]; omega
        have v3 : IntKind.i64.wrap ((r : Int) + 7) = (r : Int) + 7 := by rw [IntKind.wrap_i64]; omega
        have v4 : IntKind.i64.wrap (x : Int) = (x : Int) := by rw [IntKind.wrap_i64]; omega
        rw [← hx]
        clear hx
        obtain ⟨D1, D2⟩ := hD
        obtain ⟨S1, S2⟩ := hS
        clear her hr hs hq hr2
        go_enter Tryd.func15, Tryd.ntmps15
        go_wp2_with fail
        refine (HE.out _).mono ?_
        rintro e w1 ⟨rfl, hB⟩
        have HB := Lib.hid (HA.out.trans hB)
        have hI1 := HI.out.but hB (by simp)
        have c2 := hI1.cell 2
        have c3 := hI1.cell 3
        have k2 := (hI1.drew).cell 2
        have k3 := (hI1.drew).cell 3
        have hlt := hI1.lt
        clear hB hI1
        go_upto_region 3 with (fail)
        go_region_with (refine (HSM.out _).mono ?_; rintro e w6 ⟨rfl, rfl⟩)
        all_goals go_wp2
        all_goals go_ret
        all_goals refine ⟨?_, HB.out.drew⟩
        all_goals go_simp
  · have h1 : er = 5 ∨ er = 24 := by rcases rightH_cases a b d c l with h | h | h <;> simp_all
    have HR := Lib.hid (rowA_bad (a := a) (b := b) (d := d) (c := c) (l := l) (n := n) (.inl (by rw [← her]; exact h0)))
    rw [HR.out]
    clear her h0 HER
    rcases h1 with rfl | rfl
    · go_enter Tryd.func15, Tryd.ntmps15
      go_wp2_with fail
      refine (HE.out _).mono ?_
      rintro e w1 ⟨rfl, hB⟩
      have HB := Lib.hid (HA.out.trans hB)
      clear hB
      go_wp2
      go_ret
      exact ⟨rfl, HB.out⟩
    · go_enter Tryd.func15, Tryd.ntmps15
      go_wp2_with fail
      refine (HE.out _).mono ?_
      rintro e w1 ⟨rfl, hB⟩
      have HB := Lib.hid (HA.out.trans hB)
      clear hB
      go_wp2
      go_ret
      exact ⟨rfl, HB.out⟩
end Go.Proofs.YtookfoanggjnkaaDoor
