/- Whether two lists of chunks are the same; whether chunks are few. -/
import Derived.Test.YtdfjdajfkamafaaCkD
set_option maxRecDepth 100000
set_option linter.unusedVariables false
namespace Go.Proofs.Ytdfjdajfkamafaa
set_option maxRecDepth 100000
open Go Go.RowKit
attribute [local irreducible] strL
theorem Cks.same {w : World} {A1 A2 : Option Addr} {n1 n2 c1 c2 : Nat} {L M : List Ck} (h1 : Cks w A1 n1 L) (h2 : Cks w A2 n2 M) (hn : n1 ≤ 1000000000) (hm : n2 ≤ 1000000000) :
    Calls Try.prog 12 #[.slice A1 n1 c1, .slice A2 n2 c2] w fun e w' => e = .returned (.bool (decide (L = M))) ∧ But [] w w' := by
  have hl1 := h1.1
  have hl2 := h2.1
  have H1 := Lib.hid h1
  have H2 := Lib.hid h2
  by_cases hlen : n1 = n2
  · subst hlen
    have d0 : ((n1 : Int) != (n1 : Int)) = false := by simp
    have HL1 := Lib.hid hl1
    have HL2 := Lib.hid hl2
    clear h1 h2 hl1 hl2
    go_enter Try.func12, Try.ntmps12
    go_wp2
    go_loopw [5] (fun iv wr => ∃ i q : Nat, i ≤ n1 ∧ iv = .int .i64 i ∧ Hid (L.take i = M.take i) ∧ wr = w.drewN q) (fun iv _ => n1 - (intOf iv).toNat)
    case atStart => exact ⟨0, 0, Nat.zero_le _, rfl, Lib.hid rfl, rfl⟩
    case round =>
      obtain ⟨i, q, hi, rfl, HT, rfl⟩ := hrel
      by_cases hlt : i < n1
      · obtain ⟨g1, o1, a, rfl, hg1, a0, a1, ha⟩ := H1.out.at hlt
        obtain ⟨g2, o2, b, rfl, hg2, b0, b1, hb⟩ := H2.out.at hlt
        have k0 : (0 : Int) ≤ (i : Int) := by omega
        have k1 : (i : Int) < (n1 : Int) := by omega
        have HAT := Lib.hid ha
        have HBT := Lib.hid hb
        have hab : (strL a.1 = strL b.1 ∧ strL a.2 = strL b.2) ↔ a = b := ⟨fun h => Prod.ext (strL_inj h.1) (strL_inj h.2), fun h => by rw [h]; exact ⟨rfl, rfl⟩⟩
        have HAB := Lib.hid hab
        clear ha hb hab hg1 hg2
        by_cases he : strL a.1 = strL b.1 ∧ strL a.2 = strL b.2
        · have hneq : ∀ W, (binOp .neq 35 (.agg #[.string (strL a.1), .string (strL a.2)]) (.agg #[.string (strL b.1), .string (strL b.2)])).run Try.prog W = .ok (.bool false) W := fun W => by rw [ck_neq, decide_eq_true he]; rfl
          have HN := Lib.hid (show L.take (i + 1) = M.take (i + 1) by rw [take_next HAT.out, take_next HBT.out, HT.out, HAB.out.1 he])
          have HE := Lib.hid he
          clear he
          go_wp2
          go_quiet (fail)
          go_wp2
          go_roundw
          case rel => exact ⟨i + 1, q + nq, by omega, by go_num, HN, rfl⟩
          case measure => simp [intOf]; omega
        · have hneq : ∀ W, (binOp .neq 35 (.agg #[.string (strL a.1), .string (strL a.2)]) (.agg #[.string (strL b.1), .string (strL b.2)])).run Try.prog W = .ok (.bool true) W := fun W => by rw [ck_neq, decide_eq_false he]; rfl
          have HN := Lib.hid (show ¬ L = M by
            intro e
            apply he
            apply HAB.out.2
            have h := HAT.out
            rw [e, HBT.out] at h
            exact (Option.some.inj h).symm)
          have HE := Lib.hid he
          clear he
          go_wp2
          go_quiet (fail)
          go_wp2
          go_ret
          exact ⟨by rw [decide_eq_false HN.out]; rfl, (by first | exact (But.refl [] w).drewN (q + nq) | exact ((But.refl [] w).drewN q).drewN nq)⟩
      · obtain rfl : i = n1 := by omega
        have HN := Lib.hid (show L = M by
          have h := HT.out
          rw [List.take_of_length_le (by rw [HL1.out]; exact Nat.le_refl _), List.take_of_length_le (by rw [HL2.out]; exact Nat.le_refl _)] at h
          exact h)
        go_wp2
        go_ret
        exact ⟨by rw [decide_eq_true HN.out]; rfl, (But.refl [] w).drewN q⟩
  · have d0 : ((n1 : Int) != (n2 : Int)) = true := by simp; omega
    have HN := Lib.hid (show ¬ L = M by intro e; apply hlen; rw [← hl1, ← hl2, e])
    clear h1 h2 hl1 hl2
    go_enter Try.func12, Try.ntmps12
    go_wp2
    go_ret
    exact ⟨by rw [decide_eq_false HN.out]; rfl, But.refl [] w⟩
/-- Whether chunks are few. -/
def fewC (L : List Ck) : Bool := decide (sizeC L ≤ 100000)
theorem sizeC_take {L : List Ck} {i : Nat} {c : Ck} (h : L[i]? = some c) : sizeC (L.take (i + 1)) = sizeC (L.take i) + (12 + c.1.length + c.2.length) := by
  rw [take_next h]
  unfold sizeC
  rw [List.map_append, List.sum_append]
  simp
theorem sizeC_take_le (L : List Ck) (i : Nat) : sizeC (L.take i) ≤ sizeC L := by
  have e : sizeC L = sizeC (L.take i) + sizeC (L.drop i) := by
    unfold sizeC
    rw [← List.sum_append, ← List.map_append, List.take_append_drop]
  omega
theorem few_any (w : World) {A : Option Addr} {n cap : Nat} {L : List Ck} (hK : Cks w A n L) (hn : n ≤ 8796093022208) (hs : ∀ (i : Nat) (c : Ck), L[i]? = some c → c.1.length ≤ 140737488351232 ∧ c.2.length ≤ 140737488351232) :
    Calls Try.prog 13 #[.slice A n cap] w fun e w' => e = .returned (.bool (fewC L)) ∧ But [] w w' := by
  have hl := hK.1
  have HL := Lib.hid hl
  have HK := Lib.hid hK
  have HS := Lib.hid hs
  clear hK hl hs
  go_enter Try.func13, Try.ntmps13
  go_wp2
  go_loopw [3, 4] (fun sv iv wr => ∃ i q m : Nat, i ≤ n ∧ iv = .int .i64 i ∧ sv = .int .i64 m ∧ Hid (m = sizeC (L.take i)) ∧ m ≤ 100000 ∧ wr = w.drewN q) (fun _ iv _ => n - (intOf iv).toNat)
  case atStart => exact ⟨0, 0, 0, Nat.zero_le _, rfl, rfl, Lib.hid rfl, Nat.zero_le _, rfl⟩
  case round =>
    obtain ⟨i, q, m, hi, rfl, rfl, HM, hm, rfl⟩ := hrel
    by_cases hlt : i < n
    · obtain ⟨g, o, c, rfl, hg, c0, c1, hat⟩ := HK.out.at hlt
      obtain ⟨x1, x2⟩ := HS.out i c hat
      have HN := Lib.hid (sizeC_take hat)
      have k0 : (0 : Int) ≤ (i : Int) := by omega
      have k1 : (i : Int) < (n : Int) := by omega
      have s1 := strL_size c.1
      have s2 := strL_size c.2
      obtain ⟨T, hT⟩ : ∃ T, T = strL c.1 := ⟨_, rfl⟩
      obtain ⟨D, hD⟩ : ∃ D, D = strL c.2 := ⟨_, rfl⟩
      rw [← hT] at s1 c0
      rw [← hD] at s2 c1
      obtain ⟨a, ha⟩ : ∃ a, a = c.1.length := ⟨_, rfl⟩
      obtain ⟨b, hb⟩ : ∃ b, b = c.2.length := ⟨_, rfl⟩
      rw [← ha] at x1 s1
      rw [← hb] at x2 s2
      rw [← ha, ← hb] at HN
      obtain ⟨z, hz⟩ : ∃ z, z = m + 12 + b + a := ⟨_, rfl⟩
      have HZ := Lib.hid (show z = sizeC (L.take (i + 1)) by rw [HN.out, ← HM.out]; omega)
      have e1 : (m : Int) + 12 + (b : Int) + (a : Int) = (z : Int) := by omega
      have w1 : IntKind.i64.wrap ((m : Int) + 12) = (m : Int) + 12 := IntWalk.i64_in _ (by omega)
      have w2 : IntKind.i64.wrap ((m : Int) + 12 + (b : Int)) = (m : Int) + 12 + (b : Int) := IntWalk.i64_in _ (by omega)
      have w3 : IntKind.i64.wrap (z : Int) = (z : Int) := IntWalk.i64_in _ (by omega)
      clear hT hD ha hb hat hg hz
      by_cases hz : 100000 < z
      · have dz : decide ((100000 : Int) < (z : Int)) = true := by simp; omega
        have HF := Lib.hid (show fewC L = false by
          unfold fewC
          have := sizeC_take_le L (i + 1)
          have h := HZ.out
          exact decide_eq_false (by omega))
        clear hz
        go_wp2
        go_quiet (fail)
        go_wp2
        go_ret
        exact ⟨by rw [HF.out]; rfl, (by first | exact (But.refl [] w).drewN (q + nq) | exact ((But.refl [] w).drewN q).drewN nq)⟩
      · have dz : decide ((100000 : Int) < (z : Int)) = false := by simp; omega
        go_wp2
        go_quiet (fail)
        go_wp2
        go_roundw
        case rel => exact ⟨i + 1, q + nq, z, by omega, by go_num, rfl, HZ, by omega, rfl⟩
        case measure => simp [intOf]; omega
    · obtain rfl : i = n := by omega
      have HF := Lib.hid (show fewC L = true by
        unfold fewC
        have h := HM.out
        rw [List.take_of_length_le (by rw [HL.out]; exact Nat.le_refl _)] at h
        exact decide_eq_true (by omega))
      go_wp2
      go_ret
      exact ⟨by rw [HF.out]; rfl, (But.refl [] w).drewN q⟩
end Go.Proofs.Ytdfjdajfkamafaa
