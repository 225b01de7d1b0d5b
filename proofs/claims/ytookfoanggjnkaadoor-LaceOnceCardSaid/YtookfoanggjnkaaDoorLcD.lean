/- The document's bytes of an image; whether two lists of passes are the same. -/
import Derived.Test.YtookfoanggjnkaaDoorLcC
set_option maxRecDepth 100000
set_option linter.unusedVariables false
namespace Go.Proofs.YtookfoanggjnkaaDoor
set_option maxRecDepth 100000
open Go Go.RowKit
/-- How many bytes passes have. -/
def sizeL (a b d c l : Int) (L : List P6) : Nat := (L.map fun p => p.2.2.2.2.2 * (1 + rowA a b d c l (p.2.2.2.2.1 : Nat))).sum
def sizeA (a b d c l : Int) : Nat := sizeL a b d c l (passA a b d c l)
theorem sizeL_snoc (a b d c l : Int) (L : List P6) (p : P6) : sizeL a b d c l (L ++ [p]) = sizeL a b d c l L + p.2.2.2.2.2 * (1 + rowA a b d c l (p.2.2.2.2.1 : Nat)) := by
  unfold sizeL
  rw [List.map_append, List.sum_append]
  simp
theorem passA_small {a b d c l : Int} {p : P6} (hp : p ∈ passA a b d c l) : (p.1 ≤ 7 ∧ p.2.1 ≤ 7) ∧ (1 ≤ p.2.2.1 ∧ p.2.2.1 ≤ 8) ∧ (1 ≤ p.2.2.2.1 ∧ p.2.2.2.1 ≤ 8) ∧ (1 ≤ p.2.2.2.2.1 ∧ p.2.2.2.2.1 ≤ 1024) ∧ 1 ≤ p.2.2.2.2.2 ∧ p.2.2.2.2.2 ≤ 1024 := by
  unfold passA at hp
  by_cases h : rightH a b d c l = 0
  · rw [if_pos h] at hp
    obtain ⟨⟨a1, a2⟩, ⟨b1, b2⟩, _⟩ := rightH_ok h
    obtain ⟨q, hq, rfl⟩ := List.mem_map.1 hp
    have hok := passL_ok hq
    have hb : q ∈ baseL l := (List.mem_filter.1 hq).1
    have hs := base_small hb
    unfold p6
    dsimp only
    exact ⟨hs.1, hs.2.1, hs.2.2, ⟨hok.2.1, Nat.le_trans (manyL_le _ _ _ hs.2.1.1) (by omega)⟩, hok.2.2, Nat.le_trans (manyL_le _ _ _ hs.2.2.1) (by omega)⟩
  · rw [if_neg h] at hp; cases hp
theorem passA_len (a b d c l : Int) : (passA a b d c l).length ≤ 7 := by
  unfold passA
  split
  · rw [List.length_map]
    refine Nat.le_trans (List.length_filter_le _ _) ?_
    split <;> decide
  · exact Nat.zero_le _
theorem sizeL_le {a b d c l : Int} {L : List P6} (hL : ∀ p, p ∈ L → p.2.2.2.2.2 ≤ 1024) : sizeL a b d c l L ≤ L.length * 8389632 := by
  induction L with
  | nil => exact Nat.zero_le _
  | cons p L ih =>
    have h1 := ih fun q hq => hL q (List.mem_cons_of_mem _ hq)
    have h2 : p.2.2.2.2.2 * (1 + rowA a b d c l (p.2.2.2.2.1 : Nat)) ≤ 1024 * 8193 := Nat.mul_le_mul (hL p (by simp)) (by have := rowA_le a b d c l (p.2.2.2.2.1 : Nat); omega)
    have e : sizeL a b d c l (p :: L) = p.2.2.2.2.2 * (1 + rowA a b d c l (p.2.2.2.2.1 : Nat)) + sizeL a b d c l L := by unfold sizeL; rw [List.map_cons, List.sum_cons]
    rw [e, List.length_cons]
    omega
theorem take_nextP {L : List P6} {i : Nat} {p : P6} (hp : L[i]? = some p) : L.take (i + 1) = L.take i ++ [p] := by
  rw [List.take_succ_eq_append_getElem (List.getElem?_eq_some_iff.1 hp).1]
  congr 1
  rw [(List.getElem?_eq_some_iff.1 hp).2]
set_option maxHeartbeats 1000000 in
theorem esize_any (w : World) (a b d c l : Int) :
    Calls Tryd.prog 17 #[.agg #[.int .i64 a, .int .i64 b, .int .i64 d, .int .i64 c, .int .i64 l]] w fun e w' => e = .returned (.int .i64 (sizeA a b d c l : Nat)) ∧ But [] w w' := by
  have HPA := Lib.hid fun v => epasses_any v a b d c l
  have HRW := Lib.hid fun v n => erow_any v a b d c l n
  obtain ⟨L, hL⟩ : ∃ L, L = passA a b d c l := ⟨_, rfl⟩
  obtain ⟨N, hN⟩ : ∃ N, N = L.length := ⟨_, rfl⟩
  have hl7 : N ≤ 7 := by rw [hN, hL]; exact passA_len a b d c l
  have HSM : Hid (∀ p, p ∈ L → (p.1 ≤ 7 ∧ p.2.1 ≤ 7) ∧ (1 ≤ p.2.2.1 ∧ p.2.2.1 ≤ 8) ∧ (1 ≤ p.2.2.2.1 ∧ p.2.2.2.1 ≤ 8) ∧ (1 ≤ p.2.2.2.2.1 ∧ p.2.2.2.2.1 ≤ 1024) ∧ 1 ≤ p.2.2.2.2.2 ∧ p.2.2.2.2.2 ≤ 1024) := Lib.hid fun p hp => passA_small (by rw [← hL]; exact hp)
  have HR : Hid (sizeA a b d c l = sizeL a b d c l L) := Lib.hid (by rw [hL]; rfl)
  rw [HR.out]
  rw [← hL, ← hN] at HPA
  obtain ⟨R, hR⟩ : ∃ R : P6 → Nat, R = fun p => rowA a b d c l (p.2.2.2.2.1 : Nat) := ⟨_, rfl⟩
  have HRL : Hid (∀ p, R p ≤ 8192) := Lib.hid fun p => by rw [hR]; exact rowA_le _ _ _ _ _ _
  have HRR : Hid (∀ p v, Calls Tryd.prog 15 #[.agg #[.int .i64 a, .int .i64 b, .int .i64 d, .int .i64 c, .int .i64 l], .int .i64 (p.2.2.2.2.1 : Nat)] v fun e w' => e = .returned (.int .i64 (R p : Nat)) ∧ But [] v w') := Lib.hid fun p v => by rw [hR]; exact HRW.out v _
  obtain ⟨Z, hZ⟩ : ∃ Z : List P6 → Nat, Z = sizeL a b d c l := ⟨_, rfl⟩
  have HZN : Hid (∀ M p, Z (M ++ [p]) = Z M + p.2.2.2.2.2 * (1 + R p)) := Lib.hid fun M p => by rw [hZ, hR]; exact sizeL_snoc _ _ _ _ _ _ _
  have HZ0 : Hid (Z [] = 0) := Lib.hid (by rw [hZ]; rfl)
  have HZL : Hid (∀ i, Z (L.take i) ≤ 58727424) := Lib.hid fun i => by
    have h := sizeL_le (a := a) (b := b) (d := d) (c := c) (l := l) (L := L.take i) (fun p hp => ((HSM.out p) (List.mem_of_mem_take hp)).2.2.2.2.2)
    have h2 : (L.take i).length ≤ 7 := by rw [List.length_take]; omega
    rw [hZ]
    omega
  rw [← hZ]
  have HLN := Lib.hid hN
  have hI := Is.fresh w 23 #[.int .i64 a, .int .i64 b, .int .i64 d, .int .i64 c, .int .i64 l]
  have HA := Lib.hid ((But.refl [] w).alloc (.cells #[.int .i64 a, .int .i64 b, .int .i64 d, .int .i64 c, .int .i64 l] 23))
  have c0 := hI.cell 0
  have c1 := hI.cell 1
  have c2 := hI.cell 2
  have c3 := hI.cell 3
  have c4 := hI.cell 4
  have HI := Lib.hid hI
  clear hL hN hR hZ hI HRW HR
  go_enter Tryd.func17, Tryd.ntmps17
  go_wp2_with fail
  refine (HPA.out _).mono ?_
  rintro e w1 ⟨A, cap, rfl, hP, hcap, hB⟩
  have HS : Hid (Is w1 w.heap.size 23 #[.int .i64 a, .int .i64 b, .int .i64 d, .int .i64 c, .int .i64 l] ∧ Pss w1 A N L ∧ But [] w w1) := Lib.hid ⟨HI.out.but hB (by simp), hP, HA.out.trans hB⟩
  clear hP hB HI HA c0 c1 c2 c3 c4
  go_wp2_with fail
  go_loopw [3, 5] (fun nv iv wr => ∃ i n : Nat, i ≤ N ∧ iv = .int .i64 i ∧ nv = .int .i64 n ∧ Hid (n = Z (L.take i)) ∧ Hid (Is wr w.heap.size 23 #[.int .i64 a, .int .i64 b, .int .i64 d, .int .i64 c, .int .i64 l] ∧ Pss wr A N L ∧ But [] w wr)) (fun _ iv _ => N - (intOf iv).toNat)
  case atStart => exact ⟨0, 0, Nat.zero_le _, rfl, rfl, Lib.hid (by rw [List.take_zero, HZ0.out]), HS⟩
  case round =>
    clear HS
    obtain ⟨i, n, hi, rfl, rfl, HN, HS⟩ := hrel
    have hn : n ≤ 58727424 := by rw [HN.out]; exact HZL.out i
    by_cases hlt : i < N
    · obtain ⟨g, o, p, rfl, hg, hp, k0, k1, k2, k3, k4, k5⟩ := HS.out.2.1.at hlt
      have hpm := HSM.out p (List.mem_of_getElem? hp)
      obtain ⟨r, hr⟩ : ∃ r, r = R p := ⟨_, rfl⟩
      have hr2 : r ≤ 8192 := by rw [hr]; exact HRL.out p
      obtain ⟨pw, hpw⟩ : ∃ x, x = p.2.2.2.2.1 := ⟨_, rfl⟩
      obtain ⟨ph, hph⟩ : ∃ x, x = p.2.2.2.2.2 := ⟨_, rfl⟩
      have HRP : Hid (∀ v, Calls Tryd.prog 15 #[.agg #[.int .i64 a, .int .i64 b, .int .i64 d, .int .i64 c, .int .i64 l], .int .i64 (pw : Nat)] v fun e w' => e = .returned (.int .i64 (r : Nat)) ∧ But [] v w') := Lib.hid fun v => by rw [hr, hpw]; exact HRR.out p v
      obtain ⟨m, hm⟩ : ∃ m, m = ph * (1 + r) := ⟨_, rfl⟩
      have HZ1 : Hid (n + m = Z (L.take (i + 1))) := Lib.hid (by rw [take_nextP hp, HZN.out, ← HN.out, ← hr, ← hph, hm])
      have hph2 : ph ≤ 1024 := by rw [hph]; exact hpm.2.2.2.2.2
      have hm2 : m ≤ 8389632 := by rw [hm]; show _ ≤ 1024 * 8193; exact Nat.mul_le_mul hph2 (by omega)
      have e1 : (ph : Int) * (1 + (r : Int)) = (m : Int) := by rw [hm, Int.natCast_mul, Int.natCast_add]; rfl
      rw [← hpw] at k4
      rw [← hph] at k5
      have HC : Hid (∀ v, But [] wr v → (v.cell? ⟨w.heap.size, 0, none⟩ = some (.int .i64 a) ∧ v.cell? ⟨w.heap.size, 1, none⟩ = some (.int .i64 b) ∧ v.cell? ⟨w.heap.size, 2, none⟩ = some (.int .i64 d) ∧ v.cell? ⟨w.heap.size, 3, none⟩ = some (.int .i64 c) ∧ v.cell? ⟨w.heap.size, 4, none⟩ = some (.int .i64 l)) ∧ v.cell? ⟨g, o + i * 6 + 4, none⟩ = some (.int .i64 pw) ∧ v.cell? ⟨g, o + i * 6 + 5, none⟩ = some (.int .i64 ph)) := Lib.hid fun v hv => by
        have hh := HS.out.1.but hv (by simp)
        exact ⟨⟨hh.cell 0, hh.cell 1, hh.cell 2, hh.cell 3, hh.cell 4⟩, hv.cell k4 (by simp), hv.cell k5 (by simp)⟩
      have i0 : (0 : Int) ≤ (i : Int) := by omega
      have i1 : (i : Int) < (N : Int) := by omega
      have v1 : IntKind.i64.wrap (1 + (r : Int)) = 1 + (r : Int) := by rw [IntKind.wrap_i64]; omega
      have v2 : IntKind.i64.wrap (m : Int) = (m : Int) := by rw [IntKind.wrap_i64]; omega
      have v3 : IntKind.i64.wrap ((n : Int) + (m : Int)) = (n : Int) + (m : Int) := by rw [IntKind.wrap_i64]; omega
      clear k0 k1 k2 k3 k4 k5 hp hpm hr hpw hph hm
      go_upto_region 6 with (fail)
      obtain ⟨⟨z0, z1, z2, z3, z4⟩, z5, z6⟩ := HC.out wr.drew ((But.refl [] wr).drew)
      go_region_with (refine (HRP.out _).mono ?_; rintro e w6 ⟨rfl, hB6⟩; obtain ⟨⟨y0, y1, y2, y3, y4⟩, y5, y6⟩ := HC.out w6 (((But.refl [] wr).drew).trans hB6); have HB6 := Lib.hid (((But.refl [] wr).drew).trans hB6); clear hB6)
      all_goals go_simp
      all_goals go_wp2
      all_goals exact ⟨⟨i + 1, n + m, by omega, by go_num, by go_num, HZ1, Lib.hid ⟨HS.out.1.but HB6.out (by simp), HS.out.2.1.but HB6.out, HS.out.2.2.trans HB6.out⟩⟩, by simp [intOf] <;> omega⟩
    · obtain rfl : i = N := by omega
      have HE : Hid (n = Z L) := Lib.hid (by rw [HN.out, List.take_of_length_le]; rw [← HLN.out]; exact Nat.le_refl _)
      go_wp2
      go_ret
      exact ⟨by rw [HE.out]; rfl, HS.out.2.2⟩
end Go.Proofs.YtookfoanggjnkaaDoor
