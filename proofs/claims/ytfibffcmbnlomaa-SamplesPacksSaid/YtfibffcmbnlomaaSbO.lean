/- The program's samples of a row, all of them. -/
import Derived.Test.YtfibffcmbnlomaaSbK
set_option maxRecDepth 100000
set_option linter.unusedVariables false
namespace Go.Proofs.Ytfibffcmbnlomaa
set_option maxRecDepth 100000
open Go Go.RowKit
set_option maxHeartbeats 1000000 in
theorem punpack_bad (w : World) {s : ByteArray} {d n : Int} (h : depB d = false ∨ n < 0 ∨ 4096 < n) :
    Calls Try.prog 11 #[.string s, .int .i64 d, .int .i64 n] w (GotN w (unpackA s d n)) := by
  have HR : Hid (unpackA s d n = ([], 1)) := Lib.hid (by unfold unpackA; rw [if_pos h])
  rw [HR.out]
  have HD := Lib.hid fun W => pisdepth_any W d
  cases hd : depB d with
  | false =>
    rw [hd] at HD
    clear hd h
    go_enter Try.func11, Try.ntmps11
    go_wp2_with fail
    refine (HD.out _).mono ?_
    rintro e w1 ⟨rfl, rfl⟩
    go_wp2
    go_ret2
    exact ⟨none, 0, rfl, Nums.nil _ _, Nat.le_refl _, But.refl [] _⟩
  | true =>
    rw [hd] at HD h
    by_cases h1 : n < 0
    · clear hd h
      go_enter Try.func11, Try.ntmps11
      go_wp2_with fail
      refine (HD.out _).mono ?_
      rintro e w1 ⟨rfl, rfl⟩
      go_wp2
      go_ret2
      exact ⟨none, 0, rfl, Nums.nil _ _, Nat.le_refl _, But.refl [] _⟩
    · have h2 : 4096 < n := by rcases h with h | h | h; exact absurd h (by decide); exact absurd h h1; exact h
      clear hd h
      go_enter Try.func11, Try.ntmps11
      go_wp2_with fail
      refine (HD.out _).mono ?_
      rintro e w1 ⟨rfl, rfl⟩
      go_wp2
      go_ret2
      exact ⟨none, 0, rfl, Nums.nil _ _, Nat.le_refl _, But.refl [] _⟩
set_option maxHeartbeats 2000000 in
theorem punpack_any (w : World) {s : ByteArray} {d n : Int} (hs : s.size ≤ 140737488351232) :
    Calls Try.prog 11 #[.string s, .int .i64 d, .int .i64 n] w (GotN w (unpackA s d n)) := by
  by_cases hb : depB d = false ∨ n < 0 ∨ 4096 < n
  · exact punpack_bad w hb
  have hd : depB d = true := by cases h : depB d; exact absurd (Or.inl h) hb; rfl
  obtain ⟨D, rfl, hdep, hD1, hD16⟩ := depB_nat hd
  obtain ⟨N, rfl⟩ : ∃ N : Nat, n = (N : Int) := ⟨n.toNat, by omega⟩
  have hN : N ≤ 4096 := by omega
  have HD := Lib.hid fun W => pisdepth_any W D
  rw [hd] at HD
  obtain ⟨t, ht⟩ : ∃ t, t = N * D := ⟨_, rfl⟩
  have e0 : (N : Int) * (D : Int) = (t : Int) := by rw [ht, Int.natCast_mul]
  have e0' : (D : Int) * (N : Int) = (t : Int) := by rw [Int.mul_comm]; exact e0
  have ht2 : t ≤ 65536 := by rw [ht]; show _ ≤ 4096 * 16; exact Nat.mul_le_mul hN hD16
  have q1 : decide ((N : Int) < 0) = false := decide_eq_false (by omega)
  have q2 : decide ((4096 : Int) < (N : Int)) = false := decide_eq_false (by omega)
  obtain ⟨T, hT⟩ : ∃ T, T = (t + 7) / 8 := ⟨_, rfl⟩
  have g1 : ((t : Int) + 7).tdiv 8 = (T : Int) := by rw [Int.tdiv_eq_ediv_of_nonneg (by omega)]; omega
  have g2 : ((t : Int) + 7) / 8 = (T : Int) := by omega
  by_cases hsh : s.size < T
  · have HR : Hid (unpackA s (D : Int) (N : Int) = ([], 30)) := Lib.hid (by unfold unpackA; rw [if_neg hb, e0, if_pos (by omega)])
    rw [HR.out]
    clear hb hd hdep ht hT e0
    go_enter Try.func11, Try.ntmps11
    go_wp2_with fail
    refine (HD.out _).mono ?_
    rintro e w1 ⟨rfl, rfl⟩
    go_wp2
    go_ret2
    exact ⟨none, 0, rfl, Nums.nil _ _, Nat.le_refl _, But.refl [] _⟩
  have HR : Hid (unpackA s (D : Int) (N : Int) = (unpackT s.data.toList D N, 0)) := Lib.hid (by unfold unpackA; rw [if_neg hb, e0, if_neg (by omega)]; rfl)
  rw [HR.out]
  have HS : Hid (∀ (W : World) (i : Nat), i < N → Calls Try.prog 22 #[.string s, .int .i64 D, .int .i64 i] W fun e w' => e = .returned (.int .i64 (sampleN s.data.toList D i : Nat)) ∧ But [] W w') := Lib.hid fun W i hi =>
    psampleAt_any W hdep (by have : (i + 1) * D ≤ N * D := Nat.mul_le_mul_right _ hi; omega) hs
  have HNX := Lib.hid (unpackT_next s.data.toList D)
  have HLEN := Lib.hid (unpackT_length s.data.toList D)
  obtain ⟨U, hU⟩ : ∃ U : Nat → List Nat, U = unpackT s.data.toList D := ⟨_, rfl⟩
  obtain ⟨V, hV⟩ : ∃ V : Nat → Nat, V = sampleN s.data.toList D := ⟨_, rfl⟩
  rw [← hU] at HNX HLEN
  rw [← hV] at HNX HS
  rw [← hU]
  have HU0 : Hid (U 0 = []) := Lib.hid (by rw [hU]; rfl)
  have kz := run_zeroZ w hN
  have hz : Is (zeroZ w N) w.heap.size 3 (rowZ [] N) := Is.fresh w _ _
  have hzb : But [] w (zeroZ w N) := (But.refl [] w).alloc _
  obtain ⟨w5, hw5⟩ : ∃ x, x = zeroZ w N := ⟨_, rfl⟩
  rw [← hw5] at kz hz hzb
  obtain ⟨g, hg⟩ : ∃ g, g = w.heap.size := ⟨_, rfl⟩
  rw [← hg] at kz hz
  have HG := Lib.hid hg
  have HI0 : Hid (Is w5 g 3 (rowZ (U 0) N)) := Lib.hid (by rw [HU0.out]; exact hz)
  have HB0 := Lib.hid hzb
  clear hb hd hdep ht hT e0 hU hV hw5 hg hz hzb
  go_enter Try.func11, Try.ntmps11
  go_wp2_with fail
  refine (HD.out _).mono ?_
  rintro e w1 ⟨rfl, rfl⟩
  go_wp2_with fail
  go_loopw [33] (fun iv wr => ∃ i : Nat, i ≤ N ∧ iv = .int .i64 i ∧ Hid (Is wr g 3 (rowZ (U i) N)) ∧ Hid (But [] w wr)) (fun iv _ => N - (intOf iv).toNat)
  case atStart => exact ⟨0, Nat.zero_le _, rfl, HI0, HB0⟩
  case round =>
    clear HI0 HB0 kz
    obtain ⟨i, hi, rfl, HI, HB⟩ := hrel
    by_cases hlt : i < N
    · obtain ⟨x, hx⟩ : ∃ x, x = V i := ⟨_, rfl⟩
      have HX : Hid (U (i + 1) = U i ++ [x]) := Lib.hid (by rw [hx]; exact HNX.out i)
      have HS1 : Hid (∀ W, Calls Try.prog 22 #[.string s, .int .i64 D, .int .i64 i] W fun e w' => e = .returned (.int .i64 (x : Nat)) ∧ But [] W w') := Lib.hid fun W => by rw [hx]; exact HS.out W i hlt
      clear hx
      go_wp2_with fail
      refine (HS1.out _).mono ?_
      rintro e w2 ⟨rfl, hB2⟩
      have hI2 := HI.out.but hB2 (by simp)
      obtain ⟨v0, hv0⟩ := rowZ_some (L := U i) (n := N) (i := i) (by rw [HLEN.out]; exact hi) hlt
      have hc := hI2.cell i
      rw [hv0] at hc
      have hf := hI2.free i
      have i0 : (0 : Int) ≤ (i : Int) := by omega
      have i1 : (i : Int) < (N : Int) := by omega
      have HI3 : Hid (Is (w2.setCell ⟨g, i, none⟩ (.int .i64 (x : Nat))) g 3 (rowZ (U (i + 1)) N)) := Lib.hid (by
        have h := hI2.put i (.int .i64 (x : Nat))
        have h2 := rowZ_put (L := U i) (n := N) x (by rw [HLEN.out]; exact hlt)
        rw [HLEN.out] at h2
        rw [h2, ← HX.out] at h
        exact h)
      have HB3 : Hid (But [] w (w2.setCell ⟨g, i, none⟩ (.int .i64 (x : Nat)))) := Lib.hid ((HB.out.trans hB2).setCell (p := ⟨g, i, none⟩) (.inr (by rw [HG.out]; exact Nat.le_refl _)) _)
      clear hI2 hv0 hB2
      go_wp2
      go_roundw
      case rel => exact ⟨i + 1, by omega, by go_num, HI3, HB3⟩
      case measure => simp [intOf] <;> omega
    · obtain rfl : i = N := by omega
      have HL := Lib.hid (HLEN.out i)
      go_wp2
      go_ret2
      have h := HI.out
      have hn : Nums wr (some ⟨g, 0, none⟩) (U i).length (U i) := Nums.row (by rw [HL.out]; exact h)
      exact ⟨some ⟨g, 0, none⟩, i, by rw [HL.out]; rfl, hn, Nat.le_of_eq HL.out, HB.out⟩
end Go.Proofs.Ytfibffcmbnlomaa
