/- The document's samples of a row. -/
import Derived.Test.YtfibffcmbnlomaaSbB
import Derived.Test.YtfibffcmbnlomaaRwF
set_option maxRecDepth 100000
set_option linter.unusedVariables false
namespace Go.Proofs.Ytfibffcmbnlomaa
set_option maxRecDepth 100000
open Go Go.RowKit
/-- The samples of a row, of whatever arguments. -/
def unpackA (s : ByteArray) (d n : Int) : List Nat × Int :=
  if depB d = false ∨ n < 0 ∨ 4096 < n then ([], 1) else if 8 * (s.size : Int) < n * d then ([], 30) else (unpackT s.data.toList d.toNat n.toNat, 0)
theorem unpackT_next (row : List UInt8) (D i : Nat) : unpackT row D (i + 1) = unpackT row D i ++ [sampleN row D i] := by
  unfold unpackT
  rw [List.range_succ, List.map_append]
  rfl
theorem unpackT_length (row : List UInt8) (D i : Nat) : (unpackT row D i).length = i := by unfold unpackT; rw [List.length_map, List.length_range]
theorem byteR_run {s : ByteArray} {k : Nat} (hk : k < s.size) (w : World) : (Instr.index 9 (.string s) (.int .i64 (k : Int))).run Try.prog w = .ok (.int .u8 (s[k].toNat : Nat)) w := by
  simp [go_sem, Try.underlying9, hk]
theorem u8_one {y : Nat} (hy : y < 256) : bits .and .u8 (y : Int) 1 = ((y % 2 : Nat) : Int) := by
  have h := u8_and_nat y 1 hy (by decide)
  rw [Nat.and_one_is_mod] at h
  exact h
/-- What is told of samples. -/
def GotN (w : World) (r : List Nat × Int) (e : Ending) (w' : World) : Prop := ∃ A cap, e = .returned (.tuple #[.slice A r.1.length cap, .int .i64 r.2]) ∧ Nums w' A r.1.length r.1 ∧ r.1.length ≤ cap ∧ But [] w w'
set_option maxHeartbeats 1000000 in
theorem eunpack_bad (w : World) {s : ByteArray} {d n : Int} (hs : s.size ≤ 140737488351232) (hn : -9223372036854775808 ≤ n ∧ n ≤ 9223372036854775807) (h : depB d = false ∨ n < 0 ∨ 4096 < n) :
    Calls Try.prog 12 #[.string s, .int .i64 d, .int .i64 n] w (GotN w (unpackA s d n)) := by
  have HR : Hid (unpackA s d n = ([], 1)) := Lib.hid (by unfold unpackA; rw [if_pos h])
  rw [HR.out]
  have HD := Lib.hid fun W => edepth_any W d
  obtain ⟨n1, n2⟩ := hn
  cases hd : depB d with
  | false =>
    rw [hd] at HD
    clear hd h
    go_enter Try.func12, Try.ntmps12
    go_wp2_with fail
    refine (HD.out _).mono ?_
    rintro e w1 ⟨rfl, rfl⟩
    go_wp2
    go_ret2
    exact ⟨none, 0, rfl, Nums.nil _ _, Nat.le_refl _, But.refl [] _⟩
  | true =>
    rw [hd] at HD h
    by_cases h1 : n < 0
    · clear hd h
      go_enter Try.func12, Try.ntmps12
      go_wp2_with fail
      refine (HD.out _).mono ?_
      rintro e w1 ⟨rfl, rfl⟩
      go_wp2
      go_ret2
      exact ⟨none, 0, rfl, Nums.nil _ _, Nat.le_refl _, But.refl [] _⟩
    · have h2 : 4096 < n := by rcases h with h | h | h; exact absurd h (by decide); exact absurd h h1; exact h
      clear hd h
      go_enter Try.func12, Try.ntmps12
      go_wp2_with fail
      refine (HD.out _).mono ?_
      rintro e w1 ⟨rfl, rfl⟩
      go_wp2
      go_ret2
      exact ⟨none, 0, rfl, Nums.nil _ _, Nat.le_refl _, But.refl [] _⟩
set_option maxHeartbeats 2000000 in
theorem eunpack_any (w : World) {s : ByteArray} {d n : Int} (hs : s.size ≤ 140737488351232) (hn : -9223372036854775808 ≤ n ∧ n ≤ 9223372036854775807) :
    Calls Try.prog 12 #[.string s, .int .i64 d, .int .i64 n] w (GotN w (unpackA s d n)) := by
  by_cases hb : depB d = false ∨ n < 0 ∨ 4096 < n
  · exact eunpack_bad w hs hn hb
  have hd : depB d = true := by cases h : depB d; exact absurd (Or.inl h) hb; rfl
  obtain ⟨D, rfl, hdep, hD1, hD16⟩ := depB_nat hd
  obtain ⟨N, rfl⟩ : ∃ N : Nat, n = (N : Int) := ⟨n.toNat, by omega⟩
  have hN : N ≤ 4096 := by omega
  have HD := Lib.hid fun W => edepth_any W D
  rw [hd] at HD
  obtain ⟨t, ht⟩ : ∃ t, t = N * D := ⟨_, rfl⟩
  have e0 : (N : Int) * (D : Int) = (t : Int) := by rw [ht, Int.natCast_mul]
  have ht2 : t ≤ 65536 := by rw [ht]; show _ ≤ 4096 * 16; exact Nat.mul_le_mul hN hD16
  have q1 : decide ((N : Int) < 0) = false := decide_eq_false (by omega)
  have q2 : decide ((4096 : Int) < (N : Int)) = false := decide_eq_false (by omega)
  by_cases hsh : 8 * s.size < t
  · have HR : Hid (unpackA s (D : Int) (N : Int) = ([], 30)) := Lib.hid (by unfold unpackA; rw [if_neg hb, e0, if_pos (by omega)])
    rw [HR.out]
    clear hb hd hdep ht
    go_enter Try.func12, Try.ntmps12
    go_wp2_with fail
    refine (HD.out _).mono ?_
    rintro e w1 ⟨rfl, rfl⟩
    go_wp2
    go_ret2
    exact ⟨none, 0, rfl, Nums.nil _ _, Nat.le_refl _, But.refl [] _⟩
  have HR : Hid (unpackA s (D : Int) (N : Int) = (unpackT s.data.toList D N, 0)) := Lib.hid (by unfold unpackA; rw [if_neg hb, e0, if_neg (by omega)]; rfl)
  rw [HR.out]
  have HT := Lib.hid ht
  clear hb hd hdep ht
  go_enter Try.func12, Try.ntmps12
  go_wp2_with fail
  refine (HD.out _).mono ?_
  rintro e w1 ⟨rfl, rfl⟩
  go_wp2_with fail
  go_loopw [8, 9] (fun ov iv wr => ∃ i : Nat, i ≤ N ∧ iv = .int .i64 i ∧ Hid (OwnN wr w.heap.size ov (unpackT s.data.toList D i)) ∧ Hid (But [] w wr)) (fun _ iv _ => N - (intOf iv).toNat)
  case atStart => exact ⟨0, Nat.zero_le _, rfl, Lib.hid (OwnN.nil _ _), Lib.hid (But.refl [] _)⟩
  case round =>
    obtain ⟨i, hi, rfl, HO, HB⟩ := hrel
    by_cases hlt : i < N
    · obtain ⟨q, hq⟩ : ∃ q, q = i * D := ⟨_, rfl⟩
      have e1 : (i : Int) * (D : Int) = (q : Int) := by rw [hq, Int.natCast_mul]
      have hqn : (i + 1) * D = q + D := by rw [hq, Nat.add_mul, Nat.one_mul]
      have e2 : ((i : Int) + 1) * (D : Int) = (q : Int) + (D : Int) := by
        have h := congrArg (fun x : Nat => (x : Int)) hqn
        simpa using h
      have hqt : q + D ≤ t := by rw [← hqn, HT.out]; exact Nat.mul_le_mul_right D hlt
      obtain ⟨F, hF⟩ : ∃ F : Nat → Nat, F = fun b => rowBit s.data.toList (q + b) := ⟨_, rfl⟩
      have HFS : Hid (valN F D = sampleN s.data.toList D i) := Lib.hid (by rw [hF, hq]; rfl)
      have HF2 : Hid (∀ b, F b < 2) := Lib.hid fun b => by rw [hF]; exact bitN_lt _ _
      have HFB : Hid (∀ b, F b = rowBit s.data.toList (q + b)) := Lib.hid fun b => by rw [hF]
      have HVL : Hid (∀ b, b ≤ D → valN F b < 65536) := Lib.hid fun b hb => by
        have h := valN_lt (f := F) (n := b) (fun b _ => HF2.out b)
        have h2 : 2 ^ b ≤ 2 ^ 16 := Nat.pow_le_pow_right (by decide) (by omega)
        have h3 : (2 : Nat) ^ 16 = 65536 := by decide
        omega
      have HNX := Lib.hid (unpackT_next s.data.toList D i)
      have HLEN := Lib.hid (unpackT_length s.data.toList D i)
      clear hq hqn hF
      go_wp2_with fail
      go_loopw [10, 11] (fun vv kv wx => ∃ b v : Nat, b ≤ D ∧ kv = .int .i64 ((q + b : Nat) : Int) ∧ vv = .int .i64 (v : Nat) ∧ Hid (v = valN F b) ∧ Hid (OwnN wx w.heap.size u8 (unpackT s.data.toList D i)) ∧ Hid (But [] w wx)) (fun _ kv _ => q + D - (intOf kv).toNat)
      case atStart => exact ⟨0, 0, Nat.zero_le _, rfl, rfl, Lib.hid rfl, HO, HB⟩
      case round =>
        clear HO HB
        obtain ⟨b, v, hb, rfl, rfl, HV, HO, HB⟩ := hrel
        have hv : v < 65536 := by rw [HV.out]; exact HVL.out b hb
        by_cases hbl : b < D
        · obtain ⟨k, hk⟩ : ∃ k, k = q + b := ⟨_, rfl⟩
          rw [← hk]
          obtain ⟨kq, hkq⟩ : ∃ x, x = k / 8 := ⟨_, rfl⟩
          obtain ⟨km, hkm⟩ : ∃ x, x = k % 8 := ⟨_, rfl⟩
          obtain ⟨sh, hsh2⟩ : ∃ x, x = 7 - km := ⟨_, rfl⟩
          have hkt : k < t := by omega
          have hks : kq < s.size := by omega
          obtain ⟨bt, hbt⟩ : ∃ x, x = s[kq].toNat := ⟨_, rfl⟩
          have hb256 : bt < 256 := by rw [hbt]; exact s[kq].toNat_lt
          obtain ⟨y, hy⟩ : ∃ x, x = bt / 2 ^ sh := ⟨_, rfl⟩
          have hy256 : y < 256 := by rw [hy]; exact Nat.lt_of_le_of_lt (Nat.div_le_self _ _) hb256
          obtain ⟨z, hz⟩ : ∃ x, x = y % 2 := ⟨_, rfl⟩
          have hz2 : z < 2 := by omega
          have f1 : (k : Int).tdiv 8 = (kq : Int) := by rw [Int.tdiv_eq_ediv_of_nonneg (by omega)]; omega
          have f2 : (k : Int) / 8 = (kq : Int) := by omega
          have f3 : (k : Int).tmod 8 = (km : Int) := by rw [Int.tmod_eq_emod_of_nonneg (by omega)]; omega
          have f4 : (k : Int) % 8 = (km : Int) := by omega
          have f5 : (7 : Int) - (km : Int) = (sh : Int) := by omega
          have f6 : (bt : Int) / 2 ^ sh = (y : Int) := by rw [hy]; simp
          have f7 : bits .and .u8 (y : Int) 1 = (z : Int) := by rw [hz]; exact u8_one hy256
          have kx : ∀ w, (Instr.index 9 (.string s) (.int .i64 (kq : Int))).run Try.prog w = .ok (.int .u8 (bt : Int)) w := fun w => by rw [hbt]; exact byteR_run hks w
          have HN : Hid (2 * v + z = valN F (b + 1)) := Lib.hid (by
            have e : z = F b := by
              rw [HFB.out, ← hk]
              unfold rowBit bitN
              rw [← hkq, ← hkm, ← hsh2, getD_byte s hks, ← hbt, ← hy, hz]
            rw [e, HV.out]
            rfl)
          have HK := Lib.hid hk
          have hkb : k + 1 = q + (b + 1) := by omega
          have HKB := Lib.hid hkb
          have hsh7 : sh ≤ 7 := by omega
          have hkd : k < q + D := by omega
          have HKD := Lib.hid hkd
          clear hkq hkm hsh2 hbt hy hz hkb hk
          go_wp2
          go_roundw
          case rel => exact ⟨b + 1, 2 * v + z, by omega, by rw [← HKB.out]; go_num, by go_num, HN, HO, HB⟩
          case measure => simp [intOf] <;> omega
        · obtain rfl : b = D := by omega
          have HV2 : Hid (v = sampleN s.data.toList b i) := Lib.hid (by rw [HV.out, HFS.out])
          have HLT : Hid ((unpackT s.data.toList b i).length < 1000000000) := Lib.hid (by rw [HLEN.out]; omega)
          go_wp2_with (at_builtin; refine wpList_append_n (w0 := w) _ rfl _ _ rfl _ (unpackT s.data.toList b i) rfl (HO.out.but ((But.refl [] _).alloc _)) (HB.out.alloc _) v rfl (Is.fresh _ _ _) HLT.out ?_)
          intro A9 c9 w9 HO9 HB9
          have HO8 : Hid (OwnN w9 w.heap.size (.slice A9 ((unpackT s.data.toList b i).length + 1) c9) (unpackT s.data.toList b (i + 1))) := Lib.hid (by rw [HNX.out, ← HV2.out]; exact HO9.out)
          clear HO9 HO HB
          go_wp2
          go_roundw
          case rel => exact ⟨i + 1, by omega, by go_num, HO8, HB9⟩
          case measure => simp [intOf] <;> omega
    · obtain rfl : i = N := by omega
      obtain ⟨A, cp, rfl, hcp⟩ := HO.out.shape
      have hps := HO.out.nums
      go_wp2
      go_ret2
      exact ⟨A, cp, rfl, hps, hcp, HB.out⟩
end Go.Proofs.Ytfibffcmbnlomaa
