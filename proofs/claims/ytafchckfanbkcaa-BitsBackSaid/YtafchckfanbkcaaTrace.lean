/- What a row of calls lays, call by call, and that it can be read again: plain arithmetic. -/
import Derived.Test.YtafchckfanbkcaaWrites
namespace Go.Proofs.Ytafchckfanbkcaa

def step (s : Nat × Nat) (q : Bool × Int × Int) : Nat × Nat :=
  if q.1 then (bytesX s.1 s.2 (upText q.2.1 q.2.2), bytesN s.2 (upText q.2.1 q.2.2)) else (layX s.1 s.2 q.2.2 q.2.1, layN s.2 q.2.1)
def trace (ops : List (Bool × Int × Int)) (k : Nat) : Nat × Nat := (ops.take k).foldl step (0, 0)
theorem trace_succ (ops : List (Bool × Int × Int)) (k : Nat) (h : k < ops.length) : trace ops (k + 1) = step (trace ops k) ops[k] := by
  unfold trace
  rw [List.take_succ_eq_append_getElem h, List.foldl_append]
  rfl
/-- A step lays a number behind so many bits. -/
theorem step_form (s : Nat × Nat) (q : Bool × Int × Int) (h : s.1 < 2 ^ s.2) : ∃ c m, s.2 ≤ m ∧ (step s q).1 = s.1 + c * 2 ^ m ∧ (step s q).2 ≥ m ∧ (step s q).1 < 2 ^ (step s q).2 := by
  obtain ⟨X, N⟩ := s
  obtain ⟨wh, n, v⟩ := q
  unfold step
  cases wh
  · simp only [Bool.false_eq_true, if_false]
    unfold layX layN
    by_cases hn : n < 0 ∨ 24 < n
    · rw [if_pos hn, if_pos hn]
      exact ⟨0, N, Nat.le_refl _, by simp, Nat.le_refl _, h⟩
    · rw [if_neg hn, if_neg hn]
      refine ⟨(v % 2 ^ n.toNat).toNat, N, Nat.le_refl _, rfl, by omega, ?_⟩
      exact part_lt v X n.toNat N _ rfl h
  · simp only [if_true]
    unfold bytesX bytesN
    refine ⟨num (upText n v).data.toList, 8 * ((N + 7) / 8), by omega, rfl, by omega, ?_⟩
    have h1 := num_lt (upText n v).data.toList
    have hl : (upText n v).data.toList.length = (upText n v).size := Array.length_toList
    rw [hl, p256] at h1
    have h2 : X < 2 ^ (8 * ((N + 7) / 8)) := Nat.lt_of_lt_of_le h (Nat.pow_le_pow_right (by decide) (by show N ≤ _; omega))
    show X + _ < _
    rw [Nat.pow_add]
    generalize 2 ^ (8 * ((N + 7) / 8)) = P at *
    generalize 2 ^ (8 * (upText n v).size) = Q at *
    have := Nat.mul_le_mul_right P (show num (upText n v).data.toList + 1 ≤ Q by omega)
    rw [Nat.add_mul, Nat.mul_comm Q P] at this
    omega
theorem trace_lt (ops : List (Bool × Int × Int)) (k : Nat) (hk : k ≤ ops.length) : (trace ops k).1 < 2 ^ (trace ops k).2 := by
  induction k with
  | zero => show (0 : Nat) < 2 ^ 0; decide
  | succ k ih =>
    rw [trace_succ ops k (by omega)]
    obtain ⟨c, m, _, _, _, h⟩ := step_form (trace ops k) ops[k] (ih (by omega))
    exact h
theorem trace_mod (ops : List (Bool × Int × Int)) (j k : Nat) (hjk : j ≤ k) (hk : k ≤ ops.length) : (trace ops k).1 % 2 ^ (trace ops j).2 = (trace ops j).1 ∧ (trace ops j).2 ≤ (trace ops k).2 := by
  induction k with
  | zero =>
    obtain rfl : j = 0 := by omega
    exact ⟨show (0 : Nat) % 2 ^ 0 = 0 by decide, Nat.le_refl _⟩
  | succ k ih =>
    by_cases h : j = k + 1
    · subst h
      exact ⟨Nat.mod_eq_of_lt (trace_lt ops _ hk), Nat.le_refl _⟩
    · obtain ⟨h1, h2⟩ := ih (by omega) (by omega)
      rw [trace_succ ops k (by omega)]
      obtain ⟨c, m, hm, hx, hn, _⟩ := step_form (trace ops k) ops[k] (trace_lt ops k (by omega))
      refine ⟨?_, by omega⟩
      rw [hx, show m = (trace ops j).2 + (m - (trace ops j).2) from by omega, Nat.pow_add, Nat.mul_left_comm, Nat.add_mul_mod_self_left]
      exact h1
theorem textOf_list (X N : Nat) : (textOf X N).data.toList = bytesOf ((N + 7) / 8) X := rfl
theorem num_text (X N : Nat) (h : X < 2 ^ N) : num (textOf X N).data.toList = X := by
  rw [textOf_list, num_bytesOf, p256]
  exact Nat.mod_eq_of_lt (Nat.lt_of_lt_of_le h (Nat.pow_le_pow_right (by decide) (by omega)))

section
variable {ops : List (Bool × Int × Int)} {k K : Nat} {n v : Int}
/-- What is read for a call of Bits. -/
theorem back_bits (hk : k < ops.length) (hK : K ≤ ops.length) (hkK : k < K) (hq : ops[k] = (false, n, v)) (h0 : 0 ≤ n) (h24 : n ≤ 24) :
    bitsErr (textOf (trace ops K).1 (trace ops K).2) (trace ops k).2 n = 0 ∧ bitsVal (textOf (trace ops K).1 (trace ops K).2) (trace ops k).2 n = (v % 2 ^ n.toNat).toNat ∧
      bitsGo (textOf (trace ops K).1 (trace ops K).2) (trace ops k).2 n = (trace ops (k + 1)).2 := by
  have hs := trace_succ ops k hk
  rw [hq] at hs
  have hnn : ¬ (n < 0 ∨ 24 < n) := by omega
  have hx : (trace ops (k + 1)).1 = (trace ops k).1 + (v % 2 ^ n.toNat).toNat * 2 ^ (trace ops k).2 := by rw [hs]; unfold step layX; simp only [Bool.false_eq_true, if_false]; rw [if_neg hnn]
  have hn : (trace ops (k + 1)).2 = (trace ops k).2 + n.toNat := by rw [hs]; unfold step layN; simp only [Bool.false_eq_true, if_false]; rw [if_neg hnn]
  obtain ⟨m1, m2⟩ := trace_mod ops (k + 1) K (by omega) hK
  have hlt := trace_lt ops k (by omega)
  have hltK := trace_lt ops K hK
  have he : bitsErr (textOf (trace ops K).1 (trace ops K).2) (trace ops k).2 n = 0 := by
    unfold bitsErr
    rw [if_neg hnn, if_neg]
    rw [textOf_size]
    omega
  refine ⟨he, ?_, ?_⟩
  · unfold bitsVal
    rw [if_pos he, num_text _ _ hltK, ← bitsAt_mod _ _ _ (trace ops (k + 1)).2 (by omega), m1, hx]
    unfold bitsAt
    rw [Nat.mul_comm, Nat.add_mul_div_left _ _ (Nat.two_pow_pos _), Nat.div_eq_of_lt hlt, Nat.zero_add]
    apply Nat.mod_eq_of_lt
    have hpos := Nat.two_pow_pos n.toNat
    have e : ((2 : Int) ^ n.toNat) = ((2 ^ n.toNat : Nat) : Int) := by simp
    have := Int.emod_lt_of_pos v (show (0 : Int) < 2 ^ n.toNat by omega)
    omega
  · unfold bitsGo
    rw [if_pos he, hn]
/-- What is read for a call of Bytes. -/
theorem back_bytes (hk : k < ops.length) (hK : K ≤ ops.length) (hkK : k < K) (hq : ops[k] = (true, n, v)) :
    bytesErr (textOf (trace ops K).1 (trace ops K).2) (trace ops k).2 ((upText n v).size : Int) = 0 ∧ bytesVal (textOf (trace ops K).1 (trace ops K).2) (trace ops k).2 ((upText n v).size : Int) = upText n v ∧
      bytesGo (textOf (trace ops K).1 (trace ops K).2) (trace ops k).2 ((upText n v).size : Int) = (trace ops (k + 1)).2 := by
  have hs := trace_succ ops k hk
  rw [hq] at hs
  generalize hT : upText n v = T at *
  have hx : (trace ops (k + 1)).1 = (trace ops k).1 + num T.data.toList * 2 ^ (8 * (((trace ops k).2 + 7) / 8)) := by rw [hs]; unfold step bytesX; simp only [if_true, hT]
  have hn : (trace ops (k + 1)).2 = 8 * (((trace ops k).2 + 7) / 8) + 8 * T.size := by rw [hs]; unfold step bytesN; simp only [if_true, hT]
  obtain ⟨m1, m2⟩ := trace_mod ops (k + 1) K (by omega) hK
  have hlt := trace_lt ops k (by omega)
  have hltK := trace_lt ops K hK
  have he : bytesErr (textOf (trace ops K).1 (trace ops K).2) (trace ops k).2 (T.size : Int) = 0 := by
    unfold bytesErr
    rw [if_neg (by omega), if_neg]
    rw [textOf_size]
    omega
  refine ⟨he, ?_, ?_⟩
  · unfold bytesVal
    rw [if_pos he, Int.toNat_natCast]
    have hl : T.data.toList.length = T.size := Array.length_toList
    have hll : ((List.drop (((trace ops k).2 + 7) / 8) (textOf (trace ops K).1 (trace ops K).2).data.toList).take T.size).length = T.size := by
      have h2 : (textOf (trace ops K).1 (trace ops K).2).data.toList.length = ((trace ops K).2 + 7) / 8 := by rw [textOf_list, length_bytesOf]
      rw [List.length_take, List.length_drop, h2]
      omega
    have hnum : num ((List.drop (((trace ops k).2 + 7) / 8) (textOf (trace ops K).1 (trace ops K).2).data.toList).take T.size) = num T.data.toList := by
      have h8 : (trace ops k).1 < 2 ^ (8 * (((trace ops k).2 + 7) / 8)) := Nat.lt_of_lt_of_le hlt (Nat.pow_le_pow_right (by decide) (by omega))
      have hb : bitsAt (trace ops K).1 (8 * (((trace ops k).2 + 7) / 8)) (8 * T.size) = num T.data.toList := by
        rw [← bitsAt_mod _ _ _ (trace ops (k + 1)).2 (by omega), m1, hx]
        unfold bitsAt
        rw [Nat.mul_comm (num _), Nat.add_mul_div_left _ _ (Nat.two_pow_pos _), Nat.div_eq_of_lt h8, Nat.zero_add]
        apply Nat.mod_eq_of_lt
        have := num_lt T.data.toList
        rw [hl, p256] at this
        exact this
      rw [num_take, num_drop, num_text _ _ hltK, p256, p256]
      exact hb
    rw [bytesOf_eq hll hnum, ← bytesOf_eq hl rfl]
  · unfold bytesGo
    rw [if_neg (by omega), if_pos he, hn, Int.toNat_natCast]
    omega
end
/-- What is left behind all calls is less than a byte, and noughts. -/
theorem back_left (ops : List (Bool × Int × Int)) (K : Nat) (hK : K ≤ ops.length) :
    8 * (textOf (trace ops K).1 (trace ops K).2).size - (trace ops K).2 ≤ 7 ∧
      bitsErr (textOf (trace ops K).1 (trace ops K).2) (trace ops K).2 ((8 * (textOf (trace ops K).1 (trace ops K).2).size - (trace ops K).2 : Nat) : Int) = 0 ∧
      bitsVal (textOf (trace ops K).1 (trace ops K).2) (trace ops K).2 ((8 * (textOf (trace ops K).1 (trace ops K).2).size - (trace ops K).2 : Nat) : Int) = 0 := by
  have hltK := trace_lt ops K hK
  have h7 : 8 * (textOf (trace ops K).1 (trace ops K).2).size - (trace ops K).2 ≤ 7 := by rw [textOf_size]; omega
  have he : bitsErr (textOf (trace ops K).1 (trace ops K).2) (trace ops K).2 ((8 * (textOf (trace ops K).1 (trace ops K).2).size - (trace ops K).2 : Nat) : Int) = 0 := by
    unfold bitsErr
    rw [if_neg (by omega), if_neg (by omega)]
  refine ⟨h7, he, ?_⟩
  unfold bitsVal
  rw [if_pos he, num_text _ _ hltK]
  unfold bitsAt
  rw [Nat.div_eq_of_lt hltK, Nat.zero_mod]
end Go.Proofs.Ytafchckfanbkcaa
