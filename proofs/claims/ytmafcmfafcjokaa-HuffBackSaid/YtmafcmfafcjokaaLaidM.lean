/- Plain laws: codes that are laid one behind the other are found again. -/
import Derived.Test.YtmafcmfafcjokaaNextW
namespace Go.Proofs.Ytmafcmfafcjokaa

theorem bit_nat (c i : Nat) : (((c : Nat) : Int) / 2 ^ i % 2 ^ (1 : Int).toNat).toNat = c / 2 ^ i % 2 := by
  have e : ((2 : Int) ^ i) = ((2 ^ i : Nat) : Int) := by simp
  rw [e]
  generalize 2 ^ i = q
  have : (1 : Int).toNat = 1 := rfl
  rw [this]
  omega
theorem layG_succ (c i X N : Nat) : layG c (i + 1) X N = layG c i (X + (c / 2 ^ i % 2) * 2 ^ N) (N + 1) := by
  rw [layG, layN_one]
  unfold layX
  rw [if_neg (by omega), bit_nat]
theorem layG_spec (c : Nat) : ∀ n X N, X < 2 ^ N → (layG c n X N).1 < 2 ^ (N + n) ∧ (layG c n X N).1 % 2 ^ N = X ∧ ∀ i, i < n → bitsAt (layG c n X N).1 (N + i) 1 = c / 2 ^ (n - 1 - i) % 2
  | 0, X, N, h => ⟨h, Nat.mod_eq_of_lt h, fun i hi => absurd hi (Nat.not_lt_zero _)⟩
  | n + 1, X, N, h => by
    rw [layG_succ]
    have hb : c / 2 ^ n % 2 < 2 := Nat.mod_lt _ (by decide)
    generalize hB : c / 2 ^ n % 2 = b at *
    have hX1 : X + b * 2 ^ N < 2 ^ (N + 1) := by
      rw [Nat.pow_succ]
      have := Nat.mul_le_mul_right (2 ^ N) (show b ≤ 1 by omega)
      omega
    obtain ⟨h1, h2, h3⟩ := layG_spec c n (X + b * 2 ^ N) (N + 1) hX1
    generalize (layG c n (X + b * 2 ^ N) (N + 1)).1 = r at *
    refine ⟨by rw [show N + (n + 1) = N + 1 + n from by omega]; exact h1, ?_, fun i hi => ?_⟩
    · have : r % 2 ^ N = r % 2 ^ (N + 1) % 2 ^ N := by rw [Nat.pow_succ, Nat.mod_mul_right_mod]
      rw [this, h2, Nat.add_mul_mod_self_right, Nat.mod_eq_of_lt h]
    · cases i with
      | zero =>
        rw [Nat.add_zero, ← bitsAt_mod r N 1 (N + 1) (Nat.le_refl _), h2]
        unfold bitsAt
        rw [Nat.add_mul_div_right _ _ (Nat.two_pow_pos N), Nat.div_eq_of_lt h, Nat.zero_add, show n + 1 - 1 - 0 = n from by omega, hB]
        omega
      | succ i =>
        rw [show N + (i + 1) = N + 1 + i from by omega, h3 i (by omega), show n + 1 - 1 - (i + 1) = n - 1 - i from by omega]

/-- A symbol that has a code, by its length and its place among those. -/
theorem has_in {l : List Int} (hc : chk l = 0) {s : Int} (h : has l s) : ∃ n j, ∃ hj : j < (inN l (n + 1)).length, n < 15 ∧ (inN l (n + 1))[j] = s.toNat ∧ l.getD s.toNat 0 = ((n + 1 : Nat) : Int) ∧ (codes l).getD s.toNat 0 = ((2 * gN l n + j : Nat) : Int) := by
  have hok := chk_okay hc
  obtain ⟨h0, h1, h2⟩ : 0 ≤ s ∧ s < l.length ∧ l.getD s.toNat 0 ≠ 0 := h
  have hl : s.toNat < l.length := by omega
  have hx := hok _ (List.getElem_mem hl)
  rw [← getD_get hl] at hx
  obtain ⟨n, hn⟩ : ∃ n : Nat, l.getD s.toNat 0 = ((n + 1 : Nat) : Int) := ⟨(l.getD s.toNat 0).toNat - 1, by omega⟩
  obtain ⟨j, hj, e⟩ := List.getElem_of_mem (show s.toNat ∈ inN l (n + 1) from mem_inLen.2 ⟨hl, hn⟩)
  have hcode := code_in (l := l) (n := n) (j := j) (by omega) hj
  rw [e] at hcode
  exact ⟨n, j, hj, by omega, e, hn, hcode⟩
theorem gN_grow (l : List Int) (m : Nat) : ∀ k, m + k ≤ 15 → gN l m * 2 ^ k ≤ gN l (m + k)
  | 0, _ => by simp
  | k + 1, h => by
    have := gN_grow l m k (by omega)
    rw [← Nat.add_assoc, gN_succ l (m + k) (by omega), Nat.pow_succ, ← Nat.mul_assoc]; omega
theorem code_small {l : List Int} (hc : chk l = 0) {t n c : Nat} (ht : t < l.length) (hl : l.getD t 0 = ((n + 1 : Nat) : Int)) (hn : n < 15) (hcode : (codes l).getD t 0 = (c : Int)) : c < 2 ^ (n + 1) := by
  have hm : t ∈ ord l := mem_ordTo.2 ⟨ht, by omega, by omega⟩
  obtain ⟨p, r, h⟩ := List.append_of_mem hm
  have h1 := code_lt h (chk_zero hc).2.2.1
  have h2 := code_at h
  rw [hcode] at h2
  rw [hl] at h1 h2
  rw [Int.toNat_natCast] at h1 h2
  have : c = kp l p / 2 ^ (15 - (n + 1)) := by exact_mod_cast h2
  omega
theorem next_found {l : List Int} (hc : chk l = 0) {s : ByteArray} {t n j p : Nat} (hn : n < 15) (hj : j < (inN l (n + 1)).length) (ht : (inN l (n + 1))[j] = t)
    (hb : ∀ i, i < n + 1 → bitsErr s (p + i) 1 = 0 ∧ bitsVal s (p + i) 1 = (2 * gN l n + j) / 2 ^ (n - i) % 2) : nextS l s p = (t, 0, p + (n + 1)) := by
  have hlen := (inN_len (List.getElem_mem hj))
  rw [ht] at hlen
  have hcode := code_in (l := l) hn hj
  rw [ht] at hcode
  have hsm := code_small hc hlen.1 hlen.2 hn hcode
  have hlo : n + 1 ≤ longest l := by
    have h1 := was_top l t (mem_ordTo.2 ⟨hlen.1, by omega, by omega⟩)
    have h2 := top_longest hc
    omega
  have main : ∀ d i, i + d = n → nextG l s (longest l - i) (i + 1) ((2 * gN l n + j) / 2 ^ (n + 1 - i)) (p + i) = (t, 0, p + (n + 1)) := by
    intro d
    induction d with
    | zero =>
      intro i hi
      obtain rfl : i = n := by omega
      obtain ⟨h1, h2⟩ := hb i (by omega)
      rw [show longest l - i = (longest l - (i + 1)) + 1 from by omega, nextG_succ, if_neg (by simp [h1]), h2]
      have e : 2 * ((2 * gN l i + j) / 2 ^ (i + 1 - i)) + (2 * gN l i + j) / 2 ^ (i - i) % 2 = 2 * gN l i + j := by
        rw [Nat.sub_self, Nat.pow_zero, Nat.div_one, show i + 1 - i = 1 from by omega]; omega
      rw [e, findS_some hn hj]
      show ((inN l (i + 1))[j], (0 : Int), bitsGo s (p + i) 1) = _
      rw [ht]
      unfold bitsGo
      rw [if_pos h1]; rfl
    | succ d ih =>
      intro i hi
      obtain ⟨h1, h2⟩ := hb i (by omega)
      rw [show longest l - i = (longest l - (i + 1)) + 1 from by omega, nextG_succ, if_neg (by simp [h1]), h2]
      have e : 2 * ((2 * gN l n + j) / 2 ^ (n + 1 - i)) + (2 * gN l n + j) / 2 ^ (n - i) % 2 = (2 * gN l n + j) / 2 ^ (n + 1 - (i + 1)) := by
        rw [show n + 1 - i = (n - i) + 1 from by omega, show n + 1 - (i + 1) = n - i from by omega, Nat.pow_succ, ← Nat.div_div_eq_div_mul]; omega
      have hno : findS l (i + 1) ((2 * gN l n + j) / 2 ^ (n + 1 - (i + 1))) = none := by
        apply findS_none (by omega)
        right
        rw [Nat.le_div_iff_mul_le (Nat.two_pow_pos _)]
        have h3 := gN_grow l (i + 1) (n - (i + 1)) (by omega)
        rw [show i + 1 + (n - (i + 1)) = n from by omega] at h3
        rw [show n + 1 - (i + 1) = (n - (i + 1)) + 1 from by omega, Nat.pow_succ, ← Nat.mul_assoc]
        omega
      rw [e, hno]
      show nextG l s (longest l - (i + 1)) (i + 1 + 1) _ (bitsGo s (p + i) 1) = _
      have eg : bitsGo s (p + i) 1 = p + (i + 1) := by unfold bitsGo; rw [if_pos h1]; rfl
      rw [eg]
      exact ih (i + 1) (by omega)
  have h := main n 0 (by omega)
  rw [Nat.sub_zero, Nat.sub_zero, Nat.div_eq_of_lt hsm] at h
  exact h

/-! Symbols that are laid one behind the other. -/
def cdS (l L : List Int) : Nat × Nat := L.foldl (fun q s => layS l s q.1 q.2) (0, 0)
theorem cdS_snoc (l L : List Int) (s : Int) : cdS l (L ++ [s]) = layS l s (cdS l L).1 (cdS l L).2 := by unfold cdS; rw [List.foldl_append]; rfl
theorem layS_spec {l : List Int} (hc : chk l = 0) {s : Int} {X N : Nat} (hX : X < 2 ^ N) : (layS l s X N).1 < 2 ^ (layS l s X N).2 ∧ (layS l s X N).1 % 2 ^ N = X ∧ N ≤ (layS l s X N).2 := by
  unfold layS
  by_cases h : has l s
  · rw [if_pos h]
    obtain ⟨n, j, hj, hn, _, hl, hcode⟩ := has_in hc h
    rw [hcode]
    have := layG_spec (2 * gN l n + j) (l.getD s.toNat 0).toNat X N hX
    have e := layG_len ((2 * gN l n + j : Nat) : Int) (l.getD s.toNat 0).toNat X N
    rw [e]
    exact ⟨this.1, this.2.1, by omega⟩
  · rw [if_neg h]; exact ⟨hX, Nat.mod_eq_of_lt hX, Nat.le_refl _⟩
theorem cdS_lt {l : List Int} (hc : chk l = 0) (L : List Int) : ∀ k, k ≤ L.length → (cdS l (L.take k)).1 < 2 ^ (cdS l (L.take k)).2
  | 0, _ => by show 0 < 2 ^ 0; decide
  | k + 1, h => by
    rw [List.take_succ_eq_append_getElem (by omega), cdS_snoc]
    exact (layS_spec hc (cdS_lt hc L k (by omega))).1
theorem cdS_mod {l : List Int} (hc : chk l = 0) (L : List Int) (j : Nat) : ∀ k, j ≤ k → k ≤ L.length → (cdS l (L.take k)).1 % 2 ^ (cdS l (L.take j)).2 = (cdS l (L.take j)).1 ∧ (cdS l (L.take j)).2 ≤ (cdS l (L.take k)).2 := by
  intro k
  induction k with
  | zero =>
    intro hj _
    obtain rfl : j = 0 := by omega
    exact ⟨by show 0 % 2 ^ 0 = 0; decide, Nat.le_refl _⟩
  | succ k ih =>
    intro hjk hk
    by_cases e : j = k + 1
    · subst e
      exact ⟨Nat.mod_eq_of_lt (cdS_lt hc L _ hk), Nat.le_refl _⟩
    · obtain ⟨h1, h2⟩ := ih (by omega) (by omega)
      have h3 := layS_spec hc (s := L[k]'(by omega)) (cdS_lt hc L k (by omega))
      have e2 : cdS l (L.take (k + 1)) = layS l (L[k]'(by omega)) (cdS l (L.take k)).1 (cdS l (L.take k)).2 := by rw [List.take_succ_eq_append_getElem (by omega), cdS_snoc]
      rw [e2]
      generalize layS l (L[k]'(by omega)) (cdS l (L.take k)).1 (cdS l (L.take k)).2 = r at *
      refine ⟨?_, by omega⟩
      rw [← h1, ← h3.2.1, Nat.mod_mod_of_dvd _ (Nat.pow_dvd_pow 2 h2)]
theorem num_textOf (X N : Nat) (h : X < 2 ^ N) : num (textOf X N).data.toList = X := by
  have : (textOf X N).data.toList = bytesOf ((N + 7) / 8) X := rfl
  rw [this, num_bytesOf, p256]
  exact Nat.mod_eq_of_lt (Nat.lt_of_lt_of_le h (Nat.pow_le_pow_right (by decide) (by omega)))
theorem laid_back {l : List Int} (hc : chk l = 0) {L : List Int} {X N : Nat} (hX : cdS l L = (X, N)) {k : Nat} (hk : k < L.length) (hh : has l L[k]) :
    nextS l (textOf X N) (cdS l (L.take k)).2 = ((L[k]).toNat, 0, (cdS l (L.take (k + 1))).2) := by
  have e2 : cdS l (L.take (k + 1)) = layS l L[k] (cdS l (L.take k)).1 (cdS l (L.take k)).2 := by rw [List.take_succ_eq_append_getElem hk, cdS_snoc]
  have h0 := cdS_lt hc L k (by omega)
  have h1 := cdS_mod hc L (k + 1) L.length (by omega) (Nat.le_refl _)
  have hL := cdS_lt hc L L.length (Nat.le_refl _)
  rw [List.take_length, hX] at h1 hL
  rw [e2] at h1 ⊢
  obtain ⟨n, j, hj, hn, ht, hl, hcode⟩ := has_in hc hh
  have e3 : layS l L[k] (cdS l (L.take k)).1 (cdS l (L.take k)).2 = layG ((2 * gN l n + j : Nat) : Int) (n + 1) (cdS l (L.take k)).1 (cdS l (L.take k)).2 := by
    unfold layS; rw [if_pos hh, hcode, hl, Int.toNat_natCast]
  rw [e3] at h1 ⊢
  have hs := layG_spec (2 * gN l n + j) (n + 1) _ _ h0
  have hlen := layG_len ((2 * gN l n + j : Nat) : Int) (n + 1) (cdS l (L.take k)).1 (cdS l (L.take k)).2
  rw [hlen] at h1 ⊢
  refine next_found hc hn hj ht fun i hi => ?_
  generalize (cdS l (L.take k)).2 = P at *
  have he : bitsErr (textOf X N) (P + i) 1 = 0 := by
    unfold bitsErr
    rw [if_neg (by omega), if_neg]
    rw [textOf_size]
    omega
  refine ⟨he, ?_⟩
  unfold bitsVal
  rw [if_pos he, num_textOf _ _ hL]
  show bitsAt X (P + i) 1 = _
  rw [← bitsAt_mod X (P + i) 1 (P + (n + 1)) (by omega), h1.1, hs.2.2 i hi, show n + 1 - 1 - i = n - i from by omega]
end Go.Proofs.Ytmafcmfafcjokaa
