/- Plain arithmetic of bit streams: a list of bytes as a number, the lowest bit first; what is read at a place; what is laid behind so many bits. -/
namespace Go.Proofs.Ytedffeimcccobaa
set_option maxRecDepth 100000

/-- Bytes as a number, the first one lowest. -/
def num : List UInt8 → Nat
  | [] => 0
  | b :: l => b.toNat + 256 * num l
/-- The lowest k bytes of a number. -/
def bytesOf : Nat → Nat → List UInt8
  | 0, _ => []
  | k + 1, x => UInt8.ofNat x :: bytesOf k (x / 256)

theorem num_append (a b : List UInt8) : num (a ++ b) = num a + 256 ^ a.length * num b := by
  induction a with
  | nil => simp [num]
  | cons x a ih =>
    simp only [List.cons_append, num, ih, List.length_cons, Nat.pow_succ, Nat.mul_add]
    rw [show 256 ^ a.length * 256 * num b = 256 * (256 ^ a.length * num b) from by rw [Nat.mul_comm (256 ^ a.length) 256, Nat.mul_assoc]]
    omega
theorem num_lt (l : List UInt8) : num l < 256 ^ l.length := by
  induction l with
  | nil => decide
  | cons x l ih =>
    have := x.toNat_lt
    simp only [num, List.length_cons, Nat.pow_succ]
    omega
theorem num_drop (l : List UInt8) (k : Nat) : num (l.drop k) = num l / 256 ^ k := by
  induction k generalizing l with
  | zero => simp
  | succ k ih =>
    cases l with
    | nil => simp [num]
    | cons x l =>
      have := x.toNat_lt
      simp only [List.drop_succ_cons, num, ih, Nat.pow_succ]
      rw [Nat.mul_comm (256 ^ k) 256, ← Nat.div_div_eq_div_mul]
      congr 1
      omega
theorem num_take (l : List UInt8) (k : Nat) : num (l.take k) = num l % 256 ^ k := by
  rcases Nat.lt_or_ge k l.length with h | h
  · have e := num_append (l.take k) (l.drop k)
    rw [List.take_append_drop, List.length_take, Nat.min_eq_left (by omega)] at e
    have hlt := num_lt (l.take k)
    rw [List.length_take, Nat.min_eq_left (by omega)] at hlt
    rw [e, Nat.add_mul_mod_self_left, Nat.mod_eq_of_lt hlt]
  · rw [List.take_of_length_le h]
    exact (Nat.mod_eq_of_lt (Nat.lt_of_lt_of_le (num_lt l) (Nat.pow_le_pow_right (by decide) h))).symm
theorem num_get (l : List UInt8) (k : Nat) (h : k < l.length) : l[k].toNat = num l / 256 ^ k % 256 := by
  rw [← num_drop, List.drop_eq_getElem_cons h]
  have := l[k].toNat_lt
  simp only [num]
  omega
theorem num_snoc (l : List UInt8) (b : UInt8) : num (l ++ [b]) = num l + 256 ^ l.length * b.toNat := by
  rw [num_append]; simp [num]
theorem length_bytesOf (k x : Nat) : (bytesOf k x).length = k := by
  induction k generalizing x with
  | zero => rfl
  | succ k ih => simp [bytesOf, ih]
theorem bytesOf_num (l : List UInt8) : bytesOf l.length (num l) = l := by
  induction l with
  | nil => rfl
  | cons x l ih =>
    have := x.toNat_lt
    simp only [List.length_cons, bytesOf, num]
    have e1 : UInt8.ofNat (x.toNat + 256 * num l) = x := by
      apply UInt8.toNat_inj.1
      rw [UInt8.toNat_ofNat']
      omega
    have e2 : (x.toNat + 256 * num l) / 256 = num l := by omega
    rw [e1, e2, ih]
theorem bytesOf_eq {l : List UInt8} {k x : Nat} (hk : l.length = k) (hx : num l = x) : l = bytesOf k x := by
  subst hk hx; exact (bytesOf_num l).symm
theorem num_bytesOf (k x : Nat) : num (bytesOf k x) = x % 256 ^ k := by
  induction k generalizing x with
  | zero => simp [bytesOf, num, Nat.mod_one]
  | succ k ih =>
    have h : (UInt8.ofNat x).toNat = x % 256 := UInt8.toNat_ofNat'
    rw [bytesOf, num, ih, h, Nat.pow_succ, Nat.mul_comm (256 ^ k) 256, Nat.mod_mul (a := 256)]
theorem p256 (k : Nat) : 256 ^ k = 2 ^ (8 * k) := by rw [Nat.pow_mul]

/-- What n bits at place p are. -/
def bitsAt (x p n : Nat) : Nat := x / 2 ^ p % 2 ^ n
theorem bitsAt_lt (x p n : Nat) : bitsAt x p n < 2 ^ n := Nat.mod_lt _ (Nat.two_pow_pos n)
theorem bitsAt_zero (x p : Nat) : bitsAt x p 0 = 0 := by simp [bitsAt, Nat.mod_one]
/-- Bits within the lowest m ones. -/
theorem bitsAt_mod (x p n m : Nat) (h : p + n ≤ m) : bitsAt (x % 2 ^ m) p n = bitsAt x p n := by
  unfold bitsAt
  have e : 2 ^ m = 2 ^ p * 2 ^ (m - p) := by rw [← Nat.pow_add]; congr 1; omega
  rw [e, Nat.mod_mul_right_div_self]
  exact Nat.mod_mod_of_dvd _ (Nat.pow_dvd_pow 2 (by omega))
theorem bitsAt_div (x p n k : Nat) : bitsAt (x / 2 ^ k) p n = bitsAt x (k + p) n := by
  unfold bitsAt; rw [Nat.div_div_eq_div_mul, ← Nat.pow_add]
theorem bitsAt_succ (x p n : Nat) : bitsAt x p (n + 1) = bitsAt x p n + bitsAt x (p + n) 1 * 2 ^ n := by
  unfold bitsAt
  rw [Nat.pow_succ, Nat.mod_mul, Nat.pow_add, ← Nat.div_div_eq_div_mul, Nat.mul_comm (2 ^ n), Nat.pow_one]
theorem bitsAt_one (x p : Nat) : bitsAt x p 1 = x / 2 ^ p % 2 := rfl
/-- A bit of bytes is a bit of one of them. -/
theorem bit_of_byte (l : List UInt8) (p : Nat) (h : p / 8 < l.length) : l[p / 8].toNat / 2 ^ (p % 8) % 2 = bitsAt (num l) p 1 := by
  have hb := num_get l (p / 8) h
  rw [hb, p256]
  have h1 := bitsAt_mod (num l / 2 ^ (8 * (p / 8))) (p % 8) 1 8 (by omega)
  rw [bitsAt_div] at h1
  have e : 8 * (p / 8) + p % 8 = p := by omega
  rw [e] at h1
  exact h1
/-- Bits out of what is left, and of it only so many bytes. -/
theorem bitsAt_left (l : List UInt8) (p n k : Nat) (hk : p % 8 + n ≤ 8 * k) : bitsAt (num ((l.drop (p / 8)).take k)) (p % 8) n = bitsAt (num l) p n := by
  rw [num_take, num_drop, p256, p256, bitsAt_mod _ _ _ _ hk, bitsAt_div]
  congr 1; omega
end Go.Proofs.Ytedffeimcccobaa
