/- The program's steps of a stream and the document's: bits read at once or one behind the other; values of symbols out of their groups. -/
import Derived.Test.YtcllddfhppikhaaDoorInfV
set_option linter.unusedVariables false
namespace Go.Proofs.YtcllddfhppikhaaDoor
set_option maxRecDepth 100000

section
variable {α β γ : Type}
theorem bind_bind (m : Rd α) (f : α → Rd β) (g : β → Rd γ) : rBind (rBind m f) g = rBind m fun a => rBind (f a) g := by
  funext s p; unfold rBind; cases m s p <;> rfl
theorem bind_pure (a : α) (f : α → Rd β) : rBind (rPure a) f = f a := rfl
theorem bind_fail (e : Int) (f : α → Rd β) : rBind (rFail e : Rd α) f = rFail e := rfl
theorem bind_when (c : Prop) [Decidable c] (e : Int) (m : Rd α) (f : α → Rd β) : rBind (rWhen c e m) f = rWhen c e (rBind m f) := by
  unfold rWhen; split <;> rfl
theorem bind_ite (c : Prop) [Decidable c] (m k : Rd α) (f : α → Rd β) : rBind (if c then m else k) f = if c then rBind m f else rBind k f := by
  split <;> rfl
end
theorem bitsErr_nat (s : ByteArray) (p : Nat) {n : Nat} (h : n ≤ 24) : bitsErr s p (n : Int) = if 8 * s.size - p < n then 3 else 0 := by
  unfold bitsErr
  rw [if_neg (by omega)]
  by_cases h1 : 8 * s.size - p < n
  · rw [if_pos (by omega), if_pos h1]
  · rw [if_neg (by omega), if_neg h1]
theorem bitsAt_add (x p m n : Nat) : bitsAt x p (m + n) = bitsAt x p m + 2 ^ m * bitsAt x (p + m) n := by
  unfold bitsAt
  rw [Nat.pow_add, Nat.mod_mul, Nat.pow_add, ← Nat.div_div_eq_div_mul]
theorem rBits_small {n : Nat} (h : n ≤ 24) (s : ByteArray) (p : Nat) : rBits n s p = if 8 * s.size - p < n then .error 3 else .ok (bitsAt (num s.data.toList) p n, p + n) := by
  unfold rBits bitsVal bitsGo
  rw [bitsErr_nat s p h]
  by_cases h1 : 8 * s.size - p < n
  · simp [h1]
  · simp [h1]
/-- Bits that are read at once, and one behind the other. -/
theorem bits_split {α : Type} (m n : Nat) (h : m + n ≤ 24) (f : Nat → Nat → Rd α) : (rBind (rBits m) fun a => rBind (rBits n) fun b => f a b) = rBind (rBits (m + n)) fun v => f (v % 2 ^ m) (v / 2 ^ m) := by
  funext s p
  by_cases h1 : 8 * s.size - p < m
  · rw [bind_err (e := 3) (by rw [rBits_small (by omega), if_pos h1]), bind_err (e := 3) (by rw [rBits_small h, if_pos (by omega)])]
  · rw [bind_val (a := bitsAt (num s.data.toList) p m) (q := p + m) (by rw [rBits_small (by omega), if_neg h1])]
    by_cases h2 : 8 * s.size - (p + m) < n
    · rw [bind_err (e := 3) (by rw [rBits_small (by omega), if_pos h2]), bind_err (e := 3) (by rw [rBits_small h, if_pos (by omega)])]
    · rw [bind_val (a := bitsAt (num s.data.toList) (p + m) n) (q := p + m + n) (by rw [rBits_small (by omega), if_neg h2]),
        bind_val (a := bitsAt (num s.data.toList) p (m + n)) (q := p + (m + n)) (by rw [rBits_small h, if_neg (by omega)])]
      have hlt := bitsAt_lt (num s.data.toList) p m
      have e1 : bitsAt (num s.data.toList) p (m + n) % 2 ^ m = bitsAt (num s.data.toList) p m := by
        rw [bitsAt_add, Nat.add_mul_mod_self_left, Nat.mod_eq_of_lt hlt]
      have e2 : bitsAt (num s.data.toList) p (m + n) / 2 ^ m = bitsAt (num s.data.toList) (p + m) n := by
        rw [bitsAt_add, Nat.add_mul_div_left _ _ (Nat.two_pow_pos m), Nat.div_eq_of_lt hlt, Nat.zero_add]
      rw [e1, e2, Nat.add_assoc]

/-- A block's head: 3 bits at once. -/
theorem blk_head (most : Int) (F f : Nat) (out : List UInt8) : blkG most F (f + 1) out = rBind (rBits 3) fun h => blkK most F f (h % 2) (h / 2) out := by
  have h := bits_split 1 2 (by omega) fun last kind => blkK most F f last kind out
  exact h
/-- The head of a dynamic block: 14 bits at once. -/
theorem dyn_head (most : Int) (F : Nat) (out : List UInt8) : dynR most F out = rBind (rBits 14) fun v => rBind (smallG (ordS.take (4 + v / 1024)) (List.replicate 19 0)) (dyn3 most F out (v % 32) (v / 32 % 32)) := by
  have h1 := fun a : Nat => bits_split 5 4 (by omega) fun b c => rBind (smallG (ordS.take (c + 4)) (List.replicate 19 0)) (dyn3 most F out a b)
  have h2 := bits_split 5 9 (by omega) fun a v => rBind (smallG (ordS.take (v / 2 ^ 5 + 4)) (List.replicate 19 0)) (dyn3 most F out a (v % 2 ^ 5))
  have h3 : dynR most F out = rBind (rBits 5) fun a => rBind (rBits (5 + 4)) fun v => rBind (smallG (ordS.take (v / 2 ^ 5 + 4)) (List.replicate 19 0)) (dyn3 most F out a (v % 2 ^ 5)) := by
    show (rBind (rBits 5) fun a => _) = _
    congr 1
    funext a
    exact h1 a
  rw [h3]
  refine h2.trans ?_
  congr 1
  funext v
  rw [show v / 2 ^ 5 / 2 ^ 5 + 4 = 4 + v / 1024 from by omega]

/-- A length's symbol, its bits read. -/
def rLen (t : Nat) : Rd Nat := rWhen (285 < t) 12 (rBind (rBits (lenBits t)) fun x => rPure (lenBase t + x))
/-- A distance. -/
def rDst (d : List Int) : Rd Nat := rBind (rNext d) fun u => rWhen (29 < u) 12 (rBind (rBits (dstBits u)) fun y => rPure (dstBase u + y))
def rMatch (d : List Int) (most : Int) (t : Nat) (out : List UInt8) : Rd (List UInt8) := rBind (rLen t) fun n => rBind (rDst d) fun far =>
  rWhen (out.length < far) 15 (rWhen (most < (out.length : Int) + (n : Nat)) 5 (rPure (matchOut far n out)))
def rProd (d : List Int) (most : Int) (t : Nat) (out : List UInt8) : Rd (List UInt8) := if 256 < t then rMatch d most t out else rWhen (most < (out.length : Int) + 1) 5 (rPure (out ++ [UInt8.ofNat t]))
theorem sym_step (l d : List Int) (most : Int) (f : Nat) (out : List UInt8) : symG l d most (f + 1) out = rBind (rNext l) fun t => if t = 256 then rPure out else rBind (rProd d most t out) (symG l d most f) := by
  show (rBind (rNext l) fun t => _) = _
  congr 1
  funext t
  by_cases h1 : t = 256
  · rw [if_pos h1, if_pos h1]
  · rw [if_neg h1, if_neg h1]
    unfold rProd
    by_cases h2 : t < 256
    · rw [if_pos h2, if_neg (by omega), bind_when, bind_pure]
    · rw [if_neg h2, if_pos (by omega)]
      unfold rMatch rLen rDst
      simp only [bind_bind, bind_when, bind_pure]

/-- A symbol's value out of its group. -/
def extBits (k g : Nat) : Nat := if k < 2 * g then 0 else k / g - 1
def extVal (k g x : Nat) : Nat := if k < 2 * g then k else (g + k % g) * 2 ^ (k / g - 1) + x
def rExt (k g : Nat) : Rd Nat := rBind (rBits (extBits k g)) fun x => rPure (extVal k g x)
theorem ext_len_all : ∀ k, k < 28 → lenBits (257 + k) = extBits k 4 ∧ ∀ x, x < 32 → lenBase (257 + k) + x = if k < 8 then 3 + extVal k 4 x + x else 3 + extVal k 4 x := by decide +kernel
theorem bits_zero {s : ByteArray} {p : Nat} : rBits 0 s p = .ok (0, p) := by
  rw [rBits_small (by omega), if_neg (by omega), bitsAt_zero]; rfl
theorem ext_len {t : Nat} (h1 : 256 < t) (h2 : t < 285) : rLen t = rBind (rExt (t - 257) 4) fun n => rPure (3 + n) := by
  funext s p
  obtain ⟨e1, e2⟩ := ext_len_all (t - 257) (by omega)
  rw [show 257 + (t - 257) = t from by omega] at e1 e2
  unfold rLen rExt
  rw [when_not (by omega), bind_bind, e1]
  by_cases hk : t - 257 < 8
  · have e0 : extBits (t - 257) 4 = 0 := by unfold extBits; rw [if_pos (by omega)]
    rw [e0, bind_val bits_zero, bind_val bits_zero, bind_pure, e2 0 (by omega), if_pos hk]; rfl
  · unfold rBind
    cases h : rBits (extBits (t - 257) 4) s p with
    | error e => rfl
    | ok y =>
      obtain ⟨x, q⟩ := y
      have hb : extBits (t - 257) 4 ≤ 5 := by unfold extBits; split <;> omega
      have hx : x < 32 := by
        rw [rBits_small (by omega)] at h
        split at h
        · cases h
        · injection h with h; injection h with h _
          subst h
          exact Nat.lt_of_lt_of_le (bitsAt_lt _ _ _) (Nat.pow_le_pow_right (by decide) hb)
      show rPure _ s q = rPure _ s q
      rw [e2 x hx, if_neg hk]
theorem rLen_top : rLen 285 = rPure 258 := by
  funext s p
  unfold rLen
  rw [when_not (by omega), show lenBits 285 = 0 from by decide +kernel, bind_val bits_zero, show lenBase 285 = 258 from by decide +kernel]
theorem rLen_far {t : Nat} (h : 285 < t) : rLen t = rFail 12 := by
  funext s p
  exact when_yes h
theorem ext_dst_all : ∀ u, u < 30 → dstBits u = extBits u 2 ∧ dstBase u = if u < 4 then 1 + u else 1 + extVal u 2 0 := by decide +kernel
theorem extVal_add {k g x : Nat} (h : 2 * g ≤ k) : extVal k g x = extVal k g 0 + x := by
  unfold extVal; rw [if_neg (by omega), if_neg (by omega)]; rfl
theorem ext_dst (d : List Int) : rDst d = rBind (rNext d) fun u => rWhen (29 < u) 12 (rBind (rExt u 2) fun n => rPure (1 + n)) := by
  unfold rDst
  congr 1
  funext u
  by_cases hu : 29 < u
  · unfold rWhen; rw [if_pos hu, if_pos hu]
  · funext s p
    rw [when_not hu, when_not hu]
    obtain ⟨e1, e2⟩ := ext_dst_all u (by omega)
    unfold rExt
    rw [bind_bind, e1]
    by_cases hk : u < 4
    · have e0 : extBits u 2 = 0 := by unfold extBits; rw [if_pos (by omega)]
      rw [e0, bind_val bits_zero, bind_val bits_zero, bind_pure, e2, if_pos hk]
      show rPure _ s p = rPure _ s p
      unfold extVal; rw [if_pos (by omega)]; rfl
    · congr 1
      funext x
      show rPure _ = rPure _
      rw [e2, if_neg hk, extVal_add (x := x) (by omega)]
      congr 1
      omega

/-- The head of a stored block: 4 bytes at once. -/
def wordAt (a : ByteArray) (i : Nat) : Nat := (a.data.toList.getD i 0).toNat + 256 * (a.data.toList.getD (i + 1) 0).toNat
theorem bytesErr_nat (s : ByteArray) (p n : Nat) : bytesErr s p (n : Int) = if s.size - (p + 7) / 8 < n then 3 else 0 := by
  unfold bytesErr
  rw [if_neg (by omega)]
  by_cases h1 : s.size - (p + 7) / 8 < n
  · rw [if_pos (by omega), if_pos h1]
  · rw [if_neg (by omega), if_neg h1]
theorem rBytes_nat (n : Nat) (s : ByteArray) (p : Nat) : rBytes n s p = if s.size - (p + 7) / 8 < n then .error 3 else .ok (⟨((s.data.toList.drop ((p + 7) / 8)).take n).toArray⟩, 8 * ((p + 7) / 8 + n)) := by
  unfold rBytes bytesVal bytesGo
  rw [bytesErr_nat s p n]
  by_cases h1 : s.size - (p + 7) / 8 < n
  · simp [h1]
  · rw [if_neg h1, if_neg h1]
    simp only [if_true, ne_eq, not_true_eq_false, if_false, Int.toNat_natCast]
    rw [if_neg (show ¬ (n : Int) < 0 by omega)]
theorem stored_head (most : Int) (out : List UInt8) : storedR most out = rBind (rBytes 4) fun h => rWhen (wordAt h 2 ≠ 65535 - wordAt h 0) 14 (storedK most out (wordAt h 0)) := by
  funext s p
  by_cases h1 : s.size - (p + 7) / 8 < 2
  · have k2 : rBytes 2 s p = .error 3 := by rw [rBytes_nat, if_pos h1]
    have k4 : rBytes 4 s p = .error 3 := by rw [rBytes_nat, if_pos (by omega)]
    exact (bind_err k2).trans (bind_err k4).symm
  · have k1 : rBytes 2 s p = .ok (⟨((s.data.toList.drop ((p + 7) / 8)).take 2).toArray⟩, 8 * ((p + 7) / 8 + 2)) := by rw [rBytes_nat, if_neg h1]
    have hp : (8 * ((p + 7) / 8 + 2) + 7) / 8 = (p + 7) / 8 + 2 := by omega
    refine (bind_val k1).trans ?_
    by_cases h2 : s.size - ((p + 7) / 8 + 2) < 2
    · have k2 : rBytes 2 s (8 * ((p + 7) / 8 + 2)) = .error 3 := by rw [rBytes_nat, hp, if_pos h2]
      have k4 : rBytes 4 s p = .error 3 := by rw [rBytes_nat, if_pos (by omega)]
      exact (bind_err k2).trans (bind_err k4).symm
    · have k2 : rBytes 2 s (8 * ((p + 7) / 8 + 2)) = .ok (⟨((s.data.toList.drop ((p + 7) / 8 + 2)).take 2).toArray⟩, 8 * ((p + 7) / 8 + 2 + 2)) := by rw [rBytes_nat, hp, if_neg h2]
      have k4 : rBytes 4 s p = .ok (⟨((s.data.toList.drop ((p + 7) / 8)).take 4).toArray⟩, 8 * ((p + 7) / 8 + 4)) := by rw [rBytes_nat, if_neg (by omega)]
      refine (bind_val k2).trans (Eq.trans ?_ (bind_val k4).symm)
      have hlen : 4 ≤ (s.data.toList.drop ((p + 7) / 8)).length := by
        have hz : s.data.toList.length = s.size := Array.length_toList
        rw [List.length_drop]; omega
      rw [← List.drop_drop]
      generalize s.data.toList.drop ((p + 7) / 8) = l at *
      match l, hlen with
      | x0 :: x1 :: x2 :: x3 :: r, _ => rfl
end Go.Proofs.YtcllddfhppikhaaDoor
