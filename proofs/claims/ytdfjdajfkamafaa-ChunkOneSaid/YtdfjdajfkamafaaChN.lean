/- Plain mathematics of layer 7: a byte of a chunk that is changed is told. -/
import Derived.Test.YtdfjdajfkamafaaChM
set_option linter.unusedVariables false
namespace Go.Proofs.Ytdfjdajfkamafaa
set_option maxRecDepth 100000
open Go

theorem xor_cancel_rightC {a b c : Nat} (h : a ^^^ c = b ^^^ c) : a = b := by
  have h2 : (a ^^^ c) ^^^ c = (b ^^^ c) ^^^ c := by rw [h]
  rwa [Nat.xor_assoc, Nat.xor_assoc, Nat.xor_self, Nat.xor_zero, Nat.xor_zero] at h2
theorem crcBit_injC {a b : Nat} (ha : a < 4294967296) (hb : b < 4294967296) (h : crcBit a = crcBit b) : a = b := by
  have mixed : ∀ x y : Nat, x < 2147483648 → y < 2147483648 → x ^^^ 3988292384 = y → False := by
    intro x y hx hy e
    have h2 : x ^^^ y = 3988292384 := by rw [← e, ← Nat.xor_assoc, Nat.xor_self, Nat.zero_xor]
    have h3 : x ^^^ y < 2 ^ 31 := Nat.xor_lt_two_pow (by omega) (by omega)
    omega
  unfold crcBit at h
  by_cases h1 : a % 2 = 1 <;> by_cases h2 : b % 2 = 1
  · rw [if_pos h1, if_pos h2] at h
    have := xor_cancel_rightC h
    omega
  · rw [if_pos h1, if_neg h2] at h
    exact (mixed _ _ (by omega) (by omega) h).elim
  · rw [if_neg h1, if_pos h2] at h
    exact (mixed _ _ (by omega) (by omega) h.symm).elim
  · rw [if_neg h1, if_neg h2] at h
    omega
theorem crcBits_injC {a b : Nat} (n : Nat) (ha : a < 4294967296) (hb : b < 4294967296) (h : crcBits n a = crcBits n b) : a = b := by
  induction n with
  | zero => exact h
  | succ n ih => exact ih (crcBit_injC (crcBits_lt n ha) (crcBits_lt n hb) h)
theorem crcByte_injC {a b : Nat} (x : UInt8) (ha : a < 4294967296) (hb : b < 4294967296) (h : crcByte a x = crcByte b x) : a = b :=
  xor_cancel_rightC (crcBits_injC 8 (xor_lt32 ha (by have := x.toNat_lt; omega)) (xor_lt32 hb (by have := x.toNat_lt; omega)) h)
theorem crcByte_injC' {a : Nat} (x y : UInt8) (ha : a < 4294967296) (h : crcByte a x = crcByte a y) : x = y := by
  have h2 := crcBits_injC 8 (xor_lt32 ha (by have := x.toNat_lt; omega)) (xor_lt32 ha (by have := y.toNat_lt; omega)) h
  rw [Nat.xor_comm a, Nat.xor_comm a] at h2
  exact UInt8.toNat_inj.1 (xor_cancel_rightC h2)
theorem crcFold_injC (l : List UInt8) : ∀ {a b : Nat}, a < 4294967296 → b < 4294967296 → l.foldl crcByte a = l.foldl crcByte b → a = b := by
  induction l with
  | nil => intro a b _ _ h; exact h
  | cons x l ih => intro a b ha hb h; exact crcByte_injC x ha hb (ih (crcByte_lt x ha) (crcByte_lt x hb) h)
theorem crcSum_setC (l : List UInt8) (k : Nat) (hk : k < l.length) (y : UInt8) (h : crcSum (l.set k y) = crcSum l) : y = l[k] := by
  have h1 : crcRaw (l.set k y) = crcRaw l := xor_cancel_rightC h
  have e1 : l = l.take k ++ l[k] :: l.drop (k + 1) := by rw [← List.drop_eq_getElem_cons hk, List.take_append_drop]
  have e2 : l.set k y = l.take k ++ y :: l.drop (k + 1) := List.set_eq_take_append_cons_drop.trans (by rw [if_pos hk])
  rw [e2] at h1
  have e3 : crcRaw l = crcRaw (l.take k ++ l[k] :: l.drop (k + 1)) := congrArg crcRaw e1
  rw [e3] at h1
  unfold crcRaw at h1
  rw [List.foldl_append, List.foldl_append, List.foldl_cons, List.foldl_cons] at h1
  have hp := crcFold_lt (l.take k) _ (show 4294967295 < 4294967296 by decide)
  exact crcByte_injC' _ _ hp (crcFold_injC _ (crcByte_lt _ hp) (crcByte_lt _ hp) h1)


/-- A byte of a chunk's type or data that is changed is told. -/
theorem told_set {t d : List UInt8} (h : okC (t, d) = true) {k : Nat} (hk : k < (t ++ d).length) {y : UInt8} (hy : y ≠ (t ++ d)[k]) :
    (splT ((signL ++ encs [(t, d)]).set (12 + k) y)).2 = 22 ∨ (splT ((signL ++ encs [(t, d)]).set (12 + k) y)).2 = 21 ∧ k < 4 := by
  obtain ⟨hr, hd⟩ := (okC_iff (t, d)).1 h
  have ht := rightT_length hr
  have hd' : d.length ≤ 2147483647 := hd
  have ht' : t.length = 4 := ht
  rw [List.length_append] at hk
  have hlen : ((t ++ d).set k y).length = 4 + d.length := by rw [List.length_set, List.length_append, ht']
  have he : (signL ++ encs [(t, d)]).set (12 + k) y
      = signL ++ (fourL d.length ++ (((t ++ d).set k y).take 4 ++ (((t ++ d).set k y).drop 4 ++ (fourL (crcSum (t ++ d)) ++ [])))) := by
    have h0 : encs [(t, d)] = fourL d.length ++ ((t ++ d) ++ fourL (crcSum (t ++ d))) := by
      show encC (t, d) ++ [] = _
      unfold encC
      simp only [List.append_assoc, List.append_nil]
    rw [h0, List.append_nil, ← List.append_assoc (((t ++ d).set k y).take 4), List.take_append_drop,
      List.set_append_right _ _ (by show 8 ≤ 12 + k; omega), List.set_append_right _ _ (by rw [fourL_length]; show 4 ≤ 12 + k - 8; omega)]
    have e1 : 12 + k - signL.length - (fourL d.length).length = k := by rw [fourL_length]; show 12 + k - 8 - 4 = k; omega
    rw [e1, List.set_append_left _ _ (by rw [List.length_append]; exact hk)]
  have hl4 : (((t ++ d).set k y).take 4).length = 4 := by rw [List.length_take]; omega
  have hld : (((t ++ d).set k y).drop 4).length = d.length := by rw [List.length_drop]; omega
  have hof : ofL (fourL d.length) = (((t ++ d).set k y).drop 4).length := by rw [hld]; exact ofL_four (by omega)
  rw [he]
  unfold splT
  rw [if_neg (by rw [take_len (show signL.length = 8 from rfl)]; simp)]
  have hds : ∀ x : List UInt8, (signL ++ x).drop 8 = x := fun x => drop_len rfl
  obtain ⟨f, hf⟩ : ∃ f, (signL ++ (fourL d.length ++ (((t ++ d).set k y).take 4 ++ (((t ++ d).set k y).drop 4 ++ (fourL (crcSum (t ++ d)) ++ []))))).length = f + 1 :=
    ⟨7 + (fourL d.length ++ (((t ++ d).set k y).take 4 ++ (((t ++ d).set k y).drop 4 ++ (fourL (crcSum (t ++ d)) ++ [])))).length, by rw [List.length_append]; show 8 + _ = _; omega⟩
  rw [hf, hds, splK_form (fourL_length _) hl4 hof (fourL_length _), hld, List.take_append_drop]
  by_cases hrt : rightT (((t ++ d).set k y).take 4) = false
  · rw [if_pos (Or.inr hrt)]
    refine Or.inr ⟨rfl, ?_⟩
    refine Nat.lt_of_not_le fun h4 => ?_
    rw [List.set_append_right _ _ (by omega), take_len ht', show rightT t = true from hr] at hrt
    exact Bool.noConfusion hrt
  · left
    rw [if_neg (by rintro (h | h); · omega
                   · exact hrt h)]
    rw [if_pos ?_]
    rw [ofL_four (crcSum_lt _)]
    intro e
    exact hy (crcSum_setC _ k (by rw [List.length_append]; exact hk) y e.symm)
end Go.Proofs.Ytdfjdajfkamafaa
