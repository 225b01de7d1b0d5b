/- Plain mathematics of layer 7: chunks of a file, on lists of bytes. -/
import Derived.Test.YtgemmidkfeebfaaDoorWA
set_option linter.unusedVariables false
namespace Go.Proofs.YtgemmidkfeebfaaDoor
set_option maxRecDepth 100000
open Go

/-- What a file begins with. -/
def signL : List UInt8 := [137, 80, 78, 71, 13, 10, 26, 10]
/-- Is a byte a letter? -/
def letterB (b : UInt8) : Bool := decide (65 ≤ b.toNat ∧ b.toNat ≤ 90 ∨ 97 ≤ b.toNat ∧ b.toNat ≤ 122)
/-- Are bytes a type? -/
def rightT (t : List UInt8) : Bool := decide (t.length = 4) && t.all letterB
theorem rightT_length {t : List UInt8} (h : rightT t = true) : t.length = 4 := by
  unfold rightT at h
  rw [Bool.and_eq_true] at h
  exact of_decide_eq_true h.1
/-- A chunk: its type, its data. -/
abbrev Ck := List UInt8 × List UInt8
/-- A chunk's bytes. -/
def encC (c : Ck) : List UInt8 := fourL c.2.length ++ (c.1 ++ (c.2 ++ fourL (crcSum (c.1 ++ c.2))))
/-- The bytes of chunks. -/
def encs : List Ck → List UInt8
  | [] => []
  | c :: l => encC c ++ encs l
theorem encs_snoc (l : List Ck) (c : Ck) : encs (l ++ [c]) = encs l ++ encC c := by
  induction l with
  | nil => show encC c ++ [] = [] ++ encC c; rw [List.append_nil, List.nil_append]
  | cons x l ih => show encC x ++ encs (l ++ [c]) = (encC x ++ encs l) ++ encC c; rw [ih, List.append_assoc]
/-- May a chunk be? -/
def okC (c : Ck) : Bool := rightT c.1 && decide (c.2.length ≤ 2147483647)
theorem okC_iff (c : Ck) : okC c = true ↔ rightT c.1 = true ∧ c.2.length ≤ 2147483647 := by
  unfold okC
  rw [Bool.and_eq_true, decide_eq_true_eq]
/-- The file of chunks. -/
def joinT (l : List Ck) : List UInt8 × Int := if l.all okC then (signL ++ encs l, 0) else ([], 21)
/-- The chunks of bytes, at most so many, behind those that were taken. -/
def splK : Nat → List UInt8 → List Ck → List Ck × Int
  | 0, _, out => (out, 0)
  | f + 1, s, out =>
    if s.length = 0 then (out, 0) else
    if s.length < 8 then ([], 3) else
    if 2147483647 < ofL (s.take 4) ∨ rightT ((s.drop 4).take 4) = false then ([], 21) else
    if s.length < 12 + ofL (s.take 4) then ([], 3) else
    if ofL ((s.drop (8 + ofL (s.take 4))).take 4) ≠ crcSum ((s.drop 4).take (4 + ofL (s.take 4))) then ([], 22) else
    splK f (s.drop (12 + ofL (s.take 4))) (out ++ [((s.drop 4).take 4, (s.drop 8).take (ofL (s.take 4)))])
/-- The chunks of a file, or what is wrong with it first. -/
def splT (s : List UInt8) : List Ck × Int := if s.take 8 ≠ signL then ([], 20) else splK s.length (s.drop 8) []

/-- How many may be taken makes no difference, where it is enough. -/
theorem splK_more : ∀ (f g : Nat) (s : List UInt8) (out : List Ck), s.length ≤ f → s.length ≤ g → splK f s out = splK g s out := by
  intro f
  induction f with
  | zero =>
    intro g s out hf _
    have h0 : s.length = 0 := by omega
    cases g with
    | zero => rfl
    | succ g => unfold splK; rw [if_pos h0]
  | succ f ih =>
    intro g s out hf hg
    cases g with
    | zero =>
      have h0 : s.length = 0 := by omega
      unfold splK; rw [if_pos h0]
    | succ g =>
      unfold splK
      by_cases h0 : s.length = 0
      · rw [if_pos h0, if_pos h0]
      · rw [if_neg h0, if_neg h0, ih g _ _ (by rw [List.length_drop]; omega) (by rw [List.length_drop]; omega)]

/-! The bytes of one chunk. -/
section one
variable {t d rest : List UInt8}
theorem encC_length (ht : t.length = 4) : (encC (t, d)).length = 12 + d.length := by
  unfold encC
  simp only [List.length_append, fourL_length]
  omega
theorem encC_take4 : (fourL d.length ++ rest).take 4 = fourL d.length := by
  rw [List.take_append_of_le_length (by rw [fourL_length]; exact Nat.le_refl _), List.take_of_length_le (by rw [fourL_length]; exact Nat.le_refl _)]
theorem drop_len {a b : List UInt8} {n : Nat} (h : a.length = n) : (a ++ b).drop n = b := by
  subst h; exact List.drop_left
theorem take_len {a b : List UInt8} {n : Nat} (h : a.length = n) : (a ++ b).take n = a := by
  subst h; exact List.take_left
/-- Bytes that begin with a length, a type, data and four bytes more are taken so. -/
theorem splK_form {f : Nat} {out : List Ck} {n4 t d q rest : List UInt8} (hn : n4.length = 4) (ht : t.length = 4) (hd : ofL n4 = d.length) (hq : q.length = 4) :
    splK (f + 1) (n4 ++ (t ++ (d ++ (q ++ rest)))) out =
      if 2147483647 < d.length ∨ rightT t = false then ([], 21) else if ofL q ≠ crcSum (t ++ d) then ([], 22) else splK f rest (out ++ [(t, d)]) := by
  have e4 : (n4 ++ (t ++ (d ++ (q ++ rest)))).take 4 = n4 := take_len hn
  have d4 : (n4 ++ (t ++ (d ++ (q ++ rest)))).drop 4 = t ++ (d ++ (q ++ rest)) := drop_len hn
  have d8 : (n4 ++ (t ++ (d ++ (q ++ rest)))).drop 8 = d ++ (q ++ rest) := by
    rw [show (8 : Nat) = 4 + 4 from rfl, ← List.drop_drop, d4, drop_len ht]
  have d8n : (n4 ++ (t ++ (d ++ (q ++ rest)))).drop (8 + d.length) = q ++ rest := by
    rw [← List.drop_drop, d8, drop_len rfl]
  have d12 : (n4 ++ (t ++ (d ++ (q ++ rest)))).drop (12 + d.length) = rest := by
    rw [show 12 + d.length = 8 + d.length + 4 by omega, ← List.drop_drop, d8n, drop_len hq]
  have hl : (n4 ++ (t ++ (d ++ (q ++ rest)))).length = 12 + d.length + rest.length := by
    simp only [List.length_append]; omega
  have e44 : (t ++ (d ++ (q ++ rest))).take (4 + d.length) = t ++ d := by
    rw [← List.append_assoc, take_len (by rw [List.length_append, ht])]
  show (if _ then _ else _) = _
  rw [if_neg (by omega), e4, hd, d4, d8, d8n, d12, hl, e44, take_len ht, take_len hq, take_len rfl]
  rw [if_neg (by omega)]
  by_cases h1 : 2147483647 < d.length ∨ rightT t = false
  · rw [if_pos h1, if_pos h1]
  · rw [if_neg h1, if_neg h1, if_neg (by omega)]
end one
/-- The chunks of the bytes of chunks are these. -/
theorem splK_encs : ∀ (l : List Ck) (f : Nat) (out : List Ck), l.all okC = true → (encs l).length ≤ f → splK f (encs l) out = (out ++ l, 0) := by
  intro l
  induction l with
  | nil =>
    intro f out _ _
    rw [List.append_nil]
    cases f with
    | zero => rfl
    | succ f => rfl
  | cons c l ih =>
    intro f out ha hf
    obtain ⟨t, d⟩ := c
    rw [List.all_cons, Bool.and_eq_true] at ha
    obtain ⟨hr, hdl⟩ := (okC_iff (t, d)).1 ha.1
    have ht := rightT_length hr
    have he : encs ((t, d) :: l) = fourL d.length ++ (t ++ (d ++ (fourL (crcSum (t ++ d)) ++ encs l))) := by
      show encC (t, d) ++ encs l = _
      unfold encC
      simp only [List.append_assoc]
    have hlen : (encs ((t, d) :: l)).length = 12 + d.length + (encs l).length := by
      show (encC (t, d) ++ encs l).length = _
      rw [List.length_append, encC_length ht]
    obtain ⟨g, rfl⟩ : ∃ g, f = g + 1 := ⟨f - 1, by omega⟩
    have hd4 : ofL (fourL d.length) = d.length := ofL_four (by show d.length < 4294967296; have : d.length ≤ 2147483647 := hdl; omega)
    rw [he, splK_form (fourL_length _) ht hd4 (fourL_length _)]
    rw [if_neg (by rintro (h | h); · have : d.length ≤ 2147483647 := hdl; omega
                   · rw [show rightT t = true from hr] at h; exact Bool.noConfusion h)]
    rw [if_neg (by rw [ofL_four (crcSum_lt _)]; simp), ih g _ ha.2 (by omega), List.append_assoc]
    rfl
theorem split_join {l : List Ck} (h : l.all okC = true) : splT (signL ++ encs l) = (l, 0) := by
  unfold splT
  have e1 : (signL ++ encs l).take 8 = signL := take_len rfl
  have e2 : (signL ++ encs l).drop 8 = encs l := drop_len rfl
  rw [e1, e2, if_neg (by simp), splK_encs l _ [] h (by rw [List.length_append]; omega), List.nil_append]
/-- The bytes whose chunks are told are those of these chunks. -/
theorem splK_back : ∀ (f : Nat) (s : List UInt8) (out l : List Ck), s.length ≤ f → splK f s out = (l, 0) → ∃ m, l = out ++ m ∧ m.all okC = true ∧ encs m = s := by
  intro f
  induction f with
  | zero =>
    intro s out l hf h
    have h0 : s = [] := List.length_eq_zero_iff.1 (by omega)
    subst h0
    injection h with h1 _
    exact ⟨[], by rw [List.append_nil]; exact h1.symm, rfl, rfl⟩
  | succ f ih =>
    intro s out l hf h
    by_cases h0 : s.length = 0
    · have h0' : s = [] := List.length_eq_zero_iff.1 h0
      subst h0'
      injection h with h1 _
      exact ⟨[], by rw [List.append_nil]; exact h1.symm, rfl, rfl⟩
    · have hu : splK (f + 1) s out = if s.length = 0 then (out, 0) else
          if s.length < 8 then ([], 3) else
          if 2147483647 < ofL (s.take 4) ∨ rightT ((s.drop 4).take 4) = false then ([], 21) else
          if s.length < 12 + ofL (s.take 4) then ([], 3) else
          if ofL ((s.drop (8 + ofL (s.take 4))).take 4) ≠ crcSum ((s.drop 4).take (4 + ofL (s.take 4))) then ([], 22) else
          splK f (s.drop (12 + ofL (s.take 4))) (out ++ [((s.drop 4).take 4, (s.drop 8).take (ofL (s.take 4)))]) := rfl
      rw [hu, if_neg h0] at h
      by_cases h8 : s.length < 8
      · rw [if_pos h8] at h; injection h with _ h2; exact absurd h2 (by decide)
      rw [if_neg h8] at h
      by_cases hb : 2147483647 < ofL (s.take 4) ∨ rightT ((s.drop 4).take 4) = false
      · rw [if_pos hb] at h; injection h with _ h2; exact absurd h2 (by decide)
      rw [if_neg hb] at h
      by_cases h12 : s.length < 12 + ofL (s.take 4)
      · rw [if_pos h12] at h; injection h with _ h2; exact absurd h2 (by decide)
      rw [if_neg h12] at h
      by_cases hc : ofL ((s.drop (8 + ofL (s.take 4))).take 4) ≠ crcSum ((s.drop 4).take (4 + ofL (s.take 4)))
      · rw [if_pos hc] at h; injection h with _ h2; exact absurd h2 (by decide)
      rw [if_neg hc] at h
      obtain ⟨m, hm, ha, he⟩ := ih _ _ _ (by rw [List.length_drop]; omega) h
      generalize hN : ofL (s.take 4) = N at *
      have l4 : (s.take 4).length = 4 := by rw [List.length_take]; omega
      have hT : ((s.drop 4).take 4).length = 4 := by rw [List.length_take, List.length_drop]; omega
      have hD : ((s.drop 8).take N).length = N := by rw [List.length_take, List.length_drop]; omega
      have hQ : ((s.drop (8 + N)).take 4).length = 4 := by rw [List.length_take, List.length_drop]; omega
      have hs : s = s.take 4 ++ ((s.drop 4).take 4 ++ ((s.drop 8).take N ++ ((s.drop (8 + N)).take 4 ++ s.drop (12 + N)))) := by
        have a1 : s.drop (8 + N) = (s.drop (8 + N)).take 4 ++ s.drop (12 + N) := by
          have := (List.take_append_drop 4 (s.drop (8 + N))).symm
          rw [List.drop_drop, show 8 + N + 4 = 12 + N by omega] at this
          exact this
        have a2 : s.drop 8 = (s.drop 8).take N ++ s.drop (8 + N) := by
          have := (List.take_append_drop N (s.drop 8)).symm
          rw [List.drop_drop] at this
          exact this
        have a3 : s.drop 4 = (s.drop 4).take 4 ++ s.drop 8 := by
          have := (List.take_append_drop 4 (s.drop 4)).symm
          rw [List.drop_drop] at this
          exact this
        have a4 : s = s.take 4 ++ s.drop 4 := (List.take_append_drop 4 s).symm
        rw [← a1, ← a2, ← a3, ← a4]
      have hrt : rightT ((s.drop 4).take 4) = true := by
        cases hx : rightT ((s.drop 4).take 4) with
        | true => rfl
        | false => exact absurd (Or.inr hx) hb
      have hle : N ≤ 2147483647 := Nat.le_of_not_lt fun hx => hb (Or.inl hx)
      refine ⟨((s.drop 4).take 4, (s.drop 8).take N) :: m, ?_, ?_, ?_⟩
      · rw [hm, List.append_assoc]; rfl
      · rw [List.all_cons, ha, Bool.and_true, okC_iff]
        exact ⟨hrt, by show ((s.drop 8).take N).length ≤ 2147483647; omega⟩
      · have hc' := Classical.not_not.1 hc
        have e44 : (s.drop 4).take (4 + N) = (s.drop 4).take 4 ++ (s.drop 8).take N := by
          rw [List.take_add, List.drop_drop]
        show encC ((s.drop 4).take 4, (s.drop 8).take N) ++ encs m = s
        unfold encC
        show (fourL ((s.drop 8).take N).length ++ ((s.drop 4).take 4 ++ ((s.drop 8).take N ++ fourL (crcSum ((s.drop 4).take 4 ++ (s.drop 8).take N))))) ++ encs m = s
        rw [hD, he, ← hN, four_ofL l4, hN, ← e44, ← hc', four_ofL hQ]
        simp only [List.append_assoc]
        exact hs.symm
theorem join_split {s : List UInt8} {l : List Ck} (h : splT s = (l, 0)) : l.all okC = true ∧ signL ++ encs l = s := by
  unfold splT at h
  by_cases h0 : s.take 8 ≠ signL
  · rw [if_pos h0] at h; injection h with _ h2; exact absurd h2 (by decide)
  · rw [if_neg h0] at h
    obtain ⟨m, hm, ha, he⟩ := splK_back _ _ _ _ (by rw [List.length_drop]; omega) h
    rw [List.nil_append] at hm
    subst hm
    exact ⟨ha, by rw [he, ← Classical.not_not.1 h0, List.take_append_drop]⟩
end Go.Proofs.YtgemmidkfeebfaaDoor
