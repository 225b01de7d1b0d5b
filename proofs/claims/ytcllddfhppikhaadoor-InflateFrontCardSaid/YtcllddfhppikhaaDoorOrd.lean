/- Plain laws of the order of codes, and of the codes that lengths have. -/
import Derived.Test.YtcllddfhppikhaaDoorCodes
namespace Go.Proofs.YtcllddfhppikhaaDoor
set_option maxRecDepth 100000

/-- The symbols below k that have this length. -/
def inLen (l : List Int) (n k : Nat) : List Nat := (List.range k).filter fun s => decide (l.getD s 0 = (n : Int))
/-- The symbols with lengths from 1 to n, in the order of their codes. -/
def ordTo (l : List Int) : Nat → List Nat
  | 0 => []
  | n + 1 => ordTo l n ++ inLen l (n + 1) l.length
def ord (l : List Int) : List Nat := ordTo l 15
/-- Lengths to n are done, and of the next one the symbols below k. -/
def pre (l : List Int) (n k : Nat) : List Nat := ordTo l n ++ inLen l (n + 1) k
def stp (l : List Int) (st : List Int × Nat) (s : Nat) : List Int × Nat := (st.1.set s ((st.2 / 2 ^ (15 - (l.getD s 0).toNat) : Nat) : Int), st.2 + kr (l.getD s 0))
def cst (l : List Int) (p : List Nat) : List Int × Nat := p.foldl (stp l) (List.replicate l.length 0, 0)
/-- The codes when these symbols have got theirs. -/
def cds (l : List Int) (p : List Nat) : List Int := (cst l p).1
/-- How much these symbols take. -/
def kp (l : List Int) (p : List Nat) : Nat := (cst l p).2
def codes (l : List Int) : List Int := cds l (ord l)
def was (l : List Int) (p : List Nat) : Nat := match p.getLast? with
  | none => 0
  | some s => (l.getD s 0).toNat

theorem inLen_succ (l : List Int) (n k : Nat) : inLen l n (k + 1) = if l.getD k 0 = (n : Int) then inLen l n k ++ [k] else inLen l n k := by
  unfold inLen; rw [List.range_succ, List.filter_append]
  by_cases h : l.getD k 0 = (n : Int)
  · rw [if_pos h]; simp only [List.filter_cons, List.filter_nil]; rw [if_pos (by simpa using h)]
  · rw [if_neg h]; simp only [List.filter_cons, List.filter_nil]; rw [if_neg (by simpa using h)]; simp
theorem inLen_zero (l : List Int) (n : Nat) : inLen l n 0 = [] := rfl
theorem pre_zero (l : List Int) (n : Nat) : pre l n 0 = ordTo l n := by simp [pre, inLen_zero]
theorem pre_full (l : List Int) (n : Nat) : pre l n l.length = ordTo l (n + 1) := rfl
theorem pre_succ (l : List Int) (n k : Nat) : pre l n (k + 1) = if l.getD k 0 = ((n + 1 : Nat) : Int) then pre l n k ++ [k] else pre l n k := by
  unfold pre; rw [inLen_succ]; split <;> simp
theorem mem_inLen {l : List Int} {n k s : Nat} : s ∈ inLen l n k ↔ s < k ∧ l.getD s 0 = (n : Int) := by
  unfold inLen; rw [List.mem_filter, List.mem_range]; simp
theorem mem_ordTo {l : List Int} {s : Nat} : ∀ {n : Nat}, s ∈ ordTo l n ↔ s < l.length ∧ 1 ≤ l.getD s 0 ∧ l.getD s 0 ≤ (n : Int)
  | 0 => by simp [ordTo]; intro _ _; omega
  | n + 1 => by
    rw [ordTo, List.mem_append, mem_ordTo, mem_inLen]
    constructor
    · rintro (⟨h1, h2, h3⟩ | ⟨h1, h2⟩)
      · exact ⟨h1, h2, by omega⟩
      · exact ⟨h1, by omega, by omega⟩
    · rintro ⟨h1, h2, h3⟩
      by_cases h : l.getD s 0 ≤ (n : Int)
      · exact .inl ⟨h1, h2, h⟩
      · exact .inr ⟨h1, by omega⟩
theorem pre_prefix (l : List Int) (n k : Nat) (hk : k ≤ l.length) : ∃ r, ordTo l (n + 1) = pre l n k ++ r := by
  rw [← pre_full]
  have : ∀ d, ∃ r, pre l n (k + d) = pre l n k ++ r := by
    intro d
    induction d with
    | zero => exact ⟨[], by simp⟩
    | succ d ih =>
      obtain ⟨r, hr⟩ := ih
      rw [← Nat.add_assoc, pre_succ]
      split
      · exact ⟨r ++ [k + d], by rw [hr, List.append_assoc]⟩
      · exact ⟨r, hr⟩
  obtain ⟨r, hr⟩ := this (l.length - k)
  exact ⟨r, by rw [← hr]; congr 1; omega⟩
theorem ordTo_prefix (l : List Int) (n : Nat) : ∀ d, ∃ r, ordTo l (n + d) = ordTo l n ++ r
  | 0 => ⟨[], by simp⟩
  | d + 1 => by
    obtain ⟨r, hr⟩ := ordTo_prefix l n d
    exact ⟨r ++ inLen l (n + d + 1) l.length, by rw [← Nat.add_assoc, ordTo, hr, List.append_assoc]⟩
theorem pre_ord (l : List Int) (n k : Nat) (hk : k ≤ l.length) (hn : n < 15) : ∃ r, ord l = pre l n k ++ r := by
  obtain ⟨r, hr⟩ := pre_prefix l n k hk
  obtain ⟨r2, hr2⟩ := ordTo_prefix l (n + 1) (15 - (n + 1))
  refine ⟨r ++ r2, ?_⟩
  rw [← List.append_assoc, ← hr, ← hr2, ord]; congr 1; omega
theorem nodup_inLen (l : List Int) (n k : Nat) : (inLen l n k).Nodup := List.Pairwise.filter _ List.nodup_range
theorem nodup_ordTo (l : List Int) : ∀ n, (ordTo l n).Nodup
  | 0 => List.nodup_nil
  | n + 1 => by
    rw [ordTo, List.nodup_append]
    refine ⟨nodup_ordTo l n, nodup_inLen _ _ _, fun a ha b hb e => ?_⟩
    subst e
    have h1 := (mem_ordTo.1 ha).2.2
    have h2 := (mem_inLen.1 hb).2
    omega
theorem sorted_ordTo (l : List Int) : ∀ n, (ordTo l n).Pairwise fun a b => l.getD a 0 ≤ l.getD b 0
  | 0 => List.Pairwise.nil
  | n + 1 => by
    rw [ordTo, List.pairwise_append]
    refine ⟨sorted_ordTo l n, ?_, fun a ha b hb => ?_⟩
    · refine List.Pairwise.imp_of_mem (R := fun _ _ => True) ?_ (List.pairwise_of_forall (fun _ _ => trivial))
      intro a b ha hb _
      rw [(mem_inLen.1 ha).2, (mem_inLen.1 hb).2]; exact Int.le_refl _
    · have h1 := (mem_ordTo.1 ha).2.2
      have h2 := (mem_inLen.1 hb).2
      omega
theorem ord_len {l : List Int} {s : Nat} (h : s ∈ ord l) : s < l.length ∧ 1 ≤ l.getD s 0 ∧ l.getD s 0 ≤ 15 := mem_ordTo.1 h

theorem cst_snoc (l : List Int) (p : List Nat) (s : Nat) : cst l (p ++ [s]) = stp l (cst l p) s := by unfold cst; rw [List.foldl_append]; rfl
theorem cds_snoc (l : List Int) (p : List Nat) (s : Nat) : cds l (p ++ [s]) = (cds l p).set s ((kp l p / 2 ^ (15 - (l.getD s 0).toNat) : Nat) : Int) := by
  unfold cds; rw [cst_snoc]; rfl
theorem kp_snoc (l : List Int) (p : List Nat) (s : Nat) : kp l (p ++ [s]) = kp l p + kr (l.getD s 0) := by
  unfold kp; rw [cst_snoc]; rfl
theorem length_cds (l : List Int) (p : List Nat) : (cds l p).length = l.length := by
  have : ∀ st : List Int × Nat, st.1.length = l.length → (p.foldl (stp l) st).1.length = l.length := by
    induction p with
    | nil => intro st h; exact h
    | cons s p ih => intro st h; exact ih _ (by simp [stp, h])
  exact this _ (by simp)
theorem kp_eq (l : List Int) (p : List Nat) : kp l p = (p.map fun s => kr (l.getD s 0)).sum := by
  have : ∀ st : List Int × Nat, (p.foldl (stp l) st).2 = st.2 + (p.map fun s => kr (l.getD s 0)).sum := by
    induction p with
    | nil => intro st; simp
    | cons s p ih => intro st; simp only [List.foldl_cons, ih, List.map_cons, List.sum_cons]; unfold stp; simp only; omega
  have h := this (List.replicate l.length 0, 0)
  simpa [kp, cst] using h
theorem was_snoc (l : List Int) (p : List Nat) (s : Nat) : was l (p ++ [s]) = (l.getD s 0).toNat := by simp [was]

/-- Nothing is counted twice. -/
theorem sum_le_of_nodup (f : Nat → Nat) : ∀ (n : Nat) (p : List Nat), p.Nodup → (∀ s ∈ p, s < n) → (p.map f).sum ≤ ((List.range n).map f).sum
  | 0, p, _, h => by
    cases p with
    | nil => simp
    | cons s p => have := h s (by simp); omega
  | n + 1, p, hn, h => by
    have ih := sum_le_of_nodup f n (p.filter fun s => decide (s ≠ n)) (List.Pairwise.filter _ hn) (fun s hs => by
      obtain ⟨h1, h2⟩ := List.mem_filter.1 hs
      have := h s h1
      have h3 : s ≠ n := by simpa using h2
      omega)
    rw [List.range_succ, List.map_append, List.sum_append]
    have key : (p.map f).sum ≤ ((p.filter fun s => decide (s ≠ n)).map f).sum + f n := by
      clear ih h
      induction p with
      | nil => simp
      | cons s p ih =>
        have hd := List.nodup_cons.1 hn
        have := ih hd.2
        by_cases e : s = n
        · subst e
          have : p.filter (fun t => decide (t ≠ s)) = p := List.filter_eq_self.2 (fun t ht => by simp; rintro rfl; exact hd.1 ht)
          rw [List.filter_cons, if_neg (by simp), this]
          simp only [List.map_cons, List.sum_cons]; omega
        · rw [List.filter_cons, if_pos (by simpa using e)]
          simp only [List.map_cons, List.sum_cons]; omega
    simp only [List.map_cons, List.map_nil, List.sum_cons, List.sum_nil, Nat.add_zero]
    omega
theorem range_sum (l : List Int) : ((List.range l.length).map fun s => kr (l.getD s 0)).sum = ksum l := by
  unfold ksum
  congr 1
  apply List.ext_getElem
  · simp
  · intro i h1 h2
    simp only [List.getElem_map, List.getElem_range]
    rw [List.getD_eq_getElem?_getD, List.getElem?_eq_getElem (by simpa using h2)]; rfl
theorem kp_le {l : List Int} {p r : List Nat} (h : ord l = p ++ r) : kp l p ≤ ksum l := by
  rw [kp_eq, ← range_sum]
  have hn : p.Nodup := (List.nodup_append.1 (h ▸ nodup_ordTo l 15 : (p ++ r).Nodup)).1
  exact sum_le_of_nodup _ _ _ hn (fun s hs => (ord_len (h ▸ List.mem_append_left r hs)).1)
theorem next_len {l : List Int} {p r : List Nat} {s : Nat} (h : ord l = p ++ s :: r) : was l p ≤ (l.getD s 0).toNat := by
  unfold was
  cases e : p.getLast? with
  | none => exact Nat.zero_le _
  | some t =>
    have ht : t ∈ p := List.mem_of_getLast? e
    have hs := (List.pairwise_append.1 (h ▸ sorted_ordTo l 15 : (p ++ s :: r).Pairwise fun a b => l.getD a 0 ≤ l.getD b 0)).2.2 t ht s (by simp)
    show (l.getD t 0).toNat ≤ _
    omega
/-- What the symbols take is so many times what the last of them takes. -/
theorem kp_whole {l : List Int} : ∀ {p r : List Nat}, ord l = p ++ r → ∃ c, kp l p = c * 2 ^ (15 - was l p) := by
  intro p
  induction h : p.length generalizing p with
  | zero =>
    intro r _
    have : p = [] := List.eq_nil_of_length_eq_zero h
    subst this
    exact ⟨0, by simp [kp, cst]⟩
  | succ n ih =>
    intro r hr
    rcases List.eq_nil_or_concat p with e | ⟨q, s, e⟩
    · subst e; simp at h
    · subst e
      rw [List.concat_eq_append] at hr h ⊢
      rw [List.append_assoc, List.singleton_append] at hr
      obtain ⟨c, hc⟩ := ih (p := q) (by simp at h; exact h) hr
      have hl := next_len hr
      have hs := ord_len (s := s) (l := l) (by rw [hr]; simp)
      rw [was_snoc, kp_snoc, hc]
      refine ⟨c * 2 ^ ((l.getD s 0).toNat - was l q) + 1, ?_⟩
      have e1 : 15 - was l q = ((l.getD s 0).toNat - was l q) + (15 - (l.getD s 0).toNat) := by omega
      have e2 : kr (l.getD s 0) = 2 ^ (15 - (l.getD s 0).toNat) := by unfold kr; rw [if_pos (by omega)]
      rw [e2, e1, Nat.add_mul, Nat.mul_assoc, ← Nat.pow_add, Nat.one_mul]
/-- The next code: the previous one and 1, shifted. -/
theorem next_code {l : List Int} {p r : List Nat} {s : Nat} (h : ord l = p ++ s :: r) :
    kp l p / 2 ^ (15 - was l p) * 2 ^ ((l.getD s 0).toNat - was l p) = kp l p / 2 ^ (15 - (l.getD s 0).toNat) := by
  obtain ⟨c, hc⟩ := kp_whole h
  have hl := next_len h
  have hs := ord_len (s := s) (l := l) (by rw [h]; simp)
  rw [hc, Nat.mul_div_cancel _ (Nat.two_pow_pos _)]
  have e1 : 15 - was l p = ((l.getD s 0).toNat - was l p) + (15 - (l.getD s 0).toNat) := by omega
  rw [e1, Nat.pow_add, ← Nat.mul_assoc, Nat.mul_div_cancel _ (Nat.two_pow_pos _)]
/-- Behind it: one more. -/
theorem next_more {l : List Int} {p r : List Nat} {s : Nat} (h : ord l = p ++ s :: r) :
    kp l (p ++ [s]) / 2 ^ (15 - was l (p ++ [s])) = kp l p / 2 ^ (15 - (l.getD s 0).toNat) + 1 := by
  have hs := ord_len (s := s) (l := l) (by rw [h]; simp)
  have e2 : kr (l.getD s 0) = 2 ^ (15 - (l.getD s 0).toNat) := by unfold kr; rw [if_pos (by omega)]
  rw [was_snoc, kp_snoc, e2, Nat.add_div_right _ (Nat.two_pow_pos _)]
theorem code_lt {l : List Int} {p r : List Nat} {s : Nat} (h : ord l = p ++ s :: r) (hk : ksum l ≤ 32768) : kp l p / 2 ^ (15 - (l.getD s 0).toNat) < 2 ^ (l.getD s 0).toNat := by
  have hs := ord_len (s := s) (l := l) (by rw [h]; simp)
  have e2 : kr (l.getD s 0) = 2 ^ (15 - (l.getD s 0).toNat) := by unfold kr; rw [if_pos (by omega)]
  have hle := kp_le (l := l) (p := p ++ [s]) (r := r) (by rw [h]; simp)
  rw [kp_snoc, e2] at hle
  have hp := Nat.two_pow_pos (15 - (l.getD s 0).toNat)
  rw [Nat.div_lt_iff_lt_mul hp, ← Nat.pow_add]
  rw [show (l.getD s 0).toNat + (15 - (l.getD s 0).toNat) = 15 from by omega]
  omega
end Go.Proofs.YtcllddfhppikhaaDoor
