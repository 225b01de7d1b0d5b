/- Plain laws of the symbol that bits begin with. -/
import Derived.Test.YtobmghjpfkdooaaDoorLayW
namespace Go.Proofs.YtobmghjpfkdooaaDoor
set_option maxRecDepth 100000

/-- The symbol of this length and this code. -/
def findS (l : List Int) (n c : Nat) : Option Nat := (List.range l.length).find? fun s => decide (l.getD s 0 = (n : Int) ∧ (codes l).getD s 0 = (c : Int))
/-- The symbol, what is wrong, and where reading ends. -/
def nextG (l : List Int) (s : ByteArray) : Nat → Nat → Nat → Nat → Nat × Int × Nat
  | 0, _, _, p => (0, 12, p)
  | f + 1, n, c, p => if bitsErr s p 1 ≠ 0 then (0, bitsErr s p 1, p) else
    match findS l n (2 * c + bitsVal s p 1) with
    | some i => (i, 0, bitsGo s p 1)
    | none => nextG l s f (n + 1) (2 * c + bitsVal s p 1) (bitsGo s p 1)
def longest (l : List Int) : Nat := if many l = 0 then 0 else if many l = 1 ∧ top l = 1 then 1 else 15
def nextS (l : List Int) (s : ByteArray) (p : Nat) : Nat × Int × Nat := nextG l s (longest l) 1 0 p
/-- The first number behind the codes of this length. -/
def gN (l : List Int) (n : Nat) : Nat := kp l (ordTo l n) / 2 ^ (15 - n)
def inN (l : List Int) (n : Nat) : List Nat := inLen l n l.length

theorem kp_same {l : List Int} {n : Nat} (h1 : 1 ≤ n) (h2 : n ≤ 15) (p q : List Nat) (hq : ∀ s ∈ q, l.getD s 0 = (n : Int)) : kp l (p ++ q) = kp l p + q.length * 2 ^ (15 - n) := by
  rw [kp_eq, kp_eq, List.map_append, List.sum_append]
  congr 1
  induction q with
  | nil => simp
  | cons s q ih =>
    have e : kr (l.getD s 0) = 2 ^ (15 - n) := by
      rw [hq s (by simp)]; unfold kr; rw [if_pos (by omega)]; congr 1
    rw [List.map_cons, List.sum_cons, List.length_cons, ih (fun s hs => hq s (by simp [hs])), e, Nat.add_mul, Nat.one_mul]; omega
theorem inN_len {l : List Int} {n s : Nat} (h : s ∈ inN l n) : s < l.length ∧ l.getD s 0 = (n : Int) := mem_inLen.1 h
theorem kp_dvd (l : List Int) : ∀ n, n ≤ 15 → ∃ a, kp l (ordTo l n) = a * 2 ^ (15 - n)
  | 0, _ => ⟨0, by simp [ordTo, kp, cst]⟩
  | n + 1, h => by
    obtain ⟨a, ha⟩ := kp_dvd l n (by omega)
    refine ⟨2 * a + (inN l (n + 1)).length, ?_⟩
    rw [ordTo, show inLen l (n + 1) l.length = inN l (n + 1) from rfl, kp_same (n := n + 1) (by omega) h _ _ (fun s hs => (inN_len hs).2), ha]
    have e : 15 - n = (15 - (n + 1)) + 1 := by omega
    rw [e, Nat.pow_succ, Nat.add_mul]
    congr 1
    rw [Nat.mul_comm (2 ^ _) 2, ← Nat.mul_assoc, Nat.mul_comm a 2]
theorem gN_eq {l : List Int} {n a : Nat} (h : kp l (ordTo l n) = a * 2 ^ (15 - n)) : gN l n = a := by
  unfold gN; rw [h, Nat.mul_div_cancel _ (Nat.two_pow_pos _)]
theorem kp_gN (l : List Int) (n : Nat) (h : n ≤ 15) : kp l (ordTo l n) = gN l n * 2 ^ (15 - n) := by
  obtain ⟨a, ha⟩ := kp_dvd l n h
  rw [gN_eq ha, ha]
theorem gN_zero (l : List Int) : gN l 0 = 0 := by simp [gN, ordTo, kp, cst]
theorem gN_succ (l : List Int) (n : Nat) (h : n < 15) : gN l (n + 1) = 2 * gN l n + (inN l (n + 1)).length := by
  apply gN_eq
  rw [ordTo, show inLen l (n + 1) l.length = inN l (n + 1) from rfl, kp_same (n := n + 1) (by omega) (by omega) _ _ (fun s hs => (inN_len hs).2), kp_gN l n (by omega)]
  have e : 15 - n = (15 - (n + 1)) + 1 := by omega
  rw [e, Nat.pow_succ, Nat.add_mul]
  congr 1
  rw [Nat.mul_comm (2 ^ _) 2, ← Nat.mul_assoc, Nat.mul_comm (gN l n) 2]

theorem fold_keep {l : List Int} {s : Nat} : ∀ (r : List Nat) (st : List Int × Nat), s ∉ r → (r.foldl (stp l) st).1.getD s 0 = st.1.getD s 0
  | [], _, _ => rfl
  | t :: r, st, h => by
    rw [List.foldl_cons, fold_keep r _ (fun h2 => h (by simp [h2]))]
    have hne : t ≠ s := fun e => h (by simp [e])
    unfold stp
    simp only [List.getD_eq_getElem?_getD]
    rw [List.getElem?_set_ne hne]
theorem code_at {l : List Int} {p r : List Nat} {s : Nat} (h : ord l = p ++ s :: r) : (codes l).getD s 0 = ((kp l p / 2 ^ (15 - (l.getD s 0).toNat) : Nat) : Int) := by
  have hs := ord_len (s := s) (l := l) (by rw [h]; simp)
  have hn : s ∉ r := by
    have := nodup_ordTo l 15
    rw [show ordTo l 15 = ord l from rfl, h] at this
    exact (List.nodup_cons.1 (List.nodup_append.1 this).2.1).1
  unfold codes cds cst
  rw [h, List.foldl_append, List.foldl_cons, fold_keep r _ hn]
  have hl : (p.foldl (stp l) (List.replicate l.length 0, 0)).1.length = l.length := length_cds l p
  show ((p.foldl (stp l) (List.replicate l.length 0, 0)).1.set s _).getD s 0 = _
  rw [List.getD_eq_getElem?_getD, List.getElem?_set_self (by rw [hl]; exact hs.1)]
  rfl
theorem ord_split (l : List Int) {n : Nat} (h : n < 15) : ∃ r, ord l = ordTo l n ++ (inN l (n + 1) ++ r) := by
  obtain ⟨r, hr⟩ := ordTo_prefix l (n + 1) (15 - (n + 1))
  rw [show n + 1 + (15 - (n + 1)) = 15 from by omega] at hr
  exact ⟨r, by rw [ord, hr, ordTo, List.append_assoc]; rfl⟩
theorem code_in {l : List Int} {n j : Nat} (h : n < 15) (hj : j < (inN l (n + 1)).length) : (codes l).getD (inN l (n + 1))[j] 0 = ((2 * gN l n + j : Nat) : Int) := by
  obtain ⟨r, hr⟩ := ord_split l h
  have hs : ord l = (ordTo l n ++ (inN l (n + 1)).take j) ++ (inN l (n + 1))[j] :: ((inN l (n + 1)).drop (j + 1) ++ r) := by
    rw [hr, List.append_assoc]
    congr 1
    rw [← List.cons_append, ← List.append_assoc, List.getElem_cons_drop, List.take_append_drop]
  rw [code_at hs]
  congr 1
  have hl := (inN_len (List.getElem_mem hj)).2
  rw [hl, Int.toNat_natCast, kp_same (n := n + 1) (by omega) (by omega) _ _ (fun s hs => (inN_len (List.mem_of_mem_take hs)).2), kp_gN l n (by omega), List.length_take, Nat.min_eq_left (by omega)]
  have e : 15 - n = (15 - (n + 1)) + 1 := by omega
  rw [e, Nat.pow_succ, show gN l n * (2 ^ (15 - (n + 1)) * 2) + j * 2 ^ (15 - (n + 1)) = (2 * gN l n + j) * 2 ^ (15 - (n + 1)) from by rw [Nat.add_mul, Nat.mul_comm 2 (gN l n), Nat.mul_assoc, Nat.mul_comm 2], Nat.mul_div_cancel _ (Nat.two_pow_pos _)]
theorem findS_some {l : List Int} {n j : Nat} (h : n < 15) (hj : j < (inN l (n + 1)).length) : findS l (n + 1) (2 * gN l n + j) = some (inN l (n + 1))[j] := by
  have hm := inN_len (List.getElem_mem hj)
  have hc := code_in h hj
  cases e : findS l (n + 1) (2 * gN l n + j) with
  | none =>
    have := List.find?_eq_none.1 e _ (List.mem_range.2 hm.1)
    simp only [decide_eq_true_eq] at this
    exact absurd ⟨hm.2, hc⟩ this
  | some t =>
    have h1 := List.find?_some e
    have h2 := List.mem_range.1 (List.mem_of_find?_eq_some e)
    simp only [decide_eq_true_eq] at h1
    obtain ⟨i, hi, hit⟩ := List.getElem_of_mem (show t ∈ inN l (n + 1) from mem_inLen.2 ⟨h2, h1.1⟩)
    have h3 := code_in h hi
    rw [hit, h1.2] at h3
    obtain rfl : i = j := by omega
    rw [hit]
theorem findS_none {l : List Int} {n c : Nat} (h : n < 15) (hc : c < 2 * gN l n ∨ gN l (n + 1) ≤ c) : findS l (n + 1) c = none := by
  refine List.find?_eq_none.2 fun t ht hp => ?_
  have h2 := List.mem_range.1 ht
  simp only [decide_eq_true_eq] at hp
  obtain ⟨i, hi, hit⟩ := List.getElem_of_mem (show t ∈ inN l (n + 1) from mem_inLen.2 ⟨h2, hp.1⟩)
  have h3 := code_in h hi
  rw [hit, hp.2] at h3
  have := gN_succ l n h
  omega
theorem filter_ordTo (l : List Int) {n : Nat} (h1 : 1 ≤ n) : ∀ k, (ordTo l k).filter (fun s => decide ((l.getD s 0).toNat = n)) = if n ≤ k then inN l n else []
  | 0 => by rw [if_neg (by omega)]; rfl
  | k + 1 => by
    rw [ordTo, List.filter_append, filter_ordTo l h1 k]
    by_cases e : n = k + 1
    · subst e
      rw [if_neg (by omega), if_pos (Nat.le_refl _), List.nil_append]
      exact List.filter_eq_self.2 fun s hs => by
        have := (mem_inLen.1 hs).2
        simp only [decide_eq_true_eq]; omega
    · have : (inLen l (k + 1) l.length).filter (fun s => decide ((l.getD s 0).toNat = n)) = [] := List.filter_eq_nil_iff.2 fun s hs => by
        have := (mem_inLen.1 hs).2
        simp only [decide_eq_true_eq]; omega
      rw [this, List.append_nil]
      by_cases e2 : n ≤ k
      · rw [if_pos e2, if_pos (by omega)]
      · rw [if_neg e2, if_neg (by omega)]
theorem cntW_ord (l : List Int) {n : Nat} (h1 : 1 ≤ n) (h2 : n ≤ 15) : cntW l (ord l) n = (inN l n).length := by
  unfold cntW ord; rw [filter_ordTo l h1, if_pos h2]
theorem ord_at (l : List Int) {n j : Nat} (h : n < 15) (hj : j < (inN l (n + 1)).length) : (ord l)[(ordTo l n).length + j]? = some (inN l (n + 1))[j] := by
  obtain ⟨r, hr⟩ := ord_split l h
  rw [hr, List.getElem?_append_right (by omega), Nat.add_sub_cancel_left, List.getElem?_append_left hj, List.getElem?_eq_getElem hj]
theorem length_ordTo (l : List Int) (n : Nat) : (ordTo l (n + 1)).length = (ordTo l n).length + (inN l (n + 1)).length := by
  rw [ordTo, List.length_append]; rfl

theorem sum_filter (f : Nat → Nat) (P : Nat → Bool) : ∀ L : List Nat, ((L.filter P).map f).sum = (L.map fun s => if P s then f s else 0).sum
  | [] => rfl
  | s :: L => by
    rw [List.map_cons, List.sum_cons, ← sum_filter f P L, List.filter_cons]
    by_cases h : P s = true
    · rw [if_pos h, if_pos h, List.map_cons, List.sum_cons]
    · rw [if_neg h, if_neg h, Nat.zero_add]
theorem sum_add (f g : Nat → Nat) : ∀ L : List Nat, (L.map f).sum + (L.map g).sum = (L.map fun s => f s + g s).sum
  | [] => rfl
  | s :: L => by
    have := sum_add f g L
    simp only [List.map_cons, List.sum_cons]; omega
theorem sum_ordTo (l : List Int) (f : Nat → Nat) : ∀ k, ((ordTo l k).map f).sum = ((List.range l.length).map fun s => if 1 ≤ l.getD s 0 ∧ l.getD s 0 ≤ (k : Int) then f s else 0).sum
  | 0 => by
    have : ∀ L : List Nat, (L.map fun s => if 1 ≤ l.getD s 0 ∧ l.getD s 0 ≤ ((0 : Nat) : Int) then f s else 0).sum = 0 := by
      intro L
      induction L with
      | nil => rfl
      | cons s L ih => rw [List.map_cons, List.sum_cons, ih, if_neg (by omega)]
    rw [this]; rfl
  | k + 1 => by
    rw [ordTo, List.map_append, List.sum_append, sum_ordTo l f k, inLen, sum_filter, sum_add]
    congr 1
    apply List.map_congr_left
    intro s _
    by_cases h : l.getD s 0 = ((k + 1 : Nat) : Int)
    · rw [if_neg (by omega), if_pos (by simpa using h), if_pos (by omega), Nat.zero_add]
    · rw [if_neg (c := decide _ = true) (by simpa using h), Nat.add_zero]
      by_cases h2 : 1 ≤ l.getD s 0 ∧ l.getD s 0 ≤ (k : Int)
      · rw [if_pos h2, if_pos (by omega)]
      · rw [if_neg h2, if_neg (by omega)]
theorem kp_ord {l : List Int} (hok : ∀ x ∈ l, 0 ≤ x ∧ x ≤ 15) : kp l (ord l) = ksum l := by
  rw [kp_eq, ord, sum_ordTo, ← range_sum]
  congr 1
  apply List.map_congr_left
  intro s hs
  have hs' := List.mem_range.1 hs
  have := hok _ (List.getElem_mem hs')
  rw [← getD_get hs'] at this
  by_cases h : 1 ≤ l.getD s 0
  · rw [if_pos ⟨h, by omega⟩]
  · rw [if_neg (by omega)]; unfold kr; rw [if_neg (by omega)]
theorem was_top (l : List Int) : ∀ s ∈ ord l, (l.getD s 0).toNat ≤ was l (ord l) := by
  intro s hs
  have hp := sorted_ordTo l 15
  rw [show ordTo l 15 = ord l from rfl] at hp
  generalize ord l = p at *
  rcases List.eq_nil_or_concat p with e | ⟨q, t, e⟩
  · subst e; cases hs
  · subst e
    rw [List.concat_eq_append] at *
    rw [was_snoc]
    rcases List.mem_append.1 hs with h | h
    · have := (List.pairwise_append.1 hp).2.2 s h t (by simp)
      omega
    · rw [List.mem_singleton.1 h]; exact Nat.le_refl _
theorem ord_was (l : List Int) (h : was l (ord l) ≤ 15) : ordTo l (was l (ord l)) = ord l := by
  have ht := was_top l
  generalize was l (ord l) = k at *
  have : ∀ d, k + d ≤ 15 → ordTo l (k + d) = ordTo l k := by
    intro d
    induction d with
    | zero => intro _; rfl
    | succ d ih =>
      intro hd
      rw [← Nat.add_assoc, ordTo, ih (by omega)]
      have : inLen l (k + d + 1) l.length = [] := by
        apply List.eq_nil_iff_forall_not_mem.2
        intro s hs
        obtain ⟨h1, h2⟩ := mem_inLen.1 hs
        have := ht s (mem_ordTo.2 ⟨h1, by omega, by omega⟩)
        omega
      rw [this, List.append_nil]
  have := this (15 - k) (by omega)
  rw [show k + (15 - k) = 15 from by omega] at this
  exact this.symm
theorem ksum_many (l : List Int) : ksum l ≤ many l * 16384 := by
  induction l with
  | nil => simp [ksum, many]
  | cons x l ih =>
    have : kr x ≤ if 0 < x then 16384 else 0 := by
      unfold kr
      by_cases h : 0 < x
      · rw [if_pos h, if_pos h]
        exact Nat.le_trans (Nat.pow_le_pow_right (by decide) (show 15 - x.toNat ≤ 14 by omega)) (by decide)
      · rw [if_neg h, if_neg h]; exact Nat.le_refl _
    have e : many (x :: l) = (if 0 < x then 1 else 0) + many l := by
      unfold many
      by_cases h : 0 < x
      · rw [List.filter_cons, if_pos (by simpa using h), if_pos h, List.length_cons]; omega
      · rw [List.filter_cons, if_neg (by simpa using h), if_neg h]; omega
    have e2 : ksum (x :: l) = kr x + ksum l := rfl
    rw [e, e2]
    by_cases h : 0 < x
    · rw [if_pos h] at this ⊢; omega
    · rw [if_neg h] at this ⊢; omega
end Go.Proofs.YtobmghjpfkdooaaDoor
