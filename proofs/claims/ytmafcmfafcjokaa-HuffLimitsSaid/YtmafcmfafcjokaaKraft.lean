/- Plain laws of the lengths that package-merge tells: they are full, and cost no more with one bit more. -/
import Derived.Test.YtmafcmfafcjokaaPm
namespace Go.Proofs.Ytmafcmfafcjokaa

/-- The sum of a function over the numbers below n. -/
def upTo : Nat → (Nat → Nat) → Nat
  | 0, _ => 0
  | n + 1, f => upTo n f + f n
theorem upTo_add (n : Nat) (f g : Nat → Nat) : upTo n (fun r => f r + g r) = upTo n f + upTo n g := by
  induction n with
  | zero => rfl
  | succ n ih => simp only [upTo, ih]; omega
theorem upTo_congr {n : Nat} {f g : Nat → Nat} (h : ∀ r, r < n → f r = g r) : upTo n f = upTo n g := by
  induction n with
  | zero => rfl
  | succ n ih => simp only [upTo]; rw [ih (fun r hr => h r (by omega)), h n (by omega)]
theorem upTo_const (n c : Nat) : upTo n (fun _ => c) = n * c := by
  induction n with
  | zero => simp [upTo]
  | succ n ih => simp only [upTo, ih, Nat.succ_mul]
theorem upTo_ind (n t c : Nat) (h : t ≤ n) : upTo n (fun r => if r < t then c else 0) = t * c := by
  induction n with
  | zero => have : t = 0 := by omega
            subst this; simp [upTo]
  | succ n ih =>
    rcases Nat.lt_or_ge n t with h1 | h1
    · have e : t = n + 1 := by omega
      subst e
      rw [upTo_congr (g := fun _ => c) (fun r hr => if_pos hr), upTo_const]
    · simp only [upTo]; rw [ih h1, if_neg (by omega)]; rfl
theorem upTo_sub (n t : Nat) (f : Nat → Nat) (h : t ≤ n) : upTo n (fun r => if r < t then f r else 0) = upTo t f := by
  induction n with
  | zero => have : t = 0 := by omega
            subst this; rfl
  | succ n ih =>
    rcases Nat.lt_or_ge n t with h1 | h1
    · have e : t = n + 1 := by omega
      subst e
      exact upTo_congr (fun r hr => if_pos hr)
    · simp only [upTo]; rw [ih h1, if_neg (by omega)]; rfl
theorem upTo_le {n : Nat} {f g : Nat → Nat} (h : ∀ r, r < n → f r ≤ g r) : upTo n f ≤ upTo n g := by
  induction n with
  | zero => exact Nat.le_refl _
  | succ n ih => simp only [upTo]; have := ih (fun r hr => h r (by omega)); have := h n (by omega); omega
theorem upTo_one_le {n i : Nat} (f : Nat → Nat) (h : i < n) : f i ≤ upTo n f := by
  induction n with
  | zero => omega
  | succ n ih =>
    simp only [upTo]
    rcases Nat.lt_or_ge i n with h1 | h1
    · have := ih h1; omega
    · have : i = n := by omega
      subst this; omega
theorem upTo_two_le {n i j : Nat} (f : Nat → Nat) (h : i < n) (h2 : j < n) (hij : i ≠ j) : f i + f j ≤ upTo n f := by
  induction n with
  | zero => omega
  | succ n ih =>
    simp only [upTo]
    by_cases h1 : i = n
    · subst h1; have := upTo_one_le (n := i) (i := j) f (by omega); omega
    · by_cases h3 : j = n
      · subst h3; have := upTo_one_le (n := j) (i := i) f (by omega); omega
      · have := ih (by omega) (by omega); omega
theorem sum_take (l : List Nat) (t : Nat) (h : t ≤ l.length) : (l.take t).sum = upTo t fun r => l.getD r 0 := by
  induction t with
  | zero => simp [upTo]
  | succ t ih =>
    rw [List.take_succ_eq_append_getElem (by omega), List.sum_append, ih (by omega)]
    simp only [upTo, List.sum_cons, List.sum_nil, Nat.add_zero]
    rw [List.getD_eq_getElem?_getD, List.getElem?_eq_getElem (by omega)]; rfl

/-- How many of the numbers are greater than r: the length of the coin number r. -/
def rl : List Nat → Nat → Nat
  | [], _ => 0
  | t :: ts, r => (if r < t then 1 else 0) + rl ts r
theorem rl_le : ∀ (ts : List Nat) (r : Nat), rl ts r ≤ ts.length
  | [], _ => Nat.le_refl _
  | t :: ts, r => by have := rl_le ts r; simp only [rl, List.length_cons]; split <;> omega
theorem rl_anti : ∀ (ts : List Nat) (r q : Nat), r ≤ q → rl ts q ≤ rl ts r
  | [], _, _, _ => Nat.le_refl _
  | t :: ts, r, q, h => by have := rl_anti ts r q h; simp only [rl]; split <;> split <;> omega
theorem rl_zero : ∀ (ts : List Nat) (r : Nat), (∀ t ∈ ts, t ≤ r) → rl ts r = 0
  | [], _, _ => rfl
  | t :: ts, r, h => by simp only [rl]; rw [if_neg (by have := h t (by simp); omega), rl_zero ts r (fun x hx => h x (by simp [hx]))]
/-- The widths of the coins that are taken. -/
def wid : List Nat → Nat
  | [] => 0
  | t :: ts => t * 2 ^ ts.length + wid ts
def Desc (l : List Nat) : Prop := l.Pairwise (fun a b => b ≤ a)
theorem kraft (n : Nat) : ∀ ts : List Nat, Desc ts → (∀ t ∈ ts, t ≤ n) → wid ts + upTo n (fun r => 2 ^ (ts.length - rl ts r)) = n * 2 ^ ts.length
  | [], _, _ => by simp [wid, rl, upTo_const]
  | t :: ts, hd, hn => by
    have ih := kraft n ts (List.pairwise_cons.1 hd).2 (fun x hx => hn x (by simp [hx]))
    have hmax := (List.pairwise_cons.1 hd).1
    have e : ∀ r, r < n → 2 ^ ((t :: ts).length - rl (t :: ts) r) + (if r < t then 2 ^ ts.length else 0) = 2 ^ (ts.length - rl ts r) + 2 ^ ts.length := by
      intro r _
      simp only [rl, List.length_cons]
      by_cases h : r < t
      · rw [if_pos h, if_pos h]
        have := rl_le ts r
        congr 2; omega
      · rw [if_neg h, if_neg h, rl_zero ts r (fun x hx => by have := hmax x hx; omega)]
        simp only [Nat.sub_zero, Nat.add_zero, Nat.pow_succ]; omega
    have e2 := upTo_congr e
    rw [upTo_add, upTo_add, upTo_ind n t _ (hn t (by simp)), upTo_const] at e2
    simp only [wid, List.length_cons, Nat.pow_succ]
    simp only [List.length_cons] at e2
    have e3 : n * (2 ^ ts.length * 2) = n * 2 ^ ts.length + n * 2 ^ ts.length := by rw [← Nat.mul_assoc]; omega
    rw [e3]
    omega
theorem wid_cc (ws : List Nat) : ∀ k a, a ≤ (rowN ws k).length → wid (cc ws k a) = a * 2 ^ k
  | 0, a, h => by
    have hl : (rowN ws 0).length = ws.length := by simp [rowN, length_mrg]
    have h0 : tk (rowN ws 0) a = a := by
      unfold tk coinsIn; rw [rowN, mrg_none, ← List.map_take, List.filter_map, List.length_map]
      rw [List.filter_eq_self.2 (by simp), List.length_take]; omega
    simp [cc, wid, h0]
  | k + 1, a, h => by
    have hp := pairs_enough ws k a h
    have hle := tk_le (rowN ws (k + 1)) a
    simp only [cc, wid, length_cc]
    rw [wid_cc ws k _ hp]
    generalize tk (rowN ws (k + 1)) a = t at *
    obtain ⟨q, rfl⟩ : ∃ q, a = t + q := ⟨a - t, by omega⟩
    rw [Nat.add_sub_cancel_left, Nat.pow_succ, Nat.add_mul, Nat.mul_comm (2 ^ k) 2, ← Nat.mul_assoc q, Nat.mul_comm q 2]
theorem cc_le (ws : List Nat) : ∀ k a, a ≤ (rowN ws k).length → ∀ t ∈ cc ws k a, t ≤ ws.length
  | 0, a, h, t, ht => by simp [cc] at ht; subst ht; exact tk_first ws 0 a h
  | k + 1, a, h, t, ht => by
    simp only [cc, List.mem_cons] at ht
    rcases ht with rfl | ht
    · exact tk_first ws (k + 1) a h
    · exact cc_le ws k _ (pairs_enough ws k a h) t ht
theorem cc_head (ws : List Nat) (k a : Nat) : (cc ws k a).head? = some (tk (rowN ws k) a) := by cases k <;> rfl
theorem cc_desc (ws : List Nat) (hs : Asc ws) : ∀ k a, a ≤ (rowN ws k).length → Desc (cc ws k a) ∧ ∀ t ∈ cc ws k a, t ≤ tk (rowN ws k) a
  | 0, a, h => by simp [cc, Desc]
  | k + 1, a, h => by
    obtain ⟨i1, i2⟩ := cc_desc ws hs k _ (pairs_enough ws k a h)
    have hn := nested ws hs k a h
    refine ⟨List.pairwise_cons.2 ⟨fun t ht => Nat.le_trans (i2 t ht) hn, i1⟩, fun t ht => ?_⟩
    simp only [cc, List.mem_cons] at ht
    rcases ht with rfl | ht
    · exact Nat.le_refl _
    · exact Nat.le_trans (i2 t ht) hn

/-- The lengths of coins. -/
def lensOf (ws : List Nat) (k : Nat) : List Nat := cc ws k (2 * ws.length - 2)
section
variable (ws : List Nat) (hs : Asc ws) (k : Nat) (h : ws.length ≤ 2 ^ (k + 1)) (h2 : 2 ≤ ws.length)
include hs h h2
theorem full_sum : upTo ws.length (fun r => 2 ^ (k + 1 - rl (lensOf ws k) r)) = 2 ^ (k + 1) := by
  have he := row_enough ws k h h2
  have h1 := kraft ws.length (lensOf ws k) (cc_desc ws hs k _ he).1 (cc_le ws k _ he)
  have h3 : wid (lensOf ws k) = _ := wid_cc ws k _ he
  have h4 : (lensOf ws k).length = k + 1 := length_cc ws k _
  rw [h3, h4] at h1
  have e : (2 * ws.length - 2) * 2 ^ k = (ws.length - 1) * 2 ^ (k + 1) := by
    rw [show 2 * ws.length - 2 = (ws.length - 1) * 2 from by omega, Nat.pow_succ, Nat.mul_assoc, Nat.mul_comm 2]
  have e2 : ws.length * 2 ^ (k + 1) = (ws.length - 1) * 2 ^ (k + 1) + 2 ^ (k + 1) := by
    conv => lhs; rw [show ws.length = (ws.length - 1) + 1 from by omega, Nat.add_mul, Nat.one_mul]
  omega
theorem rl_pos (r : Nat) (hr : r < ws.length) : 0 < rl (lensOf ws k) r := by
  apply Classical.byContradiction
  intro hc
  have h0 : rl (lensOf ws k) r = 0 := by omega
  have hf := full_sum ws hs k h h2
  have hq : ∃ q, q < ws.length ∧ r ≠ q := by
    rcases Nat.eq_zero_or_pos r with e | e
    · exact ⟨1, by omega, by omega⟩
    · exact ⟨0, by omega, by omega⟩
  obtain ⟨q, hq, hne⟩ := hq
  have := upTo_two_le (fun r => 2 ^ (k + 1 - rl (lensOf ws k) r)) hr hq hne
  simp only [h0, Nat.sub_zero] at this
  have := Nat.two_pow_pos (k + 1 - rl (lensOf ws k) q)
  omega
omit hs h h2 in
theorem rl_most (r : Nat) : rl (lensOf ws k) r ≤ k + 1 := by
  have := rl_le (lensOf ws k) r
  have h4 : (lensOf ws k).length = k + 1 := length_cc ws k _
  omega
theorem full_15 (hk : k + 1 ≤ 15) : upTo ws.length (fun r => 2 ^ (15 - rl (lensOf ws k) r)) = 2 ^ 15 := by
  have hf := full_sum ws hs k h h2
  have e : ∀ r, 2 ^ (15 - rl (lensOf ws k) r) = 2 ^ (15 - (k + 1)) * 2 ^ (k + 1 - rl (lensOf ws k) r) := by
    intro r
    have := rl_most ws k r
    rw [← Nat.pow_add]; congr 1; omega
  have e2 : ∀ (n c : Nat) (f : Nat → Nat), upTo n (fun r => c * f r) = c * upTo n f := by
    intro n c f
    induction n with
    | zero => rfl
    | succ n ih => simp only [upTo, ih, Nat.mul_add]
  rw [upTo_congr (fun r _ => e r), e2, hf, ← Nat.pow_add]
  congr 1; omega
end

/-! What lengths cost. -/
theorem cost_rl (ws : List Nat) : ∀ ts : List Nat, (∀ t ∈ ts, t ≤ ws.length) → upTo ws.length (fun r => rl ts r * ws.getD r 0) = (ts.map fun t => (ws.take t).sum).sum
  | [], _ => by simp [rl, upTo_const]
  | t :: ts, h => by
    have ih := cost_rl ws ts (fun x hx => h x (by simp [hx]))
    have e : ∀ r, r < ws.length → rl (t :: ts) r * ws.getD r 0 = (if r < t then ws.getD r 0 else 0) + rl ts r * ws.getD r 0 := by
      intro r _
      simp only [rl, Nat.add_mul]
      split <;> simp
    rw [upTo_congr e, upTo_add, ih, upTo_sub _ _ _ (h t (by simp)), List.map_cons, List.sum_cons, sum_take ws t (h t (by simp))]
theorem prs_take : ∀ (l : List (Nat × Bool)) (q : Nat), 2 * q ≤ l.length → ((prs l).take q).sum = ((l.take (2 * q)).map (·.1)).sum
  | _, 0, _ => by simp
  | [], q + 1, h => by simp at h
  | [_], q + 1, h => by simp at h; omega
  | a :: b :: l, q + 1, h => by
    have := prs_take l q (by simp at h; omega)
    rw [show 2 * (q + 1) = 2 * q + 1 + 1 from by omega]
    simp only [prs, List.take_succ_cons, List.sum_cons, List.map_cons, this]
    omega
theorem cost_cc (ws : List Nat) : ∀ k a, a ≤ (rowN ws k).length → ((cc ws k a).map fun t => (ws.take t).sum).sum = (((rowN ws k).take a).map (·.1)).sum
  | 0, a, h => by
    have hm := length_mrg ws []
    have hf := (mrg_first ws [] a (by simp only [rowN] at h; omega)).2.2 id
    simp only [cc, rowN, List.map_cons, List.map_nil, List.sum_cons, List.sum_nil, Nat.add_zero]
    simp at hf ⊢
    omega
  | k + 1, a, h => by
    have hp := pairs_enough ws k a h
    have hm := length_mrg ws (prs (rowN ws k))
    have hf := (mrg_first ws (prs (rowN ws k)) a (by simp only [rowN] at h; omega)).2.2 id
    have ih := cost_cc ws k _ hp
    have e : rowN ws (k + 1) = mrg ws (prs (rowN ws k)) := rfl
    simp only [cc, List.map_cons, List.sum_cons, ih]
    rw [← prs_take _ _ hp, e]
    simp only [List.map_id, id_eq] at hf
    exact hf.symm

/-! One row more costs no more. -/
def cnt (l : List Nat) (x : Nat) : Nat := (l.filter fun y => decide (y ≤ x)).length
theorem cnt_mrg (cs ps : List Nat) (x : Nat) : cnt ((mrg cs ps).map (·.1)) x = cnt cs x + cnt ps x := by
  unfold cnt
  induction cs, ps using mrg_rec with
  | h1 ps => rw [mrg_nil, List.map_map]; simp [Function.comp_def]
  | h2 cs => rw [mrg_none, List.map_map]; simp [Function.comp_def]
  | h3 c cs p ps h ih =>
    rw [mrg_lt h]; simp only [List.map_cons, List.filter_cons] at ih ⊢
    split <;> simp_all; omega
  | h4 c cs p ps h ih =>
    rw [mrg_ge h]; simp only [List.map_cons, List.filter_cons] at ih ⊢
    split <;> simp_all <;> omega
/-- A is at least as long as B, and at each place no greater. -/
def Dom (A B : List Nat) : Prop := B.length ≤ A.length ∧ ∀ i, i < B.length → A.getD i 0 ≤ B.getD i 0
theorem dom_cnt : ∀ {A B : List Nat}, Dom A B → ∀ x, cnt B x ≤ cnt A x
  | A, [], _, x => Nat.zero_le _
  | [], b :: B, h, x => by have := h.1; simp at this
  | a :: A, b :: B, h, x => by
    have h0 := h.2 0 (by simp)
    have ih := dom_cnt (A := A) (B := B) ⟨by have := h.1; simpa using this, fun i hi => by have := h.2 (i + 1) (by simpa using hi); simpa using this⟩ x
    simp only [List.getD_cons_zero] at h0
    unfold cnt at ih ⊢
    simp only [List.filter_cons]
    split <;> split <;> simp_all <;> omega
theorem cnt_take (A : List Nat) (x i : Nat) (h : ∀ j, j < i → j < A.length → A.getD j 0 ≤ x) (hi : i ≤ A.length) : i ≤ cnt A x := by
  induction A generalizing i with
  | nil => simp at hi; omega
  | cons a A ih =>
    cases i with
    | zero => exact Nat.zero_le _
    | succ i =>
      have h0 := h 0 (by omega) (by simp)
      have := ih i (fun j hj hl => by have := h (j + 1) (by omega) (by simpa using hl); simpa using this) (by simpa using hi)
      simp only [List.getD_cons_zero] at h0
      unfold cnt at this ⊢
      rw [List.filter_cons, if_pos (by simpa using h0), List.length_cons]
      omega
theorem cnt_le_take (A : List Nat) (x i : Nat) (h : ∀ j, i ≤ j → j < A.length → x < A.getD j 0) : cnt A x ≤ i := by
  induction A generalizing i with
  | nil => exact Nat.zero_le _
  | cons a A ih =>
    cases i with
    | zero =>
      unfold cnt
      rw [List.filter_eq_nil_iff.2 ?_]
      · exact Nat.le_refl _
      · intro y hy
        obtain ⟨j, hj, rfl⟩ := List.getElem_of_mem hy
        have := h j (Nat.zero_le _) hj
        rw [List.getD_eq_getElem?_getD, List.getElem?_eq_getElem hj] at this
        simpa using this
    | succ i =>
      have := ih i (fun j hj hl => by have := h (j + 1) (by omega) (by simpa using hl); simpa using this)
      unfold cnt at this ⊢
      rw [List.filter_cons]
      split <;> simp <;> omega
theorem asc_getD {A : List Nat} (h : Asc A) {i j : Nat} (hij : i ≤ j) (hj : j < A.length) : A.getD i 0 ≤ A.getD j 0 := by
  rw [List.getD_eq_getElem?_getD, List.getD_eq_getElem?_getD, List.getElem?_eq_getElem hj, List.getElem?_eq_getElem (by omega)]
  simp only [Option.getD_some]
  rcases Nat.lt_or_ge i j with h1 | h1
  · exact List.pairwise_iff_getElem.1 h _ _ (by omega) hj h1
  · have : i = j := by omega
    subst this; exact Nat.le_refl _
theorem cnt_dom {A B : List Nat} (hA : Asc A) (hB : Asc B) (hl : B.length ≤ A.length) (h : ∀ x, cnt B x ≤ cnt A x) : Dom A B := by
  refine ⟨hl, fun i hi => ?_⟩
  apply Classical.byContradiction
  intro hc
  have h1 := cnt_take B (B.getD i 0) (i + 1) (fun j hj hl' => asc_getD hB (by omega) hi) (by omega)
  have h2 := cnt_le_take A (B.getD i 0) i (fun j hj hl' => by have := asc_getD hA hj hl'; omega)
  have := h (B.getD i 0)
  omega
theorem dom_mrg {cs ps qs : List Nat} (hc : Asc cs) (hp : Asc ps) (hq : Asc qs) (h : Dom ps qs) : Dom ((mrg cs ps).map (·.1)) ((mrg cs qs).map (·.1)) := by
  refine cnt_dom (mrg_asc _ _ hc hp) (mrg_asc _ _ hc hq) (by simp only [List.length_map, length_mrg]; have := h.1; omega) (fun x => ?_)
  rw [cnt_mrg, cnt_mrg]
  have := dom_cnt h x
  omega
theorem prs_getD : ∀ (l : List (Nat × Bool)) (i : Nat), i < l.length / 2 → (prs l).getD i 0 = (l.map (·.1)).getD (2 * i) 0 + (l.map (·.1)).getD (2 * i + 1) 0
  | [], i, h => by simp at h
  | [_], i, h => by simp at h
  | a :: b :: l, 0, h => by simp [prs]
  | a :: b :: l, i + 1, h => by
    have := prs_getD l i (by simp at h; omega)
    rw [show 2 * (i + 1) = 2 * i + 1 + 1 from by omega]
    simpa [prs] using this
theorem dom_prs {A B : List (Nat × Bool)} (h : Dom (A.map (·.1)) (B.map (·.1))) : Dom (prs A) (prs B) := by
  have hl := h.1
  simp only [List.length_map] at hl
  refine ⟨by rw [length_prs, length_prs]; omega, fun i hi => ?_⟩
  rw [length_prs] at hi
  rw [prs_getD _ _ (by omega), prs_getD _ _ hi]
  have h1 := h.2 (2 * i) (by rw [List.length_map]; omega)
  have h2 := h.2 (2 * i + 1) (by rw [List.length_map]; omega)
  omega
theorem dom_rows (ws : List Nat) (hs : Asc ws) : ∀ k, Dom ((rowN ws (k + 1)).map (·.1)) ((rowN ws k).map (·.1))
  | 0 => dom_mrg hs (prs_asc _ (row_asc ws hs 0)) List.Pairwise.nil ⟨Nat.zero_le _, fun i hi => by simp at hi⟩
  | k + 1 => dom_mrg hs (prs_asc _ (row_asc ws hs (k + 1))) (prs_asc _ (row_asc ws hs k)) (dom_prs (dom_rows ws hs k))
theorem dom_sum {A B : List Nat} (h : Dom A B) (m : Nat) (hm : m ≤ B.length) : (A.take m).sum ≤ (B.take m).sum := by
  rw [sum_take A m (by have := h.1; omega), sum_take B m hm]
  exact upTo_le (fun r hr => h.2 r (by omega))
/-- With one bit more the lengths cost no more. -/
theorem cost_less (ws : List Nat) (hs : Asc ws) (k : Nat) (h : ws.length ≤ 2 ^ (k + 1)) (h2 : 2 ≤ ws.length) :
    upTo ws.length (fun r => rl (lensOf ws (k + 1)) r * ws.getD r 0) ≤ upTo ws.length (fun r => rl (lensOf ws k) r * ws.getD r 0) := by
  have he := row_enough ws k h h2
  have hd := dom_rows ws hs k
  have he' : 2 * ws.length - 2 ≤ (rowN ws (k + 1)).length := by have := hd.1; simp only [List.length_map] at this; omega
  rw [lensOf, lensOf, cost_rl ws _ (cc_le ws _ _ he'), cost_rl ws _ (cc_le ws _ _ he), cost_cc ws _ _ he', cost_cc ws _ _ he, List.map_take, List.map_take]
  exact dom_sum hd _ (by rw [List.length_map]; exact he)
end Go.Proofs.Ytmafcmfafcjokaa
