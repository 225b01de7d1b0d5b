/- Plain laws of package-merge: rows of coins and pairs, how many coins are taken of each row. -/
namespace Go.Proofs.Ytmafcmfafcjokaa

/-- A coin laid among pairs, and what f makes of the pairs behind it. -/
def mrgIn (c : Nat) (f : List Nat → List (Nat × Bool)) : List Nat → List (Nat × Bool)
  | [] => (c, false) :: f []
  | p :: ps => if p < c then (p, true) :: mrgIn c f ps else (c, false) :: f (p :: ps)
/-- A row of coins and of pairs: weight, and whether it is a pair. Coins are ahead where the weights are equal. -/
def mrg : List Nat → List Nat → List (Nat × Bool)
  | [], ps => ps.map fun p => (p, true)
  | c :: cs, ps => mrgIn c (mrg cs) ps
/-- The weights of the pairs of a row. -/
def prs : List (Nat × Bool) → List Nat
  | a :: b :: l => (a.1 + b.1) :: prs l
  | _ => []
/-- Row number k, counted from 0. -/
def rowN (ws : List Nat) : Nat → List (Nat × Bool)
  | 0 => mrg ws []
  | k + 1 => mrg ws (prs (rowN ws k))
/-- How many coins are among items. -/
def coinsIn (l : List (Nat × Bool)) : Nat := (l.filter fun x => !x.2).length
/-- How many coins are among the first a items. -/
def tk (row : List (Nat × Bool)) (a : Nat) : Nat := coinsIn (row.take a)

theorem mrg_nil (ps : List Nat) : mrg [] ps = ps.map fun p => (p, true) := rfl
theorem mrg_none : ∀ cs : List Nat, mrg cs [] = cs.map fun p => (p, false)
  | [] => rfl
  | c :: cs => by show (c, false) :: mrg cs [] = _; rw [mrg_none cs]; rfl
theorem mrg_lt {c p : Nat} {cs ps : List Nat} (h : p < c) : mrg (c :: cs) (p :: ps) = (p, true) :: mrg (c :: cs) ps := by
  show mrgIn c (mrg cs) (p :: ps) = _; rw [mrgIn, if_pos h]; rfl
theorem mrg_ge {c p : Nat} {cs ps : List Nat} (h : ¬ p < c) : mrg (c :: cs) (p :: ps) = (c, false) :: mrg cs (p :: ps) := by
  show mrgIn c (mrg cs) (p :: ps) = _; rw [mrgIn, if_neg h]
theorem mrg_coin {c : Nat} {cs ps : List Nat} (h : ∀ p, ps.head? = some p → ¬ p < c) : mrg (c :: cs) ps = (c, false) :: mrg cs ps := by
  cases ps with
  | nil => simp [mrg_none]
  | cons p ps => exact mrg_ge (h p rfl)

/-- What a merge is, as a recursion to lean on. -/
theorem mrg_rec {P : List Nat → List Nat → Prop} (h1 : ∀ ps, P [] ps) (h2 : ∀ cs, P cs []) (h3 : ∀ c cs p ps, p < c → P (c :: cs) ps → P (c :: cs) (p :: ps)) (h4 : ∀ c cs p ps, ¬ p < c → P cs (p :: ps) → P (c :: cs) (p :: ps)) :
    ∀ cs ps, P cs ps := by
  intro cs ps
  induction h : cs.length + ps.length generalizing cs ps with
  | zero =>
    cases cs with
    | nil => exact h1 ps
    | cons c cs => simp at h
  | succ n ih =>
    cases cs with
    | nil => exact h1 ps
    | cons c cs =>
      cases ps with
      | nil => exact h2 _
      | cons p ps =>
        by_cases hp : p < c
        · exact h3 _ _ _ _ hp (ih _ _ (by simp at h ⊢; omega))
        · exact h4 _ _ _ _ hp (ih _ _ (by simp at h ⊢; omega))

theorem length_mrg (cs ps : List Nat) : (mrg cs ps).length = cs.length + ps.length := by
  induction cs, ps using mrg_rec with
  | h1 ps => simp [mrg_nil]
  | h2 cs => simp [mrg_none]
  | h3 c cs p ps h ih => rw [mrg_lt h]; simp at ih ⊢; omega
  | h4 c cs p ps h ih => rw [mrg_ge h]; simp at ih ⊢; omega
theorem length_prs : ∀ l : List (Nat × Bool), (prs l).length = l.length / 2
  | [] => rfl
  | [_] => by simp [prs]
  | a :: b :: l => by simp [prs, length_prs l]; omega
theorem tk_zero (row : List (Nat × Bool)) : tk row 0 = 0 := rfl
theorem tk_cons (x : Nat × Bool) (row : List (Nat × Bool)) (a : Nat) : tk (x :: row) (a + 1) = (if x.2 then 0 else 1) + tk row a := by
  unfold tk coinsIn; cases h : x.2 <;> simp [h]; omega
theorem tk_le (row : List (Nat × Bool)) (a : Nat) : tk row a ≤ a := by
  unfold tk coinsIn
  have := List.length_filter_le (fun x : Nat × Bool => !x.2) (row.take a)
  rw [List.length_take] at this; omega

/-- The first items of a merge: its first coins and its first pairs. -/
theorem mrg_first (cs ps : List Nat) : ∀ a, a ≤ cs.length + ps.length →
    tk (mrg cs ps) a ≤ cs.length ∧ a - tk (mrg cs ps) a ≤ ps.length ∧
    (∀ f : Nat → Nat, (((mrg cs ps).take a).map fun x => f x.1).sum = ((cs.take (tk (mrg cs ps) a)).map f).sum + ((ps.take (a - tk (mrg cs ps) a)).map f).sum) := by
  induction cs, ps using mrg_rec with
  | h1 ps =>
    intro a ha
    have h0 : tk (mrg [] ps) a = 0 := by
      unfold tk coinsIn; rw [mrg_nil, ← List.map_take, List.filter_map]; simp
    rw [h0, mrg_nil]
    refine ⟨Nat.zero_le _, by simp at ha ⊢; omega, fun f => ?_⟩
    rw [← List.map_take, List.map_map]; simp [Function.comp_def]
  | h2 cs =>
    intro a ha
    simp only [List.length_nil, Nat.add_zero] at ha
    have h0 : tk (mrg cs []) a = a := by
      unfold tk coinsIn; rw [mrg_none, ← List.map_take, List.filter_map, List.length_map]
      rw [List.filter_eq_self.2 (by simp), List.length_take]; omega
    rw [h0, mrg_none]
    refine ⟨ha, by omega, fun f => ?_⟩
    rw [← List.map_take, List.map_map]; simp [Function.comp_def]
  | h3 c cs p ps h ih =>
    intro a ha
    rw [mrg_lt h]
    cases a with
    | zero => simp [tk_zero]
    | succ a =>
      obtain ⟨i1, i2, i3⟩ := ih a (by simp at ha ⊢; omega)
      rw [tk_cons]
      simp only [if_true, Nat.zero_add]
      have hle := tk_le (mrg (c :: cs) ps) a
      have e : a + 1 - tk (mrg (c :: cs) ps) a = (a - tk (mrg (c :: cs) ps) a) + 1 := by omega
      rw [e]
      refine ⟨i1, by simp; omega, fun f => ?_⟩
      have := i3 f
      simp only [List.take_succ_cons, List.map_cons, List.sum_cons]
      omega
  | h4 c cs p ps h ih =>
    intro a ha
    rw [mrg_ge h]
    cases a with
    | zero => simp [tk_zero]
    | succ a =>
      obtain ⟨i1, i2, i3⟩ := ih a (by simp at ha ⊢; omega)
      rw [tk_cons]
      simp only [Bool.false_eq_true, if_false]
      have e : a + 1 - (1 + tk (mrg cs (p :: ps)) a) = a - tk (mrg cs (p :: ps)) a := by omega
      rw [e, Nat.add_comm 1]
      refine ⟨by simp; omega, i2, fun f => ?_⟩
      have := i3 f
      simp only [List.take_succ_cons, List.map_cons, List.sum_cons]
      omega

/-- The last pair among the first items is less than the first coin behind them. -/
theorem mrg_edge (cs ps : List Nat) : cs.Pairwise (· ≤ ·) → ∀ a, a ≤ cs.length + ps.length → tk (mrg cs ps) a < a → tk (mrg cs ps) a < cs.length →
    ps.getD (a - tk (mrg cs ps) a - 1) 0 < cs.getD (tk (mrg cs ps) a) 0 := by
  induction cs, ps using mrg_rec with
  | h1 ps => intro _ a ha hq ht; simp at ht
  | h2 cs =>
    intro _ a ha hq ht
    exfalso
    simp only [List.length_nil, Nat.add_zero] at ha
    have h0 : tk (mrg cs []) a = a := by
      unfold tk coinsIn; rw [mrg_none, ← List.map_take, List.filter_map, List.length_map]
      rw [List.filter_eq_self.2 (by simp), List.length_take]; omega
    omega
  | h3 c cs p ps h ih =>
    intro hs a ha hq ht
    rw [mrg_lt h] at hq ht ⊢
    cases a with
    | zero => omega
    | succ a =>
      rw [tk_cons] at hq ht ⊢
      simp only [if_true, Nat.zero_add] at hq ht ⊢
      by_cases e : tk (mrg (c :: cs) ps) a < a
      · have := ih hs a (by simp at ha ⊢; omega) e ht
        have e2 : a + 1 - tk (mrg (c :: cs) ps) a - 1 = (a - tk (mrg (c :: cs) ps) a - 1) + 1 := by omega
        rw [e2, List.getD_cons_succ]; exact this
      · have hle := tk_le (mrg (c :: cs) ps) a
        have e2 : a + 1 - tk (mrg (c :: cs) ps) a - 1 = 0 := by omega
        rw [e2, List.getD_cons_zero]
        -- all of the first a are coins: the coin behind them is no less than c
        generalize tk (mrg (c :: cs) ps) a = t at ht ⊢
        cases t with
        | zero => exact h
        | succ t =>
          rw [List.getD_cons_succ]
          have ht' : t < cs.length := by simpa using ht
          have := (List.pairwise_cons.1 hs).1 cs[t] (List.getElem_mem ht')
          rw [List.getD_eq_getElem?_getD, List.getElem?_eq_getElem ht']
          exact Nat.lt_of_lt_of_le h this
  | h4 c cs p ps h ih =>
    intro hs a ha hq ht
    rw [mrg_ge h] at hq ht ⊢
    cases a with
    | zero => omega
    | succ a =>
      rw [tk_cons] at hq ht ⊢
      simp only [Bool.false_eq_true, if_false] at hq ht ⊢
      have := ih (List.pairwise_cons.1 hs).2 a (by simp at ha ⊢; omega) (by omega) (by simp at ht; omega)
      have e2 : a + 1 - (1 + tk (mrg cs (p :: ps)) a) - 1 = a - tk (mrg cs (p :: ps)) a - 1 := by omega
      rw [e2, Nat.add_comm 1, List.getD_cons_succ]; exact this

/-- How many coins are taken of each row, the last one first: row number k, so many items of it. -/
def cc (ws : List Nat) : Nat → Nat → List Nat
  | 0, a => [tk (rowN ws 0) a]
  | k + 1, a => tk (rowN ws (k + 1)) a :: cc ws k (2 * (a - tk (rowN ws (k + 1)) a))
theorem length_cc (ws : List Nat) : ∀ k a, (cc ws k a).length = k + 1
  | 0, a => rfl
  | k + 1, a => by simp [cc, length_cc ws k]
/-- A row has items enough: so many fewer than twice the coins. -/
theorem length_row (ws : List Nat) : ∀ k, ws.length ≤ 2 ^ k * (2 * ws.length - (rowN ws k).length) ∧ (rowN ws k).length ≤ 2 * ws.length ∧ ws.length ≤ (rowN ws k).length ∧ (2 * ws.length - (rowN ws k).length - 1) * 2 ^ k < ws.length + (if ws.length = 0 then 1 else 0)
  | 0 => by
    have := length_mrg ws []
    simp only [rowN, this, List.length_nil, Nat.add_zero, Nat.pow_zero, Nat.mul_one, Nat.one_mul]
    split <;> omega
  | k + 1 => by
    obtain ⟨h1, h2, h3, h4⟩ := length_row ws k
    have e : (rowN ws (k + 1)).length = ws.length + (rowN ws k).length / 2 := by simp [rowN, length_mrg, length_prs]
    rw [e]
    have hp := Nat.two_pow_pos k
    refine ⟨?_, by omega, by omega, ?_⟩
    · refine Nat.le_trans h1 ?_
      rw [Nat.pow_succ, Nat.mul_assoc]
      exact Nat.mul_le_mul_left _ (by omega)
    · rw [Nat.pow_succ, Nat.mul_comm (2 ^ k) 2, ← Nat.mul_assoc]
      refine Nat.lt_of_le_of_lt (Nat.mul_le_mul_right _ ?_) h4
      omega
/-- Enough items to make up all lengths. -/
theorem row_enough (ws : List Nat) (k : Nat) (h : ws.length ≤ 2 ^ (k + 1)) (h2 : 2 ≤ ws.length) : 2 * ws.length - 2 ≤ (rowN ws k).length := by
  obtain ⟨_, h3, _, h4⟩ := length_row ws k
  rw [if_neg (by omega), Nat.add_zero] at h4
  rw [Nat.pow_succ, Nat.mul_comm] at h
  apply Classical.byContradiction
  intro hc
  have hx : 2 ≤ 2 * ws.length - (rowN ws k).length - 1 := by omega
  have := Nat.mul_le_mul_right (2 ^ k) hx
  omega

theorem pairs_enough (ws : List Nat) (k a : Nat) (h : a ≤ (rowN ws (k + 1)).length) : 2 * (a - tk (rowN ws (k + 1)) a) ≤ (rowN ws k).length := by
  have e : rowN ws (k + 1) = mrg ws (prs (rowN ws k)) := rfl
  have hm := length_mrg ws (prs (rowN ws k))
  rw [e] at h ⊢
  have := (mrg_first ws (prs (rowN ws k)) a (by omega)).2.1
  rw [length_prs] at this
  omega
theorem tk_first (ws : List Nat) (k a : Nat) (h : a ≤ (rowN ws k).length) : tk (rowN ws k) a ≤ ws.length := by
  cases k with
  | zero =>
    have hm := length_mrg ws []
    exact (mrg_first ws [] a (by simp only [rowN] at h; omega)).1
  | succ k =>
    have hm := length_mrg ws (prs (rowN ws k))
    exact (mrg_first ws _ a (by simp only [rowN] at h; omega)).1

/-! Sorted rows. -/
def Asc (l : List Nat) : Prop := l.Pairwise (· ≤ ·)
theorem mrg_mem {cs ps : List Nat} {x : Nat × Bool} : x ∈ mrg cs ps → (x.1 ∈ cs ∧ x.2 = false) ∨ (x.1 ∈ ps ∧ x.2 = true) := by
  induction cs, ps using mrg_rec with
  | h1 ps => rw [mrg_nil]; simp only [List.mem_map]; rintro ⟨p, hp, rfl⟩; exact .inr ⟨hp, rfl⟩
  | h2 cs => rw [mrg_none]; simp only [List.mem_map]; rintro ⟨p, hp, rfl⟩; exact .inl ⟨hp, rfl⟩
  | h3 c cs p ps h ih =>
    rw [mrg_lt h]; intro hx
    rcases List.mem_cons.1 hx with rfl | hx
    · exact .inr ⟨by simp, rfl⟩
    · rcases ih hx with h | h
      · exact .inl h
      · exact .inr ⟨List.mem_cons_of_mem _ h.1, h.2⟩
  | h4 c cs p ps h ih =>
    rw [mrg_ge h]; intro hx
    rcases List.mem_cons.1 hx with rfl | hx
    · exact .inl ⟨by simp, rfl⟩
    · rcases ih hx with h | h
      · exact .inl ⟨List.mem_cons_of_mem _ h.1, h.2⟩
      · exact .inr h
theorem mrg_asc (cs ps : List Nat) : Asc cs → Asc ps → Asc ((mrg cs ps).map (·.1)) := by
  unfold Asc
  induction cs, ps using mrg_rec with
  | h1 ps => intro _ h; rw [mrg_nil, List.map_map]; simpa [Function.comp_def] using h
  | h2 cs => intro h _; rw [mrg_none, List.map_map]; simpa [Function.comp_def] using h
  | h3 c cs p ps h ih =>
    intro h1 h2
    rw [mrg_lt h, List.map_cons, List.pairwise_cons]
    refine ⟨fun y hy => ?_, ih h1 (List.pairwise_cons.1 h2).2⟩
    obtain ⟨x, hx, rfl⟩ := List.mem_map.1 hy
    rcases mrg_mem hx with ⟨h3, _⟩ | ⟨h3, _⟩
    · rcases List.mem_cons.1 h3 with h4 | h4
      · show p ≤ x.1; omega
      · have := (List.pairwise_cons.1 h1).1 _ h4; show p ≤ x.1; omega
    · exact (List.pairwise_cons.1 h2).1 _ h3
  | h4 c cs p ps h ih =>
    intro h1 h2
    rw [mrg_ge h, List.map_cons, List.pairwise_cons]
    refine ⟨fun y hy => ?_, ih (List.pairwise_cons.1 h1).2 h2⟩
    obtain ⟨x, hx, rfl⟩ := List.mem_map.1 hy
    rcases mrg_mem hx with ⟨h3, _⟩ | ⟨h3, _⟩
    · exact (List.pairwise_cons.1 h1).1 _ h3
    · rcases List.mem_cons.1 h3 with h4 | h4
      · show c ≤ x.1; omega
      · have := (List.pairwise_cons.1 h2).1 _ h4; show c ≤ x.1; omega
theorem prs_mem : ∀ {l : List (Nat × Bool)} {y : Nat}, y ∈ prs l → ∃ a ∈ l, ∃ b ∈ l, y = a.1 + b.1
  | [], y, h => by simp [prs] at h
  | [_], y, h => by simp [prs] at h
  | a :: b :: l, y, h => by
    simp only [prs, List.mem_cons] at h
    rcases h with rfl | h
    · exact ⟨a, by simp, b, by simp, rfl⟩
    · obtain ⟨a', ha, b', hb, e⟩ := prs_mem h
      exact ⟨a', by simp [ha], b', by simp [hb], e⟩
theorem prs_asc : ∀ l : List (Nat × Bool), Asc (l.map (·.1)) → Asc (prs l)
  | [], _ => List.Pairwise.nil
  | [_], _ => by simp [prs, Asc]
  | a :: b :: l, h => by
    unfold Asc at h ⊢
    simp only [List.map_cons, List.pairwise_cons] at h
    simp only [prs, List.pairwise_cons]
    refine ⟨fun y hy => ?_, prs_asc l h.2.2⟩
    obtain ⟨u, hu, v, hv, rfl⟩ := prs_mem hy
    have h1 := h.1 u.1 (List.mem_cons_of_mem _ (List.mem_map_of_mem hu))
    have h2 := h.2.1 v.1 (List.mem_map_of_mem hv)
    omega
theorem row_asc (ws : List Nat) (h : Asc ws) : ∀ k, Asc ((rowN ws k).map (·.1))
  | 0 => mrg_asc _ _ h List.Pairwise.nil
  | k + 1 => mrg_asc _ _ h (prs_asc _ (row_asc ws h k))
/-- A pair is no less than each of its items. -/
theorem prs_at : ∀ (l : List (Nat × Bool)) (i : Nat), i / 2 < l.length / 2 → (l.map (·.1)).getD i 0 ≤ (prs l).getD (i / 2) 0
  | [], i, h => by simp at h
  | [_], i, h => by simp at h
  | a :: b :: l, 0, h => by simp [prs]
  | a :: b :: l, 1, h => by simp [prs]
  | a :: b :: l, i + 2, h => by
    have := prs_at l i (by simp at h; omega)
    have e : (i + 2) / 2 = i / 2 + 1 := by omega
    rw [e]
    simpa [prs] using this
/-- The coins among the first items of a merge are its first coins. -/
theorem mrg_coins (cs ps : List Nat) : ∀ a, a ≤ cs.length + ps.length → (((mrg cs ps).take a).filter fun x => !x.2).map (·.1) = cs.take (tk (mrg cs ps) a) := by
  induction cs, ps using mrg_rec with
  | h1 ps =>
    intro a ha
    rw [mrg_nil, ← List.map_take, List.filter_map]; simp
  | h2 cs =>
    intro a ha
    simp only [List.length_nil, Nat.add_zero] at ha
    have h0 : tk (mrg cs []) a = a := by
      unfold tk coinsIn; rw [mrg_none, ← List.map_take, List.filter_map, List.length_map]
      rw [List.filter_eq_self.2 (by simp), List.length_take]; omega
    rw [h0, mrg_none, ← List.map_take, List.filter_map, List.map_map, List.filter_eq_self.2 (by simp)]; simp [Function.comp_def]
  | h3 c cs p ps h ih =>
    intro a ha
    rw [mrg_lt h]
    cases a with
    | zero => simp [tk_zero]
    | succ a =>
      have := ih a (by simp at ha ⊢; omega)
      rw [tk_cons]; simpa using this
  | h4 c cs p ps h ih =>
    intro a ha
    rw [mrg_ge h]
    cases a with
    | zero => simp [tk_zero]
    | succ a =>
      have := ih a (by simp at ha ⊢; omega)
      rw [tk_cons]
      simp only [Bool.false_eq_true, if_false]
      rw [Nat.add_comm 1]
      simp [this]

/-- The coins that are taken of a row are taken of the next one, too. -/
theorem nested (ws : List Nat) (h : Asc ws) (k a : Nat) (ha : a ≤ (rowN ws (k + 1)).length) :
    tk (rowN ws k) (2 * (a - tk (rowN ws (k + 1)) a)) ≤ tk (rowN ws (k + 1)) a := by
  have hpe := pairs_enough ws k a ha
  have e : rowN ws (k + 1) = mrg ws (prs (rowN ws k)) := rfl
  have hlen : a ≤ ws.length + (prs (rowN ws k)).length := by rw [← length_mrg, ← e]; exact ha
  generalize ht : tk (rowN ws (k + 1)) a = t at *
  apply Classical.byContradiction
  intro hc
  have hle2 := tk_first ws k _ hpe
  have htw : t < ws.length := by omega
  have hqpos : t < a := by
    apply Classical.byContradiction
    intro h2
    have : a - t = 0 := by omega
    rw [this] at hc
    simp [tk_zero] at hc
  -- the pair ahead of the coin t is less than it
  have hedge := mrg_edge ws (prs (rowN ws k)) h a hlen (by rw [← e, ht]; exact hqpos) (by rw [← e, ht]; exact htw)
  rw [← e, ht] at hedge
  -- the coin t is among the items of the first pairs
  have hco : ((((rowN ws k).take (2 * (a - t))).filter fun x => !x.2).map (·.1)) = ws.take (tk (rowN ws k) (2 * (a - t))) := by
    cases k with
    | zero => exact mrg_coins ws [] _ (by rw [← length_mrg]; exact hpe)
    | succ k => exact mrg_coins ws _ _ (by rw [← length_mrg]; exact hpe)
  have hmem : ws.getD t 0 ∈ ((((rowN ws k).take (2 * (a - t))).filter fun x => !x.2).map (·.1)) := by
    rw [hco, List.getD_eq_getElem?_getD, List.getElem?_eq_getElem htw]
    exact List.mem_take_iff_getElem.2 ⟨t, by omega, rfl⟩
  obtain ⟨x, hx, hxe⟩ := List.mem_map.1 hmem
  have hx2 := (List.mem_filter.1 hx).1
  obtain ⟨i, hi, hie⟩ := List.mem_take_iff_getElem.1 hx2
  have hi2 : i / 2 < (rowN ws k).length / 2 := by omega
  have h1 := prs_at (rowN ws k) i hi2
  have h2 : ((rowN ws k).map (·.1)).getD i 0 = ws.getD t 0 := by
    rw [← hxe, ← hie, List.getD_eq_getElem?_getD, List.getElem?_eq_getElem (by rw [List.length_map]; omega)]
    simp
  -- pairs are sorted
  have hasc := prs_asc _ (row_asc ws h k)
  have hl : (prs (rowN ws k)).length = (rowN ws k).length / 2 := length_prs _
  have h3 : (prs (rowN ws k)).getD (i / 2) 0 ≤ (prs (rowN ws k)).getD (a - t - 1) 0 := by
    rw [List.getD_eq_getElem?_getD, List.getD_eq_getElem?_getD, List.getElem?_eq_getElem (by omega), List.getElem?_eq_getElem (by omega)]
    simp only [Option.getD_some]
    rcases Nat.lt_or_ge (i / 2) (a - t - 1) with h4 | h4
    · exact List.pairwise_iff_getElem.1 hasc _ _ (by omega) (by omega) h4
    · have : i / 2 = a - t - 1 := by omega
      simp [this]
  omega
end Go.Proofs.Ytmafcmfafcjokaa
