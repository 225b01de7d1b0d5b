/- Several texts in one: Pm, Kraft, Merge (what Back, Best, Dynamic, Fixed, Least, Runs, Stored reach of them). -/
import Derived.Test.YtjeeiodpdfbgmaaDoorPm01
import Derived.Test.YtjeeiodpdfbgmaaDoorPm02
import Derived.Test.YtjeeiodpdfbgmaaDoorPm03
import Derived.Below
import Derived.BigQuiet
import Derived.BigRegion
import Derived.Deep.AppendLies
import Derived.Deep.CutRange
import Derived.Deep.DeepCutAuto
import Derived.Deep.Draws
import Derived.Deep.QuietTactic
import Derived.Deep.RegionLaw
import Derived.Deep.Slices
import Derived.Laws.BitsAllLaws
import Derived.Laws.BitsLemmas
import Derived.Laws.IdiomStrings
import Derived.Laws.OwnMore
import Derived.Laws.Rows
import Derived.Lib.AppendStr
import Derived.Lib.Hide
import Derived.Lib.Strings
import Derived.OneCell
import Derived.OpenShut
import Derived.Outline
import Derived.OwnWalk
import Derived.ProofKit
import Derived.RegionTactic
import Derived.StillTailTactics
import Derived.Test.YtjeeiodpdfbgmaaDoorChecked
import Derived.WalkKit
import Derived.WalkLawsBesides
import Derived.WalkSpells
set_option maxRecDepth 100000
set_option linter.unusedVariables false
namespace Go.Proofs.YtjeeiodpdfbgmaaDoor
set_option maxRecDepth 100000
/-- A coin laid among pairs, and what f makes of the pairs behind it. -/
def mrgIn (c : Nat) (f : List Nat → List (Nat × Bool)) : List Nat → List (Nat × Bool)
  | [] => (c, false) :: f []
  | p :: ps => if p < c then (p, true) :: mrgIn c f ps else (c, false) :: f (p :: ps)
/-- A row of coins and of pairs: weight, and whether it is a pair. Coins are ahead where the weights are equal. -/
def mrg : List Nat → List Nat → List (Nat × Bool)
  | [], ps => ps.map fun p => (p, true)
  | c :: cs, ps => mrgIn c (mrg cs) ps
/-- The weights of the pairs of a row. -/
def prs : List (Nat × Bool) → List Nat
  | a :: b :: l => (a.1 + b.1) :: prs l
  | _ => []
/-- Row number k, counted from 0. -/
def rowN (ws : List Nat) : Nat → List (Nat × Bool)
  | 0 => mrg ws []
  | k + 1 => mrg ws (prs (rowN ws k))
/-- How many coins are among items. -/
def coinsIn (l : List (Nat × Bool)) : Nat := (l.filter fun x => !x.2).length
/-- How many coins are among the first a items. -/
def tk (row : List (Nat × Bool)) (a : Nat) : Nat := coinsIn (row.take a)

theorem mrg_nil (ps : List Nat) : mrg [] ps = ps.map fun p => (p, true) := rfl
theorem mrg_none : ∀ cs : List Nat, mrg cs [] = cs.map fun p => (p, false)
  | [] => rfl
  | c :: cs => by show (c, false) :: mrg cs [] = _; rw [mrg_none cs]; rfl
theorem mrg_lt {c p : Nat} {cs ps : List Nat} (h : p < c) : mrg (c :: cs) (p :: ps) = (p, true) :: mrg (c :: cs) ps := by
  show mrgIn c (mrg cs) (p :: ps) = _; rw [mrgIn, if_pos h]; rfl
theorem mrg_ge {c p : Nat} {cs ps : List Nat} (h : ¬ p < c) : mrg (c :: cs) (p :: ps) = (c, false) :: mrg cs (p :: ps) := by
  show mrgIn c (mrg cs) (p :: ps) = _; rw [mrgIn, if_neg h]
theorem mrg_coin {c : Nat} {cs ps : List Nat} (h : ∀ p, ps.head? = some p → ¬ p < c) : mrg (c :: cs) ps = (c, false) :: mrg cs ps := by
  cases ps with
  | nil => simp [mrg_none]
  | cons p ps => exact mrg_ge (h p rfl)

/-- What a merge is, as a recursion to lean on. -/
theorem mrg_rec {P : List Nat → List Nat → Prop} (h1 : ∀ ps, P [] ps) (h2 : ∀ cs, P cs []) (h3 : ∀ c cs p ps, p < c → P (c :: cs) ps → P (c :: cs) (p :: ps)) (h4 : ∀ c cs p ps, ¬ p < c → P cs (p :: ps) → P (c :: cs) (p :: ps)) :
    ∀ cs ps, P cs ps := by
  intro cs ps
  induction h : cs.length + ps.length generalizing cs ps with
  | zero =>
    cases cs with
    | nil => exact h1 ps
    | cons c cs => simp at h
  | succ n ih =>
    cases cs with
    | nil => exact h1 ps
    | cons c cs =>
      cases ps with
      | nil => exact h2 _
      | cons p ps =>
        by_cases hp : p < c
        · exact h3 _ _ _ _ hp (ih _ _ (by simp at h ⊢; omega))
        · exact h4 _ _ _ _ hp (ih _ _ (by simp at h ⊢; omega))

theorem length_mrg (cs ps : List Nat) : (mrg cs ps).length = cs.length + ps.length := by
  induction cs, ps using mrg_rec with
  | h1 ps => simp [mrg_nil]
  | h2 cs => simp [mrg_none]
  | h3 c cs p ps h ih => rw [mrg_lt h]; simp at ih ⊢; omega
  | h4 c cs p ps h ih => rw [mrg_ge h]; simp at ih ⊢; omega
theorem length_prs : ∀ l : List (Nat × Bool), (prs l).length = l.length / 2
  | [] => rfl
  | [_] => by simp [prs]
  | a :: b :: l => by simp [prs, length_prs l]; omega
theorem tk_zero (row : List (Nat × Bool)) : tk row 0 = 0 := rfl
theorem tk_cons (x : Nat × Bool) (row : List (Nat × Bool)) (a : Nat) : tk (x :: row) (a + 1) = (if x.2 then 0 else 1) + tk row a := by
  unfold tk coinsIn; cases h : x.2 <;> simp [h]; omega
theorem tk_le (row : List (Nat × Bool)) (a : Nat) : tk row a ≤ a := by
  unfold tk coinsIn
  have := List.length_filter_le (fun x : Nat × Bool => !x.2) (row.take a)
  rw [List.length_take] at this; omega

/-- The first items of a merge: its first coins and its first pairs. -/
theorem mrg_first (cs ps : List Nat) : ∀ a, a ≤ cs.length + ps.length →
    tk (mrg cs ps) a ≤ cs.length ∧ a - tk (mrg cs ps) a ≤ ps.length ∧
    (∀ f : Nat → Nat, (((mrg cs ps).take a).map fun x => f x.1).sum = ((cs.take (tk (mrg cs ps) a)).map f).sum + ((ps.take (a - tk (mrg cs ps) a)).map f).sum) := by
  induction cs, ps using mrg_rec with
  | h1 ps =>
    intro a ha
    have h0 : tk (mrg [] ps) a = 0 := by
      unfold tk coinsIn; rw [mrg_nil, ← List.map_take, List.filter_map]; simp
    rw [h0, mrg_nil]
    refine ⟨Nat.zero_le _, by simp at ha ⊢; omega, fun f => ?_⟩
    rw [← List.map_take, List.map_map]; simp [Function.comp_def]
  | h2 cs =>
    intro a ha
    simp only [List.length_nil, Nat.add_zero] at ha
    have h0 : tk (mrg cs []) a = a := by
      unfold tk coinsIn; rw [mrg_none, ← List.map_take, List.filter_map, List.length_map]
      rw [List.filter_eq_self.2 (by simp), List.length_take]; omega
    rw [h0, mrg_none]
    refine ⟨ha, by omega, fun f => ?_⟩
    rw [← List.map_take, List.map_map]; simp [Function.comp_def]
  | h3 c cs p ps h ih =>
    intro a ha
    rw [mrg_lt h]
    cases a with
    | zero => simp [tk_zero]
    | succ a =>
      obtain ⟨i1, i2, i3⟩ := ih a (by simp at ha ⊢; omega)
      rw [tk_cons]
      simp only [if_true, Nat.zero_add]
      have hle := tk_le (mrg (c :: cs) ps) a
      have e : a + 1 - tk (mrg (c :: cs) ps) a = (a - tk (mrg (c :: cs) ps) a) + 1 := by omega
      rw [e]
      refine ⟨i1, by simp; omega, fun f => ?_⟩
      have := i3 f
      simp only [List.take_succ_cons, List.map_cons, List.sum_cons]
      omega
  | h4 c cs p ps h ih =>
    intro a ha
    rw [mrg_ge h]
    cases a with
    | zero => simp [tk_zero]
    | succ a =>
      obtain ⟨i1, i2, i3⟩ := ih a (by simp at ha ⊢; omega)
      rw [tk_cons]
      simp only [Bool.false_eq_true, if_false]
      have e : a + 1 - (1 + tk (mrg cs (p :: ps)) a) = a - tk (mrg cs (p :: ps)) a := by omega
      rw [e, Nat.add_comm 1]
      refine ⟨by simp; omega, i2, fun f => ?_⟩
      have := i3 f
      simp only [List.take_succ_cons, List.map_cons, List.sum_cons]
      omega

/-- The last pair among the first items is less than the first coin behind them. -/
theorem mrg_edge (cs ps : List Nat) : cs.Pairwise (· ≤ ·) → ∀ a, a ≤ cs.length + ps.length → tk (mrg cs ps) a < a → tk (mrg cs ps) a < cs.length →
    ps.getD (a - tk (mrg cs ps) a - 1) 0 < cs.getD (tk (mrg cs ps) a) 0 := by
  induction cs, ps using mrg_rec with
  | h1 ps => intro _ a ha hq ht; simp at ht
  | h2 cs =>
    intro _ a ha hq ht
    exfalso
    simp only [List.length_nil, Nat.add_zero] at ha
    have h0 : tk (mrg cs []) a = a := by
      unfold tk coinsIn; rw [mrg_none, ← List.map_take, List.filter_map, List.length_map]
      rw [List.filter_eq_self.2 (by simp), List.length_take]; omega
    omega
  | h3 c cs p ps h ih =>
    intro hs a ha hq ht
    rw [mrg_lt h] at hq ht ⊢
    cases a with
    | zero => omega
    | succ a =>
      rw [tk_cons] at hq ht ⊢
      simp only [if_true, Nat.zero_add] at hq ht ⊢
      by_cases e : tk (mrg (c :: cs) ps) a < a
      · have := ih hs a (by simp at ha ⊢; omega) e ht
        have e2 : a + 1 - tk (mrg (c :: cs) ps) a - 1 = (a - tk (mrg (c :: cs) ps) a - 1) + 1 := by omega
        rw [e2, List.getD_cons_succ]; exact this
      · have hle := tk_le (mrg (c :: cs) ps) a
        have e2 : a + 1 - tk (mrg (c :: cs) ps) a - 1 = 0 := by omega
        rw [e2, List.getD_cons_zero]
        -- all of the first a are coins: the coin behind them is no less than c
        generalize tk (mrg (c :: cs) ps) a = t at ht ⊢
        cases t with
        | zero => exact h
        | succ t =>
          rw [List.getD_cons_succ]
          have ht' : t < cs.length := by simpa using ht
          have := (List.pairwise_cons.1 hs).1 cs[t] (List.getElem_mem ht')
          rw [List.getD_eq_getElem?_getD, List.getElem?_eq_getElem ht']
          exact Nat.lt_of_lt_of_le h this
  | h4 c cs p ps h ih =>
    intro hs a ha hq ht
    rw [mrg_ge h] at hq ht ⊢
    cases a with
    | zero => omega
    | succ a =>
      rw [tk_cons] at hq ht ⊢
      simp only [Bool.false_eq_true, if_false] at hq ht ⊢
      have := ih (List.pairwise_cons.1 hs).2 a (by simp at ha ⊢; omega) (by omega) (by simp at ht; omega)
      have e2 : a + 1 - (1 + tk (mrg cs (p :: ps)) a) - 1 = a - tk (mrg cs (p :: ps)) a - 1 := by omega
      rw [e2, Nat.add_comm 1, List.getD_cons_succ]; exact this

/-- How many coins are taken of each row, the last one first: row number k, so many items of it. -/
def cc (ws : List Nat) : Nat → Nat → List Nat
  | 0, a => [tk (rowN ws 0) a]
  | k + 1, a => tk (rowN ws (k + 1)) a :: cc ws k (2 * (a - tk (rowN ws (k + 1)) a))
theorem length_cc (ws : List Nat) : ∀ k a, (cc ws k a).length = k + 1
  | 0, a => rfl
  | k + 1, a => by simp [cc, length_cc ws k]
/-- A row has items enough: so many fewer than twice the coins. -/
theorem length_row (ws : List Nat) : ∀ k, ws.length ≤ 2 ^ k * (2 * ws.length - (rowN ws k).length) ∧ (rowN ws k).length ≤ 2 * ws.length ∧ ws.length ≤ (rowN ws k).length ∧ (2 * ws.length - (rowN ws k).length - 1) * 2 ^ k < ws.length + (if ws.length = 0 then 1 else 0)
  | 0 => by
    have := length_mrg ws []
    simp only [rowN, this, List.length_nil, Nat.add_zero, Nat.pow_zero, Nat.mul_one, Nat.one_mul]
    split <;> omega
  | k + 1 => by
    obtain ⟨h1, h2, h3, h4⟩ := length_row ws k
    have e : (rowN ws (k + 1)).length = ws.length + (rowN ws k).length / 2 := by simp [rowN, length_mrg, length_prs]
    rw [e]
    have hp := Nat.two_pow_pos k
    refine ⟨?_, by omega, by omega, ?_⟩
    · refine Nat.le_trans h1 ?_
      rw [Nat.pow_succ, Nat.mul_assoc]
      exact Nat.mul_le_mul_left _ (by omega)
    · rw [Nat.pow_succ, Nat.mul_comm (2 ^ k) 2, ← Nat.mul_assoc]
      refine Nat.lt_of_le_of_lt (Nat.mul_le_mul_right _ ?_) h4
      omega
/-- Enough items to make up all lengths. -/
theorem row_enough (ws : List Nat) (k : Nat) (h : ws.length ≤ 2 ^ (k + 1)) (h2 : 2 ≤ ws.length) : 2 * ws.length - 2 ≤ (rowN ws k).length := by
  obtain ⟨_, h3, _, h4⟩ := length_row ws k
  rw [if_neg (by omega), Nat.add_zero] at h4
  rw [Nat.pow_succ, Nat.mul_comm] at h
  apply Classical.byContradiction
  intro hc
  have hx : 2 ≤ 2 * ws.length - (rowN ws k).length - 1 := by omega
  have := Nat.mul_le_mul_right (2 ^ k) hx
  omega

theorem pairs_enough (ws : List Nat) (k a : Nat) (h : a ≤ (rowN ws (k + 1)).length) : 2 * (a - tk (rowN ws (k + 1)) a) ≤ (rowN ws k).length := by
  have e : rowN ws (k + 1) = mrg ws (prs (rowN ws k)) := rfl
  have hm := length_mrg ws (prs (rowN ws k))
  rw [e] at h ⊢
  have := (mrg_first ws (prs (rowN ws k)) a (by omega)).2.1
  rw [length_prs] at this
  omega
theorem tk_first (ws : List Nat) (k a : Nat) (h : a ≤ (rowN ws k).length) : tk (rowN ws k) a ≤ ws.length := by
  cases k with
  | zero =>
    have hm := length_mrg ws []
    exact (mrg_first ws [] a (by simp only [rowN] at h; omega)).1
  | succ k =>
    have hm := length_mrg ws (prs (rowN ws k))
    exact (mrg_first ws _ a (by simp only [rowN] at h; omega)).1

def Asc (l : List Nat) : Prop := l.Pairwise (· ≤ ·)
theorem mrg_mem {cs ps : List Nat} {x : Nat × Bool} : x ∈ mrg cs ps → (x.1 ∈ cs ∧ x.2 = false) ∨ (x.1 ∈ ps ∧ x.2 = true) := by
  induction cs, ps using mrg_rec with
  | h1 ps => rw [mrg_nil]; simp only [List.mem_map]; rintro ⟨p, hp, rfl⟩; exact .inr ⟨hp, rfl⟩
  | h2 cs => rw [mrg_none]; simp only [List.mem_map]; rintro ⟨p, hp, rfl⟩; exact .inl ⟨hp, rfl⟩
  | h3 c cs p ps h ih =>
    rw [mrg_lt h]; intro hx
    rcases List.mem_cons.1 hx with rfl | hx
    · exact .inr ⟨by simp, rfl⟩
    · rcases ih hx with h | h
      · exact .inl h
      · exact .inr ⟨List.mem_cons_of_mem _ h.1, h.2⟩
  | h4 c cs p ps h ih =>
    rw [mrg_ge h]; intro hx
    rcases List.mem_cons.1 hx with rfl | hx
    · exact .inl ⟨by simp, rfl⟩
    · rcases ih hx with h | h
      · exact .inl ⟨List.mem_cons_of_mem _ h.1, h.2⟩
      · exact .inr h
theorem mrg_asc (cs ps : List Nat) : Asc cs → Asc ps → Asc ((mrg cs ps).map (·.1)) := by
  unfold Asc
  induction cs, ps using mrg_rec with
  | h1 ps => intro _ h; rw [mrg_nil, List.map_map]; simpa [Function.comp_def] using h
  | h2 cs => intro h _; rw [mrg_none, List.map_map]; simpa [Function.comp_def] using h
  | h3 c cs p ps h ih =>
    intro h1 h2
    rw [mrg_lt h, List.map_cons, List.pairwise_cons]
    refine ⟨fun y hy => ?_, ih h1 (List.pairwise_cons.1 h2).2⟩
    obtain ⟨x, hx, rfl⟩ := List.mem_map.1 hy
    rcases mrg_mem hx with ⟨h3, _⟩ | ⟨h3, _⟩
    · rcases List.mem_cons.1 h3 with h4 | h4
      · show p ≤ x.1; omega
      · have := (List.pairwise_cons.1 h1).1 _ h4; show p ≤ x.1; omega
    · exact (List.pairwise_cons.1 h2).1 _ h3
  | h4 c cs p ps h ih =>
    intro h1 h2
    rw [mrg_ge h, List.map_cons, List.pairwise_cons]
    refine ⟨fun y hy => ?_, ih (List.pairwise_cons.1 h1).2 h2⟩
    obtain ⟨x, hx, rfl⟩ := List.mem_map.1 hy
    rcases mrg_mem hx with ⟨h3, _⟩ | ⟨h3, _⟩
    · exact (List.pairwise_cons.1 h1).1 _ h3
    · rcases List.mem_cons.1 h3 with h4 | h4
      · show c ≤ x.1; omega
      · have := (List.pairwise_cons.1 h2).1 _ h4; show c ≤ x.1; omega
theorem prs_mem : ∀ {l : List (Nat × Bool)} {y : Nat}, y ∈ prs l → ∃ a ∈ l, ∃ b ∈ l, y = a.1 + b.1
  | [], y, h => by simp [prs] at h
  | [_], y, h => by simp [prs] at h
  | a :: b :: l, y, h => by
    simp only [prs, List.mem_cons] at h
    rcases h with rfl | h
    · exact ⟨a, by simp, b, by simp, rfl⟩
    · obtain ⟨a', ha, b', hb, e⟩ := prs_mem h
      exact ⟨a', by simp [ha], b', by simp [hb], e⟩
theorem prs_asc : ∀ l : List (Nat × Bool), Asc (l.map (·.1)) → Asc (prs l)
  | [], _ => List.Pairwise.nil
  | [_], _ => by simp [prs, Asc]
  | a :: b :: l, h => by
    unfold Asc at h ⊢
    simp only [List.map_cons, List.pairwise_cons] at h
    simp only [prs, List.pairwise_cons]
    refine ⟨fun y hy => ?_, prs_asc l h.2.2⟩
    obtain ⟨u, hu, v, hv, rfl⟩ := prs_mem hy
    have h1 := h.1 u.1 (List.mem_cons_of_mem _ (List.mem_map_of_mem hu))
    have h2 := h.2.1 v.1 (List.mem_map_of_mem hv)
    omega
theorem row_asc (ws : List Nat) (h : Asc ws) : ∀ k, Asc ((rowN ws k).map (·.1))
  | 0 => mrg_asc _ _ h List.Pairwise.nil
  | k + 1 => mrg_asc _ _ h (prs_asc _ (row_asc ws h k))
/-- A pair is no less than each of its items. -/
theorem prs_at : ∀ (l : List (Nat × Bool)) (i : Nat), i / 2 < l.length / 2 → (l.map (·.1)).getD i 0 ≤ (prs l).getD (i / 2) 0
  | [], i, h => by simp at h
  | [_], i, h => by simp at h
  | a :: b :: l, 0, h => by simp [prs]
  | a :: b :: l, 1, h => by simp [prs]
  | a :: b :: l, i + 2, h => by
    have := prs_at l i (by simp at h; omega)
    have e : (i + 2) / 2 = i / 2 + 1 := by omega
    rw [e]
    simpa [prs] using this
/-- The coins among the first items of a merge are its first coins. -/
theorem mrg_coins (cs ps : List Nat) : ∀ a, a ≤ cs.length + ps.length → (((mrg cs ps).take a).filter fun x => !x.2).map (·.1) = cs.take (tk (mrg cs ps) a) := by
  induction cs, ps using mrg_rec with
  | h1 ps =>
    intro a ha
    rw [mrg_nil, ← List.map_take, List.filter_map]; simp
  | h2 cs =>
    intro a ha
    simp only [List.length_nil, Nat.add_zero] at ha
    have h0 : tk (mrg cs []) a = a := by
      unfold tk coinsIn; rw [mrg_none, ← List.map_take, List.filter_map, List.length_map]
      rw [List.filter_eq_self.2 (by simp), List.length_take]; omega
    rw [h0, mrg_none, ← List.map_take, List.filter_map, List.map_map, List.filter_eq_self.2 (by simp)]; simp [Function.comp_def]
  | h3 c cs p ps h ih =>
    intro a ha
    rw [mrg_lt h]
    cases a with
    | zero => simp [tk_zero]
    | succ a =>
      have := ih a (by simp at ha ⊢; omega)
      rw [tk_cons]; simpa using this
  | h4 c cs p ps h ih =>
    intro a ha
    rw [mrg_ge h]
    cases a with
    | zero => simp [tk_zero]
    | succ a =>
      have := ih a (by simp at ha ⊢; omega)
      rw [tk_cons]
      simp only [Bool.false_eq_true, if_false]
      rw [Nat.add_comm 1]
      simp [this]

/-- The coins that are taken of a row are taken of the next one, too. -/
theorem nested (ws : List Nat) (h : Asc ws) (k a : Nat) (ha : a ≤ (rowN ws (k + 1)).length) :
    tk (rowN ws k) (2 * (a - tk (rowN ws (k + 1)) a)) ≤ tk (rowN ws (k + 1)) a := by
  have hpe := pairs_enough ws k a ha
  have e : rowN ws (k + 1) = mrg ws (prs (rowN ws k)) := rfl
  have hlen : a ≤ ws.length + (prs (rowN ws k)).length := by rw [← length_mrg, ← e]; exact ha
  generalize ht : tk (rowN ws (k + 1)) a = t at *
  apply Classical.byContradiction
  intro hc
  have hle2 := tk_first ws k _ hpe
  have htw : t < ws.length := by omega
  have hqpos : t < a := by
    apply Classical.byContradiction
    intro h2
    have : a - t = 0 := by omega
    rw [this] at hc
    simp [tk_zero] at hc
  -- the pair ahead of the coin t is less than it
  have hedge := mrg_edge ws (prs (rowN ws k)) h a hlen (by rw [← e, ht]; exact hqpos) (by rw [← e, ht]; exact htw)
  rw [← e, ht] at hedge
  -- the coin t is among the items of the first pairs
  have hco : ((((rowN ws k).take (2 * (a - t))).filter fun x => !x.2).map (·.1)) = ws.take (tk (rowN ws k) (2 * (a - t))) := by
    cases k with
    | zero => exact mrg_coins ws [] _ (by rw [← length_mrg]; exact hpe)
    | succ k => exact mrg_coins ws _ _ (by rw [← length_mrg]; exact hpe)
  have hmem : ws.getD t 0 ∈ ((((rowN ws k).take (2 * (a - t))).filter fun x => !x.2).map (·.1)) := by
    rw [hco, List.getD_eq_getElem?_getD, List.getElem?_eq_getElem htw]
    exact List.mem_take_iff_getElem.2 ⟨t, by omega, rfl⟩
  obtain ⟨x, hx, hxe⟩ := List.mem_map.1 hmem
  have hx2 := (List.mem_filter.1 hx).1
  obtain ⟨i, hi, hie⟩ := List.mem_take_iff_getElem.1 hx2
  have hi2 : i / 2 < (rowN ws k).length / 2 := by omega
  have h1 := prs_at (rowN ws k) i hi2
  have h2 : ((rowN ws k).map (·.1)).getD i 0 = ws.getD t 0 := by
    rw [← hxe, ← hie, List.getD_eq_getElem?_getD, List.getElem?_eq_getElem (by rw [List.length_map]; omega)]
    simp
  -- pairs are sorted
  have hasc := prs_asc _ (row_asc ws h k)
  have hl : (prs (rowN ws k)).length = (rowN ws k).length / 2 := length_prs _
  have h3 : (prs (rowN ws k)).getD (i / 2) 0 ≤ (prs (rowN ws k)).getD (a - t - 1) 0 := by
    rw [List.getD_eq_getElem?_getD, List.getD_eq_getElem?_getD, List.getElem?_eq_getElem (by omega), List.getElem?_eq_getElem (by omega)]
    simp only [Option.getD_some]
    rcases Nat.lt_or_ge (i / 2) (a - t - 1) with h4 | h4
    · exact List.pairwise_iff_getElem.1 hasc _ _ (by omega) (by omega) h4
    · have : i / 2 = a - t - 1 := by omega
      simp [this]
  omega
end Go.Proofs.YtjeeiodpdfbgmaaDoor
namespace Go.Proofs.YtjeeiodpdfbgmaaDoor
set_option maxRecDepth 100000
/-- The sum of a function over the numbers below n. -/
def upTo : Nat → (Nat → Nat) → Nat
  | 0, _ => 0
  | n + 1, f => upTo n f + f n
theorem upTo_add (n : Nat) (f g : Nat → Nat) : upTo n (fun r => f r + g r) = upTo n f + upTo n g := by
  induction n with
  | zero => rfl
  | succ n ih => simp only [upTo, ih]; omega
theorem upTo_congr {n : Nat} {f g : Nat → Nat} (h : ∀ r, r < n → f r = g r) : upTo n f = upTo n g := by
  induction n with
  | zero => rfl
  | succ n ih => simp only [upTo]; rw [ih (fun r hr => h r (by omega)), h n (by omega)]
theorem upTo_const (n c : Nat) : upTo n (fun _ => c) = n * c := by
  induction n with
  | zero => simp [upTo]
  | succ n ih => simp only [upTo, ih, Nat.succ_mul]
theorem upTo_ind (n t c : Nat) (h : t ≤ n) : upTo n (fun r => if r < t then c else 0) = t * c := by
  induction n with
  | zero => have : t = 0 := by omega
            subst this; simp [upTo]
  | succ n ih =>
    rcases Nat.lt_or_ge n t with h1 | h1
    · have e : t = n + 1 := by omega
      subst e
      rw [upTo_congr (g := fun _ => c) (fun r hr => if_pos hr), upTo_const]
    · simp only [upTo]; rw [ih h1, if_neg (by omega)]; rfl
theorem upTo_one_le {n i : Nat} (f : Nat → Nat) (h : i < n) : f i ≤ upTo n f := by
  induction n with
  | zero => omega
  | succ n ih =>
    simp only [upTo]
    rcases Nat.lt_or_ge i n with h1 | h1
    · have := ih h1; omega
    · have : i = n := by omega
      subst this; omega
theorem upTo_two_le {n i j : Nat} (f : Nat → Nat) (h : i < n) (h2 : j < n) (hij : i ≠ j) : f i + f j ≤ upTo n f := by
  induction n with
  | zero => omega
  | succ n ih =>
    simp only [upTo]
    by_cases h1 : i = n
    · subst h1; have := upTo_one_le (n := i) (i := j) f (by omega); omega
    · by_cases h3 : j = n
      · subst h3; have := upTo_one_le (n := j) (i := i) f (by omega); omega
      · have := ih (by omega) (by omega); omega
theorem sum_take (l : List Nat) (t : Nat) (h : t ≤ l.length) : (l.take t).sum = upTo t fun r => l.getD r 0 := by
  induction t with
  | zero => simp [upTo]
  | succ t ih =>
    rw [List.take_succ_eq_append_getElem (by omega), List.sum_append, ih (by omega)]
    simp only [upTo, List.sum_cons, List.sum_nil, Nat.add_zero]
    rw [List.getD_eq_getElem?_getD, List.getElem?_eq_getElem (by omega)]; rfl

/-- How many of the numbers are greater than r: the length of the coin number r. -/
def rl : List Nat → Nat → Nat
  | [], _ => 0
  | t :: ts, r => (if r < t then 1 else 0) + rl ts r
theorem rl_le : ∀ (ts : List Nat) (r : Nat), rl ts r ≤ ts.length
  | [], _ => Nat.le_refl _
  | t :: ts, r => by have := rl_le ts r; simp only [rl, List.length_cons]; split <;> omega
theorem rl_zero : ∀ (ts : List Nat) (r : Nat), (∀ t ∈ ts, t ≤ r) → rl ts r = 0
  | [], _, _ => rfl
  | t :: ts, r, h => by simp only [rl]; rw [if_neg (by have := h t (by simp); omega), rl_zero ts r (fun x hx => h x (by simp [hx]))]
/-- The widths of the coins that are taken. -/
def wid : List Nat → Nat
  | [] => 0
  | t :: ts => t * 2 ^ ts.length + wid ts
def Desc (l : List Nat) : Prop := l.Pairwise (fun a b => b ≤ a)
theorem kraft (n : Nat) : ∀ ts : List Nat, Desc ts → (∀ t ∈ ts, t ≤ n) → wid ts + upTo n (fun r => 2 ^ (ts.length - rl ts r)) = n * 2 ^ ts.length
  | [], _, _ => by simp [wid, rl, upTo_const]
  | t :: ts, hd, hn => by
    have ih := kraft n ts (List.pairwise_cons.1 hd).2 (fun x hx => hn x (by simp [hx]))
    have hmax := (List.pairwise_cons.1 hd).1
    have e : ∀ r, r < n → 2 ^ ((t :: ts).length - rl (t :: ts) r) + (if r < t then 2 ^ ts.length else 0) = 2 ^ (ts.length - rl ts r) + 2 ^ ts.length := by
      intro r _
      simp only [rl, List.length_cons]
      by_cases h : r < t
      · rw [if_pos h, if_pos h]
        have := rl_le ts r
        congr 2; omega
      · rw [if_neg h, if_neg h, rl_zero ts r (fun x hx => by have := hmax x hx; omega)]
        simp only [Nat.sub_zero, Nat.add_zero, Nat.pow_succ]; omega
    have e2 := upTo_congr e
    rw [upTo_add, upTo_add, upTo_ind n t _ (hn t (by simp)), upTo_const] at e2
    simp only [wid, List.length_cons, Nat.pow_succ]
    simp only [List.length_cons] at e2
    have e3 : n * (2 ^ ts.length * 2) = n * 2 ^ ts.length + n * 2 ^ ts.length := by rw [← Nat.mul_assoc]; omega
    rw [e3]
    omega
theorem wid_cc (ws : List Nat) : ∀ k a, a ≤ (rowN ws k).length → wid (cc ws k a) = a * 2 ^ k
  | 0, a, h => by
    have hl : (rowN ws 0).length = ws.length := by simp [rowN, length_mrg]
    have h0 : tk (rowN ws 0) a = a := by
      unfold tk coinsIn; rw [rowN, mrg_none, ← List.map_take, List.filter_map, List.length_map]
      rw [List.filter_eq_self.2 (by simp), List.length_take]; omega
    simp [cc, wid, h0]
  | k + 1, a, h => by
    have hp := pairs_enough ws k a h
    have hle := tk_le (rowN ws (k + 1)) a
    simp only [cc, wid, length_cc]
    rw [wid_cc ws k _ hp]
    generalize tk (rowN ws (k + 1)) a = t at *
    obtain ⟨q, rfl⟩ : ∃ q, a = t + q := ⟨a - t, by omega⟩
    rw [Nat.add_sub_cancel_left, Nat.pow_succ, Nat.add_mul, Nat.mul_comm (2 ^ k) 2, ← Nat.mul_assoc q, Nat.mul_comm q 2]
theorem cc_le (ws : List Nat) : ∀ k a, a ≤ (rowN ws k).length → ∀ t ∈ cc ws k a, t ≤ ws.length
  | 0, a, h, t, ht => by simp [cc] at ht; subst ht; exact tk_first ws 0 a h
  | k + 1, a, h, t, ht => by
    simp only [cc, List.mem_cons] at ht
    rcases ht with rfl | ht
    · exact tk_first ws (k + 1) a h
    · exact cc_le ws k _ (pairs_enough ws k a h) t ht
theorem cc_desc (ws : List Nat) (hs : Asc ws) : ∀ k a, a ≤ (rowN ws k).length → Desc (cc ws k a) ∧ ∀ t ∈ cc ws k a, t ≤ tk (rowN ws k) a
  | 0, a, h => by simp [cc, Desc]
  | k + 1, a, h => by
    obtain ⟨i1, i2⟩ := cc_desc ws hs k _ (pairs_enough ws k a h)
    have hn := nested ws hs k a h
    refine ⟨List.pairwise_cons.2 ⟨fun t ht => Nat.le_trans (i2 t ht) hn, i1⟩, fun t ht => ?_⟩
    simp only [cc, List.mem_cons] at ht
    rcases ht with rfl | ht
    · exact Nat.le_refl _
    · exact Nat.le_trans (i2 t ht) hn

/-- The lengths of coins. -/
def lensOf (ws : List Nat) (k : Nat) : List Nat := cc ws k (2 * ws.length - 2)
section
variable (ws : List Nat) (hs : Asc ws) (k : Nat) (h : ws.length ≤ 2 ^ (k + 1)) (h2 : 2 ≤ ws.length)
include hs h h2
theorem full_sum : upTo ws.length (fun r => 2 ^ (k + 1 - rl (lensOf ws k) r)) = 2 ^ (k + 1) := by
  have he := row_enough ws k h h2
  have h1 := kraft ws.length (lensOf ws k) (cc_desc ws hs k _ he).1 (cc_le ws k _ he)
  have h3 : wid (lensOf ws k) = _ := wid_cc ws k _ he
  have h4 : (lensOf ws k).length = k + 1 := length_cc ws k _
  rw [h3, h4] at h1
  have e : (2 * ws.length - 2) * 2 ^ k = (ws.length - 1) * 2 ^ (k + 1) := by
    rw [show 2 * ws.length - 2 = (ws.length - 1) * 2 from by omega, Nat.pow_succ, Nat.mul_assoc, Nat.mul_comm 2]
  have e2 : ws.length * 2 ^ (k + 1) = (ws.length - 1) * 2 ^ (k + 1) + 2 ^ (k + 1) := by
    conv => lhs; rw [show ws.length = (ws.length - 1) + 1 from by omega, Nat.add_mul, Nat.one_mul]
  omega
theorem rl_pos (r : Nat) (hr : r < ws.length) : 0 < rl (lensOf ws k) r := by
  apply Classical.byContradiction
  intro hc
  have h0 : rl (lensOf ws k) r = 0 := by omega
  have hf := full_sum ws hs k h h2
  have hq : ∃ q, q < ws.length ∧ r ≠ q := by
    rcases Nat.eq_zero_or_pos r with e | e
    · exact ⟨1, by omega, by omega⟩
    · exact ⟨0, by omega, by omega⟩
  obtain ⟨q, hq, hne⟩ := hq
  have := upTo_two_le (fun r => 2 ^ (k + 1 - rl (lensOf ws k) r)) hr hq hne
  simp only [h0, Nat.sub_zero] at this
  have := Nat.two_pow_pos (k + 1 - rl (lensOf ws k) q)
  omega
omit hs h h2 in
theorem rl_most (r : Nat) : rl (lensOf ws k) r ≤ k + 1 := by
  have := rl_le (lensOf ws k) r
  have h4 : (lensOf ws k).length = k + 1 := length_cc ws k _
  omega
theorem full_15 (hk : k + 1 ≤ 15) : upTo ws.length (fun r => 2 ^ (15 - rl (lensOf ws k) r)) = 2 ^ 15 := by
  have hf := full_sum ws hs k h h2
  have e : ∀ r, 2 ^ (15 - rl (lensOf ws k) r) = 2 ^ (15 - (k + 1)) * 2 ^ (k + 1 - rl (lensOf ws k) r) := by
    intro r
    have := rl_most ws k r
    rw [← Nat.pow_add]; congr 1; omega
  have e2 : ∀ (n c : Nat) (f : Nat → Nat), upTo n (fun r => c * f r) = c * upTo n f := by
    intro n c f
    induction n with
    | zero => rfl
    | succ n ih => simp only [upTo, ih, Nat.mul_add]
  rw [upTo_congr (fun r _ => e r), e2, hf, ← Nat.pow_add]
  congr 1; omega
end
theorem prs_getD : ∀ (l : List (Nat × Bool)) (i : Nat), i < l.length / 2 → (prs l).getD i 0 = (l.map (·.1)).getD (2 * i) 0 + (l.map (·.1)).getD (2 * i + 1) 0
  | [], i, h => by simp at h
  | [_], i, h => by simp at h
  | a :: b :: l, 0, h => by simp [prs]
  | a :: b :: l, i + 1, h => by
    have := prs_getD l i (by simp at h; omega)
    rw [show 2 * (i + 1) = 2 * i + 1 + 1 from by omega]
    simpa [prs] using this
end Go.Proofs.YtjeeiodpdfbgmaaDoor
namespace Go.Proofs.YtjeeiodpdfbgmaaDoor
set_option maxRecDepth 100000
open Go Go.RowKit
/-- A slice reads as these coins: symbol and count. -/
def Coins (w : World) (A : Option Addr) (n : Nat) (cs : List (Nat × Nat)) : Prop :=
  cs.length = n ∧ (0 < n → ∃ g o, A = some ⟨g, o, none⟩ ∧ g < w.heap.size ∧ ∀ (i : Nat) (h : i < cs.length), w.cell? ⟨g, o + i * 2, none⟩ = some (.int .i64 cs[i].1) ∧ w.cell? ⟨g, o + i * 2 + 1, none⟩ = some (.int .i64 cs[i].2))
theorem Coins.but {w w' : World} {A : Option Addr} {n : Nat} {l : List (Nat × Nat)} {S : List Nat} (h : Coins w A n l) (hw : But S w w') (hA : ∀ k ∈ S, Off A k) : Coins w' A n l :=
  ⟨h.1, fun hn => by
    obtain ⟨g, o, e, hg, hc⟩ := h.2 hn
    exact ⟨g, o, e, Nat.lt_of_lt_of_le hg hw.size, fun i hi => ⟨hw.cell (hc i hi).1 (fun hS => hA g hS _ e rfl), hw.cell (hc i hi).2 (fun hS => hA g hS _ e rfl)⟩⟩⟩
theorem Coins.at {w : World} {A : Option Addr} {n : Nat} {l : List (Nat × Nat)} (h : Coins w A n l) {i : Nat} (hi : i < n) :
    ∃ g o, A = some ⟨g, o, none⟩ ∧ g < w.heap.size ∧ w.cell? ⟨g, o + i * 2, none⟩ = some (.int .i64 (l[i]'(by have := h.1; omega)).1) ∧ w.cell? ⟨g, o + i * 2 + 1, none⟩ = some (.int .i64 (l[i]'(by have := h.1; omega)).2) := by
  obtain ⟨g, o, e, hg, hc⟩ := h.2 (by omega)
  exact ⟨g, o, e, hg, hc i (by have := h.1; omega)⟩
/-- The cells of items. -/
def itemCells (r : List (Nat × Bool)) : List Value := r.flatMap fun x => [.int .i64 x.1, .bool x.2]
theorem itemCells_snoc (r : List (Nat × Bool)) (p : Nat) (b : Bool) : itemCells (r ++ [(p, b)]) = itemCells r ++ [.int .i64 p, .bool b] := by simp [itemCells]
def OwnR (w : World) (base : Nat) (v : Value) (r : List (Nat × Bool)) : Prop := w.ownsRow base 162 2 v r.length (itemCells r)
theorem info_item : (Tryd.prog.info? 162).map (fun i => (i.zero, i.size, i.bytes)) = some (some (.agg #[.int .i64 0, .bool false]), 2, 16) := by kernel_rfl
theorem OwnR.but {w w' : World} {base : Nat} {v : Value} {l : List (Nat × Bool)} (h : OwnR w base v l) {S : List Nat} (hw : But S w w') (hS : ∀ k ∈ S, v.ownBlock ≠ some k) : OwnR w' base v l := by
  unfold OwnR at h ⊢
  refine ⟨h.1, ?_⟩
  rcases h.2 with h2 | ⟨g, cap, cur, hv, hg, hh, r⟩
  · exact .inl h2
  · refine .inr ⟨g, cap, cur, hv, hg, ?_, r⟩
    have hlt : g < w.heap.size := (h.lt g (by rw [hv]; rfl)).2
    rw [hw.block g hlt (fun hk => hS g hk (by rw [hv]; rfl))]
    exact hh
def nats (l : List Nat) : List Int := l.map fun s : Nat => (s : Int)

theorem Ints.empty (w : World) (A : Option Addr) : Ints w A 0 [] := ⟨rfl, fun h => absurd h (by omega)⟩
theorem Ints.tail {w : World} {g o n : Nat} {x : Int} {l : List Int} (h : Ints w (some ⟨g, o, none⟩) (n + 1) (x :: l)) : Ints w (some ⟨g, o + 1, none⟩) n l := by
  refine ⟨by have := h.1; simpa using this, fun hn => ?_⟩
  obtain ⟨g', o', e, hg, hc⟩ := h.2 (by omega)
  injection e with e
  injection e with e1 e2
  subst e1 e2
  refine ⟨g, o + 1, rfl, hg, fun i hi => ?_⟩
  have := hc (i + 1) (by simp; omega)
  rw [Nat.add_assoc, Nat.add_comm 1]
  simpa using this
theorem OwnR.pushed {w wr w1 wx : World} {g c k : Nat} {L : List (Nat × Bool)} {p : Nat} {b : Bool} {cs : Array Value} {t : TypeId} (hB : But [] w wr) (hk : L.length = k) (hx : wx = wr.alloc (.cells cs t)) (hg0 : w.heap.size ≤ g)
    (h1 : w1.ownsRow w.heap.size 162 2 (.slice (some ⟨g, 0, none⟩) (k + 1) c) (k + 1) (itemCells L ++ [.int .i64 p, .bool b])) (hg : wx.grownBy w1 (some g)) :
    OwnR w1 w.heap.size (.slice (some ⟨g, 0, none⟩) (k + 1) c) (L ++ [(p, b)]) ∧ But [] w w1 := by
  subst hx hk
  refine ⟨?_, (hB.alloc _).grown hg (fun g' e => by injection e with e; subst e; exact .inr hg0)⟩
  unfold OwnR
  rw [List.length_append, itemCells_snoc]
  exact h1

set_option maxRecDepth 100000 in
set_option maxHeartbeats 1000000 in
theorem merge_any {w : World} {A P : Option Addr} {n cap m cap2 : Nat} {cs : List (Nat × Nat)} {ws ps : List Nat} (hws : ws = cs.map (·.2)) (hc : Coins w A n cs) (hp : Ints w P m (nats ps)) (hn : n ≤ 1000) (hm : m ≤ 1000) (hmc : m ≤ cap2) :
    Calls Tryd.prog 108 #[.slice A n cap, .slice P m cap2] w fun e w' => e = .returned (.slice (some ⟨w.heap.size, 0, none⟩) (n + m) (n + m)) ∧ OwnR w' w.heap.size (.slice (some ⟨w.heap.size, 0, none⟩) (n + m) (n + m)) (mrg ws ps) ∧ But [] w w' := by
  obtain ⟨i0, hi0, hz0, hz1, hz2⟩ := info_parts info_item
  have hcl := hc.1
  have hpl := hp.1
  rw [nats, List.length_map] at hpl
  go_enter Tryd.func108, Tryd.ntmps108
  go_wp2_with (at_make; refine wpList_make_own _ rfl _ _ 160 rfl w.heap.size 162 i0 _ 2 Tryd.underlying160 hi0 hz0 hz1 _ _ _ (n + m) rfl rfl (by omega) (by rw [hz2]; omega) (by unfold maxLen; omega) (by simp) ?_; intro w1 hown hgrow)
  have hO1 : OwnR w1 w.heap.size (.slice (some ⟨w.heap.size, 0, none⟩) 0 (n + m)) [] := hown
  have hB1 : But [] w w1 := (But.refl [] w).grown hgrow (by simp)
  clear hown hgrow
  have hwl : ws.length = n := by rw [hws, List.length_map, hcl]
  go_loopw [1, 5, 18] (fun pv rv i wr => ∃ (k A' n' c' : _) (ps' : List Nat) (acc : List (Nat × Bool)), k ≤ n ∧ i = .int .i64 k ∧ pv = .slice A' n' c' ∧ n' ≤ c' ∧ n' ≤ m ∧ Ints w A' n' (nats ps') ∧
    rv = .slice (some ⟨w.heap.size, 0, none⟩) acc.length (n + m) ∧ OwnR wr w.heap.size (.slice (some ⟨w.heap.size, 0, none⟩) acc.length (n + m)) acc ∧ acc ++ mrg (ws.drop k) ps' = mrg ws ps ∧ But [] w wr) (fun _ _ i _ => n - (intOf i).toNat)
  case atStart => exact ⟨0, P, m, cap2, ps, [], Nat.zero_le _, rfl, rfl, hmc, Nat.le_refl _, hp, rfl, hO1, rfl, hB1⟩
  case round =>
    obtain ⟨k, A', n', c', ps', acc, hk, rfl, rfl, hnc, hnm, hI, rfl, hO, hacc, hB⟩ := hrel
    clear hO1 hB1
    by_cases hlt : k < n
    · obtain ⟨g, o, rfl, hg, hc0, hc1⟩ := hc.at hlt
      replace hc0 := hB.cell hc0 (by simp)
      replace hc1 := hB.cell hc1 (by simp)
      have hwk : ws.drop k = ws[k]'(by omega) :: ws.drop (k + 1) := List.drop_eq_getElem_cons (by omega)
      have hwe : ws[k]'(by omega) = (cs[k]'(by omega)).2 := by subst hws; simp
      rw [← hwe] at hc1
      generalize (cs[k]'(by omega)).1 = sy at *
      generalize ws[k]'(by omega) = cn at *
      have HWK := Lib.hid hwk
      rw [hwk] at hacc
      clear hwk hwe
      have hgl := (World.ownsRow.lt hO _ rfl).2
      obtain ⟨wo, rfl⟩ : ∃ wo : World, wo = wr := ⟨_, rfl⟩
      have HC := Lib.hid hc
      have HS := Lib.hid hws
      have HPM := Lib.hid hpl
      clear hc hws hcl hpl
      go_wp2
      have hbx : Is (wo.alloc (.cells #[.int .i64 sy, .int .i64 cn] 137)) wo.heap.size 137 #[.int .i64 sy, .int .i64 cn] := Is.fresh wo _ _
      have hO2 : OwnR (wo.alloc (.cells #[.int .i64 sy, .int .i64 cn] 137)) w.heap.size (.slice (some ⟨w.heap.size, 0, none⟩) acc.length (n + m)) acc := hO.but ((But.refl [] wo).alloc _) (by simp)
      have hB2 := hB.alloc (.cells #[.int .i64 sy, .int .i64 cn] 137)
      obtain ⟨bx, hbxe⟩ : ∃ bx, bx = wo.heap.size := ⟨_, rfl⟩
      have hbl : w.heap.size < bx := by omega
      rw [← hbxe] at hbx ⊢
      have HB0 := Lib.hid hbxe
      clear hO hB hc0 hc1 hbxe hgl
      go_loopw [1, 5] (fun pv rv wr => ∃ (A' n' c' : _) (ps' : List Nat) (acc : List (Nat × Bool)), pv = .slice A' n' c' ∧ n' ≤ c' ∧ n' ≤ m ∧ Ints w A' n' (nats ps') ∧
        rv = .slice (some ⟨w.heap.size, 0, none⟩) acc.length (n + m) ∧ OwnR wr w.heap.size (.slice (some ⟨w.heap.size, 0, none⟩) acc.length (n + m)) acc ∧ acc ++ mrg (cn :: ws.drop (k + 1)) ps' = mrg ws ps ∧
        Is wr bx 137 #[.int .i64 sy, .int .i64 cn] ∧ But [] w wr) (fun pv _ _ => match pv with | .slice _ n _ => n | _ => 0)
      case atStart => exact ⟨A', n', c', ps', acc, rfl, hnc, hnm, hI, rfl, hO2, hacc, hbx, hB2⟩
      case round =>
        clear hO2 hB2 hbx hnc hnm hI hacc
        obtain ⟨A', n', c', ps', acc, rfl, hnc, hnm, hI, rfl, hO, hacc, hbx, hB⟩ := hrel
        have hb1 : wr.cell? ⟨bx, 1, none⟩ = some (.int .i64 cn) := hbx.cell 1
        have hlen : acc.length + ((ws.drop (k + 1)).length + 1 + ps'.length) = n + m := by
          have h := congrArg List.length hacc
          rw [List.length_append, length_mrg, length_mrg, List.length_cons, hwl, HPM.out] at h
          omega
        have hpl := hI.1
        rw [nats, List.length_map] at hpl
        rw [List.length_drop, hwl, hpl] at hlen
        by_cases hpos : 0 < n'
        · obtain ⟨p, ps2, rfl⟩ : ∃ p ps2, ps' = p :: ps2 := by
            cases ps' with
            | nil => simp at hpl; omega
            | cons p ps2 => exact ⟨p, ps2, rfl⟩
          obtain ⟨g2, o2, rfl, hg2, hcp⟩ := hI.at hpos
          replace hcp := hB.cell hcp (by simp)
          have hpe : (nats (p :: ps2))[0]'(by simp [nats]) = (p : Int) := rfl
          rw [hpe, Nat.add_zero] at hcp
          obtain ⟨n2, rfl⟩ : ∃ n2, n' = n2 + 1 := ⟨n' - 1, by omega⟩
          have hIt : Ints w (some ⟨g2, o2 + 1, none⟩) n2 (nats ps2) := Ints.tail hI
          have hpl2 : ps2.length = n2 := by simpa using hpl
          have hI2 := hI
          clear hpe hI hpl
          have dpos : decide (((n2 + 1 : Nat) : Int) > 0) = true := by simp
          by_cases hpc : p < cn
          · have dlt : decide ((p : Int) < (cn : Int)) = true := by simp; omega
            have HA := Lib.hid hacc
            have HBX := Lib.hid hbx
            have HB := Lib.hid hB
            have HO := Lib.hid hO
            have HIT := Lib.hid hIt
            have HL := Lib.hid hlen
            have HL2 := Lib.hid hpl2
            clear hacc hbx hB hO hIt hpos hlen hpl2 hI2
            go_wp2
            go_quiet (fail)
            go_wp2_with (at_builtin; refine wpList_append_fits _ rfl _ _ 160 rfl w.heap.size 162 i0 2 Tryd.underlying160 hi0 hz1 w.heap.size acc.length (n + m) (itemCells acc) rfl (World.ownsRow.alloc (HO.out.but ((But.refl [] wr).drewN nq) (by simp)) _) ⟨wr.heap.size, 0, none⟩ 1 1 [.int .i64 p, .bool true] rfl rfl ?c1 ?c2 ?c3 ?_)
            case c1 => exact World.news_of_block (cs := #[.int .i64 p, .bool true]) (t := 162) (fr := (0, 0)) (heap_alloc_new (wr.drewN nq) _)
            case c2 => simp [Value.oneCell']
            case c3 => have := HL.out; have := HL2.out; omega
            intro w2 hown2 hgrow2
            have HN := Lib.hid (OwnR.pushed (HB.out.drewN nq) rfl rfl (Nat.le_refl _) hown2 hgrow2)
            have HX := Lib.hid (show Is w2 bx 137 #[.int .i64 sy, .int .i64 cn] from ((HBX.out.drewN nq).alloc _).grown hgrow2 (by intro e; injection e with e; omega))
            have HAC := Lib.hid (show (acc ++ [(p, true)]) ++ mrg (cn :: ws.drop (k + 1)) ps2 = mrg ws ps by rw [← HA.out, mrg_lt hpc, List.append_assoc]; rfl)
            clear hown2 hgrow2
            by_cases hce : c' = 1
            · go_wp2
              go_roundw
              case rel =>
                have e0 : n2 = 0 := by omega
                have e1 : ps2 = [] := List.eq_nil_of_length_eq_zero (by have := HL2.out; omega)
                refine ⟨_, _, _, ps2, acc ++ [(p, true)], rfl, by omega, by omega, ?_, by rw [List.length_append]; rfl, by rw [List.length_append]; exact HN.out.1, HAC.out, HX.out, HN.out.2⟩
                rw [e1]
                first | exact Ints.empty _ _ | (rw [e0]; exact Ints.empty _ _)
              case measure => simp; try omega
            · go_wp2
              go_roundw
              case rel =>
                refine ⟨_, _, _, ps2, acc ++ [(p, true)], rfl, by omega, by omega, ?_, by rw [List.length_append]; rfl, by rw [List.length_append]; exact HN.out.1, HAC.out, HX.out, HN.out.2⟩
                exact HIT.out
              case measure => simp; try omega
          · have dlt : decide (p < cn) = false := by simp; omega
            have HAC := Lib.hid (show (acc ++ [(cn, false)]) ++ mrg (ws.drop (k + 1)) (p :: ps2) = mrg ws ps by rw [← hacc, mrg_ge hpc, List.append_assoc]; rfl)
            have HBX := Lib.hid hbx
            have HB := Lib.hid hB
            have HO := Lib.hid hO
            have HI2 := Lib.hid hI2
            have HL := Lib.hid hlen
            have HL2 := Lib.hid hpl2
            clear hacc hbx hB hO hIt hpos hlen hpl2 hI2
            go_wp2
            go_quiet (fail)
            go_wp2_with (at_builtin; refine wpList_append_fits _ rfl _ _ 160 rfl w.heap.size 162 i0 2 Tryd.underlying160 hi0 hz1 w.heap.size acc.length (n + m) (itemCells acc) rfl (World.ownsRow.alloc (HO.out.but ((But.refl [] wr).drewN nq) (by simp)) _) ⟨wr.heap.size, 0, none⟩ 1 1 [.int .i64 cn, .bool false] rfl rfl ?d1 ?d2 ?d3 ?_)
            case d1 => exact World.news_of_block (cs := #[.int .i64 cn, .bool false]) (t := 162) (fr := (0, 0)) (heap_alloc_new (wr.drewN nq) _)
            case d2 => simp [Value.oneCell']
            case d3 => have := HL.out; omega
            intro w2 hown2 hgrow2
            have HN := Lib.hid (OwnR.pushed (HB.out.drewN nq) rfl rfl (Nat.le_refl _) hown2 hgrow2)
            clear hown2 hgrow2
            go_wp2
            go_roundw
            case rel => exact ⟨k + 1, _, _, _, p :: ps2, acc ++ [(cn, false)], by omega, by go_num, rfl, hnc, hnm, HI2.out, by rw [List.length_append]; rfl, by rw [List.length_append]; exact HN.out.1, HAC.out, HN.out.2⟩
            case measure => simp [intOf]; omega
        · obtain rfl : n' = 0 := by omega
          obtain rfl : ps' = [] := List.eq_nil_of_length_eq_zero hpl
          have HAC := Lib.hid (show (acc ++ [(cn, false)]) ++ mrg (ws.drop (k + 1)) [] = mrg ws ps by rw [← hacc, mrg_coin (by simp), List.append_assoc]; rfl)
          have HBX := Lib.hid hbx
          have HB := Lib.hid hB
          have HO := Lib.hid hO
          have HI2 := Lib.hid hI
          have HL := Lib.hid hlen
          clear hacc hbx hB hO hpos hlen hpl hI
          have dpos : decide (((0 : Nat) : Int) > 0) = false := by simp
          go_wp2
          go_quiet (fail)
          go_wp2_with (at_builtin; refine wpList_append_fits _ rfl _ _ 160 rfl w.heap.size 162 i0 2 Tryd.underlying160 hi0 hz1 w.heap.size acc.length (n + m) (itemCells acc) rfl (World.ownsRow.alloc (HO.out.but ((But.refl [] wr).drewN nq) (by simp)) _) ⟨wr.heap.size, 0, none⟩ 1 1 [.int .i64 cn, .bool false] rfl rfl ?e1 ?e2 ?e3 ?_)
          case e1 => exact World.news_of_block (cs := #[.int .i64 cn, .bool false]) (t := 162) (fr := (0, 0)) (heap_alloc_new (wr.drewN nq) _)
          case e2 => simp [Value.oneCell']
          case e3 => have := HL.out; omega
          intro w2 hown2 hgrow2
          have HN := Lib.hid (OwnR.pushed (HB.out.drewN nq) rfl rfl (Nat.le_refl _) hown2 hgrow2)
          clear hown2 hgrow2
          go_wp2
          go_roundw
          case rel => exact ⟨k + 1, _, _, _, [], acc ++ [(cn, false)], by omega, by go_num, rfl, hnc, hnm, HI2.out, by rw [List.length_append]; rfl, by rw [List.length_append]; exact HN.out.1, HAC.out, HN.out.2⟩
          case measure => simp [intOf]; omega
    · obtain rfl : k = n := by omega
      rw [List.drop_of_length_le (by omega), mrg_nil] at hacc
      have hpl' := hI.1
      rw [nats, List.length_map] at hpl'
      have hlen : acc.length + n' = k + m := by
        have h := congrArg List.length hacc
        rw [List.length_append, List.length_map, length_mrg, hwl, hpl, hpl'] at h
        omega
      have HA := Lib.hid hacc
      have HI := Lib.hid hI
      have HPL := Lib.hid hpl'
      have HL := Lib.hid hlen
      clear hacc hI hpl' hlen hc hp hpl hcl hws
      go_wp2
      go_loopw [5, 51] (fun rv i wr => ∃ (j : Nat) (acc : List (Nat × Bool)), j ≤ n' ∧ i = .int .i64 j ∧ rv = .slice (some ⟨w.heap.size, 0, none⟩) acc.length (k + m) ∧ OwnR wr w.heap.size (.slice (some ⟨w.heap.size, 0, none⟩) acc.length (k + m)) acc ∧
        acc.length + (n' - j) = k + m ∧ acc ++ (ps'.drop j).map (fun p => (p, true)) = mrg ws ps ∧ But [] w wr) (fun _ i _ => n' - (intOf i).toNat)
      case atStart => exact ⟨0, acc, Nat.zero_le _, rfl, rfl, hO, HL.out, HA.out, hB⟩
      case round =>
        clear hO hB
        obtain ⟨j, acc, hj, rfl, rfl, hO, hl2, hacc, hB⟩ := hrel
        by_cases hlt2 : j < n'
        · obtain ⟨g2, o2, rfl, hg2, hcp⟩ := HI.out.at hlt2
          replace hcp := hB.cell hcp (by simp)
          have hpd : ps'.drop j = ps'[j]'(by have := HPL.out; omega) :: ps'.drop (j + 1) := List.drop_eq_getElem_cons _
          have hpe : (nats ps')[j]'(by have := HI.out.1; omega) = ((ps'[j]'(by have := HPL.out; omega) : Nat) : Int) := by simp [nats]
          rw [hpe] at hcp
          generalize ps'[j]'(by have := HPL.out; omega) = p at *
          have HAC := Lib.hid (show (acc ++ [(p, true)]) ++ (ps'.drop (j + 1)).map (fun p => (p, true)) = mrg ws ps by rw [← hacc, hpd, List.append_assoc]; rfl)
          have HB := Lib.hid hB
          have HO := Lib.hid hO
          clear hacc hB hO hpd hpe
          go_wp2_with (at_builtin; refine wpList_append_fits _ rfl _ _ 160 rfl w.heap.size 162 i0 2 Tryd.underlying160 hi0 hz1 w.heap.size acc.length (k + m) (itemCells acc) rfl (World.ownsRow.alloc HO.out _) ⟨wr.heap.size, 0, none⟩ 1 1 [.int .i64 p, .bool true] rfl rfl ?f1 ?f2 ?f3 ?_)
          case f1 => exact World.news_of_block (cs := #[.int .i64 p, .bool true]) (t := 162) (fr := (0, 0)) (heap_alloc_new wr _)
          case f2 => simp [Value.oneCell']
          case f3 => omega
          intro w2 hown2 hgrow2
          have HN := Lib.hid (OwnR.pushed HB.out rfl rfl (Nat.le_refl _) hown2 hgrow2)
          clear hown2 hgrow2
          go_wp2
          go_roundw
          case rel => exact ⟨j + 1, acc ++ [(p, true)], by omega, by go_num, by rw [List.length_append]; rfl, by rw [List.length_append]; exact HN.out.1, by rw [List.length_append, List.length_singleton]; omega, HAC.out, HN.out.2⟩
          case measure => simp [intOf]; omega
        · obtain rfl : j = n' := by omega
          rw [List.drop_of_length_le (by have := HPL.out; omega), List.map_nil, List.append_nil] at hacc
          subst hacc
          have hle : (mrg ws ps).length = k + m := by omega
          rw [hle] at hO
          have HLE := Lib.hid hle
          clear hle hl2
          go_wp2
          go_ret
          rw [HLE.out]
          exact ⟨rfl, hO, hB⟩
end Go.Proofs.YtjeeiodpdfbgmaaDoor
