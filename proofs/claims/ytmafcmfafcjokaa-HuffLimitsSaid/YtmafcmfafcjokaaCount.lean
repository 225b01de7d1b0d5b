/- Plain laws of how the coins that are taken of each row are counted. -/
import Derived.Test.YtmafcmfafcjokaaKraft
namespace Go.Proofs.Ytmafcmfafcjokaa
/-- How many items are looked at in round k, from the last row on. -/
def aAt (ws : List Nat) (K a : Nat) : Nat → Nat
  | 0 => a
  | k + 1 => 2 * (aAt ws K a k - tk (rowN ws (K - k)) (aAt ws K a k))
def tAt (ws : List Nat) (K a k : Nat) : Nat := tk (rowN ws (K - k)) (aAt ws K a k)
/-- One more for each of the first t coins. -/
def bump (cs : List (Nat × Nat)) (t : Nat) (l : List Int) : List Int := (cs.take t).foldl (fun l c => l.set c.1 (l.getD c.1 0 + 1)) l
def lFold (cs : List (Nat × Nat)) (ts : List Nat) (l : List Int) : List Int := ts.foldl (fun l t => bump cs t l) l

theorem aAt_shift (ws : List Nat) (K a : Nat) : ∀ k, aAt ws (K + 1) a (k + 1) = aAt ws K (2 * (a - tk (rowN ws (K + 1)) a)) k
  | 0 => rfl
  | k + 1 => by rw [aAt, aAt_shift ws K a k, aAt, Nat.add_sub_add_right]
theorem cc_range (ws : List Nat) : ∀ K a, cc ws K a = (List.range (K + 1)).map (tAt ws K a)
  | 0, a => rfl
  | K + 1, a => by
    rw [cc, cc_range ws K, List.range_succ_eq_map (n := K + 1), List.map_cons, List.map_map]
    congr 1
    apply List.map_congr_left
    intro k _
    simp only [tAt, Function.comp, Nat.succ_eq_add_one]
    rw [aAt_shift, Nat.add_sub_add_right]
theorem aAt_le (ws : List Nat) (K a : Nat) (h : a ≤ (rowN ws K).length) : ∀ k, k ≤ K → aAt ws K a k ≤ (rowN ws (K - k)).length
  | 0, _ => h
  | k + 1, hk => by
    have ih := aAt_le ws K a h k (by omega)
    have e : K - k = (K - (k + 1)) + 1 := by omega
    rw [aAt]
    rw [e] at ih ⊢
    exact pairs_enough ws _ _ ih
theorem length_bump (cs : List (Nat × Nat)) (t : Nat) (l : List Int) : (bump cs t l).length = l.length := by
  unfold bump
  have : ∀ (p : List (Nat × Nat)) (l : List Int), (p.foldl (fun l c => l.set c.1 (l.getD c.1 0 + 1)) l).length = l.length := by
    intro p
    induction p with
    | nil => intro l; rfl
    | cons c p ih => intro l; rw [List.foldl_cons, ih, List.length_set]
  exact this _ _
theorem bump_succ (cs : List (Nat × Nat)) (t : Nat) (l : List Int) (h : t < cs.length) : bump cs (t + 1) l = (bump cs t l).set cs[t].1 ((bump cs t l).getD cs[t].1 0 + 1) := by
  unfold bump; rw [List.take_succ_eq_append_getElem h, List.foldl_append]; rfl
theorem length_lFold (cs : List (Nat × Nat)) (ts : List Nat) (l : List Int) : (lFold cs ts l).length = l.length := by
  unfold lFold
  induction ts generalizing l with
  | nil => rfl
  | cons t ts ih => rw [List.foldl_cons, ih, length_bump]
theorem lFold_snoc (cs : List (Nat × Nat)) (ts : List Nat) (t : Nat) (l : List Int) : lFold cs (ts ++ [t]) l = bump cs t (lFold cs ts l) := by unfold lFold; rw [List.foldl_append]; rfl
/-- What may stand in a list of lengths. -/
def Small (B : Nat) (l : List Int) : Prop := ∀ x ∈ l, 0 ≤ x ∧ x ≤ (B : Int)
theorem Small.bumped {B : Nat} {l : List Int} (h : Small B l) (cs : List (Nat × Nat)) : ∀ t, Small (B + t) (bump cs t l) := by
  intro t
  induction t with
  | zero => simpa [bump] using h
  | succ t ih =>
    by_cases ht : t < cs.length
    · rw [bump_succ cs t l ht]
      intro x hx
      rcases List.mem_or_eq_of_mem_set hx with h1 | h1
      · have := ih x h1; omega
      · subst h1
        rcases Nat.lt_or_ge cs[t].1 (bump cs t l).length with h2 | h2
        · have := ih _ (List.getElem_mem h2)
          rw [List.getD_eq_getElem?_getD, List.getElem?_eq_getElem h2]
          simp only [Option.getD_some]; omega
        · rw [List.getD_eq_getElem?_getD, List.getElem?_eq_none h2]; simp; omega
    · have e : bump cs (t + 1) l = bump cs t l := by
        unfold bump; rw [List.take_of_length_le (by omega), List.take_of_length_le (by omega)]
      rw [e]; intro x hx; have := ih x hx; omega
theorem tk_mono (row : List (Nat × Bool)) (a : Nat) : tk row a ≤ tk row (a + 1) := by
  unfold tk coinsIn
  rw [List.take_add_one, List.filter_append, List.length_append]; omega
theorem tk_succ (row : List (Nat × Bool)) (a : Nat) (h : a < row.length) : tk row (a + 1) = tk row a + (if row[a].2 then 0 else 1) := by
  unfold tk coinsIn
  rw [List.take_succ_eq_append_getElem h, List.filter_append, List.length_append]
  congr 1
  cases hb : row[a].2 <;> simp [hb]
end Go.Proofs.Ytmafcmfafcjokaa
