/- Plain laws of the lengths that Limit tells: they are full, keep the order of the counts, and cost no more with one bit more. -/
import Derived.Test.YtmafcmfafcjokaaLimitW
namespace Go.Proofs.Ytmafcmfafcjokaa

theorem getD_set (l : List Int) (i j : Nat) (x : Int) : (l.set i x).getD j 0 = if i = j ∧ j < l.length then x else l.getD j 0 := by
  rw [List.getD_eq_getElem?_getD, List.getD_eq_getElem?_getD]
  by_cases h : i = j
  · subst h
    by_cases h2 : i < l.length
    · rw [List.getElem?_set_self h2, if_pos ⟨rfl, h2⟩]; rfl
    · rw [if_neg (by omega), List.getElem?_eq_none (by simp; omega), List.getElem?_eq_none (by omega)]
  · rw [List.getElem?_set_ne h, if_neg (by omega)]
theorem nodup_at {cs : List (Nat × Nat)} (hd : (cs.map (·.1)).Nodup) {r q : Nat} (hr : r < cs.length) (hq : q < cs.length) (h : cs[r].1 = cs[q].1) : r = q := by
  have hp := List.pairwise_iff_getElem.1 hd
  apply Classical.byContradiction; intro hne
  rcases Nat.lt_or_gt_of_ne hne with h1 | h1
  · exact hp r q (by simpa using hr) (by simpa using hq) h1 (by simpa using h)
  · exact hp q r (by simpa using hq) (by simpa using hr) h1 (by simpa using h.symm)
theorem bump_at {cs : List (Nat × Nat)} (hd : (cs.map (·.1)).Nodup) {l : List Int} (hlt : ∀ c ∈ cs, c.1 < l.length) {r : Nat} (hr : r < cs.length) : ∀ t, (bump cs t l).getD cs[r].1 0 = l.getD cs[r].1 0 + if r < t then 1 else 0
  | 0 => by simp [bump]
  | t + 1 => by
    have ih := bump_at hd hlt hr t
    by_cases ht : t < cs.length
    · rw [bump_succ cs t l ht, getD_set, length_bump]
      by_cases e : t = r
      · subst e
        rw [if_pos ⟨rfl, hlt _ (List.getElem_mem hr)⟩, ih, if_neg (by omega), if_pos (by omega)]; omega
      · rw [if_neg (fun h => e (nodup_at hd ht hr h.1)), ih]
        by_cases h1 : r < t
        · rw [if_pos h1, if_pos (by omega)]
        · rw [if_neg h1, if_neg (by omega)]
    · have e : bump cs (t + 1) l = bump cs t l := by
        unfold bump; rw [List.take_of_length_le (by omega), List.take_of_length_le (by omega)]
      rw [e, ih, if_pos (by omega), if_pos (by omega)]
theorem bump_off {cs : List (Nat × Nat)} {l : List Int} {s : Nat} (hs : s ∉ cs.map (·.1)) : ∀ t, (bump cs t l).getD s 0 = l.getD s 0
  | 0 => by simp [bump]
  | t + 1 => by
    have ih := bump_off hs t (l := l)
    by_cases ht : t < cs.length
    · rw [bump_succ cs t l ht, getD_set, if_neg, ih]
      rintro ⟨h, _⟩
      exact hs (h ▸ List.mem_map_of_mem (List.getElem_mem ht))
    · have e : bump cs (t + 1) l = bump cs t l := by
        unfold bump; rw [List.take_of_length_le (by omega), List.take_of_length_le (by omega)]
      rw [e, ih]
theorem lFold_at {cs : List (Nat × Nat)} (hd : (cs.map (·.1)).Nodup) {r : Nat} (hr : r < cs.length) : ∀ (ts : List Nat) (l : List Int), (∀ c ∈ cs, c.1 < l.length) → (lFold cs ts l).getD cs[r].1 0 = l.getD cs[r].1 0 + (rl ts r : Nat)
  | [], l, _ => by simp [lFold, rl]
  | t :: ts, l, h => by
    have ih := lFold_at hd hr ts (bump cs t l) (fun c hc => by rw [length_bump]; exact h c hc)
    have e : lFold cs (t :: ts) l = lFold cs ts (bump cs t l) := rfl
    rw [e, ih, bump_at hd h hr, rl]
    split <;> simp <;> omega
theorem lFold_off {cs : List (Nat × Nat)} {s : Nat} (hs : s ∉ cs.map (·.1)) : ∀ (ts : List Nat) (l : List Int), (lFold cs ts l).getD s 0 = l.getD s 0
  | [], l => rfl
  | t :: ts, l => by
    have e : lFold cs (t :: ts) l = lFold cs ts (bump cs t l) := rfl
    rw [e, lFold_off hs ts, bump_off hs]
theorem csOf_nodup (l : List Int) (k : Nat) : ((csOf l k).map (·.1)).Nodup := by
  have h1 : ((coins0 l k).map (·.1)).Nodup := by
    unfold List.Nodup
    rw [List.pairwise_map]
    exact (coins0_asc l k).imp (fun h => by omega)
  exact ((csOf_ok l k).2.map (·.1)).nodup_iff.2 h1
theorem csOf_asc (l : List Int) (k : Nat) : Asc ((csOf l k).map (·.2)) := by
  unfold Asc
  rw [List.pairwise_map]
  exact (csOf_ok l k).1.imp (fun h => by unfold lx at h; omega)
theorem zeros_getD (n s : Nat) : (List.replicate n (0 : Int)).getD s 0 = 0 := by
  rw [List.getD_eq_getElem?_getD]
  by_cases h : s < n
  · rw [List.getElem?_eq_getElem (by simpa using h)]; simp
  · rw [List.getElem?_eq_none (by simpa using h)]; rfl

/-- The length of the coin of this rank. -/
def rk (M : Nat) (l : List Int) (r : Nat) : Nat := if (csOf l l.length).length = 1 then 1 else rl (lensOf ((csOf l l.length).map (·.2)) (M - 1)) r
section
variable {M : Nat} {l : List Int}
theorem lims_rank {r : Nat} (hr : r < (csOf l l.length).length) : (lims M l).getD (csOf l l.length)[r].1 0 = (rk M l r : Nat) := by
  have hlt : ∀ c ∈ csOf l l.length, c.1 < (List.replicate l.length (0 : Int)).length := fun c hc => by rw [List.length_replicate]; exact (mem_csOf.1 hc).1
  unfold rk
  by_cases h1 : (csOf l l.length).length = 1
  · rw [lims_one rfl rfl h1, if_pos h1, getD_set]
    have e : (csOf l l.length).getD 0 (0, 0) = (csOf l l.length)[r] := by
      obtain rfl : r = 0 := by omega
      rw [List.getD_eq_getElem?_getD, List.getElem?_eq_getElem hr]; rfl
    rw [e, if_pos ⟨rfl, hlt _ (List.getElem_mem hr)⟩]; rfl
  · rw [lims_more rfl rfl (by omega), if_neg h1, lFold_at (csOf_nodup l _) hr _ _ hlt, zeros_getD, Int.zero_add]
    unfold lensOf
    rw [List.length_map]
theorem lims_off {s : Nat} (hs : s ∉ (csOf l l.length).map (·.1)) : (lims M l).getD s 0 = 0 := by
  by_cases h0 : (csOf l l.length).length = 0
  · rw [lims_zero rfl rfl h0, zeros_getD]
  · by_cases h1 : (csOf l l.length).length = 1
    · rw [lims_one rfl rfl h1, getD_set, if_neg, zeros_getD]
      rintro ⟨h, _⟩
      refine hs (h ▸ List.mem_map_of_mem ?_)
      rw [List.getD_eq_getElem?_getD, List.getElem?_eq_getElem (by omega)]
      exact List.getElem_mem _
    · rw [lims_more rfl rfl (by omega), lFold_off hs, zeros_getD]
theorem rank_of {i : Nat} (hi : i < l.length) (h : 0 < l.getD i 0) : ∃ r, ∃ hr : r < (csOf l l.length).length, (csOf l l.length)[r] = (i, (l.getD i 0).toNat) := by
  obtain ⟨r, hr, e⟩ := List.getElem_of_mem (mem_csOf.2 (show (i, (l.getD i 0).toNat).1 < l.length ∧ _ from ⟨hi, h, rfl⟩))
  exact ⟨r, hr, e⟩
theorem not_rank {i : Nat} (h : ¬ 0 < l.getD i 0) : i ∉ (csOf l l.length).map (·.1) := by
  intro hm
  obtain ⟨c, hc, rfl⟩ := List.mem_map.1 hm
  exact h (mem_csOf.1 hc).2.1
variable (hM1 : 1 ≤ M) (hp : (csOf l l.length).length ≤ 2 ^ M)
include hM1 hp
theorem rk_range {r : Nat} (hr : r < (csOf l l.length).length) : 1 ≤ rk M l r ∧ rk M l r ≤ M := by
  unfold rk
  by_cases h1 : (csOf l l.length).length = 1
  · rw [if_pos h1]; omega
  · rw [if_neg h1]
    have e : M - 1 + 1 = M := by omega
    have hpos := rl_pos ((csOf l l.length).map (·.2)) (csOf_asc l _) (M - 1) (by rw [e, List.length_map]; exact hp) (by rw [List.length_map]; omega) r (by rw [List.length_map]; exact hr)
    have hmost := rl_most ((csOf l l.length).map (·.2)) (M - 1) r
    omega
omit hM1 hp in
theorem rk_anti {r q : Nat} (h : r ≤ q) : rk M l q ≤ rk M l r := by
  unfold rk
  split
  · exact Nat.le_refl _
  · exact rl_anti _ _ _ h
theorem lims_at {i : Nat} (hi : i < l.length) (h : 0 < l.getD i 0) : 1 ≤ (lims M l).getD i 0 ∧ (lims M l).getD i 0 ≤ (M : Int) := by
  obtain ⟨r, hr, e⟩ := rank_of hi h
  have h1 := lims_rank (M := M) hr
  rw [e] at h1
  have h2 := rk_range hM1 hp hr
  rw [h1]; omega
omit hM1 hp in
theorem lims_none {i : Nat} (h : ¬ 0 < l.getD i 0) : (lims M l).getD i 0 = 0 := lims_off (not_rank h)
omit hM1 hp in
theorem lims_order {i k : Nat} (hi : i < l.length) (hk : k < l.length) (h : l.getD k 0 < l.getD i 0) (h0 : 0 < l.getD k 0) : (lims M l).getD i 0 ≤ (lims M l).getD k 0 := by
  obtain ⟨r, hr, e⟩ := rank_of hi (by omega)
  obtain ⟨q, hq, e2⟩ := rank_of hk h0
  have h1 := lims_rank (M := M) hr
  have h2 := lims_rank (M := M) hq
  rw [e] at h1
  rw [e2] at h2
  have hqr : q ≤ r := by
    apply Classical.byContradiction; intro hn
    have := List.pairwise_iff_getElem.1 (csOf_ok l l.length).1 r q hr hq (by omega)
    rw [e, e2] at this
    unfold lx at this
    dsimp only at this
    omega
  have := rk_anti (M := M) (l := l) hqr
  rw [h1, h2]; omega

omit hM1 hp in
theorem sum_upTo (L : List Nat) : L.sum = upTo L.length fun r => L.getD r 0 := by
  have := sum_take L L.length (Nat.le_refl _)
  rwa [List.take_length] at this
omit hM1 hp in
/-- A sum over the symbols that occur is one over the coins. -/
theorem sum_coins (l : List Int) (f : Nat → Nat) : ((List.range l.length).map fun i => if 0 < l.getD i 0 then f i else 0).sum = upTo (csOf l l.length).length fun r => f ((csOf l l.length).getD r (0, 0)).1 := by
  have h0 : ∀ k, ((coins0 l k).map fun c => f c.1).sum = ((List.range k).map fun i => if 0 < l.getD i 0 then f i else 0).sum := by
    intro k
    induction k with
    | zero => rfl
    | succ k ih =>
      rw [coins0, List.range_succ, List.map_append, List.sum_append, ← ih]
      split
      · rename_i h
        rw [List.map_append, List.sum_append]
        congr 1
        show f k + 0 = (if 0 < l.getD k 0 then f k else 0) + 0
        rw [if_pos h]
      · rename_i h
        show _ = _ + ((if 0 < l.getD k 0 then f k else 0) + 0)
        rw [if_neg h]; rfl
  rw [← h0, ← ((csOf_ok l l.length).2.map fun c => f c.1).sum_nat, sum_upTo, List.length_map]
  apply upTo_congr
  intro r hr
  rw [List.getD_eq_getElem?_getD, List.getD_eq_getElem?_getD, List.getElem?_map, List.getElem?_eq_getElem hr]; rfl
omit hM1 hp in
theorem sum_lims (g : Int → Nat) (h0 : g 0 = 0) : ((List.range l.length).map fun s => g ((lims M l).getD s 0)).sum = upTo (csOf l l.length).length fun r => g (rk M l r : Nat) := by
  have e : ((List.range l.length).map fun s => g ((lims M l).getD s 0)) = (List.range l.length).map fun i => if 0 < l.getD i 0 then g ((lims M l).getD i 0) else 0 := by
    apply List.map_congr_left
    intro i _
    by_cases h : 0 < l.getD i 0
    · rw [if_pos h]
    · rw [if_neg h, lims_none h, h0]
  rw [e, sum_coins]
  apply upTo_congr
  intro r hr
  have e3 : (csOf l l.length).getD r (0, 0) = (csOf l l.length)[r] := by rw [List.getD_eq_getElem?_getD, List.getElem?_eq_getElem hr]; rfl
  rw [e3, lims_rank hr]
omit hM1 hp in
theorem many_range (L : List Int) : many L = ((List.range L.length).map fun s => if 0 < L.getD s 0 then 1 else 0).sum := by
  have : ((List.range L.length).map fun s => if 0 < L.getD s 0 then 1 else 0) = L.map fun x => if 0 < x then 1 else 0 := by
    apply List.ext_getElem
    · simp
    · intro i h1 h2
      simp only [List.getElem_map, List.getElem_range]
      rw [List.getD_eq_getElem?_getD, List.getElem?_eq_getElem (by simpa using h2)]; rfl
  rw [this]
  unfold many
  induction L with
  | nil => rfl
  | cons x L ih =>
    rw [List.filter_cons, List.map_cons, List.sum_cons, ← ih (by
      apply List.ext_getElem
      · simp
      · intro i h1 h2
        simp only [List.getElem_map, List.getElem_range]
        rw [List.getD_eq_getElem?_getD, List.getElem?_eq_getElem (by simpa using h2)]; rfl)]
    by_cases h : 0 < x
    · rw [if_pos (by simpa using h), if_pos h, List.length_cons]; omega
    · rw [if_neg (by simpa using h), if_neg h]; omega
theorem chk_lims (hM2 : M ≤ 15) (h288 : l.length ≤ 288) : chk (lims M l) = 0 := by
  have hl := length_lims M l
  have hok : okLens (lims M l) = true := by
    unfold okLens
    rw [List.all_eq_true]
    intro x hx
    obtain ⟨i, hi, rfl⟩ := List.getElem_of_mem hx
    have e : (lims M l)[i] = (lims M l).getD i 0 := by rw [List.getD_eq_getElem?_getD, List.getElem?_eq_getElem hi]; rfl
    rw [e]
    unfold okLen
    simp only [decide_eq_true_eq]
    by_cases h : 0 < l.getD i 0
    · have := lims_at hM1 hp (by omega) h; omega
    · rw [lims_none h]; omega
  have hm : many (lims M l) = (csOf l l.length).length := by
    rw [many_range, hl, sum_lims (fun x => if 0 < x then 1 else 0) (by simp)]
    rw [upTo_congr (g := fun _ => 1) (fun r hr => by have := rk_range hM1 hp hr; rw [if_pos (by omega)]), upTo_const, Nat.mul_one]
  have hk : ksum (lims M l) = upTo (csOf l l.length).length fun r => 2 ^ (15 - rk M l r) := by
    rw [← range_sum, hl, sum_lims kr (by simp [kr])]
    apply upTo_congr
    intro r hr
    have := rk_range hM1 hp hr
    unfold kr
    rw [if_pos (by omega), Int.toNat_natCast]
  unfold chk
  rw [if_neg (by omega), hok, if_neg (by simp)]
  by_cases h0 : (csOf l l.length).length = 0
  · rw [hm, hk, h0]; simp [upTo]
  · by_cases h1 : (csOf l l.length).length = 1
    · have e : ksum (lims M l) = 16384 := by
        rw [hk, h1]
        simp only [upTo, Nat.zero_add]
        unfold rk; rw [if_pos h1]
      rw [e, if_neg (by omega), if_neg]
      rw [hm, h1]; simp
    · have e : ksum (lims M l) = 32768 := by
        rw [hk]
        have hf := full_15 ((csOf l l.length).map (·.2)) (csOf_asc l _) (M - 1) (by rw [show M - 1 + 1 = M from by omega, List.length_map]; exact hp) (by rw [List.length_map]; omega) (by omega)
        rw [List.length_map] at hf
        have e2 : ∀ r, rk M l r = rl (lensOf ((csOf l l.length).map (·.2)) (M - 1)) r := fun r => by unfold rk; rw [if_neg h1]
        rw [upTo_congr (g := fun r => 2 ^ (15 - rl (lensOf ((csOf l l.length).map (·.2)) (M - 1)) r)) (fun r _ => by rw [e2]), hf]
      rw [e, if_neg (by omega), if_neg (by omega)]
end

/-- What the first k symbols cost. -/
def costN (L l : List Int) : Nat → Nat
  | 0 => 0
  | k + 1 => costN L l k + (L.getD k 0).toNat * (l.getD k 0).toNat
theorem costN_range (L l : List Int) : ∀ k, costN L l k = ((List.range k).map fun i => (L.getD i 0).toNat * (l.getD i 0).toNat).sum
  | 0 => rfl
  | k + 1 => by rw [costN, costN_range L l k, List.range_succ, List.map_append, List.sum_append]; simp
theorem costN_le {L l : List Int} (h1 : ∀ i, (L.getD i 0).toNat ≤ 15) (h2 : ∀ i, (l.getD i 0).toNat ≤ 1000000000) : ∀ k, costN L l k ≤ 15000000000 * k
  | 0 => Nat.le_refl _
  | k + 1 => by
    have := costN_le h1 h2 k
    have h3 := Nat.mul_le_mul (h1 k) (h2 k)
    rw [costN]; omega
theorem cost_lims (M : Nat) (l : List Int) : costN (lims M l) l l.length = upTo (csOf l l.length).length fun r => rk M l r * ((csOf l l.length).map (·.2)).getD r 0 := by
  rw [costN_range]
  have e : ((List.range l.length).map fun i => ((lims M l).getD i 0).toNat * (l.getD i 0).toNat) = (List.range l.length).map fun i => if 0 < l.getD i 0 then ((lims M l).getD i 0).toNat * (l.getD i 0).toNat else 0 := by
    apply List.map_congr_left
    intro i _
    by_cases h : 0 < l.getD i 0
    · rw [if_pos h]
    · rw [if_neg h, lims_none h]; simp
  rw [e, sum_coins]
  apply upTo_congr
  intro r hr
  have hc := mem_csOf.1 (List.getElem_mem hr)
  have e3 : (csOf l l.length).getD r (0, 0) = (csOf l l.length)[r] := by rw [List.getD_eq_getElem?_getD, List.getElem?_eq_getElem hr]; rfl
  rw [e3, lims_rank hr, Int.toNat_natCast, ← hc.2.2, List.getD_eq_getElem?_getD, List.getElem?_map, List.getElem?_eq_getElem hr]; rfl
theorem cost_next {M : Nat} {l : List Int} (hM1 : 1 ≤ M) (hp : (csOf l l.length).length ≤ 2 ^ M) : costN (lims (M + 1) l) l l.length ≤ costN (lims M l) l l.length := by
  rw [cost_lims, cost_lims]
  by_cases h1 : (csOf l l.length).length = 1
  · unfold rk; simp only [if_pos h1]; exact Nat.le_refl _
  · by_cases h0 : (csOf l l.length).length = 0
    · rw [h0]; exact Nat.le_refl _
    · unfold rk; simp only [if_neg h1]
      have h := cost_less ((csOf l l.length).map (·.2)) (csOf_asc l _) (M - 1) (by rw [show M - 1 + 1 = M from by omega, List.length_map]; exact hp) (by rw [List.length_map]; omega)
      rw [List.length_map, show M - 1 + 1 = M from by omega] at h
      rw [show M + 1 - 1 = M from by omega]
      exact h
end Go.Proofs.Ytmafcmfafcjokaa
