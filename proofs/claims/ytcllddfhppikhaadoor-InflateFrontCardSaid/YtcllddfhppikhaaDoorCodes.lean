/- Plain laws of lengths of codes: how much of all codes they take, and what Check tells. -/
namespace Go.Proofs.YtcllddfhppikhaaDoor
set_option maxRecDepth 100000

/-- How much of all codes a length takes. -/
def kr (x : Int) : Nat := if 0 < x then 2 ^ (15 - x.toNat) else 0
def ksum (l : List Int) : Nat := (l.map kr).sum
/-- How many symbols have codes. -/
def many (l : List Int) : Nat := (l.filter fun x => decide (0 < x)).length
/-- The greatest length. -/
def top (l : List Int) : Int := l.foldl (fun m x => if 0 < x then max m x else m) 0
def okLen (x : Int) : Bool := decide (0 ≤ x ∧ x ≤ 15)
def okLens (l : List Int) : Bool := l.all okLen
/-- What Check tells. -/
def chk (l : List Int) : Int :=
  if 288 < l.length then 1 else if okLens l = false then 1 else if 32768 < ksum l then 10 else
  if ksum l < 32768 ∧ 0 < many l ∧ ¬ (many l = 1 ∧ ksum l = 16384) then 11 else 0

theorem ksum_snoc (l : List Int) (x : Int) : ksum (l ++ [x]) = ksum l + kr x := by simp [ksum]
theorem many_snoc (l : List Int) (x : Int) : many (l ++ [x]) = many l + (if 0 < x then 1 else 0) := by
  unfold many; rw [List.filter_append, List.length_append]; congr 1
  by_cases h : 0 < x <;> simp [h]
theorem top_snoc (l : List Int) (x : Int) : top (l ++ [x]) = if 0 < x then max (top l) x else top l := by
  unfold top; rw [List.foldl_append]; rfl
theorem okLens_snoc (l : List Int) (x : Int) : okLens (l ++ [x]) = (okLens l && okLen x) := by simp [okLens]
theorem kr_le (x : Int) : kr x ≤ 32768 := by
  unfold kr; split
  · exact Nat.le_trans (Nat.pow_le_pow_right (by decide) (Nat.sub_le _ _)) (by decide)
  · exact Nat.zero_le _
theorem ksum_le (l : List Int) : ksum l ≤ 32768 * l.length := by
  induction l with
  | nil => simp [ksum]
  | cons x l ih => have := kr_le x; simp only [ksum, List.map_cons, List.sum_cons, List.length_cons] at ih ⊢; omega
theorem many_le (l : List Int) : many l ≤ l.length := List.length_filter_le _ _
theorem top_mono (l : List Int) : ∀ m : Int, m ≤ l.foldl (fun m x => if 0 < x then max m x else m) m := by
  induction l with
  | nil => intro m; exact Int.le_refl _
  | cons x l ih =>
    intro m
    simp only [List.foldl_cons]
    refine Int.le_trans ?_ (ih _)
    split <;> omega
theorem top_nonneg (l : List Int) : 0 ≤ top l := top_mono l 0
theorem top_le (l : List Int) (h : okLens l = true) : top l ≤ 15 := by
  unfold top
  have : ∀ m : Int, m ≤ 15 → l.foldl (fun m x => if 0 < x then max m x else m) m ≤ 15 := by
    induction l with
    | nil => intro m hm; exact hm
    | cons x l ih =>
      intro m hm
      simp only [okLens, List.all_cons, Bool.and_eq_true, okLen, decide_eq_true_eq] at h
      simp only [List.foldl_cons]
      refine ih h.2 _ ?_
      split <;> omega
  exact this 0 (by decide)
theorem top_mem (l : List Int) : ∀ x ∈ l, x ≤ top l := by
  unfold top
  have : ∀ m : Int, ∀ x ∈ l, 0 < x → x ≤ l.foldl (fun m x => if 0 < x then max m x else m) m := by
    induction l with
    | nil => intro m x hx; cases hx
    | cons y l ih =>
      intro m x hx h0
      simp only [List.foldl_cons]
      rcases List.mem_cons.1 hx with rfl | hx
      · refine Int.le_trans ?_ (top_mono l _)
        rw [if_pos h0]; omega
      · exact ih _ x hx h0
  intro x hx
  by_cases h : 0 < x
  · exact this 0 x hx h
  · exact Int.le_trans (by omega) (top_nonneg l)
theorem many_pos (l : List Int) : 0 < many l ↔ ∃ x ∈ l, 0 < x := by
  unfold many
  rw [List.length_pos_iff_exists_mem]
  constructor
  · rintro ⟨x, hx⟩; rw [List.mem_filter] at hx; exact ⟨x, hx.1, by simpa using hx.2⟩
  · rintro ⟨x, hx, h⟩; exact ⟨x, List.mem_filter.2 ⟨hx, by simpa using h⟩⟩
/-- One symbol alone: how much it takes tells its length. -/
theorem one_sum : ∀ l : List Int, okLens l = true → many l = 0 → ksum l = 0 ∧ top l = 0
  | [], _, _ => ⟨rfl, rfl⟩
  | x :: l, h, hm => by
    unfold many at hm
    rw [List.filter_cons] at hm
    by_cases h0 : 0 < x
    · rw [if_pos (by simpa using h0)] at hm; simp at hm
    · rw [if_neg (by simpa using h0)] at hm
      simp only [okLens, List.all_cons, Bool.and_eq_true] at h
      obtain ⟨i1, i2⟩ := one_sum l h.2 hm
      refine ⟨?_, ?_⟩
      · simp only [ksum, List.map_cons, List.sum_cons] at i1 ⊢; rw [i1]; unfold kr; rw [if_neg h0]
      · unfold top at i2 ⊢; simp only [List.foldl_cons]; rw [if_neg h0]; exact i2
theorem foldTop_zero : ∀ (l : List Int) (m : Int), many l = 0 → l.foldl (fun m x => if 0 < x then max m x else m) m = m
  | [], _, _ => rfl
  | x :: l, m, hm => by
    unfold many at hm
    rw [List.filter_cons] at hm
    by_cases h0 : 0 < x
    · rw [if_pos (by simpa using h0)] at hm; simp at hm
    · rw [if_neg (by simpa using h0)] at hm
      simp only [List.foldl_cons]; rw [if_neg h0]; exact foldTop_zero l m hm
theorem one_sum' : ∀ l : List Int, okLens l = true → many l = 1 → ∃ m : Nat, 1 ≤ m ∧ m ≤ 15 ∧ ksum l = 2 ^ (15 - m) ∧ top l = m
  | [], _, hm => by simp [many] at hm
  | x :: l, h, hm => by
    have hm' := hm
    unfold many at hm
    rw [List.filter_cons] at hm
    simp only [okLens, List.all_cons, Bool.and_eq_true, okLen, decide_eq_true_eq] at h
    by_cases h0 : 0 < x
    · rw [if_pos (by simpa using h0)] at hm
      have hz : many l = 0 := by simpa [many] using hm
      obtain ⟨i1, _⟩ := one_sum l h.2 hz
      refine ⟨x.toNat, by omega, by omega, ?_, ?_⟩
      · simp only [ksum, List.map_cons, List.sum_cons] at i1 ⊢; rw [i1]; unfold kr; rw [if_pos h0]; rfl
      · unfold top; simp only [List.foldl_cons]; rw [if_pos h0, foldTop_zero l _ hz]; omega
    · rw [if_neg (by simpa using h0)] at hm
      obtain ⟨m, i0, i1, i2, i3⟩ := one_sum' l h.2 hm
      refine ⟨m, i0, i1, ?_, ?_⟩
      · simp only [ksum, List.map_cons, List.sum_cons] at i2 ⊢; rw [i2]; unfold kr; rw [if_neg h0]; omega
      · unfold top at i3 ⊢; simp only [List.foldl_cons]; rw [if_neg h0]; exact i3
theorem single_iff (l : List Int) (h : okLens l = true) : (many l = 1 ∧ ksum l = 16384) ↔ (many l = 1 ∧ top l = 1) := by
  constructor
  · rintro ⟨h1, h2⟩
    obtain ⟨m, h3, h4, h5, h6⟩ := one_sum' l h h1
    refine ⟨h1, ?_⟩
    rw [h6]
    have : m = 1 := by
      apply Classical.byContradiction; intro hc
      have := Nat.pow_le_pow_right (n := 2) (by decide) (show 15 - m ≤ 13 by omega)
      omega
    omega
  · rintro ⟨h1, h2⟩
    obtain ⟨m, h3, h4, h5, h6⟩ := one_sum' l h h1
    have : m = 1 := by omega
    subst this
    exact ⟨h1, h5⟩
/-- The document's test is the program's. -/
theorem chk_ref (l : List Int) : chk l = (if 288 < l.length then 1 else if okLens l = false then 1 else if 32768 < ksum l then 10 else
  if ksum l < 32768 ∧ 0 < many l ∧ ¬ (many l = 1 ∧ top l = 1) then 11 else 0) := by
  unfold chk
  by_cases h1 : 288 < l.length
  · rw [if_pos h1, if_pos h1]
  · rw [if_neg h1, if_neg h1]
    by_cases h2 : okLens l = false
    · rw [if_pos h2, if_pos h2]
    · rw [if_neg h2, if_neg h2]
      simp only [single_iff l (by simpa using h2)]
theorem chk_cases (l : List Int) : chk l = 0 ∨ chk l = 1 ∨ chk l = 10 ∨ chk l = 11 := by
  unfold chk; repeat' split
  all_goals simp
theorem chk_zero {l : List Int} (h : chk l = 0) : l.length ≤ 288 ∧ okLens l = true ∧ ksum l ≤ 32768 ∧ (ksum l = 32768 ∨ many l = 0 ∨ (many l = 1 ∧ ksum l = 16384)) := by
  unfold chk at h
  by_cases h1 : 288 < l.length
  · rw [if_pos h1] at h; omega
  rw [if_neg h1] at h
  by_cases h2 : okLens l = false
  · rw [if_pos h2] at h; omega
  rw [if_neg h2] at h
  by_cases h3 : 32768 < ksum l
  · rw [if_pos h3] at h; omega
  rw [if_neg h3] at h
  by_cases h4 : ksum l < 32768 ∧ 0 < many l ∧ ¬ (many l = 1 ∧ ksum l = 16384)
  · rw [if_pos h4] at h; omega
  refine ⟨by omega, by simpa using h2, by omega, ?_⟩
  by_cases h5 : many l = 1 ∧ ksum l = 16384
  · exact .inr (.inr h5)
  · rcases Nat.eq_zero_or_pos (many l) with h6 | h6
    · exact .inr (.inl h6)
    · left; apply Classical.byContradiction; intro h7; exact h4 ⟨by omega, h6, h5⟩
end Go.Proofs.YtcllddfhppikhaaDoor
