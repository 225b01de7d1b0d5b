/- Plain laws of layer 4: which tokens bytes are, what tokens say, and that this is the bytes again. -/
namespace Go.Proofs.Ytbdackcfedcmkaa
set_option maxRecDepth 100000

/-- How many bytes from i on are as those so far before: at most so many more. -/
def runG (l : List UInt8) (i d : Nat) : Nat → Nat → Nat
  | 0, n => n
  | f + 1, n => if i + n < l.length ∧ l.getD (i + n) 0 = l.getD (i + n - d) 0 then runG l i d f (n + 1) else n
def runLen (l : List UInt8) (i d : Nat) : Nat := runG l i d 258 0
theorem runG_ge (l : List UInt8) (i d : Nat) : ∀ f n, n ≤ runG l i d f n
  | 0, _ => Nat.le_refl _
  | f + 1, n => by
    rw [runG]; split
    · have := runG_ge l i d f (n + 1); omega
    · exact Nat.le_refl _
theorem runG_le (l : List UInt8) (i d : Nat) : ∀ f n, runG l i d f n ≤ n + f
  | 0, _ => Nat.le_refl _
  | f + 1, n => by
    rw [runG]; split
    · have := runG_le l i d f (n + 1); omega
    · omega
theorem runG_in (l : List UInt8) (i d : Nat) : ∀ f n, i + n ≤ l.length → i + runG l i d f n ≤ l.length
  | 0, _, h => h
  | f + 1, n, h => by
    rw [runG]; split
    · rename_i hc; exact runG_in l i d f (n + 1) (by omega)
    · exact h
theorem runG_same (l : List UInt8) (i d : Nat) : ∀ f n k, n ≤ k → k < runG l i d f n → l.getD (i + k) 0 = l.getD (i + k - d) 0
  | 0, _, _, h1, h2 => by simp only [runG] at h2; omega
  | f + 1, n, k, h1, h2 => by
    rw [runG] at h2
    split at h2
    · rename_i hc
      by_cases e : k = n
      · subst e; exact hc.2
      · exact runG_same l i d f (n + 1) k (by omega) h2
    · omega
/-- Where all are the same, the run goes as far as it may. -/
theorem runG_all (l : List UInt8) (i d : Nat) : ∀ f n, (∀ k, n ≤ k → i + k < l.length → l.getD (i + k) 0 = l.getD (i + k - d) 0) → i + n ≤ l.length → runG l i d f n = min (n + f) (l.length - i)
  | 0, n, _, h => by simp only [runG]; omega
  | f + 1, n, hs, h => by
    rw [runG]
    by_cases hc : i + n < l.length
    · rw [if_pos ⟨hc, hs n (Nat.le_refl _) hc⟩, runG_all l i d f (n + 1) (fun k hk hl => hs k (by omega) hl) (by omega)]; omega
    · rw [if_neg (by omega)]; omega
theorem runLen_le (l : List UInt8) (i d : Nat) : runLen l i d ≤ 258 := by have := runG_le l i d 258 0; unfold runLen; omega

/-- The longest run, and the smallest distance that has it, of the distances up to D. -/
def bestG (l : List UInt8) (i : Nat) : Nat → Nat × Nat
  | 0 => (0, 0)
  | d + 1 => if (bestG l i d).1 < runLen l i (d + 1) then (runLen l i (d + 1), d + 1) else bestG l i d
def bestAt (l : List UInt8) (i : Nat) : Nat × Nat := bestG l i (min 512 i)
theorem bestG_is (l : List UInt8) (i : Nat) : ∀ D, (bestG l i D = (0, 0)) ∨ (1 ≤ (bestG l i D).2 ∧ (bestG l i D).2 ≤ D ∧ (bestG l i D).1 = runLen l i (bestG l i D).2 ∧ 0 < (bestG l i D).1)
  | 0 => .inl rfl
  | d + 1 => by
    rw [bestG]; split
    · rename_i h; right; exact ⟨by dsimp only; omega, Nat.le_refl _, rfl, by dsimp only; omega⟩
    · rcases bestG_is l i d with h | h
      · exact .inl h
      · right; exact ⟨h.1, by omega, h.2.2⟩
theorem bestG_ge (l : List UInt8) (i : Nat) : ∀ D d, 1 ≤ d → d ≤ D → runLen l i d ≤ (bestG l i D).1
  | 0, d, h1, h2 => by omega
  | D + 1, d, h1, h2 => by
    rw [bestG]
    by_cases e : d = D + 1
    · subst e; split
      · exact Nat.le_refl _
      · omega
    · have := bestG_ge l i D d h1 (by omega)
      split
      · dsimp only; omega
      · exact this

/-- A token: its length, its distance, its byte. -/
abbrev Tk := Nat × Nat × Nat
def toksG (l : List UInt8) : Nat → Nat → List Tk
  | 0, _ => []
  | f + 1, i => if i < l.length then (if 3 ≤ (bestAt l i).1 then ((bestAt l i).1, (bestAt l i).2, 0) :: toksG l f (i + (bestAt l i).1) else (0, 0, (l.getD i 0).toNat) :: toksG l f (i + 1)) else []
def toks (l : List UInt8) : List Tk := toksG l l.length 0
theorem best_match {l : List UInt8} {i : Nat} (hi : i < l.length) (h : 3 ≤ (bestAt l i).1) : 1 ≤ (bestAt l i).2 ∧ (bestAt l i).2 ≤ 512 ∧ (bestAt l i).2 ≤ i ∧ (bestAt l i).1 ≤ 258 ∧ i + (bestAt l i).1 ≤ l.length ∧
    ∀ k, k < (bestAt l i).1 → l.getD (i + k) 0 = l.getD (i + k - (bestAt l i).2) 0 := by
  rcases bestG_is l i (min 512 i) with h1 | ⟨h1, h2, h3, h4⟩
  · have e : bestAt l i = (0, 0) := h1
    rw [e] at h; simp at h
  · refine ⟨h1, by show (bestG l i (min 512 i)).2 ≤ 512; omega, by show (bestG l i (min 512 i)).2 ≤ i; omega, ?_, ?_, ?_⟩
    · show (bestG l i (min 512 i)).1 ≤ 258; rw [h3]; exact runLen_le _ _ _
    · show i + (bestG l i (min 512 i)).1 ≤ l.length; rw [h3]; exact runG_in l i _ 258 0 (by omega)
    · intro k hk
      show l.getD (i + k) 0 = l.getD (i + k - (bestG l i (min 512 i)).2) 0
      exact runG_same l i _ 258 0 k (Nat.zero_le _) (by
        have : k < (bestG l i (min 512 i)).1 := hk
        rw [h3] at this; exact this)
/-- More steps make no difference, where there were enough. -/
theorem toksG_more (l : List UInt8) : ∀ f g i, l.length ≤ i + f → f ≤ g → toksG l g i = toksG l f i
  | 0, 0, _, _, _ => rfl
  | 0, g + 1, i, h, _ => by
    have e : toksG l 0 i = [] := rfl
    rw [e, toksG, if_neg (by omega)]
  | f + 1, g + 1, i, h, hg => by
    rw [toksG, toksG]
    by_cases hi : i < l.length
    · rw [if_pos hi, if_pos hi]
      by_cases hb : 3 ≤ (bestAt l i).1
      · rw [if_pos hb, if_pos hb, toksG_more l f g _ (by omega) (by omega)]
      · rw [if_neg hb, if_neg hb, toksG_more l f g _ (by omega) (by omega)]
    · rw [if_neg hi, if_neg hi]

/-! What tokens say. -/
def rightTk (t : Int × Int × Int) : Bool := if t.1 = 0 then decide (t.2.1 = 0 ∧ 0 ≤ t.2.2 ∧ t.2.2 ≤ 255) else decide (t.2.2 = 0 ∧ 3 ≤ t.1 ∧ t.1 ≤ 258 ∧ 1 ≤ t.2.1 ∧ t.2.1 ≤ 32768)
def lzCopy (far : Nat) : Nat → List UInt8 → List UInt8
  | 0, out => out
  | n + 1, out => lzCopy far n (out ++ [out.getD (out.length - far) 0])
theorem length_lzCopy (far : Nat) : ∀ n out, (lzCopy far n out).length = out.length + n
  | 0, _ => rfl
  | n + 1, out => by rw [lzCopy, length_lzCopy far n]; simp; omega
/-- What tokens say, or what is wrong first. -/
def exG : List (Int × Int × Int) → List UInt8 → Except Int (List UInt8)
  | [], out => .ok out
  | t :: ts, out => if rightTk t = false then .error 1 else
    if t.1 = 0 then exG ts (out ++ [UInt8.ofNat t.2.2.toNat]) else
    if (out.length : Int) < t.2.1 then .error 15 else exG ts (lzCopy t.2.1.toNat t.1.toNat out)
def tkI (t : Tk) : Int × Int × Int := (t.1, t.2.1, t.2.2)
theorem take_more {l : List UInt8} {i : Nat} (h : i < l.length) : l.take i ++ [l.getD i 0] = l.take (i + 1) := by
  rw [List.take_succ_eq_append_getElem h, List.getD_eq_getElem?_getD, List.getElem?_eq_getElem h]; rfl
theorem copy_take (l : List UInt8) (d : Nat) (hd : 1 ≤ d) : ∀ n i, d ≤ i → i + n ≤ l.length → (∀ k, k < n → l.getD (i + k) 0 = l.getD (i + k - d) 0) → lzCopy d n (l.take i) = l.take (i + n)
  | 0, i, _, _, _ => rfl
  | n + 1, i, h1, h2, h3 => by
    have hl : (l.take i).length = i := by simp; omega
    have e : (l.take i).getD ((l.take i).length - d) 0 = l.getD i 0 := by
      have h4 := h3 0 (by omega)
      rw [Nat.add_zero] at h4
      rw [hl, h4, List.getD_eq_getElem?_getD, List.getD_eq_getElem?_getD, List.getElem?_take_of_lt (by omega)]
    rw [lzCopy, e, take_more (by omega), copy_take l d hd n (i + 1) (by omega) (by omega) (fun k hk => by
      have := h3 (k + 1) (by omega)
      rw [show i + 1 + k = i + (k + 1) from by omega]; exact this)]
    congr 1; omega
theorem right_lit (b : UInt8) : rightTk (tkI (0, 0, b.toNat)) = true := by
  have h := b.toNat_lt
  show (if ((0 : Nat) : Int) = 0 then decide (((0 : Nat) : Int) = 0 ∧ 0 ≤ ((b.toNat : Nat) : Int) ∧ ((b.toNat : Nat) : Int) ≤ 255) else _) = true
  rw [if_pos (by omega), decide_eq_true_eq]; omega
theorem right_match {n d : Nat} (h1 : 3 ≤ n) (h2 : n ≤ 258) (h3 : 1 ≤ d) (h4 : d ≤ 32768) : rightTk (tkI (n, d, 0)) = true := by
  show (if (n : Int) = 0 then _ else decide (((0 : Nat) : Int) = 0 ∧ 3 ≤ (n : Int) ∧ (n : Int) ≤ 258 ∧ 1 ≤ (d : Int) ∧ (d : Int) ≤ 32768)) = true
  rw [if_neg (by omega), decide_eq_true_eq]; omega
theorem ex_lit (b : UInt8) (ts : List (Int × Int × Int)) (out : List UInt8) : exG (tkI (0, 0, b.toNat) :: ts) out = exG ts (out ++ [b]) := by
  show (if rightTk (tkI (0, 0, b.toNat)) = false then _ else if (tkI (0, 0, b.toNat)).1 = 0 then exG ts (out ++ [UInt8.ofNat ((b.toNat : Nat) : Int).toNat]) else _) = _
  rw [if_neg (by rw [right_lit]; simp), if_pos (show (tkI (0, 0, b.toNat)).1 = 0 from rfl), Int.toNat_natCast, UInt8.ofNat_toNat]
theorem ex_match {n d : Nat} (h1 : 3 ≤ n) (h2 : n ≤ 258) (h3 : 1 ≤ d) (h4 : d ≤ 32768) (ts : List (Int × Int × Int)) (out : List UInt8) (h5 : d ≤ out.length) : exG (tkI (n, d, 0) :: ts) out = exG ts (lzCopy d n out) := by
  show (if rightTk (tkI (n, d, 0)) = false then _ else if (tkI (n, d, 0)).1 = 0 then _ else if (out.length : Int) < (d : Int) then _ else exG ts (lzCopy (d : Int).toNat (n : Int).toNat out)) = _
  rw [if_neg (by rw [right_match h1 h2 h3 h4]; simp), if_neg (show ¬ (tkI (n, d, 0)).1 = 0 by show ¬ (n : Int) = 0; omega), if_neg (by omega), Int.toNat_natCast, Int.toNat_natCast]
/-- What the tokens of bytes say is these bytes. -/
theorem ex_back (l : List UInt8) : ∀ f i, l.length ≤ i + f → i ≤ l.length → exG ((toksG l f i).map tkI) (l.take i) = .ok l
  | 0, i, h, hi => by
    have : i = l.length := by omega
    subst this; simp [toksG, exG]
  | f + 1, i, h, hi => by
    rw [toksG]
    by_cases hlt : i < l.length
    · rw [if_pos hlt]
      by_cases hb : 3 ≤ (bestAt l i).1
      · obtain ⟨b1, b2, b3, b4, b5, b6⟩ := best_match hlt hb
        have hl : (l.take i).length = i := by simp; omega
        rw [if_pos hb, List.map_cons, ex_match hb b4 b1 (by omega) _ _ (by omega), copy_take l _ b1 _ _ b3 b5 b6]
        exact ex_back l f _ (by omega) b5
      · rw [if_neg hb, List.map_cons, ex_lit, take_more hlt]
        exact ex_back l f _ (by omega) (by omega)
    · have : i = l.length := by omega
      rw [if_neg hlt, this]; simp [exG]
theorem toks_back (l : List UInt8) : exG ((toks l).map tkI) [] = .ok l := by
  have := ex_back l l.length 0 (by omega) (Nat.zero_le _)
  simpa [toks] using this
/-- Each token may be, and lies in the window. -/
theorem toks_right (l : List UInt8) : ∀ f i, ∀ t ∈ toksG l f i, rightTk (tkI t) = true ∧ t.2.1 ≤ 512 ∧ t.1 ≤ 258
  | 0, _, t, h => by simp [toksG] at h
  | f + 1, i, t, h => by
    rw [toksG] at h
    by_cases hlt : i < l.length
    · rw [if_pos hlt] at h
      by_cases hb : 3 ≤ (bestAt l i).1
      · obtain ⟨b1, b2, b3, b4, b5, b6⟩ := best_match hlt hb
        rw [if_pos hb] at h
        rcases List.mem_cons.1 h with rfl | h
        · exact ⟨right_match hb b4 b1 (by omega), b2, b4⟩
        · exact toks_right l f _ t h
      · rw [if_neg hb] at h
        rcases List.mem_cons.1 h with rfl | h
        · exact ⟨right_lit _, by dsimp only; omega, by dsimp only; omega⟩
        · exact toks_right l f _ t h
    · rw [if_neg hlt] at h; cases h
def spanTk (t : Tk) : Nat := max t.1 1
theorem toks_span (l : List UInt8) : ∀ f i, l.length ≤ i + f → i ≤ l.length → ((toksG l f i).map spanTk).sum = l.length - i
  | 0, i, h, hi => by simp [toksG]; omega
  | f + 1, i, h, hi => by
    rw [toksG]
    by_cases hlt : i < l.length
    · rw [if_pos hlt]
      by_cases hb : 3 ≤ (bestAt l i).1
      · obtain ⟨b1, b2, b3, b4, b5, b6⟩ := best_match hlt hb
        rw [if_pos hb, List.map_cons, List.sum_cons, toks_span l f _ (by omega) b5]
        unfold spanTk; dsimp only; omega
      · rw [if_neg hb, List.map_cons, List.sum_cons, toks_span l f _ (by omega) (by omega)]
        unfold spanTk; dsimp only; omega
    · rw [if_neg hlt]; simp; omega
theorem toks_few (l : List UInt8) : (toks l).length ≤ l.length := by
  have h := toks_span l l.length 0 (by omega) (Nat.zero_le _)
  have : ∀ ts : List Tk, ts.length ≤ (ts.map spanTk).sum := by
    intro ts
    induction ts with
    | nil => exact Nat.le_refl _
    | cons t ts ih => rw [List.map_cons, List.sum_cons, List.length_cons]; unfold spanTk at *; omega
  have := this (toksG l l.length 0)
  unfold toks; omega

/-! Bytes that come again and again. -/
/-- From m on each byte is as the one m before it. -/
def Again (l : List UInt8) (m : Nat) : Prop := ∀ i, m ≤ i → i < l.length → l.getD i 0 = l.getD (i - m) 0
theorem best_again {l : List UInt8} {m i : Nat} (h : Again l m) (h1 : 1 ≤ m) (h2 : m ≤ 512) (hi : m ≤ i) (hl : i ≤ l.length) : (bestAt l i).1 = min 258 (l.length - i) := by
  have hr : runLen l i m = min 258 (l.length - i) := by
    unfold runLen
    rw [runG_all l i m 258 0 (fun k _ hk => h (i + k) (by omega) hk) (by omega), Nat.zero_add]
  have hge : runLen l i m ≤ (bestAt l i).1 := bestG_ge l i (min 512 i) m h1 (by omega)
  have hle : (bestAt l i).1 ≤ min 258 (l.length - i) := by
    rcases bestG_is l i (min 512 i) with e | ⟨_, _, e, _⟩
    · have : bestAt l i = (0, 0) := e
      rw [this]; simp
    · show (bestG l i (min 512 i)).1 ≤ _
      rw [e]
      have a := runLen_le l i (bestG l i (min 512 i)).2
      have b := runG_in l i (bestG l i (min 512 i)).2 258 0 (by omega)
      unfold runLen at *; omega
  omega
theorem toks_tail {l : List UInt8} {m : Nat} (h : Again l m) (h1 : 1 ≤ m) (h2 : m ≤ 512) : ∀ f i, m ≤ i → i ≤ l.length → (toksG l f i).length ≤ (l.length - i) / 258 + 2
  | 0, _, _, _ => by simp [toksG]
  | f + 1, i, hi, hl => by
    rw [toksG]
    by_cases hlt : i < l.length
    · have hb := best_again h h1 h2 hi hl
      rw [if_pos hlt]
      by_cases h3 : 3 ≤ (bestAt l i).1
      · rw [if_pos h3, List.length_cons]
        by_cases h4 : 258 ≤ l.length - i
        · have e : (bestAt l i).1 = 258 := by omega
          have := toks_tail h h1 h2 f (i + (bestAt l i).1) (by omega) (by omega)
          rw [e] at this ⊢
          have e2 : (l.length - i) / 258 = (l.length - (i + 258)) / 258 + 1 := by omega
          omega
        · have e : (bestAt l i).1 = l.length - i := by omega
          have e2 : toksG l f (i + (bestAt l i).1) = [] := by
            cases f with
            | zero => rfl
            | succ f => rw [toksG, if_neg (by omega)]
          rw [e2]; simp
      · rw [if_neg h3, List.length_cons]
        have hs : l.length - i ≤ 2 := by omega
        have := toks_span l (l.length - (i + 1)) (i + 1) (by omega) (by omega)
        have hfew : (toksG l f (i + 1)).length ≤ 1 := by
          by_cases hi2 : i + 1 < l.length
          · cases f with
            | zero => simp [toksG]
            | succ f =>
              have hb2 := best_again h h1 h2 (i := i + 1) (by omega) (by omega)
              rw [toksG, if_pos hi2, if_neg (by omega), List.length_cons]
              cases f with
              | zero => simp [toksG]
              | succ f => rw [toksG, if_neg (by omega)]; simp
          · cases f with
            | zero => simp [toksG]
            | succ f => rw [toksG, if_neg (by omega)]; simp
        omega
    · rw [if_neg hlt]; simp
theorem toks_head {l : List UInt8} {m : Nat} (h : Again l m) (h1 : 1 ≤ m) (h2 : m ≤ 512) (hm : m ≤ l.length) : ∀ f i, i ≤ m → (toksG l f i).length ≤ (m - i) + (l.length - m) / 258 + 2
  | 0, _, _ => by simp [toksG]
  | f + 1, i, hi => by
    by_cases e : i = m
    · subst e
      have := toks_tail h h1 h2 (f + 1) i (Nat.le_refl _) hm
      omega
    · rw [toksG]
      by_cases hlt : i < l.length
      · rw [if_pos hlt]
        by_cases hb : 3 ≤ (bestAt l i).1
        · obtain ⟨b1, b2, b3, b4, b5, b6⟩ := best_match hlt hb
          rw [if_pos hb, List.length_cons]
          by_cases hj : i + (bestAt l i).1 ≤ m
          · have := toks_head h h1 h2 hm f _ hj; omega
          · have := toks_tail h h1 h2 f (i + (bestAt l i).1) (by omega) b5
            have e2 : (l.length - (i + (bestAt l i).1)) / 258 ≤ (l.length - m) / 258 := Nat.div_le_div_right (by omega)
            omega
        · rw [if_neg hb, List.length_cons]
          have := toks_head h h1 h2 hm f (i + 1) (by omega); omega
      · rw [if_neg hlt]; simp
/-- Bytes that come again and again need few tokens. -/
theorem toks_long {l : List UInt8} {m : Nat} (h : Again l m) (h1 : 1 ≤ m) (h2 : m ≤ 512) (hm : m ≤ l.length) : (toks l).length ≤ m + (l.length - m) / 258 + 2 := by
  have := toks_head h h1 h2 hm l.length 0 (Nat.zero_le _)
  unfold toks; omega
end Go.Proofs.Ytbdackcfedcmkaa
