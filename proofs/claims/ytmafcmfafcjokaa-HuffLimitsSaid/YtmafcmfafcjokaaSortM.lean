/- Plain laws of a stable sort by merges in place: exchanges, pieces of a list, where two halves meet. -/
namespace Go.Proofs.Ytmafcmfafcjokaa

/-- Rarer ones ahead; of equal ones the lower symbol. -/
def lx (x y : Nat × Nat) : Prop := x.2 < y.2 ∨ (x.2 = y.2 ∧ x.1 < y.1)
theorem lx_trans {x y z : Nat × Nat} (h : lx x y) (k : lx y z) : lx x z := by unfold lx at *; omega
theorem lx_irrefl (x : Nat × Nat) : ¬ lx x x := by unfold lx; omega
theorem lx_asymm {x y : Nat × Nat} (h : lx x y) (k : lx y x) : False := lx_irrefl x (lx_trans h k)
def Srt (l : List (Nat × Nat)) : Prop := l.Pairwise lx
/-- The symbols of the one are all below those of the other. -/
def Crs (X Y : List (Nat × Nat)) : Prop := ∀ x ∈ X, ∀ y ∈ Y, x.1 < y.1
theorem Srt.unique {a b : List (Nat × Nat)} (ha : Srt a) (hb : Srt b) (h : a.Perm b) : a = b :=
  List.Perm.eq_of_pairwise (le := lx) (fun _ _ _ _ h k => (lx_asymm h k).elim) ha hb h

/-- Two halves of two sorted lists: where they meet the lists are in order. -/
theorem halves {X1 X2 Y1 Y2 S1 S2 : List (Nat × Nat)} (hX : Srt (X1 ++ X2)) (hY : Srt (Y1 ++ Y2)) (h1 : ∀ x y, X1.getLast? = some x → Y2.head? = some y → lx x y) (h2 : ∀ y x, Y1.getLast? = some y → X2.head? = some x → lx y x)
    (s1 : Srt S1) (s2 : Srt S2) (p1 : S1.Perm (X1 ++ Y1)) (p2 : S2.Perm (X2 ++ Y2)) : Srt (S1 ++ S2) ∧ (S1 ++ S2).Perm ((X1 ++ X2) ++ (Y1 ++ Y2)) := by
  have hX' := List.pairwise_append.1 hX
  have hY' := List.pairwise_append.1 hY
  have last : ∀ {l : List (Nat × Nat)}, Srt l → ∀ x ∈ l, ∃ z, l.getLast? = some z ∧ (x = z ∨ lx x z) := by
    intro l hl x hx
    rcases List.eq_nil_or_concat l with e | ⟨q, s, e⟩
    · subst e; cases hx
    · rw [List.concat_eq_append] at e
      subst e
      refine ⟨s, by simp, ?_⟩
      rcases List.mem_append.1 hx with h | h
      · exact .inr ((List.pairwise_append.1 hl).2.2 x h s (by simp))
      · exact .inl (by simpa using h)
  have first : ∀ {l : List (Nat × Nat)}, Srt l → ∀ x ∈ l, ∃ z, l.head? = some z ∧ (x = z ∨ lx z x) := by
    intro l hl x hx
    cases l with
    | nil => cases hx
    | cons s l =>
      refine ⟨s, rfl, ?_⟩
      rcases List.mem_cons.1 hx with h | h
      · exact .inl h
      · exact .inr ((List.pairwise_cons.1 hl).1 x h)
  refine ⟨List.pairwise_append.2 ⟨s1, s2, fun a ha b hb => ?_⟩, ?_⟩
  · rcases List.mem_append.1 (p1.mem_iff.1 ha) with ha | ha <;> rcases List.mem_append.1 (p2.mem_iff.1 hb) with hb | hb
    · exact hX'.2.2 a ha b hb
    · obtain ⟨x, hx, hax⟩ := last hX'.1 a ha
      obtain ⟨y, hy, hby⟩ := first hY'.2.1 b hb
      have := h1 x y hx hy
      rcases hax with rfl | hax <;> rcases hby with rfl | hby
      · exact this
      · exact lx_trans this hby
      · exact lx_trans hax this
      · exact lx_trans (lx_trans hax this) hby
    · obtain ⟨y, hy, hay⟩ := last hY'.1 a ha
      obtain ⟨x, hx, hbx⟩ := first hX'.2.1 b hb
      have := h2 y x hy hx
      rcases hay with rfl | hay <;> rcases hbx with rfl | hbx
      · exact this
      · exact lx_trans this hbx
      · exact lx_trans hay this
      · exact lx_trans (lx_trans hay this) hbx
    · exact hY'.2.2 a ha b hb
  · refine (p1.append p2).trans ?_
    rw [List.append_assoc, List.append_assoc]
    refine List.Perm.append_left X1 ?_
    rw [← List.append_assoc, ← List.append_assoc]
    exact List.Perm.append_right Y2 List.perm_append_comm

/-! Exchanges. -/
def sw (d : List (Nat × Nat)) (i j : Nat) : List (Nat × Nat) := (d.set i (d.getD j (0, 0))).set j (d.getD i (0, 0))
theorem length_sw (d : List (Nat × Nat)) (i j : Nat) : (sw d i j).length = d.length := by simp [sw]
theorem sw_at (A M B : List (Nat × Nat)) (x y : Nat × Nat) (i j : Nat) (hi : i = A.length) (hj : j = A.length + 1 + M.length) :
    sw (A ++ x :: M ++ y :: B) i j = A ++ y :: M ++ x :: B := by
  subst hi hj
  unfold sw
  have e1 : (A ++ x :: M ++ y :: B).getD A.length (0, 0) = x := by simp [List.getD_eq_getElem?_getD]
  have e2 : (A ++ x :: M ++ y :: B).getD (A.length + 1 + M.length) (0, 0) = y := by
    rw [List.getD_eq_getElem?_getD, List.getElem?_append_right (by simp; omega)]
    have : A.length + 1 + M.length - (A ++ x :: M).length = 0 := by simp; omega
    rw [this]; rfl
  rw [e1, e2]
  have e3 : (A ++ x :: M ++ y :: B).set A.length y = A ++ y :: M ++ y :: B := by
    rw [List.append_assoc, List.set_append_right _ _ (Nat.le_refl _), Nat.sub_self]; simp
  rw [e3, List.set_append_right _ _ (by simp; omega)]
  have : A.length + 1 + M.length - (A ++ y :: M).length = 0 := by simp; omega
  rw [this]; rfl
theorem sw_next (A B : List (Nat × Nat)) (x y : Nat × Nat) (i j : Nat) (hi : i = A.length) (hj : j = i + 1) : sw (A ++ x :: y :: B) i j = A ++ y :: x :: B := by
  have h := sw_at A [] B x y i j hi (by simp; omega)
  simpa using h
theorem sw_comm (d : List (Nat × Nat)) (i j : Nat) (h : i ≠ j) : sw d i j = sw d j i := by
  unfold sw; rw [List.set_comm _ _ h]
def swapR (d : List (Nat × Nat)) (a b : Nat) : Nat → List (Nat × Nat)
  | 0 => d
  | n + 1 => swapR (sw d a b) (a + 1) (b + 1) n
theorem swapR_at : ∀ (X Y A M B : List (Nat × Nat)) (a b n : Nat), a = A.length → b = A.length + X.length + M.length → X.length = n → Y.length = n →
    swapR (A ++ X ++ M ++ Y ++ B) a b n = A ++ Y ++ M ++ X ++ B
  | [], Y, A, M, B, a, b, n, _, _, h3, h4 => by
    have hn : n = 0 := by simpa using h3.symm
    subst hn
    have : Y = [] := List.eq_nil_of_length_eq_zero h4
    subst this; simp [swapR]
  | x :: X, [], A, M, B, a, b, n, _, _, h3, h4 => by simp at h3 h4; omega
  | x :: X, y :: Y, A, M, B, a, b, n, h1, h2, h3, h4 => by
    obtain ⟨n, rfl⟩ : ∃ n', n = n' + 1 := ⟨n - 1, by simp at h3; omega⟩
    rw [swapR]
    have e : A ++ x :: X ++ M ++ y :: Y ++ B = A ++ x :: (X ++ M) ++ y :: (Y ++ B) := by simp
    rw [e, sw_at A (X ++ M) (Y ++ B) x y a b h1 (by simp at h2 ⊢; omega)]
    have e2 : A ++ y :: (X ++ M) ++ x :: (Y ++ B) = (A ++ [y]) ++ X ++ (M ++ [x]) ++ Y ++ B := by simp
    rw [e2, swapR_at X Y (A ++ [y]) (M ++ [x]) B (a + 1) (b + 1) n (by simp; omega) (by simp at h2 ⊢; omega) (by simpa using h3) (by simpa using h4)]
    simp

/-! Pieces of a list. -/
def slc (d : List (Nat × Nat)) (lo hi : Nat) : List (Nat × Nat) := (d.drop lo).take (hi - lo)
theorem slc_at (A X B : List (Nat × Nat)) (lo hi : Nat) (h1 : lo = A.length) (h2 : hi = A.length + X.length) : slc (A ++ X ++ B) lo hi = X := by
  subst h1 h2
  unfold slc
  rw [List.append_assoc, List.drop_left, Nat.add_sub_cancel_left, List.take_left]
theorem slc_split (d : List (Nat × Nat)) (lo hi : Nat) (h : lo ≤ hi) : d = d.take lo ++ slc d lo hi ++ d.drop hi := by
  unfold slc
  have e : d.drop hi = (d.drop lo).drop (hi - lo) := by rw [List.drop_drop]; congr 1; omega
  rw [e, List.append_assoc, List.take_append_drop, List.take_append_drop]
theorem length_slc (d : List (Nat × Nat)) (lo hi : Nat) (h : lo ≤ hi) (h2 : hi ≤ d.length) : (slc d lo hi).length = hi - lo := by unfold slc; simp; omega
theorem slc_left (A B : List (Nat × Nat)) (lo hi : Nat) (h : hi ≤ A.length) : slc (A ++ B) lo hi = slc A lo hi := by
  unfold slc
  rcases Nat.lt_or_ge hi lo with h1 | h1
  · rw [Nat.sub_eq_zero_of_le (by omega), List.take_zero, List.take_zero]
  · rw [List.drop_append_of_le_length (by omega), List.take_append_of_le_length (by simp; omega)]
theorem slc_right (A B C : List (Nat × Nat)) (lo hi : Nat) (h : A.length ≤ lo) (h2 : A.length = C.length) : slc (A ++ B) lo hi = slc (C ++ B) lo hi := by
  unfold slc
  congr 1
  rw [List.drop_append, List.drop_append, List.drop_of_length_le h, List.drop_of_length_le (by omega : C.length ≤ lo), h2]
theorem slc_join (d : List (Nat × Nat)) (a m b : Nat) (h1 : a ≤ m) (h2 : m ≤ b) : slc d a b = slc d a m ++ slc d m b := by
  unfold slc
  have e : b - a = (m - a) + (b - m) := by omega
  rw [e, List.take_add, List.drop_drop]
  congr 3; omega
/-- From lo to hi the elements are those that were there, sorted. -/
def Good (d0 d : List (Nat × Nat)) (lo hi : Nat) : Prop := Srt (slc d lo hi) ∧ (slc d lo hi).Perm (slc d0 lo hi)
theorem Good.of {d0 d d' : List (Nat × Nat)} {lo hi : Nat} (h : Good d0 d lo hi) (e : slc d' lo hi = slc d lo hi) : Good d0 d' lo hi := by unfold Good; rw [e]; exact h
theorem Good.crs {d0 d : List (Nat × Nat)} {a m b : Nat} (h0 : d0.Pairwise fun x y => x.1 < y.1) (h1 : Good d0 d a m) (h2 : Good d0 d m b) (ha : a ≤ m) (hb : m ≤ b) : Crs (slc d a m) (slc d m b) := by
  intro x hx y hy
  have hx' := h1.2.mem_iff.1 hx
  have hy' := h2.2.mem_iff.1 hy
  have hp : (slc d0 a b).Pairwise fun x y => x.1 < y.1 := by
    unfold slc
    exact List.Pairwise.sublist ((List.take_sublist _ _).trans (List.drop_sublist _ _)) h0
  rw [slc_join d0 a m b ha hb] at hp
  exact (List.pairwise_append.1 hp).2.2 x hx' y hy'
theorem Good.whole {d0 d : List (Nat × Nat)} (hl : d.length = d0.length) (h : Good d0 d 0 d0.length) : Srt d ∧ d.Perm d0 := by
  unfold Good slc at h
  rw [List.drop_zero, List.drop_zero, Nat.sub_zero, List.take_of_length_le (by omega), List.take_of_length_le (Nat.le_refl _)] at h
  exact h
/-- From the beginning to a: pieces of just B elements. -/
inductive Done (B : Nat) (d0 d : List (Nat × Nat)) : Nat → Prop
  | zero : Done B d0 d 0
  | more {a : Nat} : Done B d0 d a → Good d0 d a (a + B) → Done B d0 d (a + B)
/-- From a on: pieces of B elements, the last of them of at most so many. -/
inductive Rest (B : Nat) (d0 d : List (Nat × Nat)) (n : Nat) : Nat → Prop
  | last {a : Nat} : n ≤ a + B → Good d0 d a n → Rest B d0 d n a
  | more {a : Nat} : a + B ≤ n → Good d0 d a (a + B) → Rest B d0 d n (a + B) → Rest B d0 d n a
theorem Done.of {B : Nat} {d0 d d' : List (Nat × Nat)} {a : Nat} (h : Done B d0 d a) (e : ∀ lo hi, hi ≤ a → slc d' lo hi = slc d lo hi) : Done B d0 d' a := by
  induction h with
  | zero => exact .zero
  | more _ hg ih => exact .more (ih fun lo hi h => e lo hi (by omega)) (hg.of (e _ _ (Nat.le_refl _)))
theorem Rest.of {B n : Nat} {d0 d d' : List (Nat × Nat)} {a : Nat} (h : Rest B d0 d n a) (e : ∀ lo hi, a ≤ lo → slc d' lo hi = slc d lo hi) : Rest B d0 d' n a := by
  induction h with
  | last h hg => exact .last h (hg.of (e _ _ (Nat.le_refl _)))
  | more h hg _ ih => exact .more h (hg.of (e _ _ (Nat.le_refl _))) (ih fun lo hi h => e lo hi (by omega))
theorem Done.join {B n : Nat} {d0 d : List (Nat × Nat)} {a : Nat} (h : Done B d0 d a) (hn : a ≤ n) (r : Rest B d0 d n a) : Rest B d0 d n 0 := by
  induction h with
  | zero => exact r
  | more _ hg ih => exact ih (by omega) (.more hn hg r)
end Go.Proofs.Ytmafcmfafcjokaa
