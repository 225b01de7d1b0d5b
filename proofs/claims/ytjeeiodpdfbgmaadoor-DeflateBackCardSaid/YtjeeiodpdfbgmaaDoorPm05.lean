/- Several texts in one: SortM, SortW, SortX, StableA, CoinsM (what Back, Best, Dynamic, Fixed, Least, Runs, Stored reach of them). -/
import Derived.Test.YtjeeiodpdfbgmaaDoorPm01
import Derived.Test.YtjeeiodpdfbgmaaDoorPm03
import Derived.Below
import Derived.BigQuiet
import Derived.BigRegion
import Derived.Deep.AppendLies
import Derived.Deep.CutRange
import Derived.Deep.DeepCutAuto
import Derived.Deep.Draws
import Derived.Deep.QuietTactic
import Derived.Deep.RegionLaw
import Derived.Deep.Slices
import Derived.Laws.BitsAllLaws
import Derived.Laws.BitsLemmas
import Derived.Laws.IdiomStrings
import Derived.Laws.OwnMore
import Derived.Laws.Rows
import Derived.Lib.AppendStr
import Derived.Lib.Hide
import Derived.Lib.Strings
import Derived.OneCell
import Derived.OpenShut
import Derived.Outline
import Derived.OwnWalk
import Derived.ProofKit
import Derived.RegionTactic
import Derived.Shelf.SlSortCmp.QuietGrown
import Derived.StillTailTactics
import Derived.Test.YtjeeiodpdfbgmaaDoorChecked
import Derived.WalkKit
import Derived.WalkLawsBesides
import Derived.WalkSpells
set_option maxRecDepth 100000
set_option linter.unusedVariables false
namespace Go.Proofs.YtjeeiodpdfbgmaaDoor
set_option maxRecDepth 100000
/-- Rarer ones ahead; of equal ones the lower symbol. -/
def lx (x y : Nat × Nat) : Prop := x.2 < y.2 ∨ (x.2 = y.2 ∧ x.1 < y.1)
theorem lx_trans {x y z : Nat × Nat} (h : lx x y) (k : lx y z) : lx x z := by unfold lx at *; omega
theorem lx_irrefl (x : Nat × Nat) : ¬ lx x x := by unfold lx; omega
theorem lx_asymm {x y : Nat × Nat} (h : lx x y) (k : lx y x) : False := lx_irrefl x (lx_trans h k)
def Srt (l : List (Nat × Nat)) : Prop := l.Pairwise lx
/-- The symbols of the one are all below those of the other. -/
def Crs (X Y : List (Nat × Nat)) : Prop := ∀ x ∈ X, ∀ y ∈ Y, x.1 < y.1
theorem Srt.unique {a b : List (Nat × Nat)} (ha : Srt a) (hb : Srt b) (h : a.Perm b) : a = b :=
  List.Perm.eq_of_pairwise (le := lx) (fun _ _ _ _ h k => (lx_asymm h k).elim) ha hb h

/-- Two halves of two sorted lists: where they meet the lists are in order. -/
theorem halves {X1 X2 Y1 Y2 S1 S2 : List (Nat × Nat)} (hX : Srt (X1 ++ X2)) (hY : Srt (Y1 ++ Y2)) (h1 : ∀ x y, X1.getLast? = some x → Y2.head? = some y → lx x y) (h2 : ∀ y x, Y1.getLast? = some y → X2.head? = some x → lx y x)
    (s1 : Srt S1) (s2 : Srt S2) (p1 : S1.Perm (X1 ++ Y1)) (p2 : S2.Perm (X2 ++ Y2)) : Srt (S1 ++ S2) ∧ (S1 ++ S2).Perm ((X1 ++ X2) ++ (Y1 ++ Y2)) := by
  have hX' := List.pairwise_append.1 hX
  have hY' := List.pairwise_append.1 hY
  have last : ∀ {l : List (Nat × Nat)}, Srt l → ∀ x ∈ l, ∃ z, l.getLast? = some z ∧ (x = z ∨ lx x z) := by
    intro l hl x hx
    rcases List.eq_nil_or_concat l with e | ⟨q, s, e⟩
    · subst e; cases hx
    · rw [List.concat_eq_append] at e
      subst e
      refine ⟨s, by simp, ?_⟩
      rcases List.mem_append.1 hx with h | h
      · exact .inr ((List.pairwise_append.1 hl).2.2 x h s (by simp))
      · exact .inl (by simpa using h)
  have first : ∀ {l : List (Nat × Nat)}, Srt l → ∀ x ∈ l, ∃ z, l.head? = some z ∧ (x = z ∨ lx z x) := by
    intro l hl x hx
    cases l with
    | nil => cases hx
    | cons s l =>
      refine ⟨s, rfl, ?_⟩
      rcases List.mem_cons.1 hx with h | h
      · exact .inl h
      · exact .inr ((List.pairwise_cons.1 hl).1 x h)
  refine ⟨List.pairwise_append.2 ⟨s1, s2, fun a ha b hb => ?_⟩, ?_⟩
  · rcases List.mem_append.1 (p1.mem_iff.1 ha) with ha | ha <;> rcases List.mem_append.1 (p2.mem_iff.1 hb) with hb | hb
    · exact hX'.2.2 a ha b hb
    · obtain ⟨x, hx, hax⟩ := last hX'.1 a ha
      obtain ⟨y, hy, hby⟩ := first hY'.2.1 b hb
      have := h1 x y hx hy
      rcases hax with rfl | hax <;> rcases hby with rfl | hby
      · exact this
      · exact lx_trans this hby
      · exact lx_trans hax this
      · exact lx_trans (lx_trans hax this) hby
    · obtain ⟨y, hy, hay⟩ := last hY'.1 a ha
      obtain ⟨x, hx, hbx⟩ := first hX'.2.1 b hb
      have := h2 y x hy hx
      rcases hay with rfl | hay <;> rcases hbx with rfl | hbx
      · exact this
      · exact lx_trans this hbx
      · exact lx_trans hay this
      · exact lx_trans (lx_trans hay this) hbx
    · exact hY'.2.2 a ha b hb
  · refine (p1.append p2).trans ?_
    rw [List.append_assoc, List.append_assoc]
    refine List.Perm.append_left X1 ?_
    rw [← List.append_assoc, ← List.append_assoc]
    exact List.Perm.append_right Y2 List.perm_append_comm

def sw (d : List (Nat × Nat)) (i j : Nat) : List (Nat × Nat) := (d.set i (d.getD j (0, 0))).set j (d.getD i (0, 0))
theorem length_sw (d : List (Nat × Nat)) (i j : Nat) : (sw d i j).length = d.length := by simp [sw]
theorem sw_at (A M B : List (Nat × Nat)) (x y : Nat × Nat) (i j : Nat) (hi : i = A.length) (hj : j = A.length + 1 + M.length) :
    sw (A ++ x :: M ++ y :: B) i j = A ++ y :: M ++ x :: B := by
  subst hi hj
  unfold sw
  have e1 : (A ++ x :: M ++ y :: B).getD A.length (0, 0) = x := by simp [List.getD_eq_getElem?_getD]
  have e2 : (A ++ x :: M ++ y :: B).getD (A.length + 1 + M.length) (0, 0) = y := by
    rw [List.getD_eq_getElem?_getD, List.getElem?_append_right (by simp; omega)]
    have : A.length + 1 + M.length - (A ++ x :: M).length = 0 := by simp; omega
    rw [this]; rfl
  rw [e1, e2]
  have e3 : (A ++ x :: M ++ y :: B).set A.length y = A ++ y :: M ++ y :: B := by
    rw [List.append_assoc, List.set_append_right _ _ (Nat.le_refl _), Nat.sub_self]; simp
  rw [e3, List.set_append_right _ _ (by simp; omega)]
  have : A.length + 1 + M.length - (A ++ y :: M).length = 0 := by simp; omega
  rw [this]; rfl
theorem sw_next (A B : List (Nat × Nat)) (x y : Nat × Nat) (i j : Nat) (hi : i = A.length) (hj : j = i + 1) : sw (A ++ x :: y :: B) i j = A ++ y :: x :: B := by
  have h := sw_at A [] B x y i j hi (by simp; omega)
  simpa using h
theorem sw_comm (d : List (Nat × Nat)) (i j : Nat) (h : i ≠ j) : sw d i j = sw d j i := by
  unfold sw; rw [List.set_comm _ _ h]
def swapR (d : List (Nat × Nat)) (a b : Nat) : Nat → List (Nat × Nat)
  | 0 => d
  | n + 1 => swapR (sw d a b) (a + 1) (b + 1) n
theorem swapR_at : ∀ (X Y A M B : List (Nat × Nat)) (a b n : Nat), a = A.length → b = A.length + X.length + M.length → X.length = n → Y.length = n →
    swapR (A ++ X ++ M ++ Y ++ B) a b n = A ++ Y ++ M ++ X ++ B
  | [], Y, A, M, B, a, b, n, _, _, h3, h4 => by
    have hn : n = 0 := by simpa using h3.symm
    subst hn
    have : Y = [] := List.eq_nil_of_length_eq_zero h4
    subst this; simp [swapR]
  | x :: X, [], A, M, B, a, b, n, _, _, h3, h4 => by simp at h3 h4; omega
  | x :: X, y :: Y, A, M, B, a, b, n, h1, h2, h3, h4 => by
    obtain ⟨n, rfl⟩ : ∃ n', n = n' + 1 := ⟨n - 1, by simp at h3; omega⟩
    rw [swapR]
    have e : A ++ x :: X ++ M ++ y :: Y ++ B = A ++ x :: (X ++ M) ++ y :: (Y ++ B) := by simp
    rw [e, sw_at A (X ++ M) (Y ++ B) x y a b h1 (by simp at h2 ⊢; omega)]
    have e2 : A ++ y :: (X ++ M) ++ x :: (Y ++ B) = (A ++ [y]) ++ X ++ (M ++ [x]) ++ Y ++ B := by simp
    rw [e2, swapR_at X Y (A ++ [y]) (M ++ [x]) B (a + 1) (b + 1) n (by simp; omega) (by simp at h2 ⊢; omega) (by simpa using h3) (by simpa using h4)]
    simp

def slc (d : List (Nat × Nat)) (lo hi : Nat) : List (Nat × Nat) := (d.drop lo).take (hi - lo)
theorem slc_at (A X B : List (Nat × Nat)) (lo hi : Nat) (h1 : lo = A.length) (h2 : hi = A.length + X.length) : slc (A ++ X ++ B) lo hi = X := by
  subst h1 h2
  unfold slc
  rw [List.append_assoc, List.drop_left, Nat.add_sub_cancel_left, List.take_left]
theorem slc_split (d : List (Nat × Nat)) (lo hi : Nat) (h : lo ≤ hi) : d = d.take lo ++ slc d lo hi ++ d.drop hi := by
  unfold slc
  have e : d.drop hi = (d.drop lo).drop (hi - lo) := by rw [List.drop_drop]; congr 1; omega
  rw [e, List.append_assoc, List.take_append_drop, List.take_append_drop]
theorem length_slc (d : List (Nat × Nat)) (lo hi : Nat) (h : lo ≤ hi) (h2 : hi ≤ d.length) : (slc d lo hi).length = hi - lo := by unfold slc; simp; omega
theorem slc_left (A B : List (Nat × Nat)) (lo hi : Nat) (h : hi ≤ A.length) : slc (A ++ B) lo hi = slc A lo hi := by
  unfold slc
  rcases Nat.lt_or_ge hi lo with h1 | h1
  · rw [Nat.sub_eq_zero_of_le (by omega), List.take_zero, List.take_zero]
  · rw [List.drop_append_of_le_length (by omega), List.take_append_of_le_length (by simp; omega)]
theorem slc_right (A B C : List (Nat × Nat)) (lo hi : Nat) (h : A.length ≤ lo) (h2 : A.length = C.length) : slc (A ++ B) lo hi = slc (C ++ B) lo hi := by
  unfold slc
  congr 1
  rw [List.drop_append, List.drop_append, List.drop_of_length_le h, List.drop_of_length_le (by omega : C.length ≤ lo), h2]
theorem slc_join (d : List (Nat × Nat)) (a m b : Nat) (h1 : a ≤ m) (h2 : m ≤ b) : slc d a b = slc d a m ++ slc d m b := by
  unfold slc
  have e : b - a = (m - a) + (b - m) := by omega
  rw [e, List.take_add, List.drop_drop]
  congr 3; omega
/-- From lo to hi the elements are those that were there, sorted. -/
def Good (d0 d : List (Nat × Nat)) (lo hi : Nat) : Prop := Srt (slc d lo hi) ∧ (slc d lo hi).Perm (slc d0 lo hi)
theorem Good.of {d0 d d' : List (Nat × Nat)} {lo hi : Nat} (h : Good d0 d lo hi) (e : slc d' lo hi = slc d lo hi) : Good d0 d' lo hi := by unfold Good; rw [e]; exact h
theorem Good.crs {d0 d : List (Nat × Nat)} {a m b : Nat} (h0 : d0.Pairwise fun x y => x.1 < y.1) (h1 : Good d0 d a m) (h2 : Good d0 d m b) (ha : a ≤ m) (hb : m ≤ b) : Crs (slc d a m) (slc d m b) := by
  intro x hx y hy
  have hx' := h1.2.mem_iff.1 hx
  have hy' := h2.2.mem_iff.1 hy
  have hp : (slc d0 a b).Pairwise fun x y => x.1 < y.1 := by
    unfold slc
    exact List.Pairwise.sublist ((List.take_sublist _ _).trans (List.drop_sublist _ _)) h0
  rw [slc_join d0 a m b ha hb] at hp
  exact (List.pairwise_append.1 hp).2.2 x hx' y hy'
theorem Good.whole {d0 d : List (Nat × Nat)} (hl : d.length = d0.length) (h : Good d0 d 0 d0.length) : Srt d ∧ d.Perm d0 := by
  unfold Good slc at h
  rw [List.drop_zero, List.drop_zero, Nat.sub_zero, List.take_of_length_le (by omega), List.take_of_length_le (Nat.le_refl _)] at h
  exact h
/-- From the beginning to a: pieces of just B elements. -/
inductive Done (B : Nat) (d0 d : List (Nat × Nat)) : Nat → Prop
  | zero : Done B d0 d 0
  | more {a : Nat} : Done B d0 d a → Good d0 d a (a + B) → Done B d0 d (a + B)
/-- From a on: pieces of B elements, the last of them of at most so many. -/
inductive Rest (B : Nat) (d0 d : List (Nat × Nat)) (n : Nat) : Nat → Prop
  | last {a : Nat} : n ≤ a + B → Good d0 d a n → Rest B d0 d n a
  | more {a : Nat} : a + B ≤ n → Good d0 d a (a + B) → Rest B d0 d n (a + B) → Rest B d0 d n a
theorem Done.of {B : Nat} {d0 d d' : List (Nat × Nat)} {a : Nat} (h : Done B d0 d a) (e : ∀ lo hi, hi ≤ a → slc d' lo hi = slc d lo hi) : Done B d0 d' a := by
  induction h with
  | zero => exact .zero
  | more _ hg ih => exact .more (ih fun lo hi h => e lo hi (by omega)) (hg.of (e _ _ (Nat.le_refl _)))
theorem Rest.of {B n : Nat} {d0 d d' : List (Nat × Nat)} {a : Nat} (h : Rest B d0 d n a) (e : ∀ lo hi, a ≤ lo → slc d' lo hi = slc d lo hi) : Rest B d0 d' n a := by
  induction h with
  | last h hg => exact .last h (hg.of (e _ _ (Nat.le_refl _)))
  | more h hg _ ih => exact .more h (hg.of (e _ _ (Nat.le_refl _))) (ih fun lo hi h => e lo hi (by omega))
theorem Done.join {B n : Nat} {d0 d : List (Nat × Nat)} {a : Nat} (h : Done B d0 d a) (hn : a ≤ n) (r : Rest B d0 d n a) : Rest B d0 d n 0 := by
  induction h with
  | zero => exact r
  | more _ hg ih => exact ih (by omega) (.more hn hg r)
end Go.Proofs.YtjeeiodpdfbgmaaDoor
namespace Go.Proofs.YtjeeiodpdfbgmaaDoor
set_option maxRecDepth 100000
open Go Go.RowKit
/-- The block reads as these coins from o on, and may be written there. -/
def CL (W : World) (b o : Nat) (d : List (Nat × Nat)) : Prop := ∀ (i : Nat) (h : i < d.length),
  W.cell? ⟨b, o + i * 2, none⟩ = some (.int .i64 d[i].1) ∧ W.cell? ⟨b, o + i * 2 + 1, none⟩ = some (.int .i64 d[i].2) ∧ W.frozen? ⟨b, o + i * 2, none⟩ = false ∧ W.frozen? ⟨b, o + i * 2 + 1, none⟩ = false
theorem CL.heap {W W' : World} {b o : Nat} {d : List (Nat × Nat)} (h : CL W b o d) (e : W'.heap[b]? = W.heap[b]?) : CL W' b o d := fun i hi => by
  obtain ⟨h1, h2, h3, h4⟩ := h i hi
  have f : ∀ a : Addr, a.block = b → W'.cell? a = W.cell? a ∧ W'.frozen? a = W.frozen? a := fun a ha => by
    subst ha; exact ⟨World.cell?_of_block e, by unfold World.frozen?; rw [e]⟩
  exact ⟨(f _ rfl).1.trans h1, (f _ rfl).1.trans h2, (f _ rfl).2.trans h3, (f _ rfl).2.trans h4⟩

theorem put_other (W : World) (g i j : Nat) (v : Value) (h : i ≠ j) : (W.setCell ⟨g, i, none⟩ v).cell? ⟨g, j, none⟩ = W.cell? ⟨g, j, none⟩ := by
  apply World.cell?_setCell_other
  intro e; injection e; exact h (by assumption)
theorem put_same {W : World} {g i : Nat} (v : Value) {u : Value} (h : W.cell? ⟨g, i, none⟩ = some u) : (W.setCell ⟨g, i, none⟩ v).cell? ⟨g, i, none⟩ = some v := by
  apply World.cell?_setCell_same
  exact h
theorem set2 (W : World) (g o p q : Nat) (u v : Value) {p0 p1 : Value} (h0 : W.cell? ⟨g, o + p * 2, none⟩ = some p0) (h1 : W.cell? ⟨g, o + p * 2 + 1, none⟩ = some p1) :
    ((W.setCell ⟨g, o + p * 2, none⟩ u).setCell ⟨g, o + p * 2 + 1, none⟩ v).cell? ⟨g, o + q * 2, none⟩ = (if q = p then some u else W.cell? ⟨g, o + q * 2, none⟩) ∧
    ((W.setCell ⟨g, o + p * 2, none⟩ u).setCell ⟨g, o + p * 2 + 1, none⟩ v).cell? ⟨g, o + q * 2 + 1, none⟩ = (if q = p then some v else W.cell? ⟨g, o + q * 2 + 1, none⟩) := by
  by_cases e : q = p
  · subst e
    rw [if_pos rfl, if_pos rfl]
    exact ⟨(put_other _ _ _ _ _ (by omega)).trans (put_same _ h0), put_same _ ((put_other _ _ _ _ _ (by omega)).trans h1)⟩
  · rw [if_neg e, if_neg e]
    exact ⟨(put_other _ _ _ _ _ (by omega)).trans (put_other _ _ _ _ _ (by omega)), (put_other _ _ _ _ _ (by omega)).trans (put_other _ _ _ _ _ (by omega))⟩
theorem CL.swap {W : World} {g o p q xs xc ys yc : Nat} {d : List (Nat × Nat)} (h : CL W g o d) (hp : p < d.length) (hq : q < d.length) (hpq : p ≠ q) (hx : d.getD p (0, 0) = (xs, xc)) (hy : d.getD q (0, 0) = (ys, yc)) :
    CL ((((W.setCell ⟨g, o + p * 2, none⟩ (.int .i64 ys)).setCell ⟨g, o + p * 2 + 1, none⟩ (.int .i64 yc)).setCell ⟨g, o + q * 2, none⟩ (.int .i64 xs)).setCell ⟨g, o + q * 2 + 1, none⟩ (.int .i64 xc)) g o (sw d p q) := by
  intro i hi
  rw [length_sw] at hi
  obtain ⟨h0, h1, h2, h3⟩ := h i hi
  obtain ⟨p0, p1, _, _⟩ := h p hp
  obtain ⟨q0, q1, _, _⟩ := h q hq
  have a1 := fun t => set2 W g o p t (.int .i64 ys) (.int .i64 yc) p0 p1
  have a2 := fun t => set2 ((W.setCell ⟨g, o + p * 2, none⟩ (.int .i64 ys)).setCell ⟨g, o + p * 2 + 1, none⟩ (.int .i64 yc)) g o q t (.int .i64 xs) (.int .i64 xc) (by rw [(a1 q).1, if_neg (Ne.symm hpq)]; exact q0) (by rw [(a1 q).2, if_neg (Ne.symm hpq)]; exact q1)
  have hs : (sw d p q)[i]'(by rw [length_sw]; exact hi) = if i = q then (xs, xc) else if i = p then (ys, yc) else d[i] := by
    simp only [sw, hx, hy, List.getElem_set]
    by_cases e1 : i = q
    · rw [if_pos e1.symm, if_pos e1]
    · rw [if_neg (Ne.symm e1), if_neg e1]
      by_cases e2 : i = p
      · rw [if_pos e2.symm, if_pos e2]
      · rw [if_neg (Ne.symm e2), if_neg e2]
  rw [hs]
  refine ⟨?_, ?_, by simp only [World.frozen?_setCell]; exact h2, by simp only [World.frozen?_setCell]; exact h3⟩
  · rw [(a2 i).1, (a1 i).1]; split
    · rfl
    · split
      · rfl
      · exact h0
  · rw [(a2 i).2, (a1 i).2]; split
    · rfl
    · split
      · rfl
      · exact h1
theorem But.swap {W w : World} {g o p q : Nat} (h : But [g] w W) (u0 u1 v0 v1 : Value) :
    But [g] w ((((W.setCell ⟨g, o + p * 2, none⟩ u0).setCell ⟨g, o + p * 2 + 1, none⟩ u1).setCell ⟨g, o + q * 2, none⟩ v0).setCell ⟨g, o + q * 2 + 1, none⟩ v1) :=
  (((h.setCell (.inl (by simp)) _).setCell (.inl (by simp)) _).setCell (.inl (by simp)) _).setCell (.inl (by simp)) _

theorem isNaN_int (x : Int) (w : World) : Calls Tryd.prog 113 #[.int .i64 x] w fun e w' => e = .returned (.bool false) ∧ w = w' := by
  go_enter Tryd.func113, Tryd.ntmps113
  go_wp2
  go_ret
  exact ⟨rfl, rfl⟩
def cmpOf (x y : Int) : Int := if x < y then -1 else if y < x then 1 else 0
theorem cmp_int (x y : Int) (w : World) : Calls Tryd.prog 106 #[.int .i64 x, .int .i64 y] w fun e w' => e = .returned (.int .i64 (cmpOf x y)) ∧ w = w' := by
  unfold cmpOf
  by_cases h1 : x < y
  · rw [if_pos h1]
    go_enter Tryd.func106, Tryd.ntmps106
    go_wp2_with (go_at_call 113; refine (isNaN_int _ _).mono ?_; rintro e w' ⟨rfl, rfl⟩)
    go_ret
    exact ⟨rfl, rfl⟩
  · rw [if_neg h1]
    by_cases h2 : y < x
    · rw [if_pos h2]
      go_enter Tryd.func106, Tryd.ntmps106
      go_wp2_with (go_at_call 113; refine (isNaN_int _ _).mono ?_; rintro e w' ⟨rfl, rfl⟩)
      go_ret
      exact ⟨rfl, rfl⟩
    · rw [if_neg h2]
      go_enter Tryd.func106, Tryd.ntmps106
      go_wp2_with (go_at_call 113; refine (isNaN_int _ _).mono ?_; rintro e w' ⟨rfl, rfl⟩)
      go_ret
      exact ⟨rfl, rfl⟩
theorem cmp_coins (s1 c1 s2 c2 : Int) (w : World) : Calls Tryd.prog 105 #[.agg #[.int .i64 s1, .int .i64 c1], .agg #[.int .i64 s2, .int .i64 c2]] w fun e w' => e = .returned (.int .i64 (cmpOf c1 c2)) ∧ ∃ q os', w' = Sort.grow (w.drewN q) os' := by
  go_enter Tryd.func105, Tryd.ntmps105
  go_wp2_with (go_at_call 106; refine (cmp_int _ _ _).mono ?_; rintro e w' ⟨rfl, rfl⟩)
  go_ret
  refine ⟨rfl, 0, #[.cells #[.int .i64 s1, .int .i64 c1] 137, .cells #[.int .i64 s2, .int .i64 c2] 137], ?_⟩
  rw [Sort.alloc_eq_grow, Sort.alloc_eq_grow, Sort.grow_grow]
  rfl

set_option maxRecDepth 100000 in
set_option maxHeartbeats 1000000 in
theorem swapRange_any {w : World} {g o n cap a b k : Nat} {d : List (Nat × Nat)} (hd : CL w g o d) (hdl : d.length = n) (hn : n ≤ 1000) (hab : a + k ≤ b) (hbn : b + k ≤ n) (f : Value) :
    Calls Tryd.prog 118 #[.slice (some ⟨g, o, none⟩) n cap, .int .i64 a, .int .i64 b, .int .i64 k, f] w fun e w' => e = .returned (.tuple #[]) ∧ CL w' g o (swapR d a b k) ∧ But [g] w w' := by
  go_enter Tryd.func118, Tryd.ntmps118
  go_wp2
  go_loopw [10] (fun iv wr => ∃ (i : Nat) (dk : List (Nat × Nat)), i ≤ k ∧ iv = .int .i64 i ∧ dk.length = n ∧ CL wr g o dk ∧ swapR dk (a + i) (b + i) (k - i) = swapR d a b k ∧ But [g] w wr) (fun iv _ => k - (intOf iv).toNat)
  case atStart => exact ⟨0, d, Nat.zero_le _, rfl, hdl, hd, rfl, But.refl _ _⟩
  case round =>
    clear hd hdl
    obtain ⟨i, dk, hi, rfl, hdl, hd, hsw, hB⟩ := hrel
    by_cases hlt : i < k
    · obtain ⟨x0, x1, x2, x3⟩ := hd (a + i) (by omega)
      obtain ⟨y0, y1, y2, y3⟩ := hd (b + i) (by omega)
      have hx : dk.getD (a + i) (0, 0) = dk[a + i]'(by omega) := by rw [List.getD_eq_getElem?_getD, List.getElem?_eq_getElem (by omega)]; rfl
      have hy : dk.getD (b + i) (0, 0) = dk[b + i]'(by omega) := by rw [List.getD_eq_getElem?_getD, List.getElem?_eq_getElem (by omega)]; rfl
      generalize dk[a + i]'(by omega) = x at *
      generalize dk[b + i]'(by omega) = y at *
      obtain ⟨xs, xc⟩ := x
      obtain ⟨ys, yc⟩ := y
      dsimp only at x0 x1 y0 y1
      obtain ⟨p, hp⟩ : ∃ p, p = a + i := ⟨_, rfl⟩
      obtain ⟨q, hq⟩ : ∃ q, q = b + i := ⟨_, rfl⟩
      rw [← hp] at x0 x1 x2 x3
      rw [← hq] at y0 y1 y2 y3
      have ep : (a : Int) + (i : Int) = (p : Int) := by omega
      have eq : (b : Int) + (i : Int) = (q : Int) := by omega
      have p0 : (0 : Int) ≤ (p : Int) := by omega
      have pn : (p : Int) < (n : Int) := by omega
      have q0 : (0 : Int) ≤ (q : Int) := by omega
      have qn : (q : Int) < (n : Int) := by omega
      have hpq : p < q := by omega
      have HX := Lib.hid hx
      have HY := Lib.hid hy
      have HP := Lib.hid hp
      have HQ := Lib.hid hq
      have HD := Lib.hid hd
      have HSW := Lib.hid hsw
      have HB := Lib.hid hB
      have HDL := Lib.hid hdl
      clear hx hy hp hq hd hsw hB hdl
      go_wp2
      go_region
      go_wp2
      go_roundw
      case rel =>
        refine ⟨i + 1, sw dk p q, by omega, by go_num, by rw [length_sw]; exact HDL.out, ((HD.out.swap (by have := HDL.out; omega) (by have := HDL.out; omega) (by omega) (by rw [HP.out]; exact HX.out) (by rw [HQ.out]; exact HY.out)).heap rfl), ?_, (HB.out.swap _ _ _ _).drew⟩
        rw [← HSW.out, HP.out, HQ.out, show k - i = (k - (i + 1)) + 1 from by omega]
        rfl
      case measure => simp [intOf]; omega
    · obtain rfl : i = k := by omega
      rw [Nat.sub_self] at hsw
      go_wp2
      go_end0
      have e : dk = swapR d a b i := hsw
      exact ⟨rfl, e ▸ hd, hB⟩
theorem swapRange_at {w : World} {g o n cap a b k : Nat} {A X M Y B : List (Nat × Nat)} (hd : CL w g o (A ++ X ++ M ++ Y ++ B)) (hdl : (A ++ X ++ M ++ Y ++ B).length = n) (hn : n ≤ 1000)
    (ha : a = A.length) (hb : b = A.length + X.length + M.length) (hX : X.length = k) (hY : Y.length = k) (f : Value) :
    Calls Tryd.prog 118 #[.slice (some ⟨g, o, none⟩) n cap, .int .i64 a, .int .i64 b, .int .i64 k, f] w fun e w' => e = .returned (.tuple #[]) ∧ CL w' g o (A ++ Y ++ M ++ X ++ B) ∧ But [g] w w' := by
  have h := swapRange_any (cap := cap) (a := a) (b := b) (k := k) hd hdl hn (by omega) (by simp at hdl; omega) f
  rw [swapR_at X Y A M B a b k ha hb hX hY] at h
  exact h

set_option maxRecDepth 100000 in
set_option maxHeartbeats 1000000 in
theorem rotate_any {w : World} {g o n cap a m b : Nat} {A X Y B : List (Nat × Nat)} (hd : CL w g o (A ++ X ++ Y ++ B)) (hdl : (A ++ X ++ Y ++ B).length = n) (hn : n ≤ 1000)
    (ha : a = A.length) (hm : m = A.length + X.length) (hb : b = A.length + X.length + Y.length) (hX : 0 < X.length) (hY : 0 < Y.length) (f : Value) :
    Calls Tryd.prog 117 #[.slice (some ⟨g, o, none⟩) n cap, .int .i64 a, .int .i64 m, .int .i64 b, f] w fun e w' => e = .returned (.tuple #[]) ∧ CL w' g o (A ++ Y ++ X ++ B) ∧ But [g] w w' := by
  have hml : m ≤ n := by simp at hdl; omega
  obtain ⟨i0, hi0⟩ : ∃ i0, i0 = X.length := ⟨_, rfl⟩
  obtain ⟨j0, hj0⟩ : ∃ j0, j0 = Y.length := ⟨_, rfl⟩
  have e1 : (m : Int) - (a : Int) = (i0 : Int) := by omega
  have e2 : (b : Int) - (m : Int) = (j0 : Int) := by omega
  have bn : b ≤ 1000 := by simp at hdl; omega
  have an : a ≤ 1000 := by omega
  have HM := Lib.hid hm
  have HI := Lib.hid hi0
  have HJ := Lib.hid hj0
  have HDL := Lib.hid hdl
  clear hm hi0 hj0 hdl ha hb
  go_enter Tryd.func117, Tryd.ntmps117
  go_wp2
  go_loopw [10, 11] (fun iv jv wr => ∃ (i j : Nat) (P X' Y' Q : List (Nat × Nat)), iv = .int .i64 i ∧ jv = .int .i64 j ∧ X'.length = i ∧ Y'.length = j ∧ 0 < i ∧ 0 < j ∧ P.length + i = m ∧ (P ++ X' ++ Y' ++ Q).length = n ∧ CL wr g o (P ++ X' ++ Y' ++ Q) ∧ P ++ Y' ++ X' ++ Q = A ++ Y ++ X ++ B ∧ But [g] w wr) (fun iv jv _ => (intOf iv).toNat + (intOf jv).toNat)
  case atStart => exact ⟨i0, j0, A, X, Y, B, rfl, rfl, HI.out.symm, HJ.out.symm, by have := HI.out; omega, by have := HJ.out; omega, by have := HM.out; have := HI.out; omega, HDL.out, hd, rfl, But.refl _ _⟩
  case round =>
    clear e1 e2 hX hY hd
    obtain ⟨i, j, P, X', Y', Q, rfl, rfl, hX, hY, hi, hj, hP, hL, hd, ht, hB⟩ := hrel
    have hLn : P.length + i + j ≤ n := by simp at hL; omega
    have emi : (m : Int) - (i : Int) = (P.length : Int) := by omega
    by_cases he : i = j
    · subst he
      have hb1 : ((i : Int) != (i : Int)) = false := by simp
      have hsr := swapRange_at (cap := cap) (a := P.length) (b := m) (k := i) (A := P) (X := X') (M := []) (Y := Y') (B := Q) (by simpa using hd) (by simpa using hL) hn rfl (by simp; omega) hX hY f
      have HS := Lib.hid hsr
      have HT := Lib.hid ht
      have HB := Lib.hid hB
      clear hsr ht hB hd hL hX hY
      go_wp2_with fail
      refine HS.out.mono ?_
      rintro e w' ⟨rfl, hd', hB'⟩
      go_wp2
      go_end0
      refine ⟨rfl, ?_, HB.out.trans hB'⟩
      rw [← HT.out]
      simpa using hd'
    · have hne : ((i : Int) != (j : Int)) = true := by simp; omega
      by_cases hlt : j < i
      · have hgt : decide (j < i) = true := by simpa using hlt
        have hXs : X' = X'.take j ++ X'.drop j := (List.take_append_drop _ _).symm
        have hsr := swapRange_at (cap := cap) (a := P.length) (b := m) (k := j) (A := P) (X := X'.take j) (M := X'.drop j) (Y := Y') (B := Q) (by rw [List.append_assoc P, ← hXs]; exact hd) (by rw [List.append_assoc P, ← hXs]; exact hL) hn rfl (by simp; omega) (by simp; omega) hY f
        have HS := Lib.hid hsr
        have HT := Lib.hid ht
        have HB := Lib.hid hB
        have HL := Lib.hid hL
        have HX := Lib.hid hX
        have HY := Lib.hid hY
        have HXS := Lib.hid hXs
        clear hsr ht hB hd hL hX hY hXs he
        go_wp2_with fail
        refine HS.out.mono ?_
        rintro e w' ⟨rfl, hd', hB'⟩
        go_wp2
        go_roundw
        case rel =>
          refine ⟨i - j, j, P ++ Y', X'.drop j, X'.take j, Q, by congr 1; omega, rfl, by simp; have := HX.out; omega, by simp; have := HX.out; omega, by omega, hj, by simp; have := HY.out; omega, ?_, hd', ?_, HB.out.trans hB'⟩
          · have := HL.out; have := HX.out; simp at *; omega
          · rw [← HT.out]; conv => rhs; rw [HXS.out]
            simp
        case measure => simp [intOf]; omega
      · have hgt : decide (j < i) = false := by simpa using hlt
        have hij : i < j := by omega
        have hYs : Y' = Y'.take (j - i) ++ Y'.drop (j - i) := (List.take_append_drop _ _).symm
        obtain ⟨q, hq⟩ : ∃ q, q = m + (j - i) := ⟨_, rfl⟩
        have eq : (m : Int) + (j : Int) - (i : Int) = (q : Int) := by omega
        have hsr := swapRange_at (cap := cap) (a := P.length) (b := q) (k := i) (A := P) (X := X') (M := Y'.take (j - i)) (Y := Y'.drop (j - i)) (B := Q) (by rw [List.append_assoc (P ++ X'), ← hYs]; exact hd) (by rw [List.append_assoc (P ++ X'), ← hYs]; exact hL) hn rfl (by simp; omega) hX (by simp; omega) f
        have HS := Lib.hid hsr
        have HT := Lib.hid ht
        have HB := Lib.hid hB
        have HL := Lib.hid hL
        have HX := Lib.hid hX
        have HY := Lib.hid hY
        have HYS := Lib.hid hYs
        clear hsr ht hB hd hL hX hY hYs he hq
        go_wp2_with fail
        refine HS.out.mono ?_
        rintro e w' ⟨rfl, hd', hB'⟩
        go_wp2
        go_roundw
        case rel =>
          refine ⟨i, j - i, P, Y'.drop (j - i), Y'.take (j - i), X' ++ Q, rfl, by congr 1; omega, by simp; have := HY.out; omega, by simp; have := HY.out; omega, hi, by omega, hP, ?_, by simpa using hd', ?_, HB.out.trans hB'⟩
          · have := HL.out; have := HX.out; have := HY.out; simp at *; omega
          · rw [← HT.out]; conv => rhs; rw [HYS.out]
            simp
        case measure => simp [intOf]; omega
end Go.Proofs.YtjeeiodpdfbgmaaDoor
namespace Go.Proofs.YtjeeiodpdfbgmaaDoor
set_option maxRecDepth 100000
open Go Go.RowKit
theorem But.grow {S : List Nat} {w W : World} (h : But S w W) (n : Nat) (os : Array Obj) : But S w (Sort.grow (W.drewN n) os) :=
  h.trans ⟨rfl, rfl, rfl, by simp [Sort.grow], fun k hk _ => Sort.heap_grow_old (W.drewN n) os hk⟩
theorem CL.grow {W : World} {b o : Nat} {d : List (Nat × Nat)} (h : CL W b o d) (hb : b < W.heap.size) (n : Nat) (os : Array Obj) : CL (Sort.grow (W.drewN n) os) b o d := h.heap (Sort.heap_grow_old (W.drewN n) os hb)
theorem getD_at {d : List (Nat × Nat)} {A B : List (Nat × Nat)} {x : Nat × Nat} {i : Nat} (h : d = A ++ x :: B) (hi : i = A.length) : d.getD i (0, 0) = x := by
  subst h hi; simp [List.getD_eq_getElem?_getD]
theorem CL.get {W : World} {b o i : Nat} {d : List (Nat × Nat)} {x : Nat × Nat} (h : CL W b o d) (hi : i < d.length) (hx : d.getD i (0, 0) = x) :
    W.cell? ⟨b, o + i * 2, none⟩ = some (.int .i64 x.1) ∧ W.cell? ⟨b, o + i * 2 + 1, none⟩ = some (.int .i64 x.2) ∧ W.frozen? ⟨b, o + i * 2, none⟩ = false ∧ W.frozen? ⟨b, o + i * 2 + 1, none⟩ = false := by
  have e : d[i] = x := by rw [← hx, List.getD_eq_getElem?_getD, List.getElem?_eq_getElem hi]; rfl
  rw [← e]; exact h i hi
theorem cmp_neg {x y : Int} (h : x < y) : cmpOf x y < 0 := by unfold cmpOf; rw [if_pos h]; decide
theorem cmp_not {x y : Int} (h : ¬ x < y) : ¬ cmpOf x y < 0 := by unfold cmpOf; rw [if_neg h]; split <;> decide
theorem srt_insert {S1 S2 : List (Nat × Nat)} {x : Nat × Nat} (h : Srt (S1 ++ S2)) (h1 : ∀ y, S1.getLast? = some y → lx y x) (h2 : ∀ y ∈ S2, lx x y) : Srt (S1 ++ x :: S2) := by
  have hs := List.pairwise_append.1 h
  refine List.pairwise_append.2 ⟨hs.1, List.pairwise_cons.2 ⟨h2, hs.2.1⟩, fun a ha b hb => ?_⟩
  rcases List.mem_cons.1 hb with rfl | hb
  · rcases List.eq_nil_or_concat S1 with e | ⟨q, s, e⟩
    · subst e; cases ha
    · rw [List.concat_eq_append] at e
      subst e
      have hl := h1 s (by simp)
      rcases List.mem_append.1 ha with h3 | h3
      · exact lx_trans ((List.pairwise_append.1 hs.1).2.2 a h3 s (by simp)) hl
      · have : a = s := by simpa using h3
        subst this; exact hl
  · exact hs.2.2 a ha b hb

set_option maxRecDepth 100000 in
set_option maxHeartbeats 2000000 in
theorem insertion_any {w : World} {g o n cap a b : Nat} {A X B : List (Nat × Nat)} (hd : CL w g o (A ++ X ++ B)) (hdl : (A ++ X ++ B).length = n) (hn : n ≤ 1000) (hgl : g < w.heap.size)
    (ha : a = A.length) (hb : b = A.length + X.length) (hX : X.Pairwise fun x y => x.1 < y.1) :
    Calls Tryd.prog 115 #[.slice (some ⟨g, o, none⟩) n cap, .int .i64 a, .int .i64 b, .func (.func 105) #[] #[]] w fun e w' => e = .returned (.tuple #[]) ∧ (∃ S, Srt S ∧ S.Perm X ∧ CL w' g o (A ++ S ++ B)) ∧ But [g] w w' := by
  have mixed : Tryd.prog.follows .mixedOrders = true := by kernel_rfl
  have hbn : b ≤ n := by simp at hdl; omega
  have hab : a ≤ b := by omega
  have HA := Lib.hid ha
  have HBX := Lib.hid hb
  have HDL := Lib.hid hdl
  clear ha hb hdl
  by_cases hX0 : X = []
  · subst hX0
    go_enter Tryd.func115, Tryd.ntmps115
    go_wp2
    go_loopw [8] (fun iv wr => iv = .int .i64 ((a : Int) + 1) ∧ wr = w) (fun _ _ => 0)
    case atStart => exact ⟨rfl, rfl⟩
    case round =>
      obtain ⟨rfl, rfl⟩ := hrel
      have hlt : ¬ (a : Int) + 1 < (b : Int) := by have h1 := HA.out; have h2 := HBX.out; simp only [List.length_nil] at h2; omega
      go_wp2
      go_end0
      exact ⟨rfl, ⟨[], List.Pairwise.nil, rfl, by simpa using hd⟩, But.refl _ _⟩
  obtain ⟨x0, X0, rfl⟩ : ∃ x0 X0, X = x0 :: X0 := by
    cases X with
    | nil => exact absurd rfl hX0
    | cons x X => exact ⟨x, X, rfl⟩
  go_enter Tryd.func115, Tryd.ntmps115
  go_wp2
  go_loopw [8] (fun iv wr => ∃ (i : Nat) (S R : List (Nat × Nat)), iv = .int .i64 ((i : Int) + 1) ∧ a ≤ i ∧ i + 1 ≤ b ∧ A.length + S.length = i + 1 ∧ Srt S ∧ (S ++ R).Perm (x0 :: X0) ∧ R.Pairwise (fun x y => x.1 < y.1) ∧ Crs S R ∧ CL wr g o (A ++ S ++ R ++ B) ∧ (A ++ S ++ R ++ B).length = n ∧ But [g] w wr) (fun iv _ => b - (intOf iv).toNat)
  case atStart =>
    refine ⟨a, [x0], X0, rfl, Nat.le_refl _, by have := HBX.out; have := HA.out; simp at *; omega, by have := HA.out; simp; omega, List.pairwise_singleton _ _, List.Perm.refl _, (List.pairwise_cons.1 hX).2, fun s hs y hy => ?_, by simpa using hd, by have := HDL.out; simp at *; omega, But.refl _ _⟩
    have : s = x0 := by simpa using hs
    subst this
    exact (List.pairwise_cons.1 hX).1 y hy
  case round =>
    obtain ⟨i, S, R, rfl, hai, hib, hSl, hS, hp, hR, hcr, hd', hL, hB⟩ := hrel
    clear hd hX hX0
    by_cases hlt : i + 1 < b
    · have hRne : 0 < R.length := by
        have h1 := hp.length_eq
        have h2 := HBX.out
        rw [List.length_append] at h1
        omega
      obtain ⟨x, R, rfl⟩ : ∃ x R', R = x :: R' := by
        cases R with
        | nil => simp at hRne
        | cons x R' => exact ⟨x, R', rfl⟩
      have hlt2 : (i : Int) + 1 < (b : Int) := by omega
      have hRt := (List.pairwise_cons.1 hR)
      obtain ⟨wo, rfl⟩ : ∃ wo : World, wo = wr := ⟨_, rfl⟩
      go_wp2
      go_loopw [9] (fun jv wr => ∃ (j : Nat) (S1 S2 : List (Nat × Nat)), jv = .int .i64 j ∧ a ≤ j ∧ A.length + S1.length = j ∧ S1 ++ S2 = S ∧ (∀ y ∈ S2, lx x y) ∧ CL wr g o (A ++ S1 ++ x :: S2 ++ R ++ B) ∧ But [g] w wr) (fun jv _ => (intOf jv).toNat)
      case atStart => exact ⟨i + 1, S, [], by go_num, by omega, hSl, by simp, by simp, by simpa using hd', hB⟩
      case round =>
        clear hd' hB
        obtain ⟨j, S1, S2, rfl, haj, hjl, hSe, h2, hdj, hBj⟩ := hrel
        have hgj : g < wr.heap.size := Nat.lt_of_lt_of_le hgl hBj.size
        have hLj : (A ++ S1 ++ x :: S2 ++ R ++ B).length = n := by
          rw [← hL, ← hSe]; simp; omega
        have hout : ∀ (W : World), CL W g o (A ++ S1 ++ x :: S2 ++ R ++ B) → But [g] w W → (∀ y, S1.getLast? = some y → lx y x) →
            ∃ (i' : Nat) (S R' : List (Nat × Nat)), Value.int .i64 ((i : Int) + 1 + 1) = .int .i64 ((i' : Int) + 1) ∧ a ≤ i' ∧ i' + 1 ≤ b ∧ A.length + S.length = i' + 1 ∧ Srt S ∧ (S ++ R').Perm (x0 :: X0) ∧ R'.Pairwise (fun x y => x.1 < y.1) ∧ Crs S R' ∧ CL W g o (A ++ S ++ R' ++ B) ∧ (A ++ S ++ R' ++ B).length = n ∧ But [g] w W := fun W hW hBW hl => by
          refine ⟨i + 1, S1 ++ x :: S2, R, by go_num, by omega, by omega, by rw [← hSe] at hSl; simp at hSl ⊢; omega, srt_insert (by rw [hSe]; exact hS) hl h2, ?_, hRt.2, ?_, by simpa using hW, by simpa using hLj, hBW⟩
          · refine List.Perm.trans ?_ hp
            rw [← hSe]
            have : (S1 ++ x :: S2).Perm (S1 ++ S2 ++ [x]) := by
              rw [List.append_assoc]
              exact List.Perm.append_left S1 (List.perm_append_singleton x S2).symm
            have h := this.append_right R
            simpa using h
          · intro s hs y hy
            rcases List.mem_append.1 hs with h | h
            · exact hcr s (by rw [← hSe]; exact List.mem_append_left _ h) y (List.mem_cons_of_mem _ hy)
            · rcases List.mem_cons.1 h with rfl | h
              · exact hRt.1 y hy
              · exact hcr s (by rw [← hSe]; exact List.mem_append_right _ h) y (List.mem_cons_of_mem _ hy)
        have HOUT := Lib.hid hout
        clear hout
        rcases List.eq_nil_or_concat S1 with e | ⟨S1, y, e⟩
        · subst e
          have hja : j = a := by have := HA.out; simp at hjl; omega
          have hg1 : decide ((a : Int) < (j : Int)) = false := by simp; omega
          have hg2 : decide (a < j) = false := by simp; omega
          have HD := Lib.hid hdj
          have HBJ := Lib.hid hBj
          clear hdj hBj hja haj hjl
          go_wp2
          go_quiet (fail)
          go_wp2
          go_roundw
          case rel => exact HOUT.out _ (HD.out.heap rfl) (HBJ.out.drewN _) (by simp)
          case measure => simp [intOf]; omega
        · rw [List.concat_eq_append] at e
          subst e
          obtain ⟨jp, rfl⟩ : ∃ jp, j = jp + 1 := ⟨j - 1, by simp at hjl; omega⟩
          have hjl2 : A.length + S1.length = jp := by simp at hjl; omega
          have hja : a ≤ jp := by have := HA.out; omega
          have hjn : jp + 1 < n := by simp at hLj; omega
          have hx := getD_at (d := A ++ (S1 ++ [y]) ++ x :: S2 ++ R ++ B) (A := A ++ (S1 ++ [y])) (x := x) (B := S2 ++ R ++ B) (i := jp + 1) (by simp) (by simp; omega)
          have hy := getD_at (d := A ++ (S1 ++ [y]) ++ x :: S2 ++ R ++ B) (A := A ++ S1) (x := y) (B := x :: S2 ++ R ++ B) (i := jp) (by simp) (by simp; omega)
          have hgx : ∀ n' os, _ := fun n' os => (hdj.grow hgj n' os).get (i := jp + 1) (by omega) hx
          have hgy : ∀ n' os, _ := fun n' os => (hdj.grow hgj n' os).get (i := jp) (by omega) hy
          have x0' := fun n' os => (hgx n' os).1
          have x1' := fun n' os => (hgx n' os).2.1
          have y0' := fun n' os => (hgy n' os).1
          have y1' := fun n' os => (hgy n' os).2.1
          have hcg := fun n' os => cmp_coins x.1 x.2 y.1 y.2 (Sort.grow (wr.drewN n') os)
          have hg1 : decide ((a : Int) < ((jp : Int) + 1)) = true := by simp; omega
          have hwp : IntKind.i64.wrap (jp : Int) = (jp : Int) := by rw [IntKind.wrap_i64]; omega
          have jz : (jp : Int) + 1 < (n : Int) := by omega
          have jz1 : (jp : Int) < (n : Int) := by omega
          have hjaz' : (a : Int) < (jp : Int) + 1 := by omega
          have p0 : (0 : Int) ≤ (jp : Int) + 1 := by omega
          have p1 : (0 : Int) ≤ (jp : Int) := by omega
          have e0 : ((jp : Int) + 1).toNat = jp + 1 := by omega
          have H2 := Lib.hid h2
          have HX := Lib.hid hx
          have HY := Lib.hid hy
          have HD := Lib.hid hdj
          have HBJ := Lib.hid hBj
          have HSE := Lib.hid hSe
          have HLJ := Lib.hid hLj
          clear hx hy hdj hBj hgx hgy hSe hjl hja hLj
          by_cases hlv : (x.2 : Int) < (y.2 : Int)
          · have hcv := cmp_neg hlv
            generalize cmpOf (x.2 : Int) (y.2 : Int) = cv at *
            go_wp2_with fail
            go_quiet_grown (first | (go_at_call 105; refine Calls.grown_of (hcg _ _)))
            have hdq := HD.out.grow hgj nq osq
            have hbq := HBJ.out.grow nq osq
            clear x0' x1' y0' y1' hcg
            generalize Sort.grow (wr.drewN nq) osq = wq at hdq hbq ⊢
            obtain ⟨x0', x1', x2', x3'⟩ := hdq.get (i := jp + 1) (by have := HLJ.out; omega) HX.out
            obtain ⟨y0', y1', y2', y3'⟩ := hdq.get (i := jp) (by have := HLJ.out; omega) HY.out
            obtain ⟨xs, xc⟩ := x
            obtain ⟨ys, yc⟩ := y
            dsimp only at x0' x1' y0' y1' hlv
            have HQ := Lib.hid hdq
            have HBQ := Lib.hid hbq
            have HLV := Lib.hid hlv
            clear hdq hbq hlv hcv h2 hcr hRt hR hp hS
            go_wp2
            go_region
            go_wp2
            go_roundw
            case rel =>
              refine ⟨jp, S1, (ys, yc) :: S2, rfl, by omega, hjl2, by rw [← HSE.out]; simp, ?_, ?_, (HBQ.out.swap _ _ _ _).drew⟩
              · intro z hz
                rcases List.mem_cons.1 hz with rfl | hz
                · exact .inl (by have := HLV.out; show xc < yc; omega)
                · exact H2.out z hz
              · have e : sw (A ++ (S1 ++ [(ys, yc)]) ++ (xs, xc) :: S2 ++ R ++ B) (jp + 1) jp = A ++ S1 ++ (xs, xc) :: (ys, yc) :: S2 ++ R ++ B := by
                  rw [sw_comm _ _ _ (by omega)]
                  have := sw_next (A ++ S1) (S2 ++ R ++ B) (ys, yc) (xs, xc) jp (jp + 1) (by simp; omega) rfl
                  simpa using this
                rw [← e]
                exact (HQ.out.swap (by have := HLJ.out; omega) (by have := HLJ.out; omega) (by omega) HX.out HY.out).heap rfl
            case measure => simp [intOf]; try omega
          · have hcv := cmp_not hlv
            generalize cmpOf (x.2 : Int) (y.2 : Int) = cv at *
            go_wp2_with fail
            go_quiet_grown (first | (go_at_call 105; refine Calls.grown_of (hcg _ _)))
            go_wp2
            go_roundw
            case rel =>
              refine HOUT.out _ (HD.out.grow hgj nq osq) (HBJ.out.grow nq osq) ?_
              intro z hz
              have : y = z := by simpa using hz
              subst this
              have hy1 := hcr y (by rw [← HSE.out]; simp) x (by simp)
              unfold lx
              omega
            case measure => simp [intOf]; omega
    · obtain rfl : i + 1 = b := by omega
      have hRe : R = [] := by
        have h1 := hp.length_eq
        have h2 := HBX.out
        rw [List.length_append] at h1
        exact List.eq_nil_of_length_eq_zero (by omega)
      subst hRe
      go_wp2
      go_end0
      exact ⟨rfl, ⟨S, hS, by simpa using hp, by simpa using hd'⟩, hB⟩
end Go.Proofs.YtjeeiodpdfbgmaaDoor
namespace Go.Proofs.YtjeeiodpdfbgmaaDoor
set_option maxRecDepth 100000
open Go Go.RowKit
/-- The library's stable sort sorts so many coins and fewer. -/
def SortsUpTo (N : Nat) : Prop := ∀ (w : World) (g o n cap : Nat) (d : List (Nat × Nat)), CL w g o d → d.length = n → n ≤ N → g < w.heap.size → (d.Pairwise fun x y => x.1 < y.1) →
  Calls Tryd.prog 104 #[.slice (some ⟨g, o, none⟩) n cap, .func (.func 105) #[] #[]] w fun e w' => e = .returned (.tuple #[]) ∧ (∃ S, Srt S ∧ S.Perm d ∧ CL w' g o S) ∧ But [g] w w'

theorem sorts_of {N : Nat} (h : ∀ {w : World} {g o n cap : Nat} {d : List (Nat × Nat)}, CL w g o d → d.length = n → n ≤ N → g < w.heap.size → (d.Pairwise fun x y => x.1 < y.1) →
    Calls Tryd.prog 112 #[.slice (some ⟨g, o, none⟩) n cap, .int .i64 n, .func (.func 105) #[] #[]] w fun e w' => e = .returned (.tuple #[]) ∧ (∃ S, Srt S ∧ S.Perm d ∧ CL w' g o S) ∧ But [g] w w') : SortsUpTo N := by
  intro w g o n cap d hd hdl hn hgl hs
  have HI := Lib.hid (h (cap := cap) hd hdl hn hgl hs)
  clear hd hdl
  go_enter Tryd.func104, Tryd.ntmps104
  go_wp2_with fail
  refine HI.out.mono ?_
  rintro e w' ⟨rfl, hS, hB⟩
  go_wp2
  go_end0
  exact ⟨rfl, hS, hB⟩
set_option maxRecDepth 100000 in
theorem insertion_nil (w : World) (A : Option Addr) (cap : Nat) (f : Value) : Calls Tryd.prog 115 #[.slice A 0 cap, .int .i64 0, .int .i64 0, f] w fun e w' => e = .returned (.tuple #[]) ∧ w = w' := by
  go_enter Tryd.func115, Tryd.ntmps115
  go_wp2
  go_loopw [8] (fun iv wr => iv = .int .i64 1 ∧ wr = w) (fun _ _ => 0)
  case atStart => exact ⟨rfl, rfl⟩
  case round =>
    obtain ⟨rfl, rfl⟩ := hrel
    go_wp2
    go_end0
    exact ⟨rfl, rfl⟩
set_option maxRecDepth 100000 in
theorem stable_nil (w : World) (A : Option Addr) (cap : Nat) (f : Value) : Calls Tryd.prog 112 #[.slice A 0 cap, .int .i64 0, f] w fun e w' => e = .returned (.tuple #[]) ∧ w = w' := by
  go_enter Tryd.func112, Tryd.ntmps112
  go_wp2
  go_loopw [7, 8] (fun av bv wr => av = .int .i64 0 ∧ bv = .int .i64 20 ∧ wr = w) (fun _ _ _ => 0)
  case atStart => exact ⟨rfl, rfl, rfl⟩
  case round =>
    obtain ⟨rfl, rfl, rfl⟩ := hrel
    go_wp2_with fail
    refine (insertion_nil _ _ _ _).mono ?_
    rintro e w' ⟨rfl, rfl⟩
    obtain ⟨w9, hw9⟩ : ∃ w9 : World, wr = w9 := ⟨_, rfl⟩
    subst hw9
    go_wp2
    go_loopw [6] (fun bv w2 => bv = .int .i64 20 ∧ w2 = wr) (fun _ _ => 0)
    case atStart => exact ⟨rfl, rfl⟩
    case round =>
      obtain ⟨rfl, rfl⟩ := hrel
      go_wp2
      go_end0
      exact ⟨rfl, rfl⟩
theorem sort_nil (w : World) (A : Option Addr) (cap : Nat) (f : Value) : Calls Tryd.prog 104 #[.slice A 0 cap, f] w fun e w' => e = .returned (.tuple #[]) ∧ w = w' := by
  go_enter Tryd.func104, Tryd.ntmps104
  go_wp2_with (go_at_call 112; refine (stable_nil _ _ _ _).mono ?_; rintro e w' ⟨rfl, rfl⟩)
  go_end0
  exact ⟨rfl, rfl⟩
end Go.Proofs.YtjeeiodpdfbgmaaDoor
namespace Go.Proofs.YtjeeiodpdfbgmaaDoor
set_option maxRecDepth 100000
/-- The coins of the symbols below k, in the order of the symbols. -/
def coins0 (l : List Int) : Nat → List (Nat × Nat)
  | 0 => []
  | k + 1 => if 0 < l.getD k 0 then coins0 l k ++ [(k, (l.getD k 0).toNat)] else coins0 l k
/-- Where a coin goes: behind all that are no more. -/
def spot (c : Nat) : List (Nat × Nat) → Nat
  | [] => 0
  | x :: cs => if x.2 ≤ c then spot c cs + 1 else 0
def ins (cs : List (Nat × Nat)) (c : Nat × Nat) : List (Nat × Nat) := cs.take (spot c.2 cs) ++ c :: cs.drop (spot c.2 cs)
/-- The coins of the symbols below k, sorted. -/
def csOf (l : List Int) : Nat → List (Nat × Nat)
  | 0 => []
  | k + 1 => if 0 < l.getD k 0 then ins (csOf l k) (k, (l.getD k 0).toNat) else csOf l k
theorem mem_coins0 {l : List Int} {x : Nat × Nat} : ∀ {k : Nat}, x ∈ coins0 l k ↔ x.1 < k ∧ 0 < l.getD x.1 0 ∧ x.2 = (l.getD x.1 0).toNat
  | 0 => by simp [coins0]
  | k + 1 => by
    rw [coins0]
    split
    · rename_i h
      rw [List.mem_append, mem_coins0, List.mem_singleton]
      constructor
      · rintro (⟨h1, h2, h3⟩ | rfl)
        · exact ⟨by omega, h2, h3⟩
        · exact ⟨by simp, h, rfl⟩
      · rintro ⟨h1, h2, h3⟩
        by_cases e : x.1 = k
        · right; cases x; simp at e h3 ⊢; subst e; exact ⟨rfl, h3⟩
        · left; exact ⟨by omega, h2, h3⟩
    · rename_i h
      rw [mem_coins0]
      constructor
      · rintro ⟨h1, h2, h3⟩; exact ⟨by omega, h2, h3⟩
      · rintro ⟨h1, h2, h3⟩
        refine ⟨?_, h2, h3⟩
        have : x.1 ≠ k := fun e => h (by rw [← e]; exact h2)
        omega
theorem coins0_asc (l : List Int) : ∀ k, (coins0 l k).Pairwise fun x y => x.1 < y.1
  | 0 => List.Pairwise.nil
  | k + 1 => by
    rw [coins0]; split
    · refine List.pairwise_append.2 ⟨coins0_asc l k, List.pairwise_singleton _ _, fun a ha b hb => ?_⟩
      have h1 := (mem_coins0.1 ha).1
      have : b = (k, (l.getD k 0).toNat) := by simpa using hb
      subst this; exact h1
    · exact coins0_asc l k
theorem length_coins0 (l : List Int) : ∀ k, (coins0 l k).length ≤ k
  | 0 => Nat.le_refl _
  | k + 1 => by rw [coins0]; have := length_coins0 l k; split <;> simp <;> omega
theorem spot_before (c : Nat) : ∀ (cs : List (Nat × Nat)) (i : Nat) (h : i < cs.length), i < spot c cs → cs[i].2 ≤ c
  | x :: cs, i, h, hi => by
    rw [spot] at hi
    split at hi
    · rename_i hx
      cases i with
      | zero => exact hx
      | succ i => exact spot_before c cs i (by simpa using h) (by omega)
    · omega
theorem spot_at (c : Nat) : ∀ (cs : List (Nat × Nat)) (h : spot c cs < cs.length), c < cs[spot c cs].2
  | x :: cs, h => by
    by_cases hx : x.2 ≤ c
    · have e : spot c (x :: cs) = spot c cs + 1 := by rw [spot, if_pos hx]
      simp only [e] at h ⊢
      simpa using spot_at c cs (by simpa using h)
    · have e : spot c (x :: cs) = 0 := by rw [spot, if_neg hx]
      simp only [e] at h ⊢
      simp; omega
theorem ins_perm (cs : List (Nat × Nat)) (c : Nat × Nat) : (ins cs c).Perm (cs ++ [c]) := by
  unfold ins
  have h := List.take_append_drop (spot c.2 cs) cs
  conv => rhs; rw [← h]
  rw [List.append_assoc]
  exact List.Perm.append_left _ (List.perm_append_singleton c _).symm
theorem ins_srt {cs : List (Nat × Nat)} {c : Nat × Nat} (h : Srt cs) (hc : ∀ x ∈ cs, x.1 < c.1) : Srt (ins cs c) := by
  unfold ins
  have hs : Srt (cs.take (spot c.2 cs) ++ cs.drop (spot c.2 cs)) := by rw [List.take_append_drop]; exact h
  have hp := List.pairwise_append.1 hs
  refine List.pairwise_append.2 ⟨hp.1, List.pairwise_cons.2 ⟨fun y hy => ?_, hp.2.1⟩, fun a ha b hb => ?_⟩
  · -- what stands behind is more
    have hlt : spot c.2 cs < cs.length := by
      apply Classical.byContradiction; intro hn
      rw [List.drop_of_length_le (by omega)] at hy; cases hy
    have hat := spot_at c.2 cs hlt
    rw [List.drop_eq_getElem_cons hlt] at hy
    rcases List.mem_cons.1 hy with rfl | hy
    · exact .inl hat
    · have h2 := hp.2.1
      rw [List.drop_eq_getElem_cons hlt] at h2
      have h3 := (List.pairwise_cons.1 h2).1 y hy
      left
      unfold lx at h3
      omega
  · rcases List.mem_cons.1 hb with rfl | hb
    · obtain ⟨i, hi, rfl⟩ := List.mem_take_iff_getElem.1 ha
      have h1 := spot_before b.2 cs i (by omega) (by omega)
      have h2 := hc _ (List.getElem_mem (show i < cs.length by omega))
      unfold lx; omega
    · exact hp.2.2 a ha b hb
theorem csOf_ok (l : List Int) : ∀ k, Srt (csOf l k) ∧ (csOf l k).Perm (coins0 l k)
  | 0 => ⟨List.Pairwise.nil, List.Perm.refl _⟩
  | k + 1 => by
    obtain ⟨h1, h2⟩ := csOf_ok l k
    rw [csOf, coins0]
    split
    · refine ⟨ins_srt h1 (fun x hx => (mem_coins0.1 (h2.mem_iff.1 hx)).1), (ins_perm _ _).trans (h2.append_right _)⟩
    · exact ⟨h1, h2⟩
theorem csOf_eq {l : List Int} {k : Nat} {S : List (Nat × Nat)} (h : Srt S) (hp : S.Perm (coins0 l k)) : S = csOf l k :=
  h.unique (csOf_ok l k).1 (hp.trans (csOf_ok l k).2.symm)
theorem mem_csOf {l : List Int} {x : Nat × Nat} {k : Nat} : x ∈ csOf l k ↔ x.1 < k ∧ 0 < l.getD x.1 0 ∧ x.2 = (l.getD x.1 0).toNat := by
  rw [(csOf_ok l k).2.mem_iff, mem_coins0]
theorem length_csOf (l : List Int) (k : Nat) : (csOf l k).length = (coins0 l k).length := (csOf_ok l k).2.length_eq
end Go.Proofs.YtjeeiodpdfbgmaaDoor
