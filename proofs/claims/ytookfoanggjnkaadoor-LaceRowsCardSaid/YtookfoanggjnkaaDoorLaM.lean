/- Plain mathematics of layer 10: each pixel stands in just one pass, at one place of it. -/
import Derived.Test.YtookfoanggjnkaaDoorMath
set_option linter.unusedVariables false
namespace Go.Proofs.YtookfoanggjnkaaDoor
set_option maxRecDepth 100000
open Go

/-- How many of first, first and step, .. are below n. -/
def manyL (n first step : Nat) : Nat := (n - first + step - 1) / step
theorem manyL_lt {n first step : Nat} (hs : 1 ≤ step) (k : Nat) : k < manyL n first step ↔ first + k * step < n := by
  unfold manyL
  rw [show (k < (n - first + step - 1) / step) = (k + 1 ≤ (n - first + step - 1) / step) from rfl, Nat.le_div_iff_mul_le (by omega), Nat.add_mul, Nat.one_mul]
  omega
/-- A pass: X, Y, DX, DY. -/
structure PassL where
  x : Nat
  y : Nat
  dx : Nat
  dy : Nat
def lacedL : List PassL := [⟨0, 0, 8, 8⟩, ⟨4, 0, 8, 8⟩, ⟨0, 4, 4, 8⟩, ⟨2, 0, 4, 4⟩, ⟨0, 2, 2, 4⟩, ⟨1, 0, 2, 2⟩, ⟨0, 1, 1, 2⟩]
def plainL : List PassL := [⟨0, 0, 1, 1⟩]
/-- The places of a pass, row by row. -/
def visP (w h : Nat) (p : PassL) : List (Nat × Nat) := (List.range (manyL h p.y p.dy)).flatMap fun j => (List.range (manyL w p.x p.dx)).map fun i => (p.x + i * p.dx, p.y + j * p.dy)
def visL (w h : Nat) (l : List PassL) : List (Nat × Nat) := l.flatMap (visP w h)
/-- A pass that may be: it begins within its step. -/
def OkP (p : PassL) : Prop := p.x < p.dx ∧ p.y < p.dy
theorem mem_visP {w h : Nat} {p : PassL} (hp : OkP p) (a b : Nat) : (a, b) ∈ visP w h p ↔ a < w ∧ b < h ∧ a % p.dx = p.x ∧ b % p.dy = p.y := by
  obtain ⟨hx, hy⟩ := hp
  unfold visP
  simp only [List.mem_flatMap, List.mem_map, List.mem_range, Prod.mk.injEq]
  constructor
  · rintro ⟨j, hj, i, hi, e1, e2⟩
    have hj' := (manyL_lt (by omega) j).1 hj
    have hi' := (manyL_lt (by omega) i).1 hi
    subst e1 e2
    exact ⟨hi', hj', by rw [Nat.add_mul_mod_self_right, Nat.mod_eq_of_lt hx], by rw [Nat.add_mul_mod_self_right, Nat.mod_eq_of_lt hy]⟩
  · rintro ⟨ha, hb, e1, e2⟩
    have ea : p.x + a / p.dx * p.dx = a := by rw [← e1, Nat.mul_comm]; exact Nat.mod_add_div a p.dx
    have eb : p.y + b / p.dy * p.dy = b := by rw [← e2, Nat.mul_comm]; exact Nat.mod_add_div b p.dy
    exact ⟨b / p.dy, (manyL_lt (by omega) _).2 (by rw [eb]; exact hb), a / p.dx, (manyL_lt (by omega) _).2 (by rw [ea]; exact ha), ea, eb⟩
theorem nodup_visP {w h : Nat} {p : PassL} (hp : OkP p) : (visP w h p).Nodup := by
  obtain ⟨hx, hy⟩ := hp
  unfold visP List.Nodup
  rw [List.pairwise_flatMap]
  constructor
  · intro j _
    rw [List.pairwise_map]
    refine List.Pairwise.imp ?_ (List.nodup_range (n := manyL w p.x p.dx))
    intro a b hab e
    have := (Prod.mk.inj e).1
    exact hab (Nat.eq_of_mul_eq_mul_right (show 0 < p.dx by omega) (by omega))
  · refine List.Pairwise.imp ?_ (List.nodup_range (n := manyL h p.y p.dy))
    intro a b hab u hu v hv e
    subst e
    obtain ⟨_, _, rfl⟩ := List.mem_map.1 hu
    obtain ⟨_, _, e2⟩ := List.mem_map.1 hv
    have := (Prod.mk.inj e2).2
    exact hab (Nat.eq_of_mul_eq_mul_right (show 0 < p.dy by omega) (by omega))
/-- Passes of which each place is in just one. -/
def Whole (l : List PassL) : Prop := (∀ p, p ∈ l → OkP p) ∧ (∀ a b, ∃ p, p ∈ l ∧ a % p.dx = p.x ∧ b % p.dy = p.y) ∧
  l.Pairwise fun p q => ∀ a b, ¬ ((a % p.dx = p.x ∧ b % p.dy = p.y) ∧ a % q.dx = q.x ∧ b % q.dy = q.y)
theorem whole_plain : Whole plainL := by
  refine ⟨?_, ?_, ?_⟩
  · intro p hp
    rw [List.mem_singleton.1 hp]
    exact ⟨by decide, by decide⟩
  · intro a b
    exact ⟨_, List.mem_singleton.2 rfl, Nat.mod_one a, Nat.mod_one b⟩
  · exact List.pairwise_singleton _ _
theorem whole_laced : Whole lacedL := by
  refine ⟨?_, ?_, ?_⟩
  · intro p hp
    simp only [lacedL, List.mem_cons, List.not_mem_nil, or_false] at hp
    rcases hp with rfl | rfl | rfl | rfl | rfl | rfl | rfl <;> exact ⟨by decide, by decide⟩
  · intro a b
    by_cases h1 : b % 2 = 1
    · exact ⟨⟨0, 1, 1, 2⟩, by simp [lacedL], Nat.mod_one a, h1⟩
    by_cases h2 : a % 2 = 1
    · exact ⟨⟨1, 0, 2, 2⟩, by simp [lacedL], h2, by show b % 2 = 0; omega⟩
    by_cases h3 : b % 4 = 2
    · exact ⟨⟨0, 2, 2, 4⟩, by simp [lacedL], by show a % 2 = 0; omega, h3⟩
    by_cases h4 : a % 4 = 2
    · exact ⟨⟨2, 0, 4, 4⟩, by simp [lacedL], h4, by show b % 4 = 0; omega⟩
    by_cases h5 : b % 8 = 4
    · exact ⟨⟨0, 4, 4, 8⟩, by simp [lacedL], by show a % 4 = 0; omega, h5⟩
    by_cases h6 : a % 8 = 4
    · exact ⟨⟨4, 0, 8, 8⟩, by simp [lacedL], h6, by show b % 8 = 0; omega⟩
    · exact ⟨⟨0, 0, 8, 8⟩, by simp [lacedL], by show a % 8 = 0; omega, by show b % 8 = 0; omega⟩
  · unfold lacedL
    simp only [List.pairwise_cons, List.mem_cons, List.not_mem_nil, or_false, forall_eq_or_imp, forall_eq, false_implies, implies_true, List.Pairwise.nil, and_true]
    refine ⟨⟨?_, ?_, ?_, ?_, ?_, ?_⟩, ⟨?_, ?_, ?_, ?_, ?_⟩, ⟨?_, ?_, ?_, ?_⟩, ⟨?_, ?_, ?_⟩, ⟨?_, ?_⟩, ?_⟩ <;> (intro a b; omega)
theorem nodup_visL {w h : Nat} {l : List PassL} (hl : Whole l) : (visL w h l).Nodup := by
  unfold visL List.Nodup
  rw [List.pairwise_flatMap]
  refine ⟨fun p hp => nodup_visP (hl.1 p hp), ?_⟩
  refine List.Pairwise.imp_of_mem ?_ hl.2.2
  intro p q hp hq hpq u hu v hv e
  subst e
  obtain ⟨a, b⟩ := u
  obtain ⟨_, _, h1, h2⟩ := (mem_visP (hl.1 p hp) a b).1 hu
  obtain ⟨_, _, h3, h4⟩ := (mem_visP (hl.1 q hq) a b).1 hv
  exact hpq a b ⟨⟨h1, h2⟩, h3, h4⟩
theorem mem_visL {w h : Nat} {l : List PassL} (hl : Whole l) (a b : Nat) : (a, b) ∈ visL w h l ↔ a < w ∧ b < h := by
  unfold visL
  rw [List.mem_flatMap]
  constructor
  · rintro ⟨p, hp, hm⟩
    obtain ⟨h1, h2, _⟩ := (mem_visP (hl.1 p hp) a b).1 hm
    exact ⟨h1, h2⟩
  · rintro ⟨h1, h2⟩
    obtain ⟨p, hp, h3, h4⟩ := hl.2.1 a b
    exact ⟨p, hp, (mem_visP (hl.1 p hp) a b).2 ⟨h1, h2, h3, h4⟩⟩
/-- All places, row by row. -/
def gridL (w h : Nat) : List (Nat × Nat) := (List.range h).flatMap fun j => (List.range w).map fun i => (i, j)
theorem gridL_length (w h : Nat) : (gridL w h).length = w * h := by
  unfold gridL
  induction h with
  | zero => rfl
  | succ h ih => rw [List.range_succ, List.flatMap_append, List.length_append, ih, Nat.mul_succ]; simp
theorem mem_gridL (w h a b : Nat) : (a, b) ∈ gridL w h ↔ a < w ∧ b < h := by
  unfold gridL
  simp only [List.mem_flatMap, List.mem_map, List.mem_range, Prod.mk.injEq]
  constructor
  · rintro ⟨j, hj, i, hi, rfl, rfl⟩; exact ⟨hi, hj⟩
  · rintro ⟨h1, h2⟩; exact ⟨b, h2, a, h1, rfl, rfl⟩
theorem nodup_gridL (w h : Nat) : (gridL w h).Nodup := by
  unfold gridL List.Nodup
  rw [List.pairwise_flatMap]
  constructor
  · intro j _
    rw [List.pairwise_map]
    refine List.Pairwise.imp ?_ (List.nodup_range (n := w))
    intro a b hab e
    exact hab (Prod.mk.inj e).1
  · refine List.Pairwise.imp ?_ (List.nodup_range (n := h))
    intro a b hab u hu v hv e
    subst e
    obtain ⟨_, _, rfl⟩ := List.mem_map.1 hu
    obtain ⟨_, _, e2⟩ := List.mem_map.1 hv
    exact hab (Prod.mk.inj e2).2.symm
/-- As many places are gone through as the image has pixels. -/
theorem visL_length {w h : Nat} {l : List PassL} (hl : Whole l) : (visL w h l).length = w * h := by
  rw [← gridL_length w h]
  refine List.Perm.length_eq ((List.perm_ext_iff_of_nodup (nodup_visL hl) (nodup_gridL w h)).2 fun u => ?_)
  obtain ⟨a, b⟩ := u
  rw [mem_visL hl, mem_gridL]
/-- The passes that have columns and rows: the others have no places. -/
def someP (w h : Nat) (p : PassL) : Bool := decide (0 < manyL w p.x p.dx ∧ 0 < manyL h p.y p.dy)
theorem visP_none {w h : Nat} {p : PassL} (hn : someP w h p = false) : visP w h p = [] := by
  have := of_decide_eq_false hn
  unfold visP
  by_cases h1 : manyL h p.y p.dy = 0
  · rw [h1]; rfl
  · have h2 : manyL w p.x p.dx = 0 := by omega
    rw [h2]
    simp
theorem visL_some (w h : Nat) (l : List PassL) : visL w h (l.filter (someP w h)) = visL w h l := by
  unfold visL
  induction l with
  | nil => rfl
  | cons p l ih =>
    rw [List.flatMap_cons, List.filter_cons]
    by_cases hp : someP w h p = true
    · rw [if_pos hp, List.flatMap_cons, ih]
    · rw [if_neg hp, ih, visP_none (by simpa using hp), List.nil_append]
end Go.Proofs.YtookfoanggjnkaaDoor
