/- Plain mathematics of layer 10, further: the places that are gone through, in the order of the loops. -/
import Derived.Test.YtookfoanggjnkaaDoorLaM
set_option linter.unusedVariables false
namespace Go.Proofs.YtookfoanggjnkaaDoor
set_option maxRecDepth 100000
open Go
/-- The first rows of a pass, and the first places of one row. -/
def rowsG (w : Nat) (p : PassL) (n : Nat) : List (Nat × Nat) := (List.range n).flatMap fun j => (List.range (manyL w p.x p.dx)).map fun i => (p.x + i * p.dx, p.y + j * p.dy)
def rowG (p : PassL) (j n : Nat) : List (Nat × Nat) := (List.range n).map fun i => (p.x + i * p.dx, p.y + j * p.dy)
theorem rowsG_zero (w : Nat) (p : PassL) : rowsG w p 0 = [] := rfl
theorem rowsG_next (w : Nat) (p : PassL) (n : Nat) : rowsG w p (n + 1) = rowsG w p n ++ rowG p n (manyL w p.x p.dx) := by
  unfold rowsG rowG
  rw [List.range_succ, List.flatMap_append, List.flatMap_cons, List.flatMap_nil, List.append_nil]
theorem rowG_zero (p : PassL) (j : Nat) : rowG p j 0 = [] := rfl
theorem rowG_next (p : PassL) (j n : Nat) : rowG p j (n + 1) = rowG p j n ++ [(p.x + n * p.dx, p.y + j * p.dy)] := by
  unfold rowG
  rw [List.range_succ, List.map_append]
  rfl
theorem rowsG_all (w h : Nat) (p : PassL) : rowsG w p (manyL h p.y p.dy) = visP w h p := rfl
/-- What has been gone through: whole passes, whole rows of the next one, places of the next row. -/
def goneL (w h : Nat) (l : List PassL) (i : Nat) (p : PassL) (j n : Nat) : List (Nat × Nat) := visL w h (l.take i) ++ (rowsG w p j ++ rowG p j n)
theorem goneL_next (w h : Nat) (l : List PassL) (i : Nat) (p : PassL) (j n : Nat) : goneL w h l i p j (n + 1) = goneL w h l i p j n ++ [(p.x + n * p.dx, p.y + j * p.dy)] := by
  unfold goneL
  rw [rowG_next, List.append_assoc, List.append_assoc]
theorem goneL_row (w h : Nat) (l : List PassL) (i : Nat) (p : PassL) (j : Nat) : goneL w h l i p j (manyL w p.x p.dx) = goneL w h l i p (j + 1) 0 := by
  unfold goneL
  rw [rowsG_next, rowG_zero, List.append_nil]
theorem goneL_pass (w h : Nat) (l : List PassL) {i : Nat} {p : PassL} (hp : l[i]? = some p) : goneL w h l i p (manyL h p.y p.dy) 0 = visL w h (l.take (i + 1)) := by
  unfold goneL
  have hi := (List.getElem?_eq_some_iff.1 hp).1
  have e : l.take (i + 1) = l.take i ++ [p] := by
    rw [List.take_succ_eq_append_getElem hi]
    congr 1
    rw [(List.getElem?_eq_some_iff.1 hp).2]
  rw [rowG_zero, List.append_nil, rowsG_all, e]
  unfold visL
  rw [List.flatMap_append, List.flatMap_cons, List.flatMap_nil, List.append_nil]
theorem goneL_start (w h : Nat) (l : List PassL) (i : Nat) (p : PassL) : goneL w h l i p 0 0 = visL w h (l.take i) := by
  unfold goneL
  rw [rowsG_zero, rowG_zero, List.append_nil, List.append_nil]
theorem rowG_prefix (p : PassL) (j : Nat) {n m : Nat} (h : n ≤ m) : rowG p j n <+: rowG p j m := by
  induction m with
  | zero => rw [Nat.le_zero.1 h]; exact List.prefix_rfl
  | succ m ih =>
    by_cases e : n = m + 1
    · rw [e]; exact List.prefix_rfl
    · rw [rowG_next]
      exact (ih (by omega)).trans (List.prefix_append _ _)
theorem rowsG_prefix (w : Nat) (p : PassL) {n m : Nat} (h : n ≤ m) : rowsG w p n <+: rowsG w p m := by
  induction m with
  | zero => rw [Nat.le_zero.1 h]; exact List.prefix_rfl
  | succ m ih =>
    by_cases e : n = m + 1
    · rw [e]; exact List.prefix_rfl
    · rw [rowsG_next]
      exact (ih (by omega)).trans (List.prefix_append _ _)
theorem visL_prefix (w h : Nat) (l : List PassL) (i : Nat) : visL w h (l.take i) <+: visL w h l := by
  refine ⟨visL w h (l.drop i), ?_⟩
  unfold visL
  rw [← List.flatMap_append, List.take_append_drop]
theorem goneL_prefix (w h : Nat) (l : List PassL) {i : Nat} {p : PassL} (hp : l[i]? = some p) {j n : Nat} (hj : j < manyL h p.y p.dy) (hn : n ≤ manyL w p.x p.dx) : goneL w h l i p j n <+: visL w h l := by
  have h1 : rowsG w p j ++ rowG p j n <+: rowsG w p (j + 1) := by
    rw [rowsG_next]
    exact (List.prefix_append_right_inj _).2 (rowG_prefix p j hn)
  have h2 : rowsG w p j ++ rowG p j n <+: visP w h p := by
    rw [← rowsG_all]
    exact h1.trans (rowsG_prefix w p hj)
  have h3 : goneL w h l i p j n <+: visL w h (l.take (i + 1)) := by
    rw [← goneL_pass w h l hp]
    unfold goneL
    rw [rowG_zero, List.append_nil, rowsG_all]
    exact (List.prefix_append_right_inj _).2 h2
  exact h3.trans (visL_prefix w h l (i + 1))
/-- The next place has not been gone through. -/
theorem gone_new {w h : Nat} {l : List PassL} (hd : (visL w h l).Nodup) {i : Nat} {p : PassL} (hp : l[i]? = some p) {j n : Nat} (hj : j < manyL h p.y p.dy) (hn : n < manyL w p.x p.dx) :
    (p.x + n * p.dx, p.y + j * p.dy) ∉ goneL w h l i p j n := by
  have h1 := (goneL_prefix w h l hp hj (n := n + 1) hn).sublist.nodup hd
  rw [goneL_next] at h1
  intro hm
  exact (List.nodup_append.1 h1).2.2 _ hm _ (by simp) rfl
theorem gone_nodup {w h : Nat} {l : List PassL} (hd : (visL w h l).Nodup) {i : Nat} {p : PassL} (hp : l[i]? = some p) {j n : Nat} (hj : j < manyL h p.y p.dy) (hn : n ≤ manyL w p.x p.dx) : (goneL w h l i p j n).Nodup :=
  (goneL_prefix w h l hp hj hn).sublist.nodup hd
theorem gone_length {w h : Nat} {l : List PassL} {i : Nat} {p : PassL} (hp : l[i]? = some p) {j n : Nat} (hj : j < manyL h p.y p.dy) (hn : n ≤ manyL w p.x p.dx) : (goneL w h l i p j n).length ≤ (visL w h l).length :=
  (goneL_prefix w h l hp hj hn).sublist.length_le
/-- The passes of an image. -/
def passL (w h : Nat) (laced : Bool) : List PassL := (if laced = true then lacedL else plainL).filter (someP w h)
theorem whole_of (laced : Bool) : Whole (if laced = true then lacedL else plainL) := by
  cases laced
  · exact whole_plain
  · exact whole_laced
theorem passL_nodup (w h : Nat) (laced : Bool) : (visL w h (passL w h laced)).Nodup := by
  unfold passL
  rw [visL_some]
  exact nodup_visL (whole_of laced)
theorem passL_length (w h : Nat) (laced : Bool) : (visL w h (passL w h laced)).length = w * h := by
  unfold passL
  rw [visL_some]
  exact visL_length (whole_of laced)
theorem passL_ok {w h : Nat} {laced : Bool} {p : PassL} (hp : p ∈ passL w h laced) : OkP p ∧ 0 < manyL w p.x p.dx ∧ 0 < manyL h p.y p.dy := by
  unfold passL at hp
  obtain ⟨h1, h2⟩ := List.mem_filter.1 hp
  have := of_decide_eq_true h2
  exact ⟨(whole_of laced).1 p h1, this.1, this.2⟩
theorem place_lt {w h : Nat} {p : PassL} (hp : OkP p) {j n : Nat} (hj : j < manyL h p.y p.dy) (hn : n < manyL w p.x p.dx) : p.x + n * p.dx < w ∧ p.y + j * p.dy < h :=
  ⟨(manyL_lt (by have := hp.1; omega) n).1 hn, (manyL_lt (by have := hp.2; omega) j).1 hj⟩
theorem manyL_le (n first step : Nat) (hs : 1 ≤ step) : manyL n first step ≤ n := by
  refine Nat.le_of_not_lt fun h => ?_
  have := (manyL_lt (first := first) hs n).1 h
  have : n * 1 ≤ n * step := Nat.mul_le_mul_left n hs
  omega
theorem area_le {w h : Nat} {p : PassL} (hp : OkP p) : manyL w p.x p.dx * manyL h p.y p.dy ≤ w * h :=
  Nat.mul_le_mul (manyL_le _ _ _ (by have := hp.1; omega)) (manyL_le _ _ _ (by have := hp.2; omega))
end Go.Proofs.YtookfoanggjnkaaDoor
