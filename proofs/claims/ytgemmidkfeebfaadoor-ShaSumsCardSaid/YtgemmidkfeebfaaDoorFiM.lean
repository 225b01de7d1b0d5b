/- Plain mathematics of layer 9: a line that is filtered, a line of which that is undone, and the kind that is taken. -/
import Derived.Test.YtgemmidkfeebfaaDoorWA
set_option linter.unusedVariables false
namespace Go.Proofs.YtgemmidkfeebfaaDoor
set_option maxRecDepth 100000
open Go

/-- What a kind foretells. -/
def predF (kind : Int) (a b c : Nat) : Nat :=
  if kind = 1 then a else if kind = 2 then b else if kind = 3 then (a + b) / 2 else
  if kind = 4 then
    if ((b : Int) - c).natAbs ≤ ((a : Int) - c).natAbs ∧ ((b : Int) - c).natAbs ≤ ((a : Int) + b - c - c).natAbs then a
    else if ((a : Int) - c).natAbs ≤ ((a : Int) + b - c - c).natAbs then b else c
  else 0
/-- The byte so many bytes ahead of a place. -/
def behindF (s : List UInt8) (bpp i : Nat) : Nat := if i < bpp then 0 else (s.getD (i - bpp) 0).toNat
/-- What is foretold of a place. -/
def foreF (kind : Int) (bpp : Nat) (s above : List UInt8) (i : Nat) : UInt8 := UInt8.ofNat (predF kind (behindF s bpp i) (above.getD i 0).toNat (behindF above bpp i))
/-- A line that is filtered. -/
def doF (kind : Int) (bpp : Nat) (line above : List UInt8) : List UInt8 := (List.range line.length).map fun i => line.getD i 0 - foreF kind bpp line above i
/-- A line of which that is undone. -/
def undoF (kind : Int) (bpp : Nat) (line above : List UInt8) : List UInt8 := line.foldl (fun out x => out ++ [x + foreF kind bpp out above out.length]) []

theorem doF_length (kind : Int) (bpp : Nat) (line above : List UInt8) : (doF kind bpp line above).length = line.length := by
  unfold doF; rw [List.length_map, List.length_range]
theorem doF_at (kind : Int) (bpp : Nat) (line above : List UInt8) {i : Nat} (h : i < line.length) : (doF kind bpp line above).getD i 0 = line.getD i 0 - foreF kind bpp line above i := by
  unfold doF
  rw [List.getD_eq_getElem?_getD, List.getElem?_map, List.getElem?_range h]
  rfl
theorem getD_lt {s : List UInt8} {i : Nat} (h : i < s.length) : s.getD i 0 = s[i] := by
  rw [List.getD_eq_getElem?_getD, List.getElem?_eq_getElem h]; rfl
theorem getD_ge {s : List UInt8} {i : Nat} (h : s.length ≤ i) : s.getD i 0 = 0 := by
  rw [List.getD_eq_getElem?_getD, List.getElem?_eq_none h]; rfl
theorem getD_take {s : List UInt8} {n i : Nat} (h : i < n) : (s.take n).getD i 0 = s.getD i 0 := by
  rw [List.getD_eq_getElem?_getD, List.getD_eq_getElem?_getD, List.getElem?_take_of_lt h]
theorem getD_left {s t : List UInt8} {i : Nat} (h : i < s.length) : (s ++ t).getD i 0 = s.getD i 0 := by
  rw [List.getD_eq_getElem?_getD, List.getD_eq_getElem?_getD, List.getElem?_append_left h]
theorem ext_getD {s t : List UInt8} (hl : s.length = t.length) (h : ∀ i, i < s.length → s.getD i 0 = t.getD i 0) : s = t := by
  apply List.ext_getElem hl
  intro i h1 h2
  rw [← getD_lt h1, ← getD_lt h2, h i h1]
/-- What is foretold of a place leans on the bytes ahead of it. -/
theorem foreF_eq {kind : Int} {bpp : Nat} {s t above : List UInt8} {i : Nat} (hb : 1 ≤ bpp) (h : ∀ j, j < i → s.getD j 0 = t.getD j 0) : foreF kind bpp s above i = foreF kind bpp t above i := by
  unfold foreF behindF
  by_cases hi : i < bpp
  · simp only [if_pos hi]
  · simp only [if_neg hi]
    rw [h (i - bpp) (by omega)]
theorem undoF_snoc (kind : Int) (bpp : Nat) (line above : List UInt8) (x : UInt8) :
    undoF kind bpp (line ++ [x]) above = undoF kind bpp line above ++ [x + foreF kind bpp (undoF kind bpp line above) above (undoF kind bpp line above).length] := by
  unfold undoF; rw [List.foldl_append, List.foldl_cons, List.foldl_nil]
theorem snoc_induct {P : List UInt8 → Prop} (h0 : P []) (h1 : ∀ l x, P l → P (l ++ [x])) (l : List UInt8) : P l := by
  have key : ∀ n (l : List UInt8), l.length = n → P l := by
    intro n
    induction n with
    | zero => intro l h; rw [List.length_eq_zero_iff.1 h]; exact h0
    | succ n ih =>
      intro l h
      have hne : l ≠ [] := by intro e; rw [e] at h; exact absurd h (by simp)
      rw [← List.dropLast_concat_getLast hne]
      exact h1 _ _ (ih _ (by rw [List.length_dropLast]; omega))
  exact key _ l rfl
theorem undoF_length (kind : Int) (bpp : Nat) (above : List UInt8) (line : List UInt8) : (undoF kind bpp line above).length = line.length := by
  induction line using snoc_induct with
  | h0 => rfl
  | h1 l x ih => rw [undoF_snoc, List.length_append, List.length_append, ih]; rfl
theorem undoF_at {kind : Int} {bpp : Nat} (hb : 1 ≤ bpp) (above : List UInt8) (line : List UInt8) :
    ∀ i, i < line.length → (undoF kind bpp line above).getD i 0 = line.getD i 0 + foreF kind bpp (undoF kind bpp line above) above i := by
  induction line using snoc_induct with
  | h0 => intro i h; exact absurd h (by simp)
  | h1 l x ih =>
    intro i h
    rw [List.length_append, List.length_singleton] at h
    have hl := undoF_length kind bpp above l
    rw [undoF_snoc]
    by_cases hi : i < l.length
    · have hf : foreF kind bpp (undoF kind bpp l above ++ [x + foreF kind bpp (undoF kind bpp l above) above (undoF kind bpp l above).length]) above i = foreF kind bpp (undoF kind bpp l above) above i :=
        foreF_eq hb fun j hj => getD_left (by omega)
      rw [hf, getD_left (by omega), getD_left hi, ih i hi]
    · obtain rfl : i = l.length := by omega
      have hf : foreF kind bpp (undoF kind bpp l above ++ [x + foreF kind bpp (undoF kind bpp l above) above (undoF kind bpp l above).length]) above l.length = foreF kind bpp (undoF kind bpp l above) above l.length :=
        foreF_eq hb fun j hj => getD_left (by omega)
      rw [hf]
      have e1 : (l ++ [x]).getD l.length 0 = x := by rw [getD_lt (by rw [List.length_append]; simp)]; simp
      have e2 : ∀ y : UInt8, (undoF kind bpp l above ++ [y]).getD l.length 0 = y := by
        intro y
        rw [← hl, getD_lt (by rw [List.length_append]; simp)]; simp
      rw [e1, e2, hl]
theorem sub_add_u8 (x y : UInt8) : x - y + y = x := by
  apply UInt8.toNat_inj.1
  rw [UInt8.toNat_add, UInt8.toNat_sub]
  have := x.toNat_lt; have := y.toNat_lt
  omega
theorem add_sub_u8 (x y : UInt8) : x + y - y = x := by
  apply UInt8.toNat_inj.1
  rw [UInt8.toNat_sub, UInt8.toNat_add]
  have := x.toNat_lt; have := y.toNat_lt
  omega
theorem sub_self_u8 (x : UInt8) : x - x = 0 := by
  apply UInt8.toNat_inj.1
  rw [UInt8.toNat_sub]
  have := x.toNat_lt
  show _ = 0
  omega
/-- Undoing what was done is the line. -/
theorem undo_do {kind : Int} {bpp : Nat} (hb : 1 ≤ bpp) (line above : List UInt8) : undoF kind bpp (doF kind bpp line above) above = line := by
  have hl : (undoF kind bpp (doF kind bpp line above) above).length = line.length := by rw [undoF_length, doF_length]
  have key : ∀ n i, i < n → i < line.length → (undoF kind bpp (doF kind bpp line above) above).getD i 0 = line.getD i 0 := by
    intro n
    induction n with
    | zero => intro i h; exact absurd h (by omega)
    | succ n ih =>
      intro i h hi
      rw [undoF_at hb above _ i (by rw [doF_length]; exact hi), doF_at _ _ _ _ hi,
        foreF_eq hb (s := undoF kind bpp (doF kind bpp line above) above) (t := line) (fun j hj => ih j (by omega) (by omega)), sub_add_u8]
  exact ext_getD hl fun i hi => key (i + 1) i (by omega) (by omega)
/-- Doing what was undone is the line. -/
theorem do_undo {kind : Int} {bpp : Nat} (hb : 1 ≤ bpp) (line above : List UInt8) : doF kind bpp (undoF kind bpp line above) above = line := by
  refine ext_getD (by rw [doF_length, undoF_length]) fun i hi => ?_
  rw [doF_length, undoF_length] at hi
  rw [doF_at _ _ _ _ (by rw [undoF_length]; exact hi), undoF_at hb above line i hi, add_sub_u8]
theorem getD_zeros (n i : Nat) : (List.replicate n (0 : UInt8)).getD i 0 = 0 := by
  rw [List.getD_eq_getElem?_getD, List.getElem?_replicate]
  by_cases h : i < n
  · rw [if_pos h]; rfl
  · rw [if_neg h]; rfl
theorem foreF_zeros (kind : Int) (bpp : Nat) (s : List UInt8) (n i : Nat) : foreF kind bpp s (List.replicate n 0) i = foreF kind bpp s [] i := by
  unfold foreF behindF
  rw [getD_zeros, getD_zeros]
  rfl
theorem doF_zeros (kind : Int) (bpp : Nat) (line : List UInt8) (n : Nat) : doF kind bpp line (List.replicate n 0) = doF kind bpp line [] := by
  unfold doF
  congr 1
  funext i
  rw [foreF_zeros]
theorem undoF_zeros (kind : Int) (bpp : Nat) (line : List UInt8) (n : Nat) : undoF kind bpp line (List.replicate n 0) = undoF kind bpp line [] := by
  unfold undoF
  congr 1
  funext out x
  rw [foreF_zeros]
theorem foreF_zero (bpp : Nat) (s above : List UInt8) (i : Nat) : foreF 0 bpp s above i = 0 := by
  unfold foreF predF
  rw [if_neg (by decide), if_neg (by decide), if_neg (by decide), if_neg (by decide)]
  rfl
theorem doF_zero (bpp : Nat) (line above : List UInt8) : doF 0 bpp line above = line := by
  refine ext_getD (doF_length _ _ _ _) fun i hi => ?_
  rw [doF_length] at hi
  rw [doF_at _ _ _ _ hi, foreF_zero]
  apply UInt8.toNat_inj.1
  rw [UInt8.toNat_sub]
  have := (line.getD i 0).toNat_lt
  show (256 - 0 + (line.getD i 0).toNat) % 256 = _
  omega
theorem undoF_zero {bpp : Nat} (hb : 1 ≤ bpp) (line above : List UInt8) : undoF 0 bpp line above = line := by
  have h := undo_do (kind := 0) hb line above
  rwa [doF_zero] at h
theorem foreF_up (bpp : Nat) (line : List UInt8) (i : Nat) : foreF 2 bpp line line i = line.getD i 0 := by
  unfold foreF predF
  rw [if_neg (by decide), if_pos rfl]
  exact UInt8.ofNat_toNat
/-- A line that is the one above it is noughts. -/
theorem doF_up (bpp : Nat) (line : List UInt8) {i : Nat} (hi : i < line.length) : (doF 2 bpp line line).getD i 0 = 0 := by
  rw [doF_at _ _ _ _ hi, foreF_up, sub_self_u8]

/-! How far bytes are from nought, and the kind that is taken. -/
def farB (b : UInt8) : Nat := if 128 < b.toNat then 256 - b.toNat else b.toNat
def costF (l : List UInt8) : Nat := l.foldl (fun n b => n + farB b) 0
theorem costF_from (l : List UInt8) : ∀ n, l.foldl (fun n b => n + farB b) n = n + costF l := by
  induction l with
  | nil => intro n; rfl
  | cons x l ih =>
    intro n
    show l.foldl _ (n + farB x) = n + l.foldl _ (0 + farB x)
    rw [ih, ih]
    omega
theorem costF_cons (x : UInt8) (l : List UInt8) : costF (x :: l) = farB x + costF l := by
  show l.foldl _ (0 + farB x) = _
  rw [costF_from]; omega
theorem costF_snoc (l : List UInt8) (x : UInt8) : costF (l ++ [x]) = costF l + farB x := by
  unfold costF; rw [List.foldl_append]; rfl
theorem farB_le (b : UInt8) : farB b ≤ 128 := by
  unfold farB
  by_cases h : 128 < b.toNat
  · rw [if_pos h]; omega
  · rw [if_neg h]; omega
theorem costF_le (l : List UInt8) : costF l ≤ 128 * l.length := by
  induction l with
  | nil => exact Nat.le_refl _
  | cons x l ih => rw [costF_cons, List.length_cons]; have := farB_le x; omega
theorem farB_zero {b : UInt8} (h : farB b = 0) : b = 0 := by
  apply UInt8.toNat_inj.1
  have := b.toNat_lt
  unfold farB at h
  by_cases h1 : 128 < b.toNat
  · rw [if_pos h1] at h; omega
  · rw [if_neg h1] at h; rw [h]; rfl
theorem costF_zero {l : List UInt8} (h : costF l = 0) : ∀ i, i < l.length → l.getD i 0 = 0 := by
  induction l with
  | nil => intro i hi; exact absurd hi (by simp)
  | cons x l ih =>
    rw [costF_cons] at h
    intro i hi
    cases i with
    | zero => exact farB_zero (b := x) (by omega)
    | succ i => exact ih (by omega) i (by rw [List.length_cons] at hi; omega)
theorem costF_of_zero {l : List UInt8} (h : ∀ i, i < l.length → l.getD i 0 = 0) : costF l = 0 := by
  induction l with
  | nil => rfl
  | cons x l ih =>
    have hx : x = 0 := h 0 (by simp)
    rw [costF_cons, ih (fun i hi => h (i + 1) (by rw [List.length_cons]; omega)), hx]
    rfl
/-- The kind up to one that is taken, and what it costs. -/
def pickTo (c : Nat → Nat) : Nat → Nat × Nat
  | 0 => (0, c 0)
  | k + 1 => if c (k + 1) < (pickTo c k).2 then (k + 1, c (k + 1)) else pickTo c k
theorem pickTo_is (c : Nat → Nat) : ∀ k, (pickTo c k).1 ≤ k ∧ (pickTo c k).2 = c (pickTo c k).1 ∧ (∀ j, j ≤ k → c (pickTo c k).1 ≤ c j) ∧ ∀ j, j < (pickTo c k).1 → c (pickTo c k).1 < c j := by
  intro k
  induction k with
  | zero => exact ⟨Nat.le_refl _, rfl, fun j hj => by rw [Nat.le_zero.1 hj]; exact Nat.le_refl _, fun j hj => absurd hj (Nat.not_lt_zero _)⟩
  | succ k ih =>
    obtain ⟨h1, h2, h3, h4⟩ := ih
    unfold pickTo
    by_cases h : c (k + 1) < (pickTo c k).2
    · rw [if_pos h]
      refine ⟨Nat.le_refl _, rfl, fun j hj => ?_, fun j hj => ?_⟩
      · show c (k + 1) ≤ c j
        by_cases hk : j = k + 1
        · rw [hk]; exact Nat.le_refl _
        · have := h3 j (by omega); omega
      · show c (k + 1) < c j
        have hj' : j < k + 1 := hj
        have := h3 j (by omega); omega
    · rw [if_neg h]
      refine ⟨by omega, h2, fun j hj => ?_, h4⟩
      by_cases hk : j = k + 1
      · rw [hk]; omega
      · exact h3 j (by omega)
/-- The kind that is taken for a line. -/
def pickF (bpp : Nat) (line above : List UInt8) : Nat := (pickTo (fun k => costF (doF (k : Nat) bpp line above)) 4).1
theorem pickF_up (bpp : Nat) (line : List UInt8) : pickF bpp line line ≤ 2 ∧ ∀ i, i < line.length → (doF (pickF bpp line line : Nat) bpp line line).getD i 0 = 0 := by
  have h := pickTo_is (fun k => costF (doF (k : Nat) bpp line line)) 4
  have h2 : costF (doF ((2 : Nat) : Int) bpp line line) = 0 := costF_of_zero fun i hi => doF_up bpp line (by rw [doF_length] at hi; exact hi)
  obtain ⟨_, _, h3, h4⟩ := h
  have hz : costF (doF (pickF bpp line line : Nat) bpp line line) = 0 := by
    have := h3 2 (by decide)
    unfold pickF
    omega
  refine ⟨?_, fun i hi => costF_zero hz i (by rw [doF_length]; exact hi)⟩
  refine Nat.le_of_not_lt fun hlt => ?_
  have := h4 2 hlt
  omega
end Go.Proofs.YtgemmidkfeebfaaDoor
