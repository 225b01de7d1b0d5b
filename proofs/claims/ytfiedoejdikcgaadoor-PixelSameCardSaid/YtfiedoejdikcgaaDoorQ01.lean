/- Several texts in one: Math, FiM, LaM, SaM, PiM, PiN, LaN, Words, Four, ChM, HeM (what PixelImages, PixelRows, PixelSame reach of them). -/
import Derived.Laws.BitsAllLaws
import Derived.Laws.BitsLemmas
set_option maxRecDepth 100000
set_option linter.unusedVariables false
namespace Go.Proofs.YtfiedoejdikcgaaDoor
set_option maxRecDepth 100000
open Go
/-- One bit of the cyclic sum. -/
def crcBit (c : Nat) : Nat := if c % 2 = 1 then (c / 2) ^^^ 3988292384 else c / 2
/-- So many bits of it. -/
def crcBits : Nat → Nat → Nat
  | 0, c => c
  | n + 1, c => crcBit (crcBits n c)
/-- One byte of it. -/
def crcByte (c : Nat) (b : UInt8) : Nat := crcBits 8 (c ^^^ b.toNat)
def crcRaw (l : List UInt8) : Nat := l.foldl crcByte 4294967295
def crcSum (l : List UInt8) : Nat := crcRaw l ^^^ 4294967295

end Go.Proofs.YtfiedoejdikcgaaDoor
set_option linter.unusedVariables false
namespace Go.Proofs.YtfiedoejdikcgaaDoor
set_option maxRecDepth 100000
open Go
/-- What a kind foretells. -/
def predF (kind : Int) (a b c : Nat) : Nat :=
  if kind = 1 then a else if kind = 2 then b else if kind = 3 then (a + b) / 2 else
  if kind = 4 then
    if ((b : Int) - c).natAbs ≤ ((a : Int) - c).natAbs ∧ ((b : Int) - c).natAbs ≤ ((a : Int) + b - c - c).natAbs then a
    else if ((a : Int) - c).natAbs ≤ ((a : Int) + b - c - c).natAbs then b else c
  else 0
/-- The byte so many bytes ahead of a place. -/
def behindF (s : List UInt8) (bpp i : Nat) : Nat := if i < bpp then 0 else (s.getD (i - bpp) 0).toNat
/-- What is foretold of a place. -/
def foreF (kind : Int) (bpp : Nat) (s above : List UInt8) (i : Nat) : UInt8 := UInt8.ofNat (predF kind (behindF s bpp i) (above.getD i 0).toNat (behindF above bpp i))
/-- A line that is filtered. -/
def doF (kind : Int) (bpp : Nat) (line above : List UInt8) : List UInt8 := (List.range line.length).map fun i => line.getD i 0 - foreF kind bpp line above i
/-- A line of which that is undone. -/
def undoF (kind : Int) (bpp : Nat) (line above : List UInt8) : List UInt8 := line.foldl (fun out x => out ++ [x + foreF kind bpp out above out.length]) []

theorem doF_length (kind : Int) (bpp : Nat) (line above : List UInt8) : (doF kind bpp line above).length = line.length := by
  unfold doF; rw [List.length_map, List.length_range]
theorem doF_at (kind : Int) (bpp : Nat) (line above : List UInt8) {i : Nat} (h : i < line.length) : (doF kind bpp line above).getD i 0 = line.getD i 0 - foreF kind bpp line above i := by
  unfold doF
  rw [List.getD_eq_getElem?_getD, List.getElem?_map, List.getElem?_range h]
  rfl
theorem getD_lt {s : List UInt8} {i : Nat} (h : i < s.length) : s.getD i 0 = s[i] := by
  rw [List.getD_eq_getElem?_getD, List.getElem?_eq_getElem h]; rfl
theorem getD_ge {s : List UInt8} {i : Nat} (h : s.length ≤ i) : s.getD i 0 = 0 := by
  rw [List.getD_eq_getElem?_getD, List.getElem?_eq_none h]; rfl
theorem getD_take {s : List UInt8} {n i : Nat} (h : i < n) : (s.take n).getD i 0 = s.getD i 0 := by
  rw [List.getD_eq_getElem?_getD, List.getD_eq_getElem?_getD, List.getElem?_take_of_lt h]
theorem getD_left {s t : List UInt8} {i : Nat} (h : i < s.length) : (s ++ t).getD i 0 = s.getD i 0 := by
  rw [List.getD_eq_getElem?_getD, List.getD_eq_getElem?_getD, List.getElem?_append_left h]
theorem ext_getD {s t : List UInt8} (hl : s.length = t.length) (h : ∀ i, i < s.length → s.getD i 0 = t.getD i 0) : s = t := by
  apply List.ext_getElem hl
  intro i h1 h2
  rw [← getD_lt h1, ← getD_lt h2, h i h1]
/-- What is foretold of a place leans on the bytes ahead of it. -/
theorem foreF_eq {kind : Int} {bpp : Nat} {s t above : List UInt8} {i : Nat} (hb : 1 ≤ bpp) (h : ∀ j, j < i → s.getD j 0 = t.getD j 0) : foreF kind bpp s above i = foreF kind bpp t above i := by
  unfold foreF behindF
  by_cases hi : i < bpp
  · simp only [if_pos hi]
  · simp only [if_neg hi]
    rw [h (i - bpp) (by omega)]
theorem undoF_snoc (kind : Int) (bpp : Nat) (line above : List UInt8) (x : UInt8) :
    undoF kind bpp (line ++ [x]) above = undoF kind bpp line above ++ [x + foreF kind bpp (undoF kind bpp line above) above (undoF kind bpp line above).length] := by
  unfold undoF; rw [List.foldl_append, List.foldl_cons, List.foldl_nil]
theorem snoc_induct {P : List UInt8 → Prop} (h0 : P []) (h1 : ∀ l x, P l → P (l ++ [x])) (l : List UInt8) : P l := by
  have key : ∀ n (l : List UInt8), l.length = n → P l := by
    intro n
    induction n with
    | zero => intro l h; rw [List.length_eq_zero_iff.1 h]; exact h0
    | succ n ih =>
      intro l h
      have hne : l ≠ [] := by intro e; rw [e] at h; exact absurd h (by simp)
      rw [← List.dropLast_concat_getLast hne]
      exact h1 _ _ (ih _ (by rw [List.length_dropLast]; omega))
  exact key _ l rfl
theorem undoF_length (kind : Int) (bpp : Nat) (above : List UInt8) (line : List UInt8) : (undoF kind bpp line above).length = line.length := by
  induction line using snoc_induct with
  | h0 => rfl
  | h1 l x ih => rw [undoF_snoc, List.length_append, List.length_append, ih]; rfl
theorem undoF_at {kind : Int} {bpp : Nat} (hb : 1 ≤ bpp) (above : List UInt8) (line : List UInt8) :
    ∀ i, i < line.length → (undoF kind bpp line above).getD i 0 = line.getD i 0 + foreF kind bpp (undoF kind bpp line above) above i := by
  induction line using snoc_induct with
  | h0 => intro i h; exact absurd h (by simp)
  | h1 l x ih =>
    intro i h
    rw [List.length_append, List.length_singleton] at h
    have hl := undoF_length kind bpp above l
    rw [undoF_snoc]
    by_cases hi : i < l.length
    · have hf : foreF kind bpp (undoF kind bpp l above ++ [x + foreF kind bpp (undoF kind bpp l above) above (undoF kind bpp l above).length]) above i = foreF kind bpp (undoF kind bpp l above) above i :=
        foreF_eq hb fun j hj => getD_left (by omega)
      rw [hf, getD_left (by omega), getD_left hi, ih i hi]
    · obtain rfl : i = l.length := by omega
      have hf : foreF kind bpp (undoF kind bpp l above ++ [x + foreF kind bpp (undoF kind bpp l above) above (undoF kind bpp l above).length]) above l.length = foreF kind bpp (undoF kind bpp l above) above l.length :=
        foreF_eq hb fun j hj => getD_left (by omega)
      rw [hf]
      have e1 : (l ++ [x]).getD l.length 0 = x := by rw [getD_lt (by rw [List.length_append]; simp)]; simp
      have e2 : ∀ y : UInt8, (undoF kind bpp l above ++ [y]).getD l.length 0 = y := by
        intro y
        rw [← hl, getD_lt (by rw [List.length_append]; simp)]; simp
      rw [e1, e2, hl]
theorem getD_zeros (n i : Nat) : (List.replicate n (0 : UInt8)).getD i 0 = 0 := by
  rw [List.getD_eq_getElem?_getD, List.getElem?_replicate]
  by_cases h : i < n
  · rw [if_pos h]; rfl
  · rw [if_neg h]; rfl
def farB (b : UInt8) : Nat := if 128 < b.toNat then 256 - b.toNat else b.toNat
def costF (l : List UInt8) : Nat := l.foldl (fun n b => n + farB b) 0
theorem costF_from (l : List UInt8) : ∀ n, l.foldl (fun n b => n + farB b) n = n + costF l := by
  induction l with
  | nil => intro n; rfl
  | cons x l ih =>
    intro n
    show l.foldl _ (n + farB x) = n + l.foldl _ (0 + farB x)
    rw [ih, ih]
    omega
theorem costF_cons (x : UInt8) (l : List UInt8) : costF (x :: l) = farB x + costF l := by
  show l.foldl _ (0 + farB x) = _
  rw [costF_from]; omega
theorem costF_snoc (l : List UInt8) (x : UInt8) : costF (l ++ [x]) = costF l + farB x := by
  unfold costF; rw [List.foldl_append]; rfl
theorem farB_le (b : UInt8) : farB b ≤ 128 := by
  unfold farB
  by_cases h : 128 < b.toNat
  · rw [if_pos h]; omega
  · rw [if_neg h]; omega
theorem costF_le (l : List UInt8) : costF l ≤ 128 * l.length := by
  induction l with
  | nil => exact Nat.le_refl _
  | cons x l ih => rw [costF_cons, List.length_cons]; have := farB_le x; omega
/-- The kind up to one that is taken, and what it costs. -/
def pickTo (c : Nat → Nat) : Nat → Nat × Nat
  | 0 => (0, c 0)
  | k + 1 => if c (k + 1) < (pickTo c k).2 then (k + 1, c (k + 1)) else pickTo c k
theorem pickTo_is (c : Nat → Nat) : ∀ k, (pickTo c k).1 ≤ k ∧ (pickTo c k).2 = c (pickTo c k).1 ∧ (∀ j, j ≤ k → c (pickTo c k).1 ≤ c j) ∧ ∀ j, j < (pickTo c k).1 → c (pickTo c k).1 < c j := by
  intro k
  induction k with
  | zero => exact ⟨Nat.le_refl _, rfl, fun j hj => by rw [Nat.le_zero.1 hj]; exact Nat.le_refl _, fun j hj => absurd hj (Nat.not_lt_zero _)⟩
  | succ k ih =>
    obtain ⟨h1, h2, h3, h4⟩ := ih
    unfold pickTo
    by_cases h : c (k + 1) < (pickTo c k).2
    · rw [if_pos h]
      refine ⟨Nat.le_refl _, rfl, fun j hj => ?_, fun j hj => ?_⟩
      · show c (k + 1) ≤ c j
        by_cases hk : j = k + 1
        · rw [hk]; exact Nat.le_refl _
        · have := h3 j (by omega); omega
      · show c (k + 1) < c j
        have hj' : j < k + 1 := hj
        have := h3 j (by omega); omega
    · rw [if_neg h]
      refine ⟨by omega, h2, fun j hj => ?_, h4⟩
      by_cases hk : j = k + 1
      · rw [hk]; omega
      · exact h3 j (by omega)
/-- The kind that is taken for a line. -/
def pickF (bpp : Nat) (line above : List UInt8) : Nat := (pickTo (fun k => costF (doF (k : Nat) bpp line above)) 4).1
end Go.Proofs.YtfiedoejdikcgaaDoor
set_option linter.unusedVariables false
namespace Go.Proofs.YtfiedoejdikcgaaDoor
set_option maxRecDepth 100000
open Go
/-- How many of first, first and step, .. are below n. -/
def manyL (n first step : Nat) : Nat := (n - first + step - 1) / step
theorem manyL_lt {n first step : Nat} (hs : 1 ≤ step) (k : Nat) : k < manyL n first step ↔ first + k * step < n := by
  unfold manyL
  rw [show (k < (n - first + step - 1) / step) = (k + 1 ≤ (n - first + step - 1) / step) from rfl, Nat.le_div_iff_mul_le (by omega), Nat.add_mul, Nat.one_mul]
  omega
/-- A pass: X, Y, DX, DY. -/
structure PassL where
  x : Nat
  y : Nat
  dx : Nat
  dy : Nat
def lacedL : List PassL := [⟨0, 0, 8, 8⟩, ⟨4, 0, 8, 8⟩, ⟨0, 4, 4, 8⟩, ⟨2, 0, 4, 4⟩, ⟨0, 2, 2, 4⟩, ⟨1, 0, 2, 2⟩, ⟨0, 1, 1, 2⟩]
def plainL : List PassL := [⟨0, 0, 1, 1⟩]
/-- A pass that may be: it begins within its step. -/
def OkP (p : PassL) : Prop := p.x < p.dx ∧ p.y < p.dy
/-- Passes of which each place is in just one. -/
def Whole (l : List PassL) : Prop := (∀ p, p ∈ l → OkP p) ∧ (∀ a b, ∃ p, p ∈ l ∧ a % p.dx = p.x ∧ b % p.dy = p.y) ∧
  l.Pairwise fun p q => ∀ a b, ¬ ((a % p.dx = p.x ∧ b % p.dy = p.y) ∧ a % q.dx = q.x ∧ b % q.dy = q.y)
theorem whole_plain : Whole plainL := by
  refine ⟨?_, ?_, ?_⟩
  · intro p hp
    rw [List.mem_singleton.1 hp]
    exact ⟨by decide, by decide⟩
  · intro a b
    exact ⟨_, List.mem_singleton.2 rfl, Nat.mod_one a, Nat.mod_one b⟩
  · exact List.pairwise_singleton _ _
theorem whole_laced : Whole lacedL := by
  refine ⟨?_, ?_, ?_⟩
  · intro p hp
    simp only [lacedL, List.mem_cons, List.not_mem_nil, or_false] at hp
    rcases hp with rfl | rfl | rfl | rfl | rfl | rfl | rfl <;> exact ⟨by decide, by decide⟩
  · intro a b
    by_cases h1 : b % 2 = 1
    · exact ⟨⟨0, 1, 1, 2⟩, by simp [lacedL], Nat.mod_one a, h1⟩
    by_cases h2 : a % 2 = 1
    · exact ⟨⟨1, 0, 2, 2⟩, by simp [lacedL], h2, by show b % 2 = 0; omega⟩
    by_cases h3 : b % 4 = 2
    · exact ⟨⟨0, 2, 2, 4⟩, by simp [lacedL], by show a % 2 = 0; omega, h3⟩
    by_cases h4 : a % 4 = 2
    · exact ⟨⟨2, 0, 4, 4⟩, by simp [lacedL], h4, by show b % 4 = 0; omega⟩
    by_cases h5 : b % 8 = 4
    · exact ⟨⟨0, 4, 4, 8⟩, by simp [lacedL], by show a % 4 = 0; omega, h5⟩
    by_cases h6 : a % 8 = 4
    · exact ⟨⟨4, 0, 8, 8⟩, by simp [lacedL], h6, by show b % 8 = 0; omega⟩
    · exact ⟨⟨0, 0, 8, 8⟩, by simp [lacedL], by show a % 8 = 0; omega, by show b % 8 = 0; omega⟩
  · unfold lacedL
    simp only [List.pairwise_cons, List.mem_cons, List.not_mem_nil, or_false, forall_eq_or_imp, forall_eq, false_implies, implies_true, List.Pairwise.nil, and_true]
    refine ⟨⟨?_, ?_, ?_, ?_, ?_, ?_⟩, ⟨?_, ?_, ?_, ?_, ?_⟩, ⟨?_, ?_, ?_, ?_⟩, ⟨?_, ?_, ?_⟩, ⟨?_, ?_⟩, ?_⟩ <;> (intro a b; omega)
/-- The passes that have columns and rows: the others have no places. -/
def someP (w h : Nat) (p : PassL) : Bool := decide (0 < manyL w p.x p.dx ∧ 0 < manyL h p.y p.dy)
end Go.Proofs.YtfiedoejdikcgaaDoor
set_option linter.unusedVariables false
namespace Go.Proofs.YtfiedoejdikcgaaDoor
set_option maxRecDepth 100000
open Go
/-- A bit of a number. -/
def bitN (v b : Nat) : Nat := v / 2 ^ b % 2
/-- The number of bits, the highest one first. -/
def valN (f : Nat → Nat) : Nat → Nat
  | 0 => 0
  | n + 1 => 2 * valN f n + f n
theorem bitN_lt (v b : Nat) : bitN v b < 2 := Nat.mod_lt _ (by decide)
theorem valN_lt {f : Nat → Nat} {n : Nat} (h : ∀ b, b < n → f b < 2) : valN f n < 2 ^ n := by
  induction n with
  | zero => exact Nat.one_pos
  | succ n ih =>
    have a := ih fun b hb => h b (by omega)
    have b := h n (by omega)
    show 2 * valN f n + f n < 2 ^ (n + 1)
    rw [Nat.pow_succ]; omega
theorem valN_congr {f g : Nat → Nat} {n : Nat} (h : ∀ b, b < n → f b = g b) : valN f n = valN g n := by
  induction n with
  | zero => rfl
  | succ n ih => show 2 * valN f n + f n = 2 * valN g n + g n; rw [ih fun b hb => h b (by omega), h n (by omega)]
/-- The number of a number's low bits. -/
theorem valN_bits (v : Nat) : ∀ n, valN (fun b => bitN v (n - 1 - b)) n = v % 2 ^ n := by
  have key : ∀ n m, valN (fun b => bitN v (m + n - 1 - b)) n = v / 2 ^ m % 2 ^ n := by
    intro n
    induction n with
    | zero => intro m; rw [Nat.pow_zero, Nat.mod_one]; rfl
    | succ n ih =>
      intro m
      have h := ih (m + 1)
      show 2 * valN (fun b => bitN v (m + (n + 1) - 1 - b)) n + bitN v (m + (n + 1) - 1 - n) = _
      rw [valN_congr (g := fun b => bitN v (m + 1 + n - 1 - b)) (fun b _ => by show bitN v (m + (n + 1) - 1 - b) = bitN v (m + 1 + n - 1 - b); rw [show m + (n + 1) - 1 - b = m + 1 + n - 1 - b by omega]), h]
      unfold bitN
      rw [show m + (n + 1) - 1 - n = m by omega, Nat.pow_succ 2 m, ← Nat.div_div_eq_div_mul, Nat.pow_succ 2 n, Nat.mul_comm (2 ^ n) 2, Nat.mod_mul]
      omega
  intro n
  have := key n 0
  rw [Nat.pow_zero, Nat.div_one] at this
  rw [← this]
  exact valN_congr fun b _ => by show bitN v (n - 1 - b) = bitN v (0 + n - 1 - b); rw [Nat.zero_add]
theorem valN_tail {f : Nat → Nat} {m : Nat} : ∀ k, (∀ b, m ≤ b → b < m + k → f b = 0) → valN f (m + k) = valN f m * 2 ^ k := by
  intro k
  induction k with
  | zero => intro _; rw [Nat.pow_zero, Nat.mul_one]; rfl
  | succ k ih =>
    intro h
    show 2 * valN f (m + k) + f (m + k) = _
    rw [ih (fun b h1 h2 => h b h1 (by omega)), h (m + k) (by omega) (by omega), Nat.pow_succ, Nat.add_zero, ← Nat.mul_assoc, Nat.mul_comm 2, Nat.mul_right_comm, Nat.mul_assoc _ (2 ^ k) 2, ← Nat.mul_assoc]
/-- A bit of a row. -/
def rowBit (row : List UInt8) (k : Nat) : Nat := bitN (row.getD (k / 8) 0).toNat (7 - k % 8)
/-- A sample of a row. -/
def sampleN (row : List UInt8) (depth i : Nat) : Nat := valN (fun b => rowBit row (i * depth + b)) depth
def unpackT (row : List UInt8) (depth n : Nat) : List Nat := (List.range n).map (sampleN row depth)
/-- A bit of samples. -/
def packBit (depth : Nat) (l : List Nat) (k : Nat) : Nat := if k < l.length * depth then bitN (l.getD (k / depth) 0) (depth - 1 - k % depth) else 0
/-- The row of samples. -/
def packT (depth : Nat) (l : List Nat) : List UInt8 := (List.range ((l.length * depth + 7) / 8)).map fun j => UInt8.ofNat (valN (fun b => packBit depth l (8 * j + b)) 8)
theorem packT_length (depth : Nat) (l : List Nat) : (packT depth l).length = (l.length * depth + 7) / 8 := by unfold packT; rw [List.length_map, List.length_range]
theorem packBit_lt (depth : Nat) (l : List Nat) (k : Nat) : packBit depth l k < 2 := by
  unfold packBit
  by_cases h : k < l.length * depth
  · rw [if_pos h]; exact bitN_lt _ _
  · rw [if_neg h]; decide
theorem packT_at (depth : Nat) (l : List Nat) {j : Nat} (hj : j < (l.length * depth + 7) / 8) : ((packT depth l).getD j 0).toNat = valN (fun b => packBit depth l (8 * j + b)) 8 := by
  unfold packT
  rw [List.getD_eq_getElem?_getD, List.getElem?_map, List.getElem?_range hj]
  show (UInt8.ofNat (valN (fun b => packBit depth l (8 * j + b)) 8)).toNat = _
  rw [UInt8.toNat_ofNat']
  exact Nat.mod_eq_of_lt (valN_lt fun b _ => packBit_lt _ _ _)
def isDepth (d : Nat) : Prop := d = 1 ∨ d = 2 ∨ d = 4 ∨ d = 8 ∨ d = 16
def wideN (v depth : Nat) : Nat := v * 65535 / (2 ^ depth - 1)
theorem wideN_is {depth : Nat} (hd : isDepth depth) (v : Nat) : wideN v depth = v * (65535 / (2 ^ depth - 1)) ∧ 1 ≤ 65535 / (2 ^ depth - 1) := by
  unfold wideN
  rcases hd with rfl | rfl | rfl | rfl | rfl
  · exact ⟨by show v * 65535 / 1 = v * 65535; omega, by decide⟩
  · exact ⟨by show v * 65535 / 3 = v * 21845; omega, by decide⟩
  · exact ⟨by show v * 65535 / 15 = v * 4369; omega, by decide⟩
  · exact ⟨by show v * 65535 / 255 = v * 257; omega, by decide⟩
  · exact ⟨by show v * 65535 / 65535 = v * 1; omega, by decide⟩
theorem wideN_most {depth : Nat} (hd : isDepth depth) : wideN (2 ^ depth - 1) depth = 65535 := by
  rcases hd with rfl | rfl | rfl | rfl | rfl <;> decide
theorem wideN_le {depth : Nat} (hd : isDepth depth) {v : Nat} (h : v ≤ 2 ^ depth - 1) : wideN v depth ≤ 65535 := by
  rw [← wideN_most hd]
  obtain ⟨h1, _⟩ := wideN_is hd v
  obtain ⟨h3, _⟩ := wideN_is hd (2 ^ depth - 1)
  rw [h1, h3]
  exact Nat.mul_le_mul_right _ h
end Go.Proofs.YtfiedoejdikcgaaDoor
set_option linter.unusedVariables false
namespace Go.Proofs.YtfiedoejdikcgaaDoor
set_option maxRecDepth 100000
open Go
/-- A shape, of numbers that may be. -/
structure ShP where
  w : Nat
  h : Nat
  d : Nat
  c : Nat
  pal : List UInt8
  tr : List UInt8
  has : Bool
/-- How many samples a pixel of a colour has. -/
def samplesN (c : Nat) : Nat := if c = 0 ∨ c = 3 then 1 else if c = 4 then 2 else if c = 2 then 3 else if c = 6 then 4 else 0
def twoL (n : Nat) : List UInt8 := [UInt8.ofNat (n / 256), UInt8.ofNat n]
theorem twoL_length (n : Nat) : (twoL n).length = 2 := rfl
/-- Are samples those of a transparency? -/
def sameT (S : ShP) (l : List Nat) : Bool := S.has && decide (S.tr.length = 2 * l.length) && (List.range l.length).all fun i => decide ((256 * (S.tr.getD (2 * i) 0).toNat + (S.tr.getD (2 * i + 1) 0).toNat) % 2 ^ S.d = l.getD i 0)
def wideS (S : ShP) (l : List Nat) (i : Nat) : List UInt8 := twoL (wideN (l.getD i 0) S.d)
def alphaS (S : ShP) (l : List Nat) : List UInt8 := if sameT S l = true then twoL 0 else twoL 65535
/-- The pixel of samples that may be. -/
def pixS (S : ShP) (l : List Nat) : List UInt8 × Int :=
  if S.c = 0 then (wideS S l 0 ++ wideS S l 0 ++ wideS S l 0 ++ alphaS S l, 0) else
  if S.c = 2 then (wideS S l 0 ++ wideS S l 1 ++ wideS S l 2 ++ alphaS S l, 0) else
  if S.c = 4 then (wideS S l 0 ++ wideS S l 0 ++ wideS S l 0 ++ wideS S l 1, 0) else
  if S.c = 6 then (wideS S l 0 ++ wideS S l 1 ++ wideS S l 2 ++ wideS S l 3, 0) else
  if S.pal.length < 3 * l.getD 0 0 + 3 then ([], 29) else
  (twoL (257 * (S.pal.getD (3 * l.getD 0 0) 0).toNat) ++ twoL (257 * (S.pal.getD (3 * l.getD 0 0 + 1) 0).toNat) ++ twoL (257 * (S.pal.getD (3 * l.getD 0 0 + 2) 0).toNat) ++
    (if S.has = true ∧ l.getD 0 0 < S.tr.length then twoL (257 * (S.tr.getD (l.getD 0 0) 0).toNat) else twoL 65535), 0)
theorem wideS_length (S : ShP) (l : List Nat) (i : Nat) : (wideS S l i).length = 2 := rfl
theorem alphaS_length (S : ShP) (l : List Nat) : (alphaS S l).length = 2 := by unfold alphaS; split <;> rfl
theorem pixS_cases (S : ShP) (l : List Nat) : (pixS S l).2 = 0 ∧ (pixS S l).1.length = 8 ∨ pixS S l = ([], 29) := by
  unfold pixS
  have a := alphaS_length S l
  have w := wideS_length S l
  split
  · left; refine ⟨rfl, ?_⟩; simp only [List.length_append, w, a]
  split
  · left; refine ⟨rfl, ?_⟩; simp only [List.length_append, w, a]
  split
  · left; refine ⟨rfl, ?_⟩; simp only [List.length_append, w]
  split
  · left; refine ⟨rfl, ?_⟩; simp only [List.length_append, w]
  split
  · right; rfl
  · left
    refine ⟨rfl, ?_⟩
    simp only [List.length_append, twoL_length]
    split <;> rfl
/-- A row of an image: the column it begins at, the step, the row, how many pixels, and whether it is its pass's first one. -/
structure RowJ where
  x : Nat
  dx : Nat
  y : Nat
  n : Nat
  first : Bool
def rowsP (w h : Nat) (p : PassL) : List RowJ := if manyL w p.x p.dx = 0 then [] else (List.range (manyL h p.y p.dy)).map fun j => ⟨p.x, p.dx, p.y + j * p.dy, manyL w p.x p.dx, decide (j = 0)⟩
/-- The rows of passes. -/
def jobsL (w h : Nat) (l : List PassL) : List RowJ := l.flatMap (rowsP w h)
def posJ (j : RowJ) : List (Nat × Nat) := (List.range j.n).map fun i => (j.x + i * j.dx, j.y)
/-- A pixel's bytes put at a place. -/
def setN (pix : List UInt8) (k : Nat) (q : List UInt8) : List UInt8 := pix.take k ++ (q ++ pix.drop (k + q.length))
theorem setN_length {pix : List UInt8} {k : Nat} {q : List UInt8} (h : k + q.length ≤ pix.length) : (setN pix k q).length = pix.length := by
  unfold setN
  rw [List.length_append, List.length_append, List.length_take, List.length_drop]
  omega
/-- How many bytes a row of so many pixels has. -/
def rowLen (S : ShP) (n : Nat) : Nat := (S.d * samplesN S.c * n + 7) / 8
def bppN (S : ShP) : Nat := max 1 (S.d * samplesN S.c / 8)
/-- The samples of a pixel of a row. -/
def sampsL (S : ShP) (line : List UInt8) (x : Nat) : List Nat := (List.range (samplesN S.c)).map fun i => sampleN line S.d (samplesN S.c * x + i)
/-- The pixels of a row, from one on, put into an image. -/
def pixGo (S : ShP) (line : List UInt8) (j : RowJ) : Nat → Nat → List UInt8 → List UInt8 × Int
  | 0, _, pix => (pix, 0)
  | m + 1, x, pix => if (pixS S (sampsL S line x)).2 ≠ 0 then ([], (pixS S (sampsL S line x)).2) else
    pixGo S line j m (x + 1) (setN pix (8 * (j.y * S.w + (j.x + x * j.dx))) (pixS S (sampsL S line x)).1)
/-- The rows of an image, of its packed bytes. -/
def runI (S : ShP) : List RowJ → List UInt8 → List UInt8 → List UInt8 → List UInt8 × Int
  | [], _, _, pix => (pix, 0)
  | j :: js, raw, above, pix =>
    if 4 < (raw.getD 0 0).toNat then ([], 28) else
    if (pixGo S (undoF ((raw.getD 0 0).toNat : Int) (bppN S) ((raw.drop 1).take (rowLen S j.n)) (if j.first = true then [] else above)) j j.n 0 pix).2 ≠ 0 then
      ([], (pixGo S (undoF ((raw.getD 0 0).toNat : Int) (bppN S) ((raw.drop 1).take (rowLen S j.n)) (if j.first = true then [] else above)) j j.n 0 pix).2) else
    runI S js (raw.drop (1 + rowLen S j.n)) (undoF ((raw.getD 0 0).toNat : Int) (bppN S) ((raw.drop 1).take (rowLen S j.n)) (if j.first = true then [] else above))
      (pixGo S (undoF ((raw.getD 0 0).toNat : Int) (bppN S) ((raw.drop 1).take (rowLen S j.n)) (if j.first = true then [] else above)) j j.n 0 pix).1
/-- An image's packed bytes have as many bytes as its rows. -/
def sizeJ (S : ShP) (js : List RowJ) : Nat := (js.map fun j => 1 + rowLen S j.n).sum
/-- The raster of an image's packed bytes. -/
def imgT (S : ShP) (l : List PassL) (raw : List UInt8) : List UInt8 × Int :=
  if raw.length < sizeJ S (jobsL S.w S.h l) then ([], 30) else if sizeJ S (jobsL S.w S.h l) < raw.length then ([], 31) else
  runI S (jobsL S.w S.h l) raw [] (List.replicate (8 * (S.w * S.h)) 0)

/-- The samples of a pixel of the image. -/
def valsV (S : ShP) (v : List Nat) (a b : Nat) : List Nat := (List.range (samplesN S.c)).map fun i => v.getD (samplesN S.c * (b * S.w + a) + i) 0
/-- The samples of a row. -/
def rowV (S : ShP) (v : List Nat) (j : RowJ) : List Nat := (posJ j).flatMap fun p => valsV S v p.1 p.2
def kindP (S : ShP) (kind : Nat → Int) (k : Nat) (line above : List UInt8) : Nat := if kind k < 0 then pickF (bppN S) line above else (kind k).toNat
/-- The packed bytes of rows of samples. -/
def packI (S : ShP) (v : List Nat) (kind : Nat → Int) : List RowJ → Nat → List UInt8 → List UInt8
  | [], _, _ => []
  | j :: js, k, above =>
    UInt8.ofNat (kindP S kind k (packT S.d (rowV S v j)) (if j.first = true then [] else above)) ::
      (doF (kindP S kind k (packT S.d (rowV S v j)) (if j.first = true then [] else above) : Nat) (bppN S) (packT S.d (rowV S v j)) (if j.first = true then [] else above) ++ packI S v kind js (k + 1) (packT S.d (rowV S v j)))
theorem rowV_length (S : ShP) (v : List Nat) (j : RowJ) : (rowV S v j).length = samplesN S.c * j.n := by
  unfold rowV posJ
  have : ∀ l : List (Nat × Nat), (l.flatMap fun p => valsV S v p.1 p.2).length = samplesN S.c * l.length := by
    intro l
    induction l with
    | nil => rfl
    | cons p l ih =>
      rw [List.flatMap_cons, List.length_append, ih, List.length_cons, Nat.mul_add, Nat.mul_one]
      unfold valsV
      rw [List.length_map, List.length_range]
      omega
  rw [this, List.length_map, List.length_range]
theorem pickF_le (bpp : Nat) (line above : List UInt8) : pickF bpp line above ≤ 4 := (pickTo_is (fun k => costF (doF (k : Nat) bpp line above)) 4).1
/-- A sample of a row of samples. -/
theorem rowV_at (S : ShP) (v : List Nat) (j : RowJ) {x i : Nat} (hx : x < j.n) (hi : i < samplesN S.c) : (rowV S v j).getD (samplesN S.c * x + i) 0 = v.getD (samplesN S.c * (j.y * S.w + (j.x + x * j.dx)) + i) 0 := by
  have gen : ∀ (l : List (Nat × Nat)) (x : Nat) (p : Nat × Nat), l[x]? = some p → (l.flatMap fun p => valsV S v p.1 p.2).getD (samplesN S.c * x + i) 0 = (valsV S v p.1 p.2).getD i 0 := by
    intro l
    induction l with
    | nil => intro x p h; simp at h
    | cons q l ih =>
      intro x p h
      have hq : (valsV S v q.1 q.2).length = samplesN S.c := by unfold valsV; rw [List.length_map, List.length_range]
      rw [List.flatMap_cons]
      cases x with
      | zero =>
        have : q = p := by simpa using h
        subst this
        rw [Nat.mul_zero, Nat.zero_add]
        simp only [List.getD_eq_getElem?_getD]
        rw [List.getElem?_append_left (by omega)]
      | succ x =>
        have h' : l[x]? = some p := by simpa using h
        have e := ih x p h'
        simp only [List.getD_eq_getElem?_getD] at e ⊢
        have hm : samplesN S.c * (x + 1) = samplesN S.c * x + samplesN S.c := by rw [Nat.mul_add, Nat.mul_one]
        rw [List.getElem?_append_right (by omega), hq, ← e]
        congr 2
        omega
  unfold rowV
  rw [gen (posJ j) x (j.x + x * j.dx, j.y) (by unfold posJ; rw [List.getElem?_map, List.getElem?_range hx]; rfl)]
  unfold valsV
  simp only [List.getD_eq_getElem?_getD, List.getElem?_map]
  rw [List.getElem?_range hi]
  rfl
end Go.Proofs.YtfiedoejdikcgaaDoor
set_option linter.unusedVariables false
namespace Go.Proofs.YtfiedoejdikcgaaDoor
set_option maxRecDepth 100000
open Go
/-- The shape of a raster's packed bytes. -/
def rgbaS (w h : Nat) : ShP := ⟨w, h, 16, 6, [], [], false⟩
/-- The numbers of two bytes each. -/
def wordsV (pix : List UInt8) : List Nat := (List.range (pix.length / 2)).map fun k => 256 * (pix.getD (2 * k) 0).toNat + (pix.getD (2 * k + 1) 0).toNat
theorem wordsV_at (pix : List UInt8) {k : Nat} (h : k < pix.length / 2) : (wordsV pix).getD k 0 = 256 * (pix.getD (2 * k) 0).toNat + (pix.getD (2 * k + 1) 0).toNat := by
  unfold wordsV
  simp only [List.getD_eq_getElem?_getD, List.getElem?_map]
  rw [List.getElem?_range h]
  rfl
/-- A raster's packed bytes. -/
def rowsT (w h : Nat) (pix : List UInt8) : List UInt8 := packI (rgbaS w h) (wordsV pix) (fun _ => -1) (jobsL w h plainL) 0 []
/-- The line of numbers of two bytes each is these bytes. -/
theorem pack16 {l : List Nat} {row : List UInt8} (hl : row.length = 2 * l.length) (h : ∀ k, k < l.length → l.getD k 0 = 256 * (row.getD (2 * k) 0).toNat + (row.getD (2 * k + 1) 0).toNat) : packT 16 l = row := by
  have hlen : (packT 16 l).length = row.length := by rw [packT_length, hl]; omega
  refine ext_getD hlen fun j hj => ?_
  rw [hlen, hl] at hj
  apply UInt8.toNat_inj.1
  rw [packT_at 16 l (by omega)]
  have hk : j / 2 < l.length := by omega
  have hbits : ∀ b, b < 8 → packBit 16 l (8 * j + b) = bitN (l.getD (j / 2) 0) (15 - (8 * (j % 2) + b)) := fun b hb => by
    unfold packBit
    rw [if_pos (by omega), show (8 * j + b) / 16 = j / 2 by omega, show (8 * j + b) % 16 = 8 * (j % 2) + b by omega]
  rw [valN_congr hbits, h (j / 2) hk]
  have x := (row.getD (2 * (j / 2)) 0).toNat_lt
  have y := (row.getD (2 * (j / 2) + 1) 0).toNat_lt
  have z := (row.getD j 0).toNat_lt
  rcases (show j % 2 = 0 ∨ j % 2 = 1 by omega) with hj2 | hj2
  · have e : ∀ b, b < 8 → bitN (256 * (row.getD (2 * (j / 2)) 0).toNat + (row.getD (2 * (j / 2) + 1) 0).toNat) (15 - (8 * (j % 2) + b)) = bitN (row.getD (2 * (j / 2)) 0).toNat (8 - 1 - b) := fun b hb => by
      rw [hj2]
      unfold bitN
      rw [show 15 - (8 * 0 + b) = 8 + (8 - 1 - b) by omega, Nat.pow_add, ← Nat.div_div_eq_div_mul]
      congr 2
      omega
    rw [valN_congr e, valN_bits, show 2 * (j / 2) = j by omega]
    omega
  · have e : ∀ b, b < 8 → bitN (256 * (row.getD (2 * (j / 2)) 0).toNat + (row.getD (2 * (j / 2) + 1) 0).toNat) (15 - (8 * (j % 2) + b)) = bitN (row.getD (2 * (j / 2) + 1) 0).toNat (8 - 1 - b) := fun b hb => by
      rw [hj2]
      unfold bitN
      rw [show 15 - (8 * 1 + b) = 8 - 1 - b by omega]
      have hs : 256 = 2 ^ (8 - 1 - b) * (2 * 2 ^ b) := by
        rw [← Nat.mul_assoc, Nat.mul_comm (2 ^ (8 - 1 - b)) 2, Nat.mul_assoc, ← Nat.pow_add, show 8 - 1 - b + b = 7 by omega]
      rw [show 256 * (row.getD (2 * (j / 2)) 0).toNat + (row.getD (2 * (j / 2) + 1) 0).toNat = (row.getD (2 * (j / 2) + 1) 0).toNat + 2 ^ (8 - 1 - b) * ((2 * 2 ^ b) * (row.getD (2 * (j / 2)) 0).toNat) by rw [← Nat.mul_assoc, ← hs]; omega]
      rw [Nat.add_mul_div_left _ _ (Nat.two_pow_pos _), Nat.mul_assoc, Nat.add_mul_mod_self_left]
    rw [valN_congr e, valN_bits, show 2 * (j / 2) + 1 = j by omega]
    omega
/-- A row of a raster. -/
theorem rowV_words {w h : Nat} {pix : List UInt8} (hp : pix.length = 8 * (w * h)) {y : Nat} (hy : y < h) (f : Bool) : packT 16 (rowV (rgbaS w h) (wordsV pix) ⟨0, 1, y, w, f⟩) = (pix.drop (8 * (y * w))).take (8 * w) := by
  have hl := rowV_length (rgbaS w h) (wordsV pix) ⟨0, 1, y, w, f⟩
  have hl' : (rowV (rgbaS w h) (wordsV pix) ⟨0, 1, y, w, f⟩).length = 4 * w := hl
  have hyw : y * w + w ≤ w * h := by
    have : (y + 1) * w ≤ h * w := Nat.mul_le_mul_right _ hy
    rw [Nat.add_mul, Nat.one_mul, Nat.mul_comm h] at this
    exact this
  refine pack16 (by rw [hl', List.length_take, List.length_drop, hp]; omega) fun k hk => ?_
  rw [hl'] at hk
  have e := rowV_at (rgbaS w h) (wordsV pix) ⟨0, 1, y, w, f⟩ (x := k / 4) (i := k % 4) (by show k / 4 < w; omega) (by show k % 4 < 4; omega)
  have e' : (rowV (rgbaS w h) (wordsV pix) ⟨0, 1, y, w, f⟩).getD (4 * (k / 4) + k % 4) 0 = (wordsV pix).getD (4 * (y * w + (0 + k / 4 * 1)) + k % 4) 0 := e
  rw [Nat.div_add_mod] at e'
  rw [e', wordsV_at pix (by omega)]
  have g : ∀ i, i < 8 * w → ((pix.drop (8 * (y * w))).take (8 * w)).getD i 0 = pix.getD (8 * (y * w) + i) 0 := fun i hi => by
    rw [getD_take hi]
    simp only [List.getD_eq_getElem?_getD, List.getElem?_drop]
  rw [g _ (by omega), g _ (by omega)]
  rw [show 2 * (4 * (y * w + (0 + k / 4 * 1)) + k % 4) = 8 * (y * w) + 2 * k by omega, Nat.add_assoc]
end Go.Proofs.YtfiedoejdikcgaaDoor
set_option linter.unusedVariables false
namespace Go.Proofs.YtfiedoejdikcgaaDoor
set_option maxRecDepth 100000
open Go
/-- The passes of an image. -/
def passL (w h : Nat) (laced : Bool) : List PassL := (if laced = true then lacedL else plainL).filter (someP w h)
theorem whole_of (laced : Bool) : Whole (if laced = true then lacedL else plainL) := by
  cases laced
  · exact whole_plain
  · exact whole_laced
theorem passL_ok {w h : Nat} {laced : Bool} {p : PassL} (hp : p ∈ passL w h laced) : OkP p ∧ 0 < manyL w p.x p.dx ∧ 0 < manyL h p.y p.dy := by
  unfold passL at hp
  obtain ⟨h1, h2⟩ := List.mem_filter.1 hp
  have := of_decide_eq_true h2
  exact ⟨(whole_of laced).1 p h1, this.1, this.2⟩
theorem place_lt {w h : Nat} {p : PassL} (hp : OkP p) {j n : Nat} (hj : j < manyL h p.y p.dy) (hn : n < manyL w p.x p.dx) : p.x + n * p.dx < w ∧ p.y + j * p.dy < h :=
  ⟨(manyL_lt (by have := hp.1; omega) n).1 hn, (manyL_lt (by have := hp.2; omega) j).1 hj⟩
theorem manyL_le (n first step : Nat) (hs : 1 ≤ step) : manyL n first step ≤ n := by
  refine Nat.le_of_not_lt fun h => ?_
  have := (manyL_lt (first := first) hs n).1 h
  have : n * 1 ≤ n * step := Nat.mul_le_mul_left n hs
  omega
end Go.Proofs.YtfiedoejdikcgaaDoor
namespace Go.Proofs.YtfiedoejdikcgaaDoor
set_option maxRecDepth 100000
open Go
theorem wraps_i64 (n : Int) (h₀ : 0 ≤ n) (h₁ : n < 2 ^ 63) : IntKind.i64.wrap n = n := by rw [IntKind.wrap_i64]; omega
theorem ofInt_i64 (a : Nat) (ha : a < 9223372036854775808) : (BitVec.ofInt 64 (a : Int)).toNat = a := by
  rw [BitVec.ofInt_natCast, BitVec.toNat_ofNat]; exact Nat.mod_eq_of_lt (by omega)
theorem i64_or (a b : Nat) (ha : a < 9223372036854775808) (hb : b < 9223372036854775808) : bits .or .i64 (a : Int) (b : Int) = ((a ||| b : Nat) : Int) := by
  have hx : a ||| b < 2 ^ 63 := Nat.or_lt_two_pow (by omega) (by omega)
  show IntKind.i64.wrap ((BitVec.ofInt 64 (a : Int) ||| BitVec.ofInt 64 (b : Int)).toNat : Int) = _
  rw [BitVec.toNat_or, ofInt_i64 a ha, ofInt_i64 b hb]
  exact wraps_i64 _ (by omega) (by omega)
/-- A mask of n ones keeps the remainder, of whatever number. -/
theorem i64_mask (v : Int) (n : Nat) (hn : n ≤ 62) : bits .and .i64 v (2 ^ n - 1) = v % 2 ^ n := by
  have hp : 2 ^ n ≤ 2 ^ 62 := Nat.pow_le_pow_right (by decide) hn
  have hpos : 0 < 2 ^ n := Nat.two_pow_pos n
  have e : ((2 : Int) ^ n - 1) = ((2 ^ n - 1 : Nat) : Int) := by rw [Int.natCast_sub hpos]; simp
  have g1 : (BitVec.ofInt 64 v).toNat = (v % 18446744073709551616).toNat := by rw [BitVec.toNat_ofInt]; rfl
  have hm : (v % 18446744073709551616).toNat % 2 ^ n < 2 ^ n := Nat.mod_lt _ hpos
  have hd : ((2 : Int) ^ n) ∣ 18446744073709551616 := by
    have h : 2 ^ n ∣ (18446744073709551616 : Nat) := (by decide : (18446744073709551616 : Nat) = 2 ^ 64) ▸ Nat.pow_dvd_pow 2 (by omega)
    have := Int.natCast_dvd_natCast.2 h
    simpa using this
  have hc : (((v % 18446744073709551616).toNat % 2 ^ n : Nat) : Int) = v % 2 ^ n := by
    rw [Int.natCast_emod, Int.toNat_of_nonneg (Int.emod_nonneg _ (by decide))]
    have e2 : ((2 ^ n : Nat) : Int) = (2 : Int) ^ n := by simp
    rw [e2, Int.emod_emod_of_dvd _ hd]
  show IntKind.i64.wrap ((BitVec.ofInt 64 v &&& BitVec.ofInt 64 (2 ^ n - 1)).toNat : Int) = _
  rw [e, BitVec.toNat_and, ofInt_i64 _ (by omega), g1, Nat.and_two_pow_sub_one_eq_mod, ← hc]
  have hlast : (v % 18446744073709551616).toNat % 2 ^ n < 9223372036854775808 := by omega
  exact wraps_i64 _ (by omega) (by omega)
end Go.Proofs.YtfiedoejdikcgaaDoor
set_option linter.unusedVariables false
namespace Go.Proofs.YtfiedoejdikcgaaDoor
set_option maxRecDepth 100000
open Go
/-- A number as four bytes, the highest one first. -/
def fourL (n : Nat) : List UInt8 := [UInt8.ofNat (n / 16777216), UInt8.ofNat (n / 65536), UInt8.ofNat (n / 256), UInt8.ofNat n]
/-- Bytes as a string. -/
def strL (l : List UInt8) : ByteArray := ⟨l.toArray⟩
theorem strL_list (l : List UInt8) : (strL l).data.toList = l := by unfold strL; simp
theorem strL_size (l : List UInt8) : (strL l).size = l.length := by unfold strL; show l.toArray.size = l.length; simp
theorem ext_list (s : ByteArray) (i j : Nat) : s.extract i j = strL ((s.data.toList.take j).drop i) := by
  unfold strL
  apply ByteArray.ext
  rw [ByteArray.data_extract]
  apply Array.ext'
  rw [Array.toList_extract, List.extract_eq_take_drop]
  simp only
  rw [List.drop_take]
end Go.Proofs.YtfiedoejdikcgaaDoor
set_option linter.unusedVariables false
namespace Go.Proofs.YtfiedoejdikcgaaDoor
set_option maxRecDepth 100000
open Go
/-- A chunk: its type, its data. -/
abbrev Ck := List UInt8 × List UInt8
/-- A chunk's bytes. -/
def encC (c : Ck) : List UInt8 := fourL c.2.length ++ (c.1 ++ (c.2 ++ fourL (crcSum (c.1 ++ c.2))))
/-- The bytes of chunks. -/
def encs : List Ck → List UInt8
  | [] => []
  | c :: l => encC c ++ encs l
section one
variable {t d rest : List UInt8}
end one
end Go.Proofs.YtfiedoejdikcgaaDoor
set_option linter.unusedVariables false
namespace Go.Proofs.YtfiedoejdikcgaaDoor
set_option maxRecDepth 100000
open Go
/-- May a head be? -/
def depthOk (d c : Int) : Bool := decide (c = 0 ∧ (d = 1 ∨ d = 2 ∨ d = 4 ∨ d = 8 ∨ d = 16) ∨ c = 3 ∧ (d = 1 ∨ d = 2 ∨ d = 4 ∨ d = 8) ∨ (c = 2 ∨ c = 4 ∨ c = 6) ∧ (d = 8 ∨ d = 16))
def rightH (w h d c lace : Int) : Int :=
  if w < 1 ∨ 2147483647 < w ∨ h < 1 ∨ 2147483647 < h ∨ depthOk d c = false ∨ (lace ≠ 0 ∧ lace ≠ 1) then 24 else
  if 1024 < w ∨ 1024 < h ∨ 4096 < w * h then 5 else 0
/-- What stands of an image while its chunks are gone through. -/
structure HS where
  pal : Bool
  trans : Bool
  idat : Bool
  gap : Bool
  P : List UInt8
  T : List UInt8
  D : List UInt8
end Go.Proofs.YtfiedoejdikcgaaDoor
