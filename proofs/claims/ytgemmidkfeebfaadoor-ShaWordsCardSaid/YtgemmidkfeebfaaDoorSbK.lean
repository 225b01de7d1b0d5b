/- The program's samples of a row. -/
import Derived.Test.YtgemmidkfeebfaaDoorWB
import Derived.Test.YtgemmidkfeebfaaDoorSbD
import Derived.BigQuiet
set_option maxRecDepth 100000
set_option linter.unusedVariables false
namespace Go.Proofs.YtgemmidkfeebfaaDoor
set_option maxRecDepth 100000
open Go Go.RowKit
theorem valN_mid (v : Nat) : ∀ n m, valN (fun b => bitN v (m + n - 1 - b)) n = v / 2 ^ m % 2 ^ n := by
  intro n
  induction n with
  | zero => intro m; rw [Nat.pow_zero, Nat.mod_one]; rfl
  | succ n ih =>
    intro m
    have h := ih (m + 1)
    show 2 * valN (fun b => bitN v (m + (n + 1) - 1 - b)) n + bitN v (m + (n + 1) - 1 - n) = _
    rw [valN_congr (g := fun b => bitN v (m + 1 + n - 1 - b)) (fun b _ => by show bitN v (m + (n + 1) - 1 - b) = bitN v (m + 1 + n - 1 - b); rw [show m + (n + 1) - 1 - b = m + 1 + n - 1 - b by omega]), h]
    unfold bitN
    rw [show m + (n + 1) - 1 - n = m by omega, Nat.pow_succ 2 m, ← Nat.div_div_eq_div_mul, Nat.pow_succ 2 n, Nat.mul_comm (2 ^ n) 2, Nat.mod_mul]
    omega
theorem valN_add (f : Nat → Nat) (m : Nat) : ∀ n, valN f (m + n) = valN f m * 2 ^ n + valN (fun b => f (m + b)) n := by
  intro n
  induction n with
  | zero => show valN f m = _; rw [Nat.pow_zero, Nat.mul_one]; rfl
  | succ n ih =>
    show 2 * valN f (m + n) + f (m + n) = _ + (2 * valN (fun b => f (m + b)) n + f (m + n))
    rw [ih, Nat.pow_succ, ← Nat.mul_assoc, Nat.mul_add]
    generalize valN f m * 2 ^ n = p
    omega
/-- A sample that lies in one byte. -/
theorem sample_in {row : List UInt8} {D i : Nat} (hD : D = 1 ∨ D = 2 ∨ D = 4 ∨ D = 8) : sampleN row D i = (row.getD (i * D / 8) 0).toNat / 2 ^ (8 - D - i * D % 8) % 2 ^ D ∧ i * D % 8 + D ≤ 8 := by
  have hr : i * D % 8 + D ≤ 8 := by rcases hD with rfl | rfl | rfl | rfl <;> omega
  refine ⟨?_, hr⟩
  unfold sampleN
  rw [← valN_mid]
  refine valN_congr fun b hb => ?_
  unfold rowBit
  rw [show (i * D + b) / 8 = i * D / 8 by omega, show (i * D + b) % 8 = i * D % 8 + b by omega, show 7 - (i * D % 8 + b) = 8 - D - i * D % 8 + D - 1 - b by omega]
/-- A sample of two bytes. -/
theorem sample_two (row : List UInt8) (i : Nat) : sampleN row 16 i = 256 * (row.getD (2 * i) 0).toNat + (row.getD (2 * i + 1) 0).toNat := by
  have hb : ∀ j, valN (fun b => rowBit row (8 * j + b)) 8 = (row.getD j 0).toNat := fun j => by
    have h : valN (fun b => rowBit row (8 * j + b)) 8 = valN (fun b => bitN (row.getD j 0).toNat (0 + 8 - 1 - b)) 8 := valN_congr fun b hb => by
      unfold rowBit
      rw [show (8 * j + b) / 8 = j by omega, show (8 * j + b) % 8 = b by omega, show 7 - b = 0 + 8 - 1 - b by omega]
    have hx := (row.getD j 0).toNat_lt
    rw [h, valN_mid, Nat.pow_zero, Nat.div_one, Nat.mod_eq_of_lt (by omega)]
  unfold sampleN
  rw [show (16 : Nat) = 8 + 8 from rfl, valN_add]
  have e1 : valN (fun b => rowBit row (i * (8 + 8) + b)) 8 = (row.getD (2 * i) 0).toNat := by
    rw [← hb (2 * i)]
    exact valN_congr fun b _ => by show rowBit row (i * (8 + 8) + b) = rowBit row (8 * (2 * i) + b); rw [show i * (8 + 8) + b = 8 * (2 * i) + b by omega]
  have e2 : valN (fun b => rowBit row (i * (8 + 8) + (8 + b))) 8 = (row.getD (2 * i + 1) 0).toNat := by
    rw [← hb (2 * i + 1)]
    exact valN_congr fun b _ => by show rowBit row (i * (8 + 8) + (8 + b)) = rowBit row (8 * (2 * i + 1) + b); rw [show i * (8 + 8) + (8 + b) = 8 * (2 * i + 1) + b by omega]
  rw [e1, e2]
  omega
theorem or_two {x y : Nat} (hx : x < 256) (hy : y < 256) : bits .or .i64 ((256 * x : Nat) : Int) (y : Int) = ((256 * x + y : Nat) : Int) := by
  rw [i64_or _ _ (by omega) (by omega)]
  have := Nat.two_pow_add_eq_or_of_lt (i := 8) (b := y) (by omega) x
  rw [show (2 : Nat) ^ 8 = 256 from rfl] at this
  rw [this]
/-- A row of numbers, as many as there are to be, the last ones still 0. -/
def rowZ (L : List Nat) (n : Nat) : Array Value := (nCells (L ++ List.replicate (n - L.length) 0)).toArray
theorem rowZ_put {L : List Nat} {n : Nat} (x : Nat) (h : L.length < n) : (rowZ L n).setIfInBounds L.length (.int .i64 (x : Nat)) = rowZ (L ++ [x]) n := by
  obtain ⟨k, hk⟩ : ∃ k, n - L.length = k + 1 := ⟨n - L.length - 1, by omega⟩
  unfold rowZ
  rw [hk, List.replicate_succ, List.length_append, show n - (L.length + [x].length) = k by simp; omega, nCells_append, nCells_append, nCells_append]
  apply Array.ext'
  simp [nCells]
theorem rowZ_at {L : List Nat} {i : Nat} (h : i < L.length) (n : Nat) : (rowZ L n)[i]? = some (.int .i64 (L[i] : Nat)) := by
  unfold rowZ nCells
  rw [List.getElem?_toArray, List.map_append, List.getElem?_append_left (by rw [List.length_map]; exact h), List.getElem?_map, List.getElem?_eq_getElem h]
  rfl
theorem rowZ_size {L : List Nat} {n : Nat} (h : L.length ≤ n) : (rowZ L n).size = n := by
  unfold rowZ nCells
  simp
  omega
theorem rowZ_some {L : List Nat} {n i : Nat} (h : L.length ≤ n) (hi : i < n) : ∃ v, (rowZ L n)[i]? = some v := ⟨_, Array.getElem?_eq_getElem (by rw [rowZ_size h]; exact hi)⟩
theorem Nums.row {w : World} {g : Nat} {L : List Nat} (h : Is w g 3 (rowZ L L.length)) : Nums w (some ⟨g, 0, none⟩) L.length L :=
  ⟨rfl, fun _ => ⟨g, 0, rfl, h.lt, fun i hi => by rw [h.cell, Nat.zero_add]; exact rowZ_at hi _⟩⟩
/-- Numbers 0, laid anew. -/
def zeroZ (w : World) (n : Nat) : World := w.alloc (.cells (rowZ [] n) 3)
theorem run_zeroZ (w : World) {n : Nat} (hn : n ≤ 4096) : (Instr.makeSlice 34 (.int .i64 (n : Int)) (.int .i64 (n : Int))).run Tryd.prog w = .ok (.slice (some ⟨w.heap.size, 0, none⟩) n n) (zeroZ w n) := by
  obtain ⟨i0, hi0, hz0, hz1, hz2⟩ := info_parts info_intN
  have h := run_make (P := Tryd.prog) w 34 3 i0 (.int .i64 0) Tryd.underlying34 hi0 hz0 .i64 .i64 (n : Int) (n : Int) (by omega) (by omega) (by rw [hz2]; omega) (by omega)
  rw [hz1] at h
  have e : madeCells (Value.int .i64 0).cells n = rowZ [] n := by
    have e : (Value.int .i64 0).cells = #[.int .i64 0] := rfl
    unfold madeCells rowZ nCells
    rw [e]
    apply Array.ext'
    simp [Nat.mod_one]
    exact List.eq_replicate_iff.2 ⟨by simp, by simp⟩
  unfold zeroZ
  rw [← e]
  simpa using h
end Go.Proofs.YtgemmidkfeebfaaDoor
