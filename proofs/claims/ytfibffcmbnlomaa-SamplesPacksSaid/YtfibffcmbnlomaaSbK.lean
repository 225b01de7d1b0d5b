/- The program's samples of a row. -/
import Derived.Test.YtfibffcmbnlomaaSbJ
import Derived.Test.YtfibffcmbnlomaaSbD
import Derived.BigQuiet
set_option maxRecDepth 100000
set_option linter.unusedVariables false
namespace Go.Proofs.Ytfibffcmbnlomaa
set_option maxRecDepth 100000
open Go Go.RowKit
theorem valN_mid (v : Nat) : ∀ n m, valN (fun b => bitN v (m + n - 1 - b)) n = v / 2 ^ m % 2 ^ n := by
  intro n
  induction n with
  | zero => intro m; rw [Nat.pow_zero, Nat.mod_one]; rfl
  | succ n ih =>
    intro m
    have h := ih (m + 1)
    show 2 * valN (fun b => bitN v (m + (n + 1) - 1 - b)) n + bitN v (m + (n + 1) - 1 - n) = _
    rw [valN_congr (g := fun b => bitN v (m + 1 + n - 1 - b)) (fun b _ => by show bitN v (m + (n + 1) - 1 - b) = bitN v (m + 1 + n - 1 - b); rw [show m + (n + 1) - 1 - b = m + 1 + n - 1 - b by omega]), h]
    unfold bitN
    rw [show m + (n + 1) - 1 - n = m by omega, Nat.pow_succ 2 m, ← Nat.div_div_eq_div_mul, Nat.pow_succ 2 n, Nat.mul_comm (2 ^ n) 2, Nat.mod_mul]
    omega
theorem valN_add (f : Nat → Nat) (m : Nat) : ∀ n, valN f (m + n) = valN f m * 2 ^ n + valN (fun b => f (m + b)) n := by
  intro n
  induction n with
  | zero => show valN f m = _; rw [Nat.pow_zero, Nat.mul_one]; rfl
  | succ n ih =>
    show 2 * valN f (m + n) + f (m + n) = _ + (2 * valN (fun b => f (m + b)) n + f (m + n))
    rw [ih, Nat.pow_succ, ← Nat.mul_assoc, Nat.mul_add]
    generalize valN f m * 2 ^ n = p
    omega
/-- A sample that lies in one byte. -/
theorem sample_in {row : List UInt8} {D i : Nat} (hD : D = 1 ∨ D = 2 ∨ D = 4 ∨ D = 8) : sampleN row D i = (row.getD (i * D / 8) 0).toNat / 2 ^ (8 - D - i * D % 8) % 2 ^ D ∧ i * D % 8 + D ≤ 8 := by
  have hr : i * D % 8 + D ≤ 8 := by rcases hD with rfl | rfl | rfl | rfl <;> omega
  refine ⟨?_, hr⟩
  unfold sampleN
  rw [← valN_mid]
  refine valN_congr fun b hb => ?_
  unfold rowBit
  rw [show (i * D + b) / 8 = i * D / 8 by omega, show (i * D + b) % 8 = i * D % 8 + b by omega, show 7 - (i * D % 8 + b) = 8 - D - i * D % 8 + D - 1 - b by omega]
/-- A sample of two bytes. -/
theorem sample_two (row : List UInt8) (i : Nat) : sampleN row 16 i = 256 * (row.getD (2 * i) 0).toNat + (row.getD (2 * i + 1) 0).toNat := by
  have hb : ∀ j, valN (fun b => rowBit row (8 * j + b)) 8 = (row.getD j 0).toNat := fun j => by
    have h : valN (fun b => rowBit row (8 * j + b)) 8 = valN (fun b => bitN (row.getD j 0).toNat (0 + 8 - 1 - b)) 8 := valN_congr fun b hb => by
      unfold rowBit
      rw [show (8 * j + b) / 8 = j by omega, show (8 * j + b) % 8 = b by omega, show 7 - b = 0 + 8 - 1 - b by omega]
    have hx := (row.getD j 0).toNat_lt
    rw [h, valN_mid, Nat.pow_zero, Nat.div_one, Nat.mod_eq_of_lt (by omega)]
  unfold sampleN
  rw [show (16 : Nat) = 8 + 8 from rfl, valN_add]
  have e1 : valN (fun b => rowBit row (i * (8 + 8) + b)) 8 = (row.getD (2 * i) 0).toNat := by
    rw [← hb (2 * i)]
    exact valN_congr fun b _ => by show rowBit row (i * (8 + 8) + b) = rowBit row (8 * (2 * i) + b); rw [show i * (8 + 8) + b = 8 * (2 * i) + b by omega]
  have e2 : valN (fun b => rowBit row (i * (8 + 8) + (8 + b))) 8 = (row.getD (2 * i + 1) 0).toNat := by
    rw [← hb (2 * i + 1)]
    exact valN_congr fun b _ => by show rowBit row (i * (8 + 8) + (8 + b)) = rowBit row (8 * (2 * i + 1) + b); rw [show i * (8 + 8) + (8 + b) = 8 * (2 * i + 1) + b by omega]
  rw [e1, e2]
  omega
theorem or_two {x y : Nat} (hx : x < 256) (hy : y < 256) : bits .or .i64 ((256 * x : Nat) : Int) (y : Int) = ((256 * x + y : Nat) : Int) := by
  rw [i64_or _ _ (by omega) (by omega)]
  have := Nat.two_pow_add_eq_or_of_lt (i := 8) (b := y) (by omega) x
  rw [show (2 : Nat) ^ 8 = 256 from rfl] at this
  rw [this]
set_option maxHeartbeats 1000000 in
theorem psampleAt_two (w : World) {s : ByteArray} {i : Nat} (hi : 2 * i + 1 < s.size) (hs : s.size ≤ 140737488351232) :
    Calls Try.prog 22 #[.string s, .int .i64 16, .int .i64 i] w fun e w' => e = .returned (.int .i64 (sampleN s.data.toList 16 i : Nat)) ∧ But [] w w' := by
  obtain ⟨i2, hi2⟩ : ∃ z, z = 2 * i := ⟨_, rfl⟩
  have e1 : (2 : Int) * (i : Int) = (i2 : Int) := by omega
  obtain ⟨i3, hi3⟩ : ∃ z, z = i2 + 1 := ⟨_, rfl⟩
  have e1b : (i2 : Int) + 1 = (i3 : Int) := by omega
  have hl1 : i2 < s.size := by omega
  have hl2 : i3 < s.size := by omega
  obtain ⟨x1, hx1⟩ : ∃ z, z = s[i2].toNat := ⟨_, rfl⟩
  obtain ⟨x2, hx2⟩ : ∃ z, z = s[i3].toNat := ⟨_, rfl⟩
  have x1b : x1 < 256 := by rw [hx1]; exact s[i2].toNat_lt
  have x2b : x2 < 256 := by rw [hx2]; exact s[i3].toNat_lt
  have kx1 : ∀ w, (Instr.index 9 (.string s) (.int .i64 (i2 : Int))).run Try.prog w = .ok (.int .u8 (x1 : Int)) w := fun w => by rw [hx1]; exact byteR_run hl1 w
  have kx2 : ∀ w, (Instr.index 9 (.string s) (.int .i64 (i3 : Int))).run Try.prog w = .ok (.int .u8 (x2 : Int)) w := fun w => by rw [hx2]; exact byteR_run hl2 w
  obtain ⟨m1, hm1⟩ : ∃ z, z = 256 * x1 := ⟨_, rfl⟩
  obtain ⟨m, hm⟩ : ∃ z, z = 256 * x1 + x2 := ⟨_, rfl⟩
  have e2 : (x1 : Int) * 256 = (m1 : Int) := by omega
  have e2b : (x1 : Int) * 2 ^ 8 = (m1 : Int) := by omega
  have e3 : bits .or .i64 (m1 : Int) (x2 : Int) = (m : Int) := by rw [hm1, hm]; exact or_two x1b x2b
  have HR : Hid (sampleN s.data.toList 16 i = m) := Lib.hid (by
    rw [sample_two, ← hi2, ← hi3, getD_byte s hl1, getD_byte s hl2, ← hx1, ← hx2, hm])
  rw [HR.out]
  have HB := Lib.hid (But.refl [] w)
  have t1 := wrapI_in (show i2 < 1000000000000000 by omega)
  have t2 := wrapI_in (show i3 < 1000000000000000 by omega)
  have t3 := wrapI_in (show x1 < 1000000000000000 by omega)
  have t4 := wrapI_in (show x2 < 1000000000000000 by omega)
  have t5 := wrapI_in (show m1 < 1000000000000000 by omega)
  clear hi hi2 hi3 hx1 hx2 hm1 hm
  go_enter Try.func22, Try.ntmps22
  go_upto_region 2 with (fail)
  go_quiet (fail)
  go_wp2
  go_ret
  exact ⟨rfl, HB.out.drewN _⟩
set_option maxHeartbeats 1000000 in
theorem psampleAt_in (w : World) {s : ByteArray} {D i : Nat} (hD : D = 1 ∨ D = 2 ∨ D = 4 ∨ D = 8) (hi : (i + 1) * D ≤ 8 * s.size) (hs : s.size ≤ 140737488351232) :
    Calls Try.prog 22 #[.string s, .int .i64 D, .int .i64 i] w fun e w' => e = .returned (.int .i64 (sampleN s.data.toList D i : Nat)) ∧ But [] w w' := by
  obtain ⟨hsm, hr⟩ := sample_in (row := s.data.toList) (i := i) hD
  have hD8 : D ≤ 8 := by omega
  have hD1 : 1 ≤ D := by omega
  obtain ⟨t, ht⟩ : ∃ t, t = i * D := ⟨_, rfl⟩
  have e0 : (i : Int) * (D : Int) = (t : Int) := by rw [ht, Int.natCast_mul]
  have hit : t + D ≤ 8 * s.size := by rw [ht]; rw [Nat.succ_mul] at hi; exact hi
  rw [← ht] at hsm hr
  obtain ⟨q, hq⟩ : ∃ z, z = t / 8 := ⟨_, rfl⟩
  obtain ⟨r, hr2⟩ : ∃ z, z = t % 8 := ⟨_, rfl⟩
  obtain ⟨sh, hsh⟩ : ∃ z, z = 8 - D - r := ⟨_, rfl⟩
  obtain ⟨d8, hd8⟩ : ∃ z, z = 8 - D := ⟨_, rfl⟩
  have hql : q < s.size := by omega
  obtain ⟨x, hx⟩ : ∃ z, z = s[q].toNat := ⟨_, rfl⟩
  have x1b : x < 256 := by rw [hx]; exact s[q].toNat_lt
  have kx : ∀ w, (Instr.index 9 (.string s) (.int .i64 (q : Int))).run Try.prog w = .ok (.int .u8 (x : Int)) w := fun w => by rw [hx]; exact byteR_run hql w
  obtain ⟨y, hy⟩ : ∃ z, z = x / 2 ^ sh := ⟨_, rfl⟩
  have hyl : y ≤ x := by rw [hy]; exact Nat.div_le_self _ _
  obtain ⟨v, hv⟩ : ∃ z, z = y % 2 ^ D := ⟨_, rfl⟩
  have HR : Hid (sampleN s.data.toList D i = v) := Lib.hid (by rw [hsm, ← hq, ← hr2, ← hsh, getD_byte s hql, ← hx, ← hy, hv])
  have HL : Hid (∀ W, Calls Try.prog 24 #[.int .i64 (y : Nat), .int .i64 D] W fun e w' => e = .returned (.int .i64 (v : Nat)) ∧ W = w') := Lib.hid fun W => by
    have h := plow_any W (y : Int) (D := D) (by omega)
    rw [show ((y : Int) % 2 ^ D) = (v : Int) by rw [hv]; simp] at h
    exact h
  rw [HR.out]
  have f1 : (t : Int).tdiv 8 = (q : Int) := by rw [Int.tdiv_eq_ediv_of_nonneg (by omega)]; omega
  have f2 : (t : Int) / 8 = (q : Int) := by omega
  have f3 : (t : Int).tmod 8 = (r : Int) := by rw [Int.tmod_eq_emod_of_nonneg (by omega)]; omega
  have f4 : (t : Int) % 8 = (r : Int) := by omega
  have f5 : (8 : Int) - (D : Int) = (d8 : Int) := by omega
  have f6 : (d8 : Int) - (r : Int) = (sh : Int) := by omega
  have f7 : (x : Int) / 2 ^ sh = (y : Int) := by rw [hy]; simp
  have t1 : IntKind.i64.wrap (t : Int) = (t : Int) := by rw [IntKind.wrap_i64]; omega
  have t2 := wrapI_in (show q < 1000000000000000 by omega)
  have t3 := wrapI_in (show r < 1000000000000000 by omega)
  have t4 := wrapI_in (show d8 < 1000000000000000 by omega)
  have t5 := wrapI_in (show sh < 1000000000000000 by omega)
  have t6 := wrapI_in (show x < 1000000000000000 by omega)
  have n16 : ((D : Int) == 16) = false := by simp; omega
  have n16b : ¬ (D : Int) = 16 := by omega
  have n16c : ¬ D = 16 := by omega
  have hs2 : sh ≤ 7 := by omega
  clear hsm ht hi hD hq hr2 hsh hd8 hx hy hv hr hit
  go_enter Try.func22, Try.ntmps22
  go_wp2_with fail
  refine (HL.out _).mono ?_
  rintro e w1 ⟨rfl, rfl⟩
  go_wp2
  go_ret
  exact ⟨rfl, But.refl [] _⟩
theorem psampleAt_any (w : World) {s : ByteArray} {D i : Nat} (hD : isDepth D) (hi : (i + 1) * D ≤ 8 * s.size) (hs : s.size ≤ 140737488351232) :
    Calls Try.prog 22 #[.string s, .int .i64 D, .int .i64 i] w fun e w' => e = .returned (.int .i64 (sampleN s.data.toList D i : Nat)) ∧ But [] w w' := by
  by_cases h : D = 16
  · subst h
    exact psampleAt_two w (by omega) hs
  · exact psampleAt_in w (by unfold isDepth at hD; omega) hi hs
/-- A row of numbers, as many as there are to be, the last ones still 0. -/
def rowZ (L : List Nat) (n : Nat) : Array Value := (nCells (L ++ List.replicate (n - L.length) 0)).toArray
theorem rowZ_put {L : List Nat} {n : Nat} (x : Nat) (h : L.length < n) : (rowZ L n).setIfInBounds L.length (.int .i64 (x : Nat)) = rowZ (L ++ [x]) n := by
  obtain ⟨k, hk⟩ : ∃ k, n - L.length = k + 1 := ⟨n - L.length - 1, by omega⟩
  unfold rowZ
  rw [hk, List.replicate_succ, List.length_append, show n - (L.length + [x].length) = k by simp; omega, nCells_append, nCells_append, nCells_append]
  apply Array.ext'
  simp [nCells]
theorem rowZ_at {L : List Nat} {i : Nat} (h : i < L.length) (n : Nat) : (rowZ L n)[i]? = some (.int .i64 (L[i] : Nat)) := by
  unfold rowZ nCells
  rw [List.getElem?_toArray, List.map_append, List.getElem?_append_left (by rw [List.length_map]; exact h), List.getElem?_map, List.getElem?_eq_getElem h]
  rfl
theorem rowZ_size {L : List Nat} {n : Nat} (h : L.length ≤ n) : (rowZ L n).size = n := by
  unfold rowZ nCells
  simp
  omega
theorem rowZ_some {L : List Nat} {n i : Nat} (h : L.length ≤ n) (hi : i < n) : ∃ v, (rowZ L n)[i]? = some v := ⟨_, Array.getElem?_eq_getElem (by rw [rowZ_size h]; exact hi)⟩
theorem Nums.row {w : World} {g : Nat} {L : List Nat} (h : Is w g 3 (rowZ L L.length)) : Nums w (some ⟨g, 0, none⟩) L.length L :=
  ⟨rfl, fun _ => ⟨g, 0, rfl, h.lt, fun i hi => by rw [h.cell, Nat.zero_add]; exact rowZ_at hi _⟩⟩
/-- Numbers 0, laid anew. -/
def zeroZ (w : World) (n : Nat) : World := w.alloc (.cells (rowZ [] n) 3)
theorem run_zeroZ (w : World) {n : Nat} (hn : n ≤ 4096) : (Instr.makeSlice 22 (.int .i64 (n : Int)) (.int .i64 (n : Int))).run Try.prog w = .ok (.slice (some ⟨w.heap.size, 0, none⟩) n n) (zeroZ w n) := by
  obtain ⟨i0, hi0, hz0, hz1, hz2⟩ := info_parts info_intN
  have h := run_make (P := Try.prog) w 22 3 i0 (.int .i64 0) Try.underlying22 hi0 hz0 .i64 .i64 (n : Int) (n : Int) (by omega) (by omega) (by rw [hz2]; omega) (by omega)
  rw [hz1] at h
  have e : madeCells (Value.int .i64 0).cells n = rowZ [] n := by
    have e : (Value.int .i64 0).cells = #[.int .i64 0] := rfl
    unfold madeCells rowZ nCells
    rw [e]
    apply Array.ext'
    simp [Nat.mod_one]
    exact List.eq_replicate_iff.2 ⟨by simp, by simp⟩
  unfold zeroZ
  rw [← e]
  simpa using h
end Go.Proofs.Ytfibffcmbnlomaa
