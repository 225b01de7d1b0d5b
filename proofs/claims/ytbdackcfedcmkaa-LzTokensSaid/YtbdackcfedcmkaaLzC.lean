/- The tokens of bytes: the program's function and the document's. -/
import Derived.Test.YtbdackcfedcmkaaLzA
set_option maxRecDepth 100000
set_option linter.unusedVariables false
namespace Go.Proofs.Ytbdackcfedcmkaa
set_option maxRecDepth 100000
open Go Go.RowKit

/-- The bytes of a string as LzM reads them. -/
theorem byte_at (s : ByteArray) {i : Nat} (h : i < s.size) : s.data.toList.getD i 0 = s[i] := by
  rw [List.getD_eq_getElem?_getD, Array.getElem?_toList, Array.getElem?_eq_getElem (by simpa using h)]; rfl
theorem len_data (s : ByteArray) : s.data.toList.length = s.size := by simp
theorem runG_end (l : List UInt8) (i d f n : Nat) (h : l.length ≤ i + n) : runG l i d f n = n := by
  cases f with
  | zero => rfl
  | succ f => rw [runG, if_neg (by omega)]
theorem u8_ne {x y : UInt8} (h : ¬ x = y) : ¬ (x.toNat : Int) = (y.toNat : Int) := fun e => h (UInt8.toNat_inj.1 (by omega))
/-- Two texts that lie in one, one d ahead of the other. -/
structure Cuts (s a b : ByteArray) (at' d m : Nat) : Prop where
  la : a.size = s.size - (at' - d)
  lb : b.size = m
  ga : ∀ i (h : i < a.size), s.data.toList.getD (at' + i - d) 0 = a[i]
  gb : ∀ i (h : i < b.size), s.data.toList.getD (at' + i) 0 = b[i]
theorem common_any (w : World) {s a b : ByteArray} {at' d m : Nat} (hc : Cuts s a b at' d m) (hd : 1 ≤ d) (hda : d ≤ at') (hat : at' < s.size) (hm : m = min 258 (s.size - at')) (hs : s.size ≤ 1000000) :
    Calls Try.prog 18 #[.string a, .string b] w fun e w' => e = .returned (.int .i64 (runLen s.data.toList at' d)) ∧ ∃ n, w' = w.drewN n := by
  obtain ⟨la, lb, ga, gb⟩ := hc
  have GA := Lib.hid ga
  have GB := Lib.hid gb
  have HM := Lib.hid hm
  have hl := len_data s
  have HL := Lib.hid hl
  clear ga gb hl
  have hml : m ≤ 258 := by omega
  have hma : m ≤ a.size := by omega
  have hmm : m ≤ s.size - at' := by omega
  have LA := Lib.hid la
  have LB := Lib.hid lb
  clear hm la
  go_enter Try.func18, Try.ntmps18
  go_wp2
  go_loopw [5, 8] (fun _ iv wr => ∃ (i : Nat) (n : Nat), i ≤ m ∧ iv = .int .i64 i ∧ runG s.data.toList at' d (258 - i) i = runLen s.data.toList at' d ∧ wr = w.drewN n) (fun _ iv _ => m - (intOf iv).toNat)
  case atStart => exact ⟨0, 0, Nat.zero_le _, rfl, rfl, rfl⟩
  case round =>
    obtain ⟨i, n, hi, rfl, hr, rfl⟩ := hrel
    have HR := Lib.hid hr
    clear hr
    by_cases hlt : i < m
    · have h1 : i < a.size := by omega
      have h2 : i < b.size := by omega
      have HX := Lib.hid (GA.out i h1)
      have HY := Lib.hid (GB.out i h2)
      by_cases he : a[i] = b[i]
      · have HN := Lib.hid (show runG s.data.toList at' d (258 - (i + 1)) (i + 1) = runLen s.data.toList at' d by
          rw [← HR.out, show 258 - i = 258 - (i + 1) + 1 from by omega, runG, if_pos ⟨by rw [HL.out]; omega, by rw [HX.out, HY.out]; exact he.symm⟩])
        have hn2 : ((a[i].toNat : Int) != (b[i].toNat : Int)) = false := by rw [he]; simp
        clear he
        go_wp2
        go_quiet (fail)
        go_wp2
        go_roundw
        case rel => exact ⟨i + 1, n + nq, by omega, by go_num, HN.out, rfl⟩
        case measure => simp [intOf]; omega
      · have HN := Lib.hid (show runLen s.data.toList at' d = i by
          rw [← HR.out, show 258 - i = 258 - (i + 1) + 1 from by omega, runG, if_neg (by rw [HX.out, HY.out]; intro h; exact he h.2.symm)])
        have hne := u8_ne he
        have hn2 : ((a[i].toNat : Int) != (b[i].toNat : Int)) = true := by simpa using hne
        clear he hne
        go_wp2
        go_quiet (fail)
        go_wp2
        go_ret
        exact ⟨by rw [HN.out]; rfl, (by first | exact ⟨n + nq, (w.drewN_drewN n nq)⟩ | exact ⟨n, rfl⟩)⟩
    · obtain rfl : i = m := by omega
      have HN := Lib.hid (show runLen s.data.toList at' d = i by
        rw [← HR.out]
        by_cases h : i = 258
        · subst h; rfl
        · exact runG_end _ _ _ _ _ (by rw [HL.out]; have := HM.out; omega))
      go_wp2
      go_ret
      exact ⟨by rw [HN.out]; rfl, _, rfl⟩
/-- The program's best so far: nothing below three counts. -/
def bst (l : List UInt8) (i D : Nat) : Nat × Nat := if 3 ≤ (bestG l i D).1 then bestG l i D else (2, 0)
section
variable {l : List UInt8} {i D : Nat}
theorem bst_two : 2 ≤ (bst l i D).1 := by
  unfold bst; split
  · omega
  · exact Nat.le_refl 2
theorem bst_skip (h : runLen l i (D + 1) ≤ (bst l i D).1) : bst l i (D + 1) = bst l i D := by
  unfold bst at *
  rw [bestG]
  by_cases h1 : 3 ≤ (bestG l i D).1
  · rw [if_pos h1] at h ⊢
    rw [if_neg (show ¬ (bestG l i D).1 < runLen l i (D + 1) by omega), if_pos h1]
  · rw [if_neg h1] at h ⊢
    dsimp only at h
    by_cases h2 : (bestG l i D).1 < runLen l i (D + 1)
    · rw [if_pos h2, if_neg (by dsimp only; omega)]
    · rw [if_neg h2, if_neg h1]
theorem bst_take (h : (bst l i D).1 < runLen l i (D + 1)) : bst l i (D + 1) = (runLen l i (D + 1), D + 1) := by
  unfold bst at *
  rw [bestG]
  by_cases h1 : 3 ≤ (bestG l i D).1
  · rw [if_pos h1] at h
    rw [if_pos h, if_pos (by dsimp only; omega)]
  · rw [if_neg h1] at h
    dsimp only at h
    rw [if_pos (show (bestG l i D).1 < runLen l i (D + 1) by omega), if_pos (by dsimp only; omega)]
theorem run_most (d : Nat) (hi : i ≤ l.length) : runLen l i d ≤ min 258 (l.length - i) := by
  have h1 := runLen_le l i d
  have h2 := runG_in l i d 258 0 (by omega)
  unfold runLen at *; omega
theorem best_in (hi : i ≤ l.length) : (bestG l i D).1 ≤ min 258 (l.length - i) := by
  rcases bestG_is l i D with h | ⟨_, _, h, _⟩
  · rw [h]; exact Nat.zero_le _
  · rw [h]; exact run_most _ hi
theorem bst_full (hi : i ≤ l.length) (h : min 258 (l.length - i) ≤ (bst l i D).1) : ∀ k, bst l i (D + k) = bst l i D
  | 0 => rfl
  | k + 1 => by
    have e := bst_full hi h k
    rw [← Nat.add_assoc, bst_skip (by rw [e]; exact Nat.le_trans (run_most _ hi) h), e]
theorem bst_bounds (hi : i ≤ l.length) : (bst l i D).1 ≤ 258 ∧ (bst l i D).2 ≤ D := by
  unfold bst
  split
  · have h1 := best_in (D := D) hi
    refine ⟨by omega, ?_⟩
    rcases bestG_is l i D with h | ⟨_, h, _, _⟩
    · rw [h]; exact Nat.zero_le _
    · exact h
  · exact ⟨by dsimp only; omega, Nat.zero_le _⟩
end
/-- What the program's function tells of a position. -/
def lgAt (l : List UInt8) (i : Nat) : T3 := if 3 ≤ (bestAt l i).1 then ((bestAt l i).1, (bestAt l i).2, 0) else (0, 0, 0)
theorem lgAt_of {l : List UInt8} {i : Nat} : lgAt l i = if (bst l i (min 512 i)).2 = 0 then (0, 0, 0) else (((bst l i (min 512 i)).1 : Int), ((bst l i (min 512 i)).2 : Int), 0) := by
  unfold lgAt bestAt bst
  by_cases h : 3 ≤ (bestG l i (min 512 i)).1
  · have h2 : ¬ (bestG l i (min 512 i)).2 = 0 := by
      rcases bestG_is l i (min 512 i) with e | ⟨e, _⟩
      · rw [e] at h; simp at h
      · omega
    rw [if_pos h, if_pos h, if_neg h2]
  · rw [if_neg h, if_neg h, if_pos rfl]
theorem cuts_of (s : ByteArray) {i d m : Nat} (hd : d ≤ i) (hm : i + m ≤ s.size) : Cuts s (s.extract (i - d) s.size) (s.extract i (i + m)) i d m := by
  refine ⟨by rw [ByteArray.size_extract]; omega, by rw [ByteArray.size_extract]; omega, fun j h => ?_, fun j h => ?_⟩
  · rw [ByteArray.size_extract] at h
    rw [byte_at s (by omega), ByteArray.getElem_extract]
    congr 1; omega
  · rw [ByteArray.size_extract] at h
    rw [byte_at s (by omega), ByteArray.getElem_extract]
end Go.Proofs.Ytbdackcfedcmkaa
