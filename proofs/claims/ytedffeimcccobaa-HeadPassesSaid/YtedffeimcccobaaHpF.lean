/- What the program's file lacks, and which palettes and transparencies fit. -/
import Derived.Test.YtedffeimcccobaaHpA
import Derived.Test.YtedffeimcccobaaHdD
set_option maxRecDepth 100000
set_option linter.unusedVariables false
namespace Go.Proofs.Ytedffeimcccobaa
set_option maxRecDepth 100000
open Go Go.RowKit
attribute [local irreducible] strL
theorem str_empty (P : List UInt8) : ((strL P).toList = [] ↔ P = []) := by rw [ByteArray.toList_eq, strL_list]
theorem placks_any (w : World) {b : Nat} {c : Int} {P : List UInt8} (h3 : w.cell? ⟨b, 3, none⟩ = some (.int .i64 c)) (h5 : w.cell? ⟨b, 5, none⟩ = some (.string (strL P))) :
    Calls Try.prog 41 #[.pointer (some ⟨b, 0, none⟩)] w fun e w' => e = .returned (.bool (decide (c = 3 ∧ P = []))) ∧ w = w' := by
  obtain ⟨r, hr⟩ : ∃ r, r = decide (c = 3 ∧ P = []) := ⟨_, rfl⟩
  rw [← hr]
  have he := str_empty P
  obtain ⟨S, hS⟩ : ∃ S, S = strL P := ⟨_, rfl⟩
  rw [← hS] at h5 he
  by_cases hc : c = 3
  · have p3 : (c = 3) = True := by simp [hc]
    have q3 : (c == 3) = true := by simp [hc]
    by_cases hp : P = []
    · have HR := Lib.hid (show r = true by rw [hr]; exact decide_eq_true ⟨hc, hp⟩)
      have e1 : S.toList = [] := he.2 hp
      have e2 : (S.toList == []) = true := by rw [e1]; rfl
      have e3 : S.toList.isEmpty = true := by rw [e1]; rfl
      clear hr he hS hc hp
      go_enter Try.func41, Try.ntmps41
      go_wp2
      go_ret
      exact ⟨by rw [HR.out]; rfl, rfl⟩
    · have HR := Lib.hid (show r = false by rw [hr]; exact decide_eq_false fun h => hp h.2)
      have e1 : ¬ S.toList = [] := fun e => hp (he.1 e)
      have e2 : (S.toList == []) = false := by simpa using e1
      have e3 : S.toList.isEmpty = false := by simpa using e1
      clear hr he hS hc hp
      go_enter Try.func41, Try.ntmps41
      go_wp2
      go_ret
      exact ⟨by rw [HR.out]; rfl, rfl⟩
  · have HR := Lib.hid (show r = false by rw [hr]; exact decide_eq_false fun h => hc h.1)
    have p3 : (c = 3) = False := by simp [hc]
    have q3 : (c == 3) = false := by simp [hc]
    clear hr he hS hc
    go_enter Try.func41, Try.ntmps41
    go_wp2
    go_ret
    exact ⟨by rw [HR.out]; rfl, rfl⟩
/-- Does a palette of so many bytes fit? -/
def palBad (d c : Int) (m : Nat) : Prop := c = 0 ∨ c = 4 ∨ m % 3 ≠ 0 ∨ m < 3 ∨ 768 < m ∨ c = 3 ∧ 3 * 2 ^ d.toNat < m
instance (d c : Int) (m : Nat) : Decidable (palBad d c m) := by unfold palBad; infer_instance
set_option maxHeartbeats 1000000 in
theorem ppal_any (w : World) {a b d c l : Int} {m : Nat} (hd : c = 3 → d = 1 ∨ d = 2 ∨ d = 4 ∨ d = 8) (hm : m ≤ 140737488351232) :
    Calls Try.prog 39 #[.agg #[.int .i64 a, .int .i64 b, .int .i64 d, .int .i64 c, .int .i64 l], .int .i64 (m : Int)] w fun e w' => e = .returned (.bool (decide (¬ palBad d c m))) ∧ But [] w w' := by
  obtain ⟨r, hr⟩ : ∃ r, r = decide (¬ palBad d c m) := ⟨_, rfl⟩
  rw [← hr]
  have hI := Is.fresh w 23 #[.int .i64 a, .int .i64 b, .int .i64 d, .int .i64 c, .int .i64 l]
  have HB := Lib.hid ((But.refl [] w).alloc (.cells #[.int .i64 a, .int .i64 b, .int .i64 d, .int .i64 c, .int .i64 l] 23))
  have c2 := hI.cell 2
  have c3 := hI.cell 3
  have P : ∀ x y : Int, ((x = y) = True ∧ (x == y) = true) ∨ ((x = y) = False ∧ (x == y) = false) := fun x y => by by_cases h : x = y <;> simp [h]
  have PP := Lib.hid P
  have HR := Lib.hid hr
  have HD := Lib.hid hd
  clear hI P hr hd
  rcases PP.out c 0 with ⟨p0, r0⟩ | ⟨p0, r0⟩
  · have HE := Lib.hid (show r = false by rw [HR.out]; exact decide_eq_false fun h => h (.inl (of_eq_true p0)))
    go_enter Try.func39, Try.ntmps39
    go_wp2
    go_ret
    exact ⟨by rw [HE.out]; rfl, HB.out⟩
  rcases PP.out c 4 with ⟨p4, r4⟩ | ⟨p4, r4⟩
  · have HE := Lib.hid (show r = false by rw [HR.out]; exact decide_eq_false fun h => h (.inr (.inl (of_eq_true p4))))
    go_enter Try.func39, Try.ntmps39
    go_wp2
    go_ret
    exact ⟨by rw [HE.out]; rfl, HB.out⟩
  have t0 : (((m : Int).tmod 3) = ((m % 3 : Nat) : Int)) := by rw [Int.tmod_eq_emod_of_nonneg (by omega)]; omega
  by_cases h3 : m % 3 = 0
  rotate_left
  · have HE := Lib.hid (show r = false by rw [HR.out]; exact decide_eq_false fun h => h (.inr (.inr (.inl h3))))
    have u0 : ((m : Int) % 3 = 0) = False := by simp; omega
    have u1 : (((m : Int) % 3) == 0) = false := by simp; omega
    have u2 : (((m : Int).tmod 3) = 0) = False := by rw [t0]; simp; omega
    have u3 : (((m : Int).tmod 3) == 0) = false := by rw [t0]; simp; omega
    have HH := Lib.hid h3
    clear h3 t0
    rcases PP.out c 3 with ⟨p3, r3⟩ | ⟨p3, r3⟩
    · rcases HD.out (of_eq_true p3) with rfl | rfl | rfl | rfl
      all_goals
        go_enter Try.func39, Try.ntmps39
        go_wp2
        go_ret
        exact ⟨by rw [HE.out]; rfl, HB.out⟩
    · go_enter Try.func39, Try.ntmps39
      go_wp2
      go_ret
      exact ⟨by rw [HE.out]; rfl, HB.out⟩
  have u0 : ((m : Int) % 3 = 0) = True := by simp; omega
  have u1 : (((m : Int) % 3) == 0) = true := by simp; omega
  have u2 : (((m : Int).tmod 3) = 0) = True := by rw [t0]; simp; omega
  have u3 : (((m : Int).tmod 3) == 0) = true := by rw [t0]; simp; omega
  have HH := Lib.hid h3
  clear h3 t0
  by_cases hs : m < 3
  · have HE := Lib.hid (show r = false by rw [HR.out]; exact decide_eq_false fun h => h (.inr (.inr (.inr (.inl hs)))))
    have v1 : decide ((3 : Int) ≤ (m : Int)) = false := by simp; omega
    have v2 : decide (3 ≤ m) = false := by simp; omega
    have HS := Lib.hid hs
    clear hs
    rcases PP.out c 3 with ⟨p3, r3⟩ | ⟨p3, r3⟩
    · rcases HD.out (of_eq_true p3) with rfl | rfl | rfl | rfl
      all_goals
        go_enter Try.func39, Try.ntmps39
        go_wp2
        go_ret
        exact ⟨by rw [HE.out]; rfl, HB.out⟩
    · go_enter Try.func39, Try.ntmps39
      go_wp2
      go_ret
      exact ⟨by rw [HE.out]; rfl, HB.out⟩
  have v1 : decide ((3 : Int) ≤ (m : Int)) = true := by simp; omega
  have v2 : decide (3 ≤ m) = true := by simp; omega
  have HS := Lib.hid hs
  clear hs
  rcases PP.out c 3 with ⟨p3, r3⟩ | ⟨p3, r3⟩
  · have HP3 := Lib.hid p3
    have step : ∀ k : Nat, (3 * 2 ^ d.toNat = k) → k ≤ 768 → r = decide (m ≤ k) := fun k hk hk2 => by
      rw [HR.out]
      have h3 := HH.out
      have hs := HS.out
      have e3 := of_eq_true HP3.out
      have e0 := of_eq_false p0
      have e4 := of_eq_false p4
      refine decide_eq_decide.mpr ⟨fun h => Nat.le_of_not_lt fun hlt => h (.inr (.inr (.inr (.inr (.inr ⟨e3, by rw [hk]; exact hlt⟩))))), fun h hb => ?_⟩
      rcases hb with h | h | h | h | h | h
      · exact e0 h
      · exact e4 h
      · exact h h3
      · exact hs h
      · omega
      · have := h.2; rw [hk] at this; omega
    have ST := Lib.hid step
    clear step
    rcases HD.out (of_eq_true p3) with rfl | rfl | rfl | rfl
    · have HE := Lib.hid (ST.out 6 rfl (by decide))
      by_cases hle : m ≤ 6
      · have HF := Lib.hid (show r = true by rw [HE.out]; exact decide_eq_true hle)
        have dk : decide ((m : Int) ≤ 6) = true := by simp; omega
        have dj : decide (m ≤ 6) = true := by simp; omega
        go_enter Try.func39, Try.ntmps39
        go_wp2
        go_ret
        exact ⟨by rw [HF.out]; rfl, HB.out⟩
      · have HF := Lib.hid (show r = false by rw [HE.out]; exact decide_eq_false hle)
        have dk : decide ((m : Int) ≤ 6) = false := by simp; omega
        have dj : decide (m ≤ 6) = false := by simp; omega
        go_enter Try.func39, Try.ntmps39
        go_wp2
        go_ret
        exact ⟨by rw [HF.out]; rfl, HB.out⟩
    · have HE := Lib.hid (ST.out 12 rfl (by decide))
      by_cases hle : m ≤ 12
      · have HF := Lib.hid (show r = true by rw [HE.out]; exact decide_eq_true hle)
        have dk : decide ((m : Int) ≤ 12) = true := by simp; omega
        have dj : decide (m ≤ 12) = true := by simp; omega
        go_enter Try.func39, Try.ntmps39
        go_wp2
        go_ret
        exact ⟨by rw [HF.out]; rfl, HB.out⟩
      · have HF := Lib.hid (show r = false by rw [HE.out]; exact decide_eq_false hle)
        have dk : decide ((m : Int) ≤ 12) = false := by simp; omega
        have dj : decide (m ≤ 12) = false := by simp; omega
        go_enter Try.func39, Try.ntmps39
        go_wp2
        go_ret
        exact ⟨by rw [HF.out]; rfl, HB.out⟩
    · have HE := Lib.hid (ST.out 48 rfl (by decide))
      by_cases hle : m ≤ 48
      · have HF := Lib.hid (show r = true by rw [HE.out]; exact decide_eq_true hle)
        have dk : decide ((m : Int) ≤ 48) = true := by simp; omega
        have dj : decide (m ≤ 48) = true := by simp; omega
        go_enter Try.func39, Try.ntmps39
        go_wp2
        go_ret
        exact ⟨by rw [HF.out]; rfl, HB.out⟩
      · have HF := Lib.hid (show r = false by rw [HE.out]; exact decide_eq_false hle)
        have dk : decide ((m : Int) ≤ 48) = false := by simp; omega
        have dj : decide (m ≤ 48) = false := by simp; omega
        go_enter Try.func39, Try.ntmps39
        go_wp2
        go_ret
        exact ⟨by rw [HF.out]; rfl, HB.out⟩
    · have HE := Lib.hid (ST.out 768 rfl (by decide))
      by_cases hle : m ≤ 768
      · have HF := Lib.hid (show r = true by rw [HE.out]; exact decide_eq_true hle)
        have dk : decide ((m : Int) ≤ 768) = true := by simp; omega
        have dj : decide (m ≤ 768) = true := by simp; omega
        go_enter Try.func39, Try.ntmps39
        go_wp2
        go_ret
        exact ⟨by rw [HF.out]; rfl, HB.out⟩
      · have HF := Lib.hid (show r = false by rw [HE.out]; exact decide_eq_false hle)
        have dk : decide ((m : Int) ≤ 768) = false := by simp; omega
        have dj : decide (m ≤ 768) = false := by simp; omega
        go_enter Try.func39, Try.ntmps39
        go_wp2
        go_ret
        exact ⟨by rw [HF.out]; rfl, HB.out⟩
  · have HE := Lib.hid (show r = decide (m ≤ 768) by
      rw [HR.out]
      have h3 := HH.out
      have hs := HS.out
      have e3 := of_eq_false p3
      have e0 := of_eq_false p0
      have e4 := of_eq_false p4
      refine decide_eq_decide.mpr ⟨fun h => Nat.le_of_not_lt fun hlt => h (.inr (.inr (.inr (.inr (.inl hlt))))), fun h hb => ?_⟩
      rcases hb with h | h | h | h | h | h
      · exact e0 h
      · exact e4 h
      · exact h h3
      · exact hs h
      · omega
      · exact e3 h.1)
    by_cases hle : m ≤ 768
    · have HF := Lib.hid (show r = true by rw [HE.out]; exact decide_eq_true hle)
      have dk : decide ((m : Int) ≤ 768) = true := by simp; omega
      have dj : decide (m ≤ 768) = true := by simp; omega
      go_enter Try.func39, Try.ntmps39
      go_wp2
      go_ret
      exact ⟨by rw [HF.out]; rfl, HB.out⟩
    · have HF := Lib.hid (show r = false by rw [HE.out]; exact decide_eq_false hle)
      have dk : decide ((m : Int) ≤ 768) = false := by simp; omega
      have dj : decide (m ≤ 768) = false := by simp; omega
      go_enter Try.func39, Try.ntmps39
      go_wp2
      go_ret
      exact ⟨by rw [HF.out]; rfl, HB.out⟩
/-- Does a transparency of so many bytes not fit? -/
def trBad (c : Int) (P : List UInt8) (m : Nat) : Prop := c = 4 ∨ c = 6 ∨ c = 0 ∧ m ≠ 2 ∨ c = 2 ∧ m ≠ 6 ∨ c = 3 ∧ P.length / 3 < m
instance (c : Int) (P : List UInt8) (m : Nat) : Decidable (trBad c P m) := by unfold trBad; infer_instance
set_option maxHeartbeats 1000000 in
theorem ptr_any (w : World) {a b d c l : Int} {P T : List UInt8} {tr : Bool} {m : Nat} (hc : c = 0 ∨ c = 2 ∨ c = 3 ∨ c = 4 ∨ c = 6) (hm : m ≤ 140737488351232) (hP : P.length ≤ 768) :
    Calls Try.prog 42 #[.agg #[.int .i64 a, .int .i64 b, .int .i64 d, .int .i64 c, .int .i64 l, .string (strL P), .string (strL T), .bool tr], .int .i64 (m : Int)] w fun e w' => e = .returned (.bool (decide (¬ trBad c P m))) ∧ But [] w w' := by
  obtain ⟨r, hr⟩ : ∃ r, r = decide (¬ trBad c P m) := ⟨_, rfl⟩
  rw [← hr]
  have hI := Is.fresh w 36 #[.int .i64 a, .int .i64 b, .int .i64 d, .int .i64 c, .int .i64 l, .string (strL P), .string (strL T), .bool tr]
  have hB := (But.refl [] w).alloc (.cells #[.int .i64 a, .int .i64 b, .int .i64 d, .int .i64 c, .int .i64 l, .string (strL P), .string (strL T), .bool tr] 36)
  have hsz : (strL P).size = P.length := strL_size P
  obtain ⟨z, hz⟩ : ∃ z, z = P.length := ⟨_, rfl⟩
  have HZ := Lib.hid hz
  rw [← hz] at hsz hP
  obtain ⟨S, hS⟩ : ∃ S, S = strL P := ⟨_, rfl⟩
  obtain ⟨U, hU⟩ : ∃ S, S = strL T := ⟨_, rfl⟩
  rw [← hS, ← hU] at hI hB
  rw [← hS] at hsz
  rw [← hS, ← hU]
  have HB := Lib.hid hB
  have c3 := hI.cell 3
  have c5 := hI.cell 5
  have HR := Lib.hid hr
  clear hI hr hz hS hU hB
  rcases hc with rfl | rfl | rfl | rfl | rfl
  · by_cases h : m = 2
    · have HE := Lib.hid (show r = true by rw [HR.out]; exact decide_eq_true (by unfold trBad; omega))
      have dk : decide ((m : Int) = 2) = true := by simp; omega
      have dj : ((m : Int) == 2) = true := by simp; omega
      have HH := Lib.hid h
      clear h
      go_enter Try.func42, Try.ntmps42
      go_wp2
      go_ret
      exact ⟨by rw [HE.out]; rfl, HB.out⟩
    · have HE := Lib.hid (show r = false by rw [HR.out]; exact decide_eq_false (by unfold trBad; omega))
      have dk : decide ((m : Int) = 2) = false := by simp; omega
      have dj : ((m : Int) == 2) = false := by simp; omega
      have HH := Lib.hid h
      clear h
      go_enter Try.func42, Try.ntmps42
      go_wp2
      go_ret
      exact ⟨by rw [HE.out]; rfl, HB.out⟩
  · by_cases h : m = 6
    · have HE := Lib.hid (show r = true by rw [HR.out]; exact decide_eq_true (by unfold trBad; omega))
      have dk : decide ((m : Int) = 6) = true := by simp; omega
      have dj : ((m : Int) == 6) = true := by simp; omega
      have HH := Lib.hid h
      clear h
      go_enter Try.func42, Try.ntmps42
      go_wp2
      go_ret
      exact ⟨by rw [HE.out]; rfl, HB.out⟩
    · have HE := Lib.hid (show r = false by rw [HR.out]; exact decide_eq_false (by unfold trBad; omega))
      have dk : decide ((m : Int) = 6) = false := by simp; omega
      have dj : ((m : Int) == 6) = false := by simp; omega
      have HH := Lib.hid h
      clear h
      go_enter Try.func42, Try.ntmps42
      go_wp2
      go_ret
      exact ⟨by rw [HE.out]; rfl, HB.out⟩
  · have t0 : (((z : Int).tdiv 3) = ((z / 3 : Nat) : Int)) := by rw [Int.tdiv_eq_ediv_of_nonneg (by omega)]; omega
    have t1 : ((z : Int) / 3) = ((z / 3 : Nat) : Int) := by omega
    obtain ⟨q, hq⟩ : ∃ q, q = z / 3 := ⟨_, rfl⟩
    rw [← hq] at t0 t1
    have hqb : q ≤ 256 := by omega
    have HQ := Lib.hid hq
    clear hq
    by_cases h : m ≤ q
    · have HE := Lib.hid (show r = true by rw [HR.out]; exact decide_eq_true (by unfold trBad; have := HQ.out; have := HZ.out; omega))
      have dk : decide ((m : Int) ≤ (q : Int)) = true := by simp; omega
      have dj : decide (m ≤ q) = true := by simp; omega
      have HH := Lib.hid h
      clear h
      go_enter Try.func42, Try.ntmps42
      go_wp2
      go_ret
      exact ⟨by rw [HE.out]; rfl, HB.out⟩
    · have HE := Lib.hid (show r = false by rw [HR.out]; exact decide_eq_false (by unfold trBad; have := HQ.out; have := HZ.out; omega))
      have dk : decide ((m : Int) ≤ (q : Int)) = false := by simp; omega
      have dj : decide (m ≤ q) = false := by simp; omega
      have HH := Lib.hid h
      clear h
      go_enter Try.func42, Try.ntmps42
      go_wp2
      go_ret
      exact ⟨by rw [HE.out]; rfl, HB.out⟩
  · have HE := Lib.hid (show r = false by rw [HR.out]; exact decide_eq_false (by unfold trBad; omega))
    go_enter Try.func42, Try.ntmps42
    go_wp2
    go_ret
    exact ⟨by rw [HE.out]; rfl, HB.out⟩
  · have HE := Lib.hid (show r = false by rw [HR.out]; exact decide_eq_false (by unfold trBad; omega))
    go_enter Try.func42, Try.ntmps42
    go_wp2
    go_ret
    exact ⟨by rw [HE.out]; rfl, HB.out⟩
end Go.Proofs.Ytedffeimcccobaa
