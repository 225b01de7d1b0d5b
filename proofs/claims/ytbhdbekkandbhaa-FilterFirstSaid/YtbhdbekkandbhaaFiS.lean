/- The walks of the statements on a line without one above, on the kind 0, on a line that is the one above it. -/
import Derived.Test.YtbhdbekkandbhaaFiR
set_option maxRecDepth 100000
set_option linter.unusedVariables false
namespace Go.Proofs.Ytbhdbekkandbhaa
set_option maxRecDepth 100000
open Go Go.RowKit
theorem wrongF_zeros {bpp kind : Int} {s : ByteArray} : wrongF bpp kind s (strL (List.replicate s.size 0)) = wrongF bpp kind s ⟨#[]⟩ := by
  have h : wrongP bpp s (strL (List.replicate s.size 0)) = wrongP bpp s ⟨#[]⟩ := by
    have e1 : (strL (List.replicate s.size 0)).size = s.size := by rw [strL_size, List.length_replicate]
    have e2 : (⟨#[]⟩ : ByteArray).size = 0 := rfl
    unfold wrongP
    rw [e1, e2]
    congr 1
    simp
  unfold wrongF
  rw [h]
theorem doA_zeros {bpp kind : Int} {s : ByteArray} : doA bpp kind s (strL (List.replicate s.size 0)) = doA bpp kind s ⟨#[]⟩ := by
  unfold doA
  rw [wrongF_zeros, strL_list, doF_zeros]
theorem undoA_zeros {bpp kind : Int} {s : ByteArray} : undoA bpp kind s (strL (List.replicate s.size 0)) = undoA bpp kind s ⟨#[]⟩ := by
  unfold undoA
  rw [wrongF_zeros, strL_list, undoF_zeros]
theorem doA_zero {bpp : Int} {s t : ByteArray} (h : wrongF bpp 0 s t = 0) : strL (doA bpp 0 s t) = s := by
  unfold doA
  rw [if_pos h, doF_zero, strL_of]
theorem undoA_zero {bpp : Int} {s t : ByteArray} (h : wrongF bpp 0 s t = 0) : strL (undoA bpp 0 s t) = s := by
  have hb := (wrongF_zero h).1.1
  unfold undoA
  rw [if_pos h, undoF_zero (by omega), strL_of]
theorem strL_at (L : List UInt8) {i : Nat} (h : i < (strL L).size) (w : World) : (Instr.index 9 (.string (strL L)) (.int .i64 (i : Int))).run Try.prog w = .ok (.int .u8 ((L.getD i 0).toNat : Nat)) w := by
  rw [byteF_run h, ← getD_byte (strL L) h, strL_list]
theorem doA_up {bpp : Int} {s : ByteArray} (h : wrongF bpp 2 s s = 0) {i : Nat} (hi : i < s.size) : (doA bpp 2 s s).getD i 0 = 0 := by
  unfold doA
  rw [if_pos h]
  exact doF_up _ _ (by rw [Array.length_toList]; exact hi)
theorem pickA_up {bpp : Int} {s : ByteArray} (h : wrongP bpp s s = 0) : pickA bpp s s ≤ 2 ∧ ∀ i, i < s.size → (doA bpp (pickA bpp s s : Nat) s s).getD i 0 = 0 := by
  have h1 := pickF_up bpp.toNat s.data.toList
  have e : pickA bpp s s = pickF bpp.toNat s.data.toList s.data.toList := by unfold pickA; rw [if_pos h]
  rw [e]
  refine ⟨h1.1, fun i hi => ?_⟩
  unfold doA
  rw [if_pos (by rw [wrongF_kind (by omega) (by have := h1.1; omega), h])]
  exact h1.2 i (by rw [Array.length_toList]; exact hi)
attribute [local irreducible] strL doA undoA wrongF wrongP
set_option maxHeartbeats 1000000 in
theorem filterFirst_walk (haw : Awk9) {bpp kind : Int} {s t : ByteArray} (hs : s.size ≤ 140737488351232) (ht : t.size ≤ 140737488351232) {w : World} :
    Calls Try.prog 7 #[.agg #[.int .i64 bpp, .int .i64 kind, .string s, .string t]] w fun e w' => e = .returned (.bool true) ∧ Below w.heap.size w w' := by
  have HA := Lib.hid haw
  clear haw
  obtain ⟨A, hA⟩ : ∃ A, A = strL (doA bpp kind s ⟨#[]⟩) := ⟨_, rfl⟩
  obtain ⟨C, hC⟩ : ∃ C, C = strL (undoA bpp kind s ⟨#[]⟩) := ⟨_, rfl⟩
  obtain ⟨er, her⟩ : ∃ x, x = wrongF bpp kind s ⟨#[]⟩ := ⟨_, rfl⟩
  obtain ⟨Z, hZ⟩ : ∃ Z, Z = strL (List.replicate s.size 0) := ⟨_, rfl⟩
  have hZs : Z.size = s.size := by rw [hZ, strL_size, List.length_replicate]
  have H1 : Hid (∀ v, Calls Try.prog 10 #[.int .i64 bpp, .int .i64 kind, .string s, .string ⟨#[]⟩] v fun e w' => e = .returned (.tuple #[.string A, .int .i64 er]) ∧ But [] v w') := Lib.hid fun v => by rw [hA, her]; exact pdo_any v bpp kind s _ hs (by decide)
  have H2 : Hid (∀ v, Calls Try.prog 10 #[.int .i64 bpp, .int .i64 kind, .string s, .string Z] v fun e w' => e = .returned (.tuple #[.string A, .int .i64 er]) ∧ But [] v w') := Lib.hid fun v => by
    have h := pdo_any v bpp kind s Z hs (by rw [hZs]; exact hs)
    rw [hZ, wrongF_zeros, doA_zeros, ← hA, ← her] at h
    rw [hZ]
    exact h
  have H3 : Hid (∀ v, Calls Try.prog 13 #[.int .i64 bpp, .int .i64 kind, .string s, .string ⟨#[]⟩] v fun e w' => e = .returned (.tuple #[.string C, .int .i64 er]) ∧ But [] v w') := Lib.hid fun v => by rw [hC, her]; exact pundo_any v bpp kind s _ hs (by decide)
  have H4 : Hid (∀ v, Calls Try.prog 13 #[.int .i64 bpp, .int .i64 kind, .string s, .string Z] v fun e w' => e = .returned (.tuple #[.string C, .int .i64 er]) ∧ But [] v w') := Lib.hid fun v => by
    have h := pundo_any v bpp kind s Z hs (by rw [hZs]; exact hs)
    rw [hZ, wrongF_zeros, undoA_zeros, ← hC, ← her] at h
    rw [hZ]
    exact h
  have HS : Hid (LnS w w.heap.size bpp kind s t (w.alloc (.cells #[.int .i64 bpp, .int .i64 kind, .string s, .string t] 23))) := Lib.hid ⟨Is.fresh _ _ _, (But.refl [] w).alloc _⟩
  obtain ⟨w0, hw0⟩ : ∃ x, x = w.alloc (.cells #[.int .i64 bpp, .int .i64 kind, .string s, .string t] 23) := ⟨_, rfl⟩
  have km := run_noughts w0 (n := s.size) (by omega)
  have hno := (noughtsF_row w0 s.size).text s.size
  have hnb := noughtsF_but w0 s.size
  obtain ⟨w5, hw5⟩ : ∃ x, x = noughtsF w0 s.size := ⟨_, rfl⟩
  rw [List.length_replicate, ← hZ] at hno
  rw [← hw5] at km hno hnb
  rw [← hw0] at HS
  have HZ := Lib.hid hZs
  clear hA hC her hZ hZs hw5
  have c0 := HS.out.1.cell 0
  have c1 := HS.out.1.cell 1
  have c2 := HS.out.1.cell 2
  have c3 := HS.out.1.cell 3
  go_enter Try.func7, Try.ntmps7
  go_upto_region 1 with (fail)
  rw [← hw0]
  clear hw0
  go_upto_region 2 with (fail)
  have HS := Lib.hid (HS.out.but hnb)
  clear hnb km hno
  have c0 := HS.out.1.cell 0
  have c1 := HS.out.1.cell 1
  have c2 := HS.out.1.cell 2
  have c3 := HS.out.1.cell 3
  go_wp2_with fail
  refine (H1.out _).mono ?_
  rintro e w1 ⟨rfl, hB⟩
  have HS := Lib.hid (HS.out.but hB)
  clear hB
  have c0 := HS.out.1.cell 0
  have c1 := HS.out.1.cell 1
  have c2 := HS.out.1.cell 2
  have c3 := HS.out.1.cell 3
  go_wp2_with fail
  refine (H2.out _).mono ?_
  rintro e w1 ⟨rfl, hB⟩
  have HS := Lib.hid (HS.out.but hB)
  clear hB
  have c0 := HS.out.1.cell 0
  have c1 := HS.out.1.cell 1
  have c2 := HS.out.1.cell 2
  have c3 := HS.out.1.cell 3
  go_wp2_with fail
  refine (H3.out _).mono ?_
  rintro e w1 ⟨rfl, hB⟩
  have HS := Lib.hid (HS.out.but hB)
  clear hB
  have c0 := HS.out.1.cell 0
  have c1 := HS.out.1.cell 1
  have c2 := HS.out.1.cell 2
  have c3 := HS.out.1.cell 3
  go_wp2_with fail
  refine (H4.out _).mono ?_
  rintro e w1 ⟨rfl, hB⟩
  have HS := Lib.hid (HS.out.but hB)
  clear hB
  have c0 := HS.out.1.cell 0
  have c1 := HS.out.1.cell 1
  have c2 := HS.out.1.cell 2
  have c3 := HS.out.1.cell 3
  go_wp2_with fail
  refine (HA.out.use _).mono ?_
  rintro e w1 ⟨rfl, hB⟩
  have HS := Lib.hid (HS.out.but hB)
  clear hB
  go_wp2
  go_ret
  exact ⟨rfl, HS.out.2.belowF⟩
set_option maxHeartbeats 1000000 in
theorem filterZero_walk (haw : Awk9) {bpp kind : Int} {s t : ByteArray} (hs : s.size ≤ 140737488351232) (ht : t.size ≤ 140737488351232) {w : World} :
    Calls Try.prog 8 #[.agg #[.int .i64 bpp, .int .i64 kind, .string s, .string t]] w fun e w' => e = .returned (.bool true) ∧ Below w.heap.size w w' := by
  have HA := Lib.hid haw
  clear haw
  rcases wrongF_cases bpp 0 s t with h0 | h1 | h1
  · have HP : Hid (∀ v, Calls Try.prog 10 #[.int .i64 bpp, .int .i64 0, .string s, .string t] v fun e w' => e = .returned (.tuple #[.string s, .int .i64 0]) ∧ But [] v w') := Lib.hid fun v => by
      have h := pdo_any v bpp 0 s t hs ht
      rw [h0, doA_zero h0] at h
      exact h
    have HU : Hid (∀ v, Calls Try.prog 13 #[.int .i64 bpp, .int .i64 0, .string s, .string t] v fun e w' => e = .returned (.tuple #[.string s, .int .i64 0]) ∧ But [] v w') := Lib.hid fun v => by
      have h := pundo_any v bpp 0 s t hs ht
      rw [h0, undoA_zero h0] at h
      exact h
    clear h0
    have HS : Hid (LnS w w.heap.size bpp kind s t (w.alloc (.cells #[.int .i64 bpp, .int .i64 kind, .string s, .string t] 23))) := Lib.hid ⟨Is.fresh _ _ _, (But.refl [] w).alloc _⟩
    have c0 := HS.out.1.cell 0
    have c1 := HS.out.1.cell 1
    have c2 := HS.out.1.cell 2
    have c3 := HS.out.1.cell 3
    go_enter Try.func8, Try.ntmps8
    go_wp2_with fail
    refine (HP.out _).mono ?_
    rintro e w1 ⟨rfl, hB⟩
    have HS := Lib.hid (HS.out.but hB)
    clear hB
    have c0 := HS.out.1.cell 0
    have c1 := HS.out.1.cell 1
    have c2 := HS.out.1.cell 2
    have c3 := HS.out.1.cell 3
    go_wp2_with fail
    refine (HU.out _).mono ?_
    rintro e w1 ⟨rfl, hB⟩
    have HS := Lib.hid (HS.out.but hB)
    clear hB
    have c0 := HS.out.1.cell 0
    have c1 := HS.out.1.cell 1
    have c2 := HS.out.1.cell 2
    have c3 := HS.out.1.cell 3
    go_wp2_with fail
    refine (HA.out.use _).mono ?_
    rintro e w1 ⟨rfl, hB⟩
    have HS := Lib.hid (HS.out.but hB)
    clear hB
    go_wp2
    go_ret
    exact ⟨rfl, HS.out.2.belowF⟩
  · have h0 : wrongF bpp 0 s t ≠ 0 := by rw [h1]; decide
    have HP : Hid (∀ v, Calls Try.prog 10 #[.int .i64 bpp, .int .i64 0, .string s, .string t] v fun e w' => e = .returned (.tuple #[.string ⟨#[]⟩, .int .i64 1]) ∧ But [] v w') := Lib.hid fun v => by
      have h := pdo_any v bpp 0 s t hs ht
      rw [doA_bad h0, h1] at h
      rw [← strL_nilF]
      exact h
    have HU : Hid (∀ v, Calls Try.prog 13 #[.int .i64 bpp, .int .i64 0, .string s, .string t] v fun e w' => e = .returned (.tuple #[.string ⟨#[]⟩, .int .i64 1]) ∧ But [] v w') := Lib.hid fun v => by
      have h := pundo_any v bpp 0 s t hs ht
      rw [undoA_bad h0, h1] at h
      rw [← strL_nilF]
      exact h
    clear h0 h1
    have HS : Hid (LnS w w.heap.size bpp kind s t (w.alloc (.cells #[.int .i64 bpp, .int .i64 kind, .string s, .string t] 23))) := Lib.hid ⟨Is.fresh _ _ _, (But.refl [] w).alloc _⟩
    have c0 := HS.out.1.cell 0
    have c1 := HS.out.1.cell 1
    have c2 := HS.out.1.cell 2
    have c3 := HS.out.1.cell 3
    go_enter Try.func8, Try.ntmps8
    go_wp2_with fail
    refine (HP.out _).mono ?_
    rintro e w1 ⟨rfl, hB⟩
    have HS := Lib.hid (HS.out.but hB)
    clear hB
    have c0 := HS.out.1.cell 0
    have c1 := HS.out.1.cell 1
    have c2 := HS.out.1.cell 2
    have c3 := HS.out.1.cell 3
    go_wp2_with fail
    refine (HU.out _).mono ?_
    rintro e w1 ⟨rfl, hB⟩
    have HS := Lib.hid (HS.out.but hB)
    clear hB
    have c0 := HS.out.1.cell 0
    have c1 := HS.out.1.cell 1
    have c2 := HS.out.1.cell 2
    have c3 := HS.out.1.cell 3
    go_wp2_with fail
    refine (HA.out.use _).mono ?_
    rintro e w1 ⟨rfl, hB⟩
    have HS := Lib.hid (HS.out.but hB)
    clear hB
    go_wp2
    go_ret
    exact ⟨rfl, HS.out.2.belowF⟩
  · exfalso
    rw [wrongF_kind (by decide) (by decide)] at h1
    rcases wrongP_cases bpp s t with h | h <;> rw [h] at h1 <;> exact absurd h1 (by decide)
set_option maxHeartbeats 1000000 in
theorem filterUp_walk (haw : Awk9) {bpp : Int} {s : ByteArray} (hw : (Lit.int .i64 bpp).wf = true) (hs : s.size ≤ 140737488351232) {w : World} :
    Calls Try.prog 9 #[.int .i64 bpp, .string s] w fun e w' => e = .returned (.bool true) ∧ Below w.heap.size w w' := by
  have HA : Hid (∀ v : World, Calls Try.prog 12 #[] v fun e w' => e = .returned (.bool true) ∧ But [] v w') := Lib.hid haw
  clear haw hw
  have h2 : wrongF bpp 2 s s = wrongP bpp s s := wrongF_kind (by decide) (by decide)
  rcases wrongP_cases bpp s s with h0 | h1
  · rw [h0] at h2
    obtain ⟨hk2, hkz⟩ := pickA_up h0
    obtain ⟨k, hk⟩ : ∃ k, k = pickA bpp s s := ⟨_, rfl⟩
    rw [← hk] at hk2 hkz
    have hwk : wrongF bpp (k : Nat) s s = 0 := by rw [wrongF_kind (by omega) (by omega), h0]
    obtain ⟨A, hA⟩ : ∃ A, A = strL (doA bpp 2 s s) := ⟨_, rfl⟩
    obtain ⟨B, hBB⟩ : ∃ A, A = strL (doA bpp (k : Nat) s s) := ⟨_, rfl⟩
    have hAs : A.size = s.size := by rw [hA]; exact doA_size h2
    have hBs : B.size = s.size := by rw [hBB]; exact doA_size hwk
    have HXA : Hid (∀ (i : Nat) v, i < s.size → (Instr.index 9 (.string A) (.int .i64 (i : Int))).run Try.prog v = .ok (.int .u8 0) v) := Lib.hid fun i v hi => by
      have h := strL_at (doA bpp 2 s s) (i := i) (by rw [← hA, hAs]; exact hi) v
      rw [doA_up h2 hi, ← hA] at h
      exact h
    have HXB : Hid (∀ (i : Nat) v, i < s.size → (Instr.index 9 (.string B) (.int .i64 (i : Int))).run Try.prog v = .ok (.int .u8 0) v) := Lib.hid fun i v hi => by
      have h := strL_at (doA bpp (k : Nat) s s) (i := i) (by rw [← hBB, hBs]; exact hi) v
      rw [hkz i hi, ← hBB] at h
      exact h
    have HD : Hid (∀ v, Calls Try.prog 10 #[.int .i64 bpp, .int .i64 2, .string s, .string s] v fun e w' => e = .returned (.tuple #[.string A, .int .i64 0]) ∧ But [] v w') := Lib.hid fun v => by
      have h := pdo_any v bpp 2 s s hs hs
      rw [h2, ← hA] at h
      exact h
    have HP : Hid (∀ v, Calls Try.prog 15 #[.int .i64 bpp, .string s, .string s] v fun e w' => e = .returned (.tuple #[.int .i64 (k : Nat), .int .i64 0]) ∧ But [] v w') := Lib.hid fun v => by
      have h := ppick_any v bpp s s hs hs
      rw [h0, ← hk] at h
      exact h
    have HK : Hid (∀ v, Calls Try.prog 10 #[.int .i64 bpp, .int .i64 (k : Nat), .string s, .string s] v fun e w' => e = .returned (.tuple #[.string B, .int .i64 0]) ∧ But [] v w') := Lib.hid fun v => by
      have h := pdo_any v bpp (k : Nat) s s hs hs
      rw [hwk, ← hBB] at h
      exact h
    clear h2 h0 hkz hk hwk hA hBB
    have HB := Lib.hid (But.refl [] w)
    go_enter Try.func9, Try.ntmps9
    go_wp2_with fail
    refine (HD.out _).mono ?_
    rintro e w1 ⟨rfl, hB⟩
    have HB := Lib.hid (HB.out.trans hB)
    clear hB
    go_wp2_with fail
    refine (HP.out _).mono ?_
    rintro e w1 ⟨rfl, hB⟩
    have HB := Lib.hid (HB.out.trans hB)
    clear hB
    go_wp2_with fail
    refine (HK.out _).mono ?_
    rintro e w1 ⟨rfl, hB⟩
    have HB := Lib.hid (HB.out.trans hB)
    clear hB
    go_wp2_with fail
    go_loopw [11] (fun iv wr => ∃ i : Nat, i ≤ s.size ∧ iv = .int .i64 i ∧ Hid (But [] w wr)) (fun iv _ => s.size - (intOf iv).toNat)
    case atStart => exact ⟨0, Nat.zero_le _, rfl, HB⟩
    case round =>
      clear HB
      obtain ⟨i, hi, rfl, HB⟩ := hrel
      by_cases hlt : i < s.size
      · have xa := fun v => HXA.out i v hlt
        have xb := fun v => HXB.out i v hlt
        go_wp2
        go_roundw
        case rel => exact ⟨i + 1, by omega, by go_num, HB⟩
        case measure => simp [intOf] <;> omega
      · obtain rfl : i = s.size := by omega
        go_wp2_with fail
        refine (HA.out _).mono ?_
        rintro e w1 ⟨rfl, hB⟩
        have HB := Lib.hid (HB.out.trans hB)
        clear hB
        go_wp2
        go_ret
        exact ⟨rfl, HB.out.belowF⟩
  · rw [h1] at h2
    have h3 : wrongF bpp 2 s s ≠ 0 := by rw [h2]; decide
    have h4 : wrongP bpp s s ≠ 0 := by rw [h1]; decide
    have HD : Hid (∀ v, Calls Try.prog 10 #[.int .i64 bpp, .int .i64 2, .string s, .string s] v fun e w' => e = .returned (.tuple #[.string ⟨#[]⟩, .int .i64 1]) ∧ But [] v w') := Lib.hid fun v => by
      have h := pdo_any v bpp 2 s s hs hs
      rw [doA_bad h3, h2] at h
      rw [← strL_nilF]
      exact h
    have HP : Hid (∀ v, Calls Try.prog 15 #[.int .i64 bpp, .string s, .string s] v fun e w' => e = .returned (.tuple #[.int .i64 0, .int .i64 1]) ∧ But [] v w') := Lib.hid fun v => by
      have h := ppick_any v bpp s s hs hs
      rw [pickA_bad h4, h1] at h
      exact h
    clear h1 h2 h3 h4
    have HB := Lib.hid (But.refl [] w)
    go_enter Try.func9, Try.ntmps9
    go_wp2_with fail
    refine (HD.out _).mono ?_
    rintro e w1 ⟨rfl, hB⟩
    have HB := Lib.hid (HB.out.trans hB)
    clear hB
    go_wp2_with fail
    refine (HP.out _).mono ?_
    rintro e w1 ⟨rfl, hB⟩
    have HB := Lib.hid (HB.out.trans hB)
    clear hB
    go_wp2_with fail
    refine (HA.out _).mono ?_
    rintro e w1 ⟨rfl, hB⟩
    have HB := Lib.hid (HB.out.trans hB)
    clear hB
    go_wp2
    go_ret
    exact ⟨rfl, HB.out.belowF⟩
end Go.Proofs.Ytbhdbekkandbhaa
