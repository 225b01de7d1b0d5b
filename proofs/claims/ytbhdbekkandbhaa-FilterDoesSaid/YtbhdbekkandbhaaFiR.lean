/- The walks of the statements on lines, kinds, and the way back. -/
import Derived.Test.YtbhdbekkandbhaaFiP
set_option maxRecDepth 100000
set_option linter.unusedVariables false
namespace Go.Proofs.Ytbhdbekkandbhaa
set_option maxRecDepth 100000
open Go Go.RowKit
/-- The chapter's examples come out. -/
def Awk9 : Prop := ∀ v : World, Calls Try.prog 12 #[] v fun e w' => e = .returned (.bool true) ∧ But [] v w'
theorem Awk9.use (h : Awk9) (v : World) : Calls Try.prog 12 #[] v fun e w' => e = .returned (.bool true) ∧ But [] v w' := h v
/-- The line that is handed in lies in a block of its own. -/
def LnS (w : World) (g : Nat) (bpp kind : Int) (s t : ByteArray) (v : World) : Prop := Is v g 23 #[.int .i64 bpp, .int .i64 kind, .string s, .string t] ∧ But [] w v
theorem LnS.but {w v v' : World} {g : Nat} {bpp kind : Int} {s t : ByteArray} (h : LnS w g bpp kind s t v) (k : But [] v v') : LnS w g bpp kind s t v' := ⟨h.1.but k (by simp), h.2.trans k⟩
theorem wrongP_size {bpp : Int} {s s' t : ByteArray} (h : s'.size = s.size) : wrongP bpp s' t = wrongP bpp s t := by unfold wrongP; rw [h]
theorem wrongF_size {bpp kind : Int} {s s' t : ByteArray} (h : s'.size = s.size) : wrongF bpp kind s' t = wrongF bpp kind s t := by unfold wrongF; rw [wrongP_size h]
theorem doA_size {bpp kind : Int} {s t : ByteArray} (h : wrongF bpp kind s t = 0) : (strL (doA bpp kind s t)).size = s.size := by
  rw [strL_size]; unfold doA; rw [if_pos h, doF_length, Array.length_toList]; rfl
theorem undoA_size {bpp kind : Int} {s t : ByteArray} (h : wrongF bpp kind s t = 0) : (strL (undoA bpp kind s t)).size = s.size := by
  rw [strL_size]; unfold undoA; rw [if_pos h, undoF_length, Array.length_toList]; rfl
theorem undo_doA {bpp kind : Int} {s t : ByteArray} (h : wrongF bpp kind s t = 0) : strL (undoA bpp kind (strL (doA bpp kind s t)) t) = s := by
  have h2 : wrongF bpp kind (strL (doA bpp kind s t)) t = 0 := by rw [wrongF_size (doA_size h), h]
  have hb := (wrongF_zero h).1.1
  unfold undoA
  rw [if_pos h2]
  unfold doA
  rw [if_pos h, strL_list, undo_do (by omega), strL_of]
theorem do_undoA {bpp kind : Int} {s t : ByteArray} (h : wrongF bpp kind s t = 0) : strL (doA bpp kind (strL (undoA bpp kind s t)) t) = s := by
  have h2 : wrongF bpp kind (strL (undoA bpp kind s t)) t = 0 := by rw [wrongF_size (undoA_size h), h]
  have hb := (wrongF_zero h).1.1
  unfold doA
  rw [if_pos h2]
  unfold undoA
  rw [if_pos h, strL_list, do_undo (by omega), strL_of]
theorem strL_nilF : strL [] = ⟨#[]⟩ := rfl
attribute [local irreducible] strL doA undoA wrongF wrongP
set_option maxHeartbeats 1000000 in
theorem filterDoes_walk (haw : Awk9) {bpp kind : Int} {s t : ByteArray} (hs : s.size ≤ 140737488351232) (ht : t.size ≤ 140737488351232) {w : World} :
    Calls Try.prog 3 #[.agg #[.int .i64 bpp, .int .i64 kind, .string s, .string t]] w fun e w' => e = .returned (.bool true) ∧ Below w.heap.size w w' := by
  have HA := Lib.hid haw
  clear haw
  obtain ⟨A, hA⟩ : ∃ A, A = strL (doA bpp kind s t) := ⟨_, rfl⟩
  obtain ⟨er, her⟩ : ∃ x, x = wrongF bpp kind s t := ⟨_, rfl⟩
  have HP : Hid (∀ v, Calls Try.prog 10 #[.int .i64 bpp, .int .i64 kind, .string s, .string t] v fun e w' => e = .returned (.tuple #[.string A, .int .i64 er]) ∧ But [] v w') := Lib.hid fun v => by rw [hA, her]; exact pdo_any v bpp kind s t hs ht
  have HE : Hid (∀ v, Calls Try.prog 11 #[.int .i64 bpp, .int .i64 kind, .string s, .string t] v fun e w' => e = .returned (.tuple #[.string A, .int .i64 er]) ∧ But [] v w') := Lib.hid fun v => by rw [hA, her]; exact edo_any v bpp kind s t hs ht
  clear hA her
  have HS : Hid (LnS w w.heap.size bpp kind s t (w.alloc (.cells #[.int .i64 bpp, .int .i64 kind, .string s, .string t] 23))) := Lib.hid ⟨Is.fresh _ _ _, (But.refl [] w).alloc _⟩
  have c0 := HS.out.1.cell 0
  have c1 := HS.out.1.cell 1
  have c2 := HS.out.1.cell 2
  have c3 := HS.out.1.cell 3
  go_enter Try.func3, Try.ntmps3
  go_wp2_with fail
  refine (HP.out _).mono ?_
  rintro e w1 ⟨rfl, hB⟩
  have HS := Lib.hid (HS.out.but hB)
  clear hB
  have c0 := HS.out.1.cell 0
  have c1 := HS.out.1.cell 1
  have c2 := HS.out.1.cell 2
  have c3 := HS.out.1.cell 3
  go_wp2_with fail
  refine (HE.out _).mono ?_
  rintro e w1 ⟨rfl, hB⟩
  have HS := Lib.hid (HS.out.but hB)
  clear hB
  have c0 := HS.out.1.cell 0
  have c1 := HS.out.1.cell 1
  have c2 := HS.out.1.cell 2
  have c3 := HS.out.1.cell 3
  go_wp2_with fail
  refine (HA.out.use _).mono ?_
  rintro e w1 ⟨rfl, hB⟩
  have HS := Lib.hid (HS.out.but hB)
  clear hB
  go_wp2
  go_ret
  exact ⟨rfl, HS.out.2.belowF⟩
set_option maxHeartbeats 1000000 in
theorem filterUndoes_walk (haw : Awk9) {bpp kind : Int} {s t : ByteArray} (hs : s.size ≤ 140737488351232) (ht : t.size ≤ 140737488351232) {w : World} :
    Calls Try.prog 4 #[.agg #[.int .i64 bpp, .int .i64 kind, .string s, .string t]] w fun e w' => e = .returned (.bool true) ∧ Below w.heap.size w w' := by
  have HA := Lib.hid haw
  clear haw
  obtain ⟨A, hA⟩ : ∃ A, A = strL (undoA bpp kind s t) := ⟨_, rfl⟩
  obtain ⟨er, her⟩ : ∃ x, x = wrongF bpp kind s t := ⟨_, rfl⟩
  have HP : Hid (∀ v, Calls Try.prog 13 #[.int .i64 bpp, .int .i64 kind, .string s, .string t] v fun e w' => e = .returned (.tuple #[.string A, .int .i64 er]) ∧ But [] v w') := Lib.hid fun v => by rw [hA, her]; exact pundo_any v bpp kind s t hs ht
  have HE : Hid (∀ v, Calls Try.prog 14 #[.int .i64 bpp, .int .i64 kind, .string s, .string t] v fun e w' => e = .returned (.tuple #[.string A, .int .i64 er]) ∧ But [] v w') := Lib.hid fun v => by rw [hA, her]; exact eundo_any v bpp kind s t hs ht
  clear hA her
  have HS : Hid (LnS w w.heap.size bpp kind s t (w.alloc (.cells #[.int .i64 bpp, .int .i64 kind, .string s, .string t] 23))) := Lib.hid ⟨Is.fresh _ _ _, (But.refl [] w).alloc _⟩
  have c0 := HS.out.1.cell 0
  have c1 := HS.out.1.cell 1
  have c2 := HS.out.1.cell 2
  have c3 := HS.out.1.cell 3
  go_enter Try.func4, Try.ntmps4
  go_wp2_with fail
  refine (HP.out _).mono ?_
  rintro e w1 ⟨rfl, hB⟩
  have HS := Lib.hid (HS.out.but hB)
  clear hB
  have c0 := HS.out.1.cell 0
  have c1 := HS.out.1.cell 1
  have c2 := HS.out.1.cell 2
  have c3 := HS.out.1.cell 3
  go_wp2_with fail
  refine (HE.out _).mono ?_
  rintro e w1 ⟨rfl, hB⟩
  have HS := Lib.hid (HS.out.but hB)
  clear hB
  have c0 := HS.out.1.cell 0
  have c1 := HS.out.1.cell 1
  have c2 := HS.out.1.cell 2
  have c3 := HS.out.1.cell 3
  go_wp2_with fail
  refine (HA.out.use _).mono ?_
  rintro e w1 ⟨rfl, hB⟩
  have HS := Lib.hid (HS.out.but hB)
  clear hB
  go_wp2
  go_ret
  exact ⟨rfl, HS.out.2.belowF⟩
set_option maxHeartbeats 1000000 in
theorem filterPicks_walk (haw : Awk9) {bpp kind : Int} {s t : ByteArray} (hs : s.size ≤ 140737488351232) (ht : t.size ≤ 140737488351232) {w : World} :
    Calls Try.prog 5 #[.agg #[.int .i64 bpp, .int .i64 kind, .string s, .string t]] w fun e w' => e = .returned (.bool true) ∧ Below w.heap.size w w' := by
  have HA := Lib.hid haw
  clear haw
  obtain ⟨A, hA⟩ : ∃ A : Nat, A = pickA bpp s t := ⟨_, rfl⟩
  obtain ⟨er, her⟩ : ∃ x, x = wrongP bpp s t := ⟨_, rfl⟩
  have HP : Hid (∀ v, Calls Try.prog 15 #[.int .i64 bpp, .string s, .string t] v fun e w' => e = .returned (.tuple #[.int .i64 (A : Nat), .int .i64 er]) ∧ But [] v w') := Lib.hid fun v => by rw [hA, her]; exact ppick_any v bpp s t hs ht
  have HE : Hid (∀ v, Calls Try.prog 16 #[.int .i64 bpp, .string s, .string t] v fun e w' => e = .returned (.tuple #[.int .i64 (A : Nat), .int .i64 er]) ∧ But [] v w') := Lib.hid fun v => by rw [hA, her]; exact epick_any v bpp s t hs ht
  clear hA her
  have HS : Hid (LnS w w.heap.size bpp kind s t (w.alloc (.cells #[.int .i64 bpp, .int .i64 kind, .string s, .string t] 23))) := Lib.hid ⟨Is.fresh _ _ _, (But.refl [] w).alloc _⟩
  have c0 := HS.out.1.cell 0
  have c1 := HS.out.1.cell 1
  have c2 := HS.out.1.cell 2
  have c3 := HS.out.1.cell 3
  go_enter Try.func5, Try.ntmps5
  go_wp2_with fail
  refine (HP.out _).mono ?_
  rintro e w1 ⟨rfl, hB⟩
  have HS := Lib.hid (HS.out.but hB)
  clear hB
  have c0 := HS.out.1.cell 0
  have c1 := HS.out.1.cell 1
  have c2 := HS.out.1.cell 2
  have c3 := HS.out.1.cell 3
  go_wp2_with fail
  refine (HE.out _).mono ?_
  rintro e w1 ⟨rfl, hB⟩
  have HS := Lib.hid (HS.out.but hB)
  clear hB
  have c0 := HS.out.1.cell 0
  have c1 := HS.out.1.cell 1
  have c2 := HS.out.1.cell 2
  have c3 := HS.out.1.cell 3
  go_wp2_with fail
  refine (HA.out.use _).mono ?_
  rintro e w1 ⟨rfl, hB⟩
  have HS := Lib.hid (HS.out.but hB)
  clear hB
  go_wp2
  go_ret
  exact ⟨rfl, HS.out.2.belowF⟩
set_option maxHeartbeats 1000000 in
theorem filterBack_walk (haw : Awk9) {bpp kind : Int} {s t : ByteArray} (hs : s.size ≤ 140737488351232) (ht : t.size ≤ 140737488351232) {w : World} :
    Calls Try.prog 6 #[.agg #[.int .i64 bpp, .int .i64 kind, .string s, .string t]] w fun e w' => e = .returned (.bool true) ∧ Below w.heap.size w w' := by
  have HA := Lib.hid haw
  clear haw
  rcases wrongF_cases bpp kind s t with h0 | h1 | h1
  · obtain ⟨A, hA⟩ : ∃ A, A = strL (doA bpp kind s t) := ⟨_, rfl⟩
    obtain ⟨C, hC⟩ : ∃ C, C = strL (undoA bpp kind s t) := ⟨_, rfl⟩
    have hAs : A.size = s.size := by rw [hA]; exact doA_size h0
    have hCs : C.size = s.size := by rw [hC]; exact undoA_size h0
    have HP : Hid (∀ v, Calls Try.prog 10 #[.int .i64 bpp, .int .i64 kind, .string s, .string t] v fun e w' => e = .returned (.tuple #[.string A, .int .i64 0]) ∧ But [] v w') := Lib.hid fun v => by
      have h := pdo_any v bpp kind s t hs ht
      rw [h0, ← hA] at h
      exact h
    have HU : Hid (∀ v, Calls Try.prog 13 #[.int .i64 bpp, .int .i64 kind, .string s, .string t] v fun e w' => e = .returned (.tuple #[.string C, .int .i64 0]) ∧ But [] v w') := Lib.hid fun v => by
      have h := pundo_any v bpp kind s t hs ht
      rw [h0, ← hC] at h
      exact h
    have HB : Hid (∀ v, Calls Try.prog 13 #[.int .i64 bpp, .int .i64 kind, .string A, .string t] v fun e w' => e = .returned (.tuple #[.string s, .int .i64 0]) ∧ But [] v w') := Lib.hid fun v => by
      have h := pundo_any v bpp kind A t (by rw [hAs]; exact hs) ht
      rw [wrongF_size hAs, h0, hA, undo_doA h0] at h
      rw [hA]
      exact h
    have HD : Hid (∀ v, Calls Try.prog 10 #[.int .i64 bpp, .int .i64 kind, .string C, .string t] v fun e w' => e = .returned (.tuple #[.string s, .int .i64 0]) ∧ But [] v w') := Lib.hid fun v => by
      have h := pdo_any v bpp kind C t (by rw [hCs]; exact hs) ht
      rw [wrongF_size hCs, h0, hC, do_undoA h0] at h
      rw [hC]
      exact h
    have HAS := Lib.hid hAs
    clear h0 hA hC hCs
    have HS : Hid (LnS w w.heap.size bpp kind s t (w.alloc (.cells #[.int .i64 bpp, .int .i64 kind, .string s, .string t] 23))) := Lib.hid ⟨Is.fresh _ _ _, (But.refl [] w).alloc _⟩
    have c0 := HS.out.1.cell 0
    have c1 := HS.out.1.cell 1
    have c2 := HS.out.1.cell 2
    have c3 := HS.out.1.cell 3
    go_enter Try.func6, Try.ntmps6
    go_wp2_with fail
    refine (HP.out _).mono ?_
    rintro e w1 ⟨rfl, hB⟩
    have HS := Lib.hid (HS.out.but hB)
    clear hB
    have c0 := HS.out.1.cell 0
    have c1 := HS.out.1.cell 1
    have c2 := HS.out.1.cell 2
    have c3 := HS.out.1.cell 3
    go_wp2_with fail
    refine (HB.out _).mono ?_
    rintro e w1 ⟨rfl, hB⟩
    have HS := Lib.hid (HS.out.but hB)
    clear hB
    have c0 := HS.out.1.cell 0
    have c1 := HS.out.1.cell 1
    have c2 := HS.out.1.cell 2
    have c3 := HS.out.1.cell 3
    go_wp2_with fail
    refine (HU.out _).mono ?_
    rintro e w1 ⟨rfl, hB⟩
    have HS := Lib.hid (HS.out.but hB)
    clear hB
    have c0 := HS.out.1.cell 0
    have c1 := HS.out.1.cell 1
    have c2 := HS.out.1.cell 2
    have c3 := HS.out.1.cell 3
    go_wp2_with fail
    refine (HD.out _).mono ?_
    rintro e w1 ⟨rfl, hB⟩
    have HS := Lib.hid (HS.out.but hB)
    clear hB
    have c0 := HS.out.1.cell 0
    have c1 := HS.out.1.cell 1
    have c2 := HS.out.1.cell 2
    have c3 := HS.out.1.cell 3
    go_wp2_with fail
    refine (HA.out.use _).mono ?_
    rintro e w1 ⟨rfl, hB⟩
    have HS := Lib.hid (HS.out.but hB)
    clear hB
    go_wp2
    go_ret
    exact ⟨rfl, HS.out.2.belowF⟩
  · have h0 : wrongF bpp kind s t ≠ 0 := by rw [h1]; decide
    have HP : Hid (∀ v, Calls Try.prog 10 #[.int .i64 bpp, .int .i64 kind, .string s, .string t] v fun e w' => e = .returned (.tuple #[.string ⟨#[]⟩, .int .i64 1]) ∧ But [] v w') := Lib.hid fun v => by
      have h := pdo_any v bpp kind s t hs ht
      rw [doA_bad h0, h1] at h
      rw [← strL_nilF]
      exact h
    have HU : Hid (∀ v, Calls Try.prog 13 #[.int .i64 bpp, .int .i64 kind, .string s, .string t] v fun e w' => e = .returned (.tuple #[.string ⟨#[]⟩, .int .i64 1]) ∧ But [] v w') := Lib.hid fun v => by
      have h := pundo_any v bpp kind s t hs ht
      rw [undoA_bad h0, h1] at h
      rw [← strL_nilF]
      exact h
    clear h0 h1
    have HS : Hid (LnS w w.heap.size bpp kind s t (w.alloc (.cells #[.int .i64 bpp, .int .i64 kind, .string s, .string t] 23))) := Lib.hid ⟨Is.fresh _ _ _, (But.refl [] w).alloc _⟩
    have c0 := HS.out.1.cell 0
    have c1 := HS.out.1.cell 1
    have c2 := HS.out.1.cell 2
    have c3 := HS.out.1.cell 3
    go_enter Try.func6, Try.ntmps6
    go_wp2_with fail
    refine (HP.out _).mono ?_
    rintro e w1 ⟨rfl, hB⟩
    have HS := Lib.hid (HS.out.but hB)
    clear hB
    have c0 := HS.out.1.cell 0
    have c1 := HS.out.1.cell 1
    have c2 := HS.out.1.cell 2
    have c3 := HS.out.1.cell 3
    go_wp2_with fail
    refine (HU.out _).mono ?_
    rintro e w1 ⟨rfl, hB⟩
    have HS := Lib.hid (HS.out.but hB)
    clear hB
    have c0 := HS.out.1.cell 0
    have c1 := HS.out.1.cell 1
    have c2 := HS.out.1.cell 2
    have c3 := HS.out.1.cell 3
    go_wp2_with fail
    refine (HA.out.use _).mono ?_
    rintro e w1 ⟨rfl, hB⟩
    have HS := Lib.hid (HS.out.but hB)
    clear hB
    go_wp2
    go_ret
    exact ⟨rfl, HS.out.2.belowF⟩
  · have h0 : wrongF bpp kind s t ≠ 0 := by rw [h1]; decide
    have HP : Hid (∀ v, Calls Try.prog 10 #[.int .i64 bpp, .int .i64 kind, .string s, .string t] v fun e w' => e = .returned (.tuple #[.string ⟨#[]⟩, .int .i64 28]) ∧ But [] v w') := Lib.hid fun v => by
      have h := pdo_any v bpp kind s t hs ht
      rw [doA_bad h0, h1] at h
      rw [← strL_nilF]
      exact h
    have HU : Hid (∀ v, Calls Try.prog 13 #[.int .i64 bpp, .int .i64 kind, .string s, .string t] v fun e w' => e = .returned (.tuple #[.string ⟨#[]⟩, .int .i64 28]) ∧ But [] v w') := Lib.hid fun v => by
      have h := pundo_any v bpp kind s t hs ht
      rw [undoA_bad h0, h1] at h
      rw [← strL_nilF]
      exact h
    clear h0 h1
    have HS : Hid (LnS w w.heap.size bpp kind s t (w.alloc (.cells #[.int .i64 bpp, .int .i64 kind, .string s, .string t] 23))) := Lib.hid ⟨Is.fresh _ _ _, (But.refl [] w).alloc _⟩
    have c0 := HS.out.1.cell 0
    have c1 := HS.out.1.cell 1
    have c2 := HS.out.1.cell 2
    have c3 := HS.out.1.cell 3
    go_enter Try.func6, Try.ntmps6
    go_wp2_with fail
    refine (HP.out _).mono ?_
    rintro e w1 ⟨rfl, hB⟩
    have HS := Lib.hid (HS.out.but hB)
    clear hB
    have c0 := HS.out.1.cell 0
    have c1 := HS.out.1.cell 1
    have c2 := HS.out.1.cell 2
    have c3 := HS.out.1.cell 3
    go_wp2_with fail
    refine (HU.out _).mono ?_
    rintro e w1 ⟨rfl, hB⟩
    have HS := Lib.hid (HS.out.but hB)
    clear hB
    have c0 := HS.out.1.cell 0
    have c1 := HS.out.1.cell 1
    have c2 := HS.out.1.cell 2
    have c3 := HS.out.1.cell 3
    go_wp2_with fail
    refine (HA.out.use _).mono ?_
    rintro e w1 ⟨rfl, hB⟩
    have HS := Lib.hid (HS.out.but hB)
    clear hB
    go_wp2
    go_ret
    exact ⟨rfl, HS.out.2.belowF⟩
end Go.Proofs.Ytbhdbekkandbhaa
