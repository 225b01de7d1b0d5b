/- The walks of the statements on samples of a row, and on samples with 16 bits. -/
import Derived.Test.YtfibffcmbnlomaaSbP
set_option maxRecDepth 100000
set_option linter.unusedVariables false
namespace Go.Proofs.Ytfibffcmbnlomaa
set_option maxRecDepth 100000
open Go Go.RowKit
/-- The chapter's examples come out. -/
def Awk11 : Prop := ∀ v : World, Calls Try.prog 14 #[] v fun e w' => e = .returned (.bool true) ∧ But [] v w'
theorem Awk11.use (h : Awk11) (v : World) : Calls Try.prog 14 #[] v fun e w' => e = .returned (.bool true) ∧ But [] v w' := h v
theorem But.belowS {w w' : World} (h : But [] w w') : Below w.heap.size w w' := ⟨h.os, h.tape, h.output, h.size, fun k hk => h.block k hk (by simp)⟩
theorem unpackA_len (s : ByteArray) (d n : Int) : (unpackA s d n).1.length ≤ 4096 := by
  unfold unpackA
  by_cases h : depB d = false ∨ n < 0 ∨ 4096 < n
  · rw [if_pos h]; exact Nat.zero_le _
  · rw [if_neg h]
    split
    · exact Nat.zero_le _
    · rw [unpackT_length]; omega
attribute [local irreducible] unpackA wideA
set_option maxHeartbeats 1000000 in
theorem samplesUnpacks_walk (haw : Awk11) {s : ByteArray} {d n : Int} (hs : s.size ≤ 140737488351232) (hd : (Lit.int .i64 d).wf = true) (hn : (Lit.int .i64 n).wf = true) {w : World} :
    Calls Try.prog 3 #[.string s, .int .i64 d, .int .i64 n] w fun e w' => e = .returned (.bool true) ∧ Below w.heap.size w w' := by
  have HA := Lib.hid haw
  have hb := bounds_i64 hn
  obtain ⟨L, hL⟩ : ∃ L, L = (unpackA s d n).1 := ⟨_, rfl⟩
  obtain ⟨er, her⟩ : ∃ L, L = (unpackA s d n).2 := ⟨_, rfl⟩
  obtain ⟨N, hN⟩ : ∃ N, N = L.length := ⟨_, rfl⟩
  have hN2 : N ≤ 4096 := by rw [hN, hL]; exact unpackA_len s d n
  have HP : Hid (∀ v, Calls Try.prog 11 #[.string s, .int .i64 d, .int .i64 n] v fun e w' => ∃ A cap, e = .returned (.tuple #[.slice A N cap, .int .i64 er]) ∧ Nums w' A N L ∧ N ≤ cap ∧ But [] v w') := Lib.hid fun v => by rw [hN, hL, her]; exact sunpack_any v hs hb
  have HE : Hid (∀ v, Calls Try.prog 12 #[.string s, .int .i64 d, .int .i64 n] v fun e w' => ∃ A cap, e = .returned (.tuple #[.slice A N cap, .int .i64 er]) ∧ Nums w' A N L ∧ N ≤ cap ∧ But [] v w') := Lib.hid fun v => by rw [hN, hL, her]; exact eunpack_any v hs hb
  clear haw hd hn hb hL her hN hs
  go_enter Try.func3, Try.ntmps3
  go_wp2_with fail
  refine (HP.out _).mono ?_
  rintro e w1 ⟨A1, cap1, rfl, hP1, hc1, hB1⟩
  have HP1 := Lib.hid hP1
  have HB1 := Lib.hid hB1
  clear hP1 hB1
  go_wp2_with fail
  refine (HE.out _).mono ?_
  rintro e w2 ⟨A2, cap2, rfl, hP2, hc2, hB2⟩
  have HP2 := Lib.hid hP2
  have HP3 := Lib.hid (HP1.out.but hB2)
  have HB2 := Lib.hid (HB1.out.trans hB2)
  clear hP2 hB2
  go_wp2_with fail
  refine (isame_any _ HP3.out.zs HP2.out.zs (by omega)).mono ?_
  rintro e w3 ⟨rfl, hB3⟩
  have HB3 := Lib.hid (HB2.out.trans hB3)
  clear hB3
  go_wp2_with fail
  refine (HA.out.use _).mono ?_
  rintro e w4 ⟨rfl, hB4⟩
  have HB4 := Lib.hid (HB3.out.trans hB4)
  clear hB4
  go_wp2
  go_ret
  exact ⟨rfl, HB4.out.belowS⟩
set_option maxHeartbeats 1000000 in
theorem samplesWidens_walk (haw : Awk11) {v d : Int} (hv : (Lit.int .i64 v).wf = true) (hd : (Lit.int .i64 d).wf = true) {w : World} :
    Calls Try.prog 5 #[.int .i64 v, .int .i64 d] w fun e w' => e = .returned (.bool true) ∧ Below w.heap.size w w' := by
  have HA := Lib.hid haw
  have hb := bounds_i64 hv
  obtain ⟨R, hR⟩ : ∃ L, L = wideA v d := ⟨_, rfl⟩
  have HP : Hid (∀ W, Calls Try.prog 17 #[.int .i64 v, .int .i64 d] W fun e w' => e = .returned (.int .i64 (R : Nat)) ∧ But [] W w') := Lib.hid fun W => by rw [hR]; exact (swide_any W v d).mono fun _ _ ⟨h1, h2⟩ => ⟨h1, by rw [← h2]; exact But.refl [] _⟩
  have HE : Hid (∀ W, Calls Try.prog 18 #[.int .i64 v, .int .i64 d] W fun e w' => e = .returned (.int .i64 (R : Nat)) ∧ W = w') := Lib.hid fun W => by rw [hR]; exact ewide_any W v d hb
  clear haw hv hd hb hR
  go_enter Try.func5, Try.ntmps5
  go_wp2_with fail
  refine (HP.out _).mono ?_
  rintro e w1 ⟨rfl, hB1⟩
  have HB1 := Lib.hid hB1
  clear hB1
  go_wp2_with fail
  refine (HE.out _).mono ?_
  rintro e w2 ⟨rfl, rfl⟩
  go_wp2_with fail
  refine (HA.out.use _).mono ?_
  rintro e w4 ⟨rfl, hB4⟩
  have HB4 := Lib.hid (HB1.out.trans hB4)
  clear hB4
  go_wp2
  go_ret
  exact ⟨rfl, HB4.out.belowS⟩
end Go.Proofs.Ytfibffcmbnlomaa
