/- The laws of layer 14: their walks. -/
import Derived.Test.YtgemmidkfeebfaaDoorHaR
set_option maxRecDepth 100000
set_option linter.unusedVariables false
namespace Go.Proofs.YtgemmidkfeebfaaDoor
set_option maxRecDepth 100000
open Go Go.RowKit
theorem but_belowH {w w' : World} (h : But [] w w') : Below w.heap.size w w' := ⟨h.os, h.tape, h.output, h.size, fun k hk => h.block k hk (by simp)⟩
theorem strL_ofH (s : ByteArray) : strL s.data.toList = s := strL_of s
theorem strL_toListH (l : List UInt8) : (strL l).toList = l := by rw [ByteArray.toList_eq]; exact strL_list l
theorem psum_str (w : World) (s : ByteArray) (hs : s.size ≤ 100000000) (hG : GK w) : Calls Tryd.prog 7 #[.string s] w fun e w' => e = .returned (.string (strL (shaT s.data.toList))) ∧ But [] w w' := by
  have h := psum_any w (l := s.data.toList) (by rw [Array.length_toList]; exact hs) hG
  rw [strL_ofH] at h
  exact h
theorem phex_list (w : World) (l : List UInt8) (hs : l.length ≤ 1000000000) : Calls Tryd.prog 10 #[.string (strL l)] w fun e w' => e = .returned (.string (strL (hexL l))) ∧ But [] w w' := by
  have h := phex_any w (strL l) (by rw [strL_size]; exact hs)
  rw [show (strL l).data.toList = l from strL_list l] at h
  exact h
theorem awake14_any (w : World) (hG : GK w) : Calls Tryd.prog 9 #[] w fun e w' => e = .returned (.bool true) ∧ But [] w w' := by
  have HG := Lib.hid hG
  have HS0 : Hid (∀ W, GK W → Calls Tryd.prog 7 #[.string { data := #[] }] W fun e w' => e = .returned (.string (strL (shaT []))) ∧ But [] W w') := Lib.hid fun W hG => psum_str W ⟨#[]⟩ (by decide) hG
  have HS1 : Hid (∀ W, GK W → Calls Tryd.prog 7 #[.string { data := #[97, 98, 99] }] W fun e w' => e = .returned (.string (strL (shaT [97, 98, 99]))) ∧ But [] W w') := Lib.hid fun W hG => psum_str W ⟨#[97, 98, 99]⟩ (by decide) hG
  have HH0 := Lib.hid fun W => phex_list W (shaT []) (by rw [shaT_length]; decide)
  have HH1 := Lib.hid fun W => phex_list W (shaT [97, 98, 99]) (by rw [shaT_length]; decide)
  have t0 := strL_toListH (hexL (shaT []))
  have t1 := strL_toListH (hexL (shaT [97, 98, 99]))
  rw [sha_none] at HH0 t0
  rw [sha_abc] at HH1 t1
  obtain ⟨A, hA⟩ : ∃ A, A = strL (shaT []) := ⟨_, rfl⟩
  obtain ⟨B, hB⟩ : ∃ A, A = strL (shaT [97, 98, 99]) := ⟨_, rfl⟩
  rw [← hA] at HS0 HH0
  rw [← hB] at HS1 HH1
  clear hA hB hG
  go_enter Tryd.func9, Tryd.ntmps9
  go_wp2_with fail
  refine (HS0.out _ HG.out).mono ?_
  rintro e w1 ⟨rfl, hB1⟩
  have HB1 := Lib.hid hB1
  clear hB1
  go_wp2_with fail
  refine (HH0.out _).mono ?_
  rintro e w2 ⟨rfl, hB2⟩
  have HB2 := Lib.hid (HB1.out.trans hB2)
  clear hB2 HB1
  go_wp2_with fail
  refine (HS1.out _ (HG.out.but HB2.out)).mono ?_
  rintro e w3 ⟨rfl, hB3⟩
  have HB3 := Lib.hid (HB2.out.trans hB3)
  clear hB3 HB2
  go_wp2_with fail
  refine (HH1.out _).mono ?_
  rintro e w4 ⟨rfl, hB4⟩
  have HB4 := Lib.hid (HB3.out.trans hB4)
  clear hB4 HB3
  go_wp2
  go_ret
  exact ⟨rfl, HB4.out⟩
theorem shaSums_walk {s : ByteArray} {w : World} (hs : s.size ≤ 140737488351232) (hG : GK w) : Calls Tryd.prog 3 #[.string s] w fun e w' => e = .returned (.bool true) ∧ Below w.heap.size w w' := by
  have HG := Lib.hid hG
  have HA := Lib.hid fun W hG => awake14_any W hG
  by_cases hb : 100000 < s.size
  · have h1 : (100000 : Int) < (s.size : Int) := by omega
    clear hG
    go_enter Tryd.func3, Tryd.ntmps3
    go_wp2_with fail
    refine (HA.out _ HG.out).mono ?_
    rintro e w1 ⟨rfl, hB1⟩
    have HB1 := Lib.hid hB1
    clear hB1
    go_wp2
    go_ret
    exact ⟨rfl, but_belowH HB1.out⟩
  · have h1 : ¬ (100000 : Int) < (s.size : Int) := by omega
    have HS0 := Lib.hid fun W hG => psum_str W s (by omega) hG
    have HS1 := Lib.hid fun W => esum_any W s (by omega)
    obtain ⟨A, hA⟩ : ∃ A, A = strL (shaT s.data.toList) := ⟨_, rfl⟩
    rw [← hA] at HS0 HS1
    clear hA hG hb
    go_enter Tryd.func3, Tryd.ntmps3
    go_wp2_with fail
    refine (HS0.out _ HG.out).mono ?_
    rintro e w1 ⟨rfl, hB1⟩
    have HB1 := Lib.hid hB1
    clear hB1
    go_wp2_with fail
    refine (HS1.out _).mono ?_
    rintro e w2 ⟨rfl, hB2⟩
    have HB2 := Lib.hid (HB1.out.trans hB2)
    clear hB2 HB1
    go_wp2_with fail
    refine (HA.out _ (HG.out.but HB2.out)).mono ?_
    rintro e w3 ⟨rfl, hB3⟩
    have HB3 := Lib.hid (HB2.out.trans hB3)
    clear hB3 HB2
    go_wp2
    go_ret
    exact ⟨rfl, but_belowH HB3.out⟩
theorem shaHex_walk {s : ByteArray} {w : World} (hs : s.size ≤ 1000000000) (hG : GK w) : Calls Tryd.prog 4 #[.string s] w fun e w' => e = .returned (.bool true) ∧ Below w.heap.size w w' := by
  have HG := Lib.hid hG
  have HA := Lib.hid fun W hG => awake14_any W hG
  have HS0 := Lib.hid fun W => phex_any W s hs
  have HS1 := Lib.hid fun W => ehex_any W s hs
  obtain ⟨A, hA⟩ : ∃ A, A = strL (hexL s.data.toList) := ⟨_, rfl⟩
  rw [← hA] at HS0 HS1
  clear hA hG
  go_enter Tryd.func4, Tryd.ntmps4
  go_wp2_with fail
  refine (HS0.out _).mono ?_
  rintro e w1 ⟨rfl, hB1⟩
  have HB1 := Lib.hid hB1
  clear hB1
  go_wp2_with fail
  refine (HS1.out _).mono ?_
  rintro e w2 ⟨rfl, hB2⟩
  have HB2 := Lib.hid (HB1.out.trans hB2)
  clear hB2 HB1
  go_wp2_with fail
  refine (HA.out _ (HG.out.but HB2.out)).mono ?_
  rintro e w3 ⟨rfl, hB3⟩
  have HB3 := Lib.hid (HB2.out.trans hB3)
  clear hB3 HB2
  go_wp2
  go_ret
  exact ⟨rfl, but_belowH HB3.out⟩
end Go.Proofs.YtgemmidkfeebfaaDoor
