/- Bytes in words: the document's and the program's. -/
import Derived.Test.YtgemmidkfeebfaaDoorHaB
set_option maxRecDepth 100000
set_option linter.unusedVariables false
namespace Go.Proofs.YtgemmidkfeebfaaDoor
set_option maxRecDepth 100000
open Go Go.RowKit
theorem hex0 {s : ByteArray} (w : World) : Hid (OwnF w w.heap.size (.slice none 0 0) (hexL (s.data.toList.take 0))) := Lib.hid (OwnF.nil _ _)
theorem hex0m {s : ByteArray} {w : World} {base : Nat} {v : Value} (h : w.ownsRow base 5 1 v 0 []) : Hid (OwnF w base v (hexL (s.data.toList.take 0))) := Lib.hid h
attribute [local irreducible] hexL digitB
set_option maxHeartbeats 1000000 in
theorem ehex_any (w : World) (s : ByteArray) (hs : s.size ≤ 1000000000) :
    Calls Tryd.prog 11 #[.string s] w fun e w' => e = .returned (.string (strL (hexL s.data.toList))) ∧ But [] w w' := by
  go_enter Tryd.func11, Tryd.ntmps11
  go_wp2
  go_loopw [3, 4] (fun rv iv wr => ∃ i : Nat, i ≤ s.size ∧ iv = .int .i64 i ∧ (∃ A c, rv = .slice A (2 * i) c) ∧ Hid (OwnF wr w.heap.size rv (hexL (s.data.toList.take i))) ∧ Hid (But [] w wr)) (fun _ iv _ => s.size - (intOf iv).toNat)
  case atStart => exact ⟨0, Nat.zero_le _, rfl, ⟨none, 0, rfl⟩, hex0 w, Lib.hid (But.refl [] _)⟩
  case round =>
    obtain ⟨i, hi, rfl, ⟨A, c, rfl⟩, HO, HB⟩ := hrel
    by_cases hlt : i < s.size
    · have kx : ∀ w, (Instr.index 9 (.string s) (.int .i64 (i : Int))).run Tryd.prog w = .ok (.int .u8 (s[i].toNat : Nat)) w := fun w => byteR_run hlt w
      obtain ⟨x, hx⟩ : ∃ x, x = s[i].toNat := ⟨_, rfl⟩
      have hxl : x < 256 := by rw [hx]; exact s[i].toNat_lt
      simp only [← hx] at kx
      obtain ⟨h, hh⟩ : ∃ h, h = x / 16 := ⟨_, rfl⟩
      obtain ⟨l, hl⟩ : ∃ l, l = x % 16 := ⟨_, rfl⟩
      have hh16 : h < 16 := by omega
      have hl16 : l < 16 := by omega
      have HN : Hid (hexL (s.data.toList.take i) ++ [digitB h, digitB l] = hexL (s.data.toList.take (i + 1))) := Lib.hid (by rw [hh, hl, hx]; exact hexL_take hlt)
      have HL : Hid ((hexL (s.data.toList.take i)).length = 2 * i) := Lib.hid (by rw [hexL_length, List.length_take, Array.length_toList]; show 2 * min i s.size = _; omega)
      have q1 : (x : Int) / 16 = (h : Int) := by omega
      have q2 : (x : Int) % 16 = (l : Int) := by omega
      have q3 : (x : Int).tdiv 16 = (h : Int) := by rw [Int.tdiv_eq_ediv_of_nonneg (by omega)]; omega
      have q4 : (x : Int).tmod 16 = (l : Int) := by rw [Int.tmod_eq_emod_of_nonneg (by omega)]; omega
      have k1 := fun w => digit_runU hh16 w
      have k2 := fun w => digit_runU hl16 w
      have u1 : IntKind.u8.wrap (h : Int) = (h : Int) := wrapY_in (by omega)
      have u2 : IntKind.u8.wrap (l : Int) = (l : Int) := wrapY_in (by omega)
      obtain ⟨d1, hd1⟩ : ∃ d, d = digitB h := ⟨_, rfl⟩
      obtain ⟨d2, hd2⟩ : ∃ d, d = digitB l := ⟨_, rfl⟩
      rw [← hd1, ← hd2] at HN
      simp only [← hd1] at k1
      simp only [← hd2] at k2
      clear hx hh hl hd1 hd2
      go_upto_region 5 with (fail)
      go_region_law (refine step_append_h (w0 := w) _ rfl _ _ rfl (.slice A (2 * i) c) (2 * i) (hexL (s.data.toList.take i)) (by rfl) HL.out (HO.out.but (((But.refl [] wr).alloc _).drew)) ((HB.out.alloc _).drew) [d1, d2] (m := 2) rfl (by rfl) (Is.fresh _ _ _) (by decide) (by omega) ?_; intro A2 c2 w2 HO2 HB2)
      all_goals
        rw [HN.out] at HO2
        go_wp2
        go_roundw
        case rel => exact ⟨i + 1, by omega, by go_num, ⟨A2, c2, by rw [show 2 * (i + 1) = 2 * i + 2 by omega]⟩, HO2, HB2⟩
        case measure => simp [intOf] <;> omega
    · obtain rfl : i = s.size := by omega
      have ht := HO.out.text
      rw [show s.data.toList.take s.size = s.data.toList from take_all s] at ht
      go_wp2
      go_ret
      exact ⟨rfl, HB.out⟩
set_option maxHeartbeats 1000000 in
theorem phex_any (w : World) (s : ByteArray) (hs : s.size ≤ 1000000000) :
    Calls Tryd.prog 10 #[.string s] w fun e w' => e = .returned (.string (strL (hexL s.data.toList))) ∧ But [] w w' := by
  obtain ⟨i0, hi0, hz0, hz1, hz2⟩ := info_parts info_u8F
  go_enter Tryd.func10, Tryd.ntmps10
  go_wp2_with (at_make; refine wpList_make_own _ rfl _ _ 26 rfl w.heap.size 5 i0 _ 1 Tryd.underlying26 hi0 hz0 hz1 _ _ _ (2 * s.size) rfl rfl (by go_num) (by rw [hz2]; omega) (by unfold maxLen; omega) (by simp) ?_; intro w1 hown hgrow)
  have HO1 := hex0m (s := s) hown
  have HB1 : Hid (But [] w w1) := Lib.hid ((But.refl [] w).grown hgrow (by simp))
  clear hown hgrow
  go_loopw [3, 4, 11] (fun rv _ iv wr => ∃ i : Nat, i ≤ s.size ∧ iv = .int .i64 i ∧ (∃ A c, rv = .slice A (2 * i) c) ∧ Hid (OwnF wr w.heap.size rv (hexL (s.data.toList.take i))) ∧ Hid (But [] w wr)) (fun _ _ iv _ => s.size - (intOf iv).toNat)
  case atStart => exact ⟨0, Nat.zero_le _, rfl, ⟨_, _, rfl⟩, HO1, HB1⟩
  case round =>
    obtain ⟨i, hi, rfl, ⟨A, c, rfl⟩, HO, HB⟩ := hrel
    by_cases hlt : i < s.size
    · have kx : ∀ w, (Instr.index 9 (.string s) (.int .i64 (i : Int))).run Tryd.prog w = .ok (.int .u8 (s[i].toNat : Nat)) w := fun w => byteR_run hlt w
      obtain ⟨x, hx⟩ : ∃ x, x = s[i].toNat := ⟨_, rfl⟩
      have hxl : x < 256 := by rw [hx]; exact s[i].toNat_lt
      simp only [← hx] at kx
      obtain ⟨h, hh⟩ : ∃ h, h = x / 16 := ⟨_, rfl⟩
      obtain ⟨l, hl⟩ : ∃ l, l = x % 16 := ⟨_, rfl⟩
      have hh16 : h < 16 := by omega
      have hl16 : l < 16 := by omega
      have HN : Hid (hexL (s.data.toList.take i) ++ [digitB h, digitB l] = hexL (s.data.toList.take (i + 1))) := Lib.hid (by rw [hh, hl, hx]; exact hexL_take hlt)
      have HL : Hid ((hexL (s.data.toList.take i)).length = 2 * i) := Lib.hid (by rw [hexL_length, List.length_take, Array.length_toList]; show 2 * min i s.size = _; omega)
      have q1 : (x : Int) / 16 = (h : Int) := by omega
      have q2 : (x : Int) % 16 = (l : Int) := by omega
      have q3 : (x : Int).tdiv 16 = (h : Int) := by rw [Int.tdiv_eq_ediv_of_nonneg (by omega)]; omega
      have q4 : (x : Int).tmod 16 = (l : Int) := by rw [Int.tmod_eq_emod_of_nonneg (by omega)]; omega
      have k1 := fun w => digit_runU hh16 w
      have k2 := fun w => digit_runU hl16 w
      have u1 : IntKind.u8.wrap (h : Int) = (h : Int) := wrapY_in (by omega)
      have u2 : IntKind.u8.wrap (l : Int) = (l : Int) := wrapY_in (by omega)
      obtain ⟨d1, hd1⟩ : ∃ d, d = digitB h := ⟨_, rfl⟩
      obtain ⟨d2, hd2⟩ : ∃ d, d = digitB l := ⟨_, rfl⟩
      rw [← hd1, ← hd2] at HN
      simp only [← hd1] at k1
      simp only [← hd2] at k2
      clear hx hh hl hd1 hd2
      go_upto_region 5 with (fail)
      go_region_law (refine step_append_h (w0 := w) _ rfl _ _ rfl (.slice A (2 * i) c) (2 * i) (hexL (s.data.toList.take i)) (by rfl) HL.out (HO.out.but (((But.refl [] wr).alloc _).drew)) ((HB.out.alloc _).drew) [d1, d2] (m := 2) rfl (by rfl) (Is.fresh _ _ _) (by decide) (by omega) ?_; intro A2 c2 w2 HO2 HB2)
      all_goals
        rw [HN.out] at HO2
        go_wp2
        go_roundw
        case rel => exact ⟨i + 1, by omega, by go_num, ⟨A2, c2, by rw [show 2 * (i + 1) = 2 * i + 2 by omega]⟩, HO2, HB2⟩
        case measure => simp [intOf] <;> omega
    · obtain rfl : i = s.size := by omega
      have ht := HO.out.text
      rw [show s.data.toList.take s.size = s.data.toList from take_all s] at ht
      go_wp2
      go_ret
      exact ⟨rfl, HB.out⟩
end Go.Proofs.YtgemmidkfeebfaaDoor
