/- The document's order of small lengths, and its lengths of fixed blocks. -/
import Derived.Test.YtobmghjpfkdooaaDoorRdL
namespace Go.Proofs.YtobmghjpfkdooaaDoor
set_option maxRecDepth 100000
open Go Go.RowKit

def ordCells : Array Value := #[.int .i64 16, .int .i64 17, .int .i64 18, .int .i64 0, .int .i64 8, .int .i64 7, .int .i64 9, .int .i64 6, .int .i64 10, .int .i64 5, .int .i64 11, .int .i64 4, .int .i64 12, .int .i64 3, .int .i64 13, .int .i64 2, .int .i64 14, .int .i64 1, .int .i64 15]
theorem order_any (w : World) :
    Calls Tryd.prog 26 #[] w fun e w' => e = .returned (.slice (some ⟨w.heap.size, 0, none⟩) 19 19) ∧ w' = w.alloc (.cells ordCells 3) := by
  go_enter Tryd.func26, Tryd.ntmps26
  go_wp2
  go_ret
  exact ⟨rfl, rfl⟩
theorem fixL_len : fixL.length = 288 := by decide +kernel
theorem fixL_at : ∀ i < 288, fixL.getD i 0 = if i < 144 ∨ 280 ≤ i then 8 else if i < 256 then 9 else 7 := by decide +kernel
theorem take_next {l : List Int} {i : Nat} {x : Int} (h : i < l.length) (hx : l.getD i 0 = x) : l.take (i + 1) = l.take i ++ [x] := by
  rw [List.take_add_one, List.getElem?_eq_getElem h, ← hx, List.getD_eq_getElem?_getD, List.getElem?_eq_getElem h]; rfl
def GotFix (w : World) (e : Ending) (w' : World) : Prop := ∃ A1 A2 c1 c2, e = .returned (.tuple #[.slice (some A1) 288 c1, .slice (some A2) 32 c2]) ∧ Ints w' (some A1) 288 fixL ∧ Ints w' (some A2) 32 fixD ∧ But [] w w' ∧ w.heap.size ≤ A1.block ∧ w.heap.size ≤ A2.block
theorem some_of {w : World} {A : Option Addr} {n : Nat} {l : List Int} (h : Ints w A n l) (h0 : 0 < n) : ∃ a, A = some a := by
  obtain ⟨g, o, e, _⟩ := h.2 h0
  exact ⟨_, e⟩

set_option maxHeartbeats 2000000 in
theorem fixed_any (w : World) : Calls Tryd.prog 14 #[] w (GotFix w) := by
  obtain ⟨i0, hi0, hz0, hz1, hz2⟩ := info_parts info_int
  go_enter Tryd.func14, Tryd.ntmps14
  go_wp2
  go_loopw [2, 4] (fun lv iv wr => ∃ i : Nat, i ≤ 288 ∧ iv = .int .i64 i ∧ OwnI wr w.heap.size lv (fixL.take i) ∧ But [] w wr) (fun _ iv _ => 288 - (intOf iv).toNat)
  case atStart => exact ⟨0, by omega, rfl, OwnI.nil _ _, But.refl _ _⟩
  case round =>
    obtain ⟨i, hi, rfl, hO, hB⟩ := hrel
    have hlen : (fixL.take i).length = i := by rw [List.length_take, fixL_len]; omega
    obtain ⟨A, cA, rfl, hI, _⟩ := hO.open
    rw [hlen] at hO ⊢
    have HI := Lib.hid hI
    have HO := Lib.hid hO
    have HB := Lib.hid hB
    by_cases hlt : i < 288
    · have hat := fixL_at i hlt
      have hox := hO
      unfold OwnI at hox
      rw [hlen] at hox
      have HOX := Lib.hid hox
      have HAT := Lib.hid hat
      have hnx : ∀ x, fixL.getD i 0 = x → fixL.take (i + 1) = fixL.take i ++ [x] := fun x hx => take_next (by rw [fixL_len]; omega) hx
      have hsz := hB.size
      clear hI
      generalize fixL.take i = acc at *
      have HLEN := Lib.hid hlen
      have HNX := Lib.hid hnx
      obtain ⟨wo, rfl⟩ : ∃ wo : World, wo = wr := ⟨_, rfl⟩
      clear hO hB hox hat hlen hnx
      by_cases h1 : i < 144
      · have d1 : decide ((i : Int) < 144) = true := by simp; omega
        have hx : fixL.getD i 0 = 8 := by rw [HAT.out, if_pos (by omega)]
        have HX := Lib.hid hx
        clear hx
        go_wp2_with (at_builtin; go_loud (refine wpList_append_own _ rfl _ _ 48 rfl w.heap.size 3 i0 (.int .i64 0) 1 8 Tryd.underlying48 hi0 hz0 hz1 hz2 rfl (by decide) (.slice A i cA) i (acc.map (.int .i64)) rfl (HOX.out.alloc _) ⟨wo.heap.size, 0, none⟩ 1 1 [.int .i64 (8 : Int)] rfl rfl ?c1 ?c2 ?c3 ?c4 ?c5 ?_))
        case c1 => exact World.news_of_block (cs := #[.int .i64 (8 : Int)]) (t := 3) (fr := (0, 0)) (heap_alloc_new wo _)
        case c2 => simp [Value.oneCell']
        case c3 => unfold maxLen; omega
        case c4 => omega
        case c5 => simp; omega
        intro v' w3 hown hgrow _
        have hp := OwnI.pushed (x := 8) HB.out HO.out (by rw [HLEN.out]; exact hown) hgrow
        have HP := Lib.hid hp
        clear hown hgrow hp
        go_wp2
        go_roundw
        case rel => exact ⟨i + 1, by omega, by go_num, by rw [HNX.out _ HX.out]; exact HP.out.1, HP.out.2⟩
        case measure => simp [intOf]; omega
      · have d1 : decide ((i : Int) < 144) = false := by simp; omega
        by_cases h2 : 280 ≤ i
        · have d2 : decide ((280 : Int) ≤ (i : Int)) = true := by simp; omega
          have hx : fixL.getD i 0 = 8 := by rw [HAT.out, if_pos (by omega)]
          have HX := Lib.hid hx
          clear hx
          go_wp2_with (at_builtin; go_loud (refine wpList_append_own _ rfl _ _ 48 rfl w.heap.size 3 i0 (.int .i64 0) 1 8 Tryd.underlying48 hi0 hz0 hz1 hz2 rfl (by decide) (.slice A i cA) i (acc.map (.int .i64)) rfl (HOX.out.alloc _) ⟨wo.heap.size, 0, none⟩ 1 1 [.int .i64 (8 : Int)] rfl rfl ?c1 ?c2 ?c3 ?c4 ?c5 ?_))
          case c1 => exact World.news_of_block (cs := #[.int .i64 (8 : Int)]) (t := 3) (fr := (0, 0)) (heap_alloc_new wo _)
          case c2 => simp [Value.oneCell']
          case c3 => unfold maxLen; omega
          case c4 => omega
          case c5 => simp; omega
          intro v' w3 hown hgrow _
          have hp := OwnI.pushed (x := 8) HB.out HO.out (by rw [HLEN.out]; exact hown) hgrow
          have HP := Lib.hid hp
          clear hown hgrow hp
          go_wp2
          go_roundw
          case rel => exact ⟨i + 1, by omega, by go_num, by rw [HNX.out _ HX.out]; exact HP.out.1, HP.out.2⟩
          case measure => simp [intOf]; omega
        · have d2 : decide ((280 : Int) ≤ (i : Int)) = false := by simp; omega
          by_cases h3 : i < 256
          · have d3 : decide ((i : Int) < 256) = true := by simp; omega
            have hx : fixL.getD i 0 = 9 := by rw [HAT.out, if_neg (by omega), if_pos (by omega)]
            have HX := Lib.hid hx
            clear hx
            go_wp2_with (at_builtin; go_loud (refine wpList_append_own _ rfl _ _ 48 rfl w.heap.size 3 i0 (.int .i64 0) 1 8 Tryd.underlying48 hi0 hz0 hz1 hz2 rfl (by decide) (.slice A i cA) i (acc.map (.int .i64)) rfl (HOX.out.alloc _) ⟨wo.heap.size, 0, none⟩ 1 1 [.int .i64 (9 : Int)] rfl rfl ?c1 ?c2 ?c3 ?c4 ?c5 ?_))
            case c1 => exact World.news_of_block (cs := #[.int .i64 (9 : Int)]) (t := 3) (fr := (0, 0)) (heap_alloc_new wo _)
            case c2 => simp [Value.oneCell']
            case c3 => unfold maxLen; omega
            case c4 => omega
            case c5 => simp; omega
            intro v' w3 hown hgrow _
            have hp := OwnI.pushed (x := 9) HB.out HO.out (by rw [HLEN.out]; exact hown) hgrow
            have HP := Lib.hid hp
            clear hown hgrow hp
            go_wp2
            go_roundw
            case rel => exact ⟨i + 1, by omega, by go_num, by rw [HNX.out _ HX.out]; exact HP.out.1, HP.out.2⟩
            case measure => simp [intOf]; omega
          · have d3 : decide ((i : Int) < 256) = false := by simp; omega
            have hx : fixL.getD i 0 = 7 := by rw [HAT.out, if_neg (by omega), if_neg (by omega)]
            have HX := Lib.hid hx
            clear hx
            go_wp2_with (at_builtin; go_loud (refine wpList_append_own _ rfl _ _ 48 rfl w.heap.size 3 i0 (.int .i64 0) 1 8 Tryd.underlying48 hi0 hz0 hz1 hz2 rfl (by decide) (.slice A i cA) i (acc.map (.int .i64)) rfl (HOX.out.alloc _) ⟨wo.heap.size, 0, none⟩ 1 1 [.int .i64 (7 : Int)] rfl rfl ?c1 ?c2 ?c3 ?c4 ?c5 ?_))
            case c1 => exact World.news_of_block (cs := #[.int .i64 (7 : Int)]) (t := 3) (fr := (0, 0)) (heap_alloc_new wo _)
            case c2 => simp [Value.oneCell']
            case c3 => unfold maxLen; omega
            case c4 => omega
            case c5 => simp; omega
            intro v' w3 hown hgrow _
            have hp := OwnI.pushed (x := 7) HB.out HO.out (by rw [HLEN.out]; exact hown) hgrow
            have HP := Lib.hid hp
            clear hown hgrow hp
            go_wp2
            go_roundw
            case rel => exact ⟨i + 1, by omega, by go_num, by rw [HNX.out _ HX.out]; exact HP.out.1, HP.out.2⟩
            case measure => simp [intOf]; omega
    · have hi288 : i = 288 := by omega
      have dd : decide ((i : Int) < 288) = false := by simp; omega
      have hI : Ints wr A 288 fixL := by
        have h := HI.out
        rw [show fixL.take i = fixL from List.take_of_length_le (by rw [fixL_len]; omega), fixL_len] at h
        exact h
      have HI288 := Lib.hid hi288
      have HI := Lib.hid hI
      have hlow : ∀ a, A = some a → w.heap.size ≤ a.block := fun a e => by
        subst e
        exact (World.ownsRow.lt hO a.block rfl).1
      have hbz := hB.size
      have HLOW := Lib.hid hlow
      obtain ⟨w1, rfl⟩ : ∃ w1 : World, w1 = wr := ⟨_, rfl⟩
      clear hI hO hB hlen HO hlow hi288 hlt
      go_wp2
      go_loopw [3, 5] (fun lv iv wr => ∃ j : Nat, j ≤ 32 ∧ iv = .int .i64 j ∧ OwnI wr w1.heap.size lv (fixD.take j) ∧ But [] w1 wr) (fun _ iv _ => 32 - (intOf iv).toNat)
      case atStart => exact ⟨0, by omega, rfl, OwnI.nil _ _, But.refl _ _⟩
      case round =>
        obtain ⟨j, hj, rfl, hO, hB2⟩ := hrel
        have hlen : (fixD.take j).length = j := by rw [List.length_take]; show min j 32 = j; omega
        obtain ⟨A2, cA2, rfl, hI2, _⟩ := hO.open
        rw [hlen] at hO ⊢
        rw [hlen] at hI2
        have HI2 := Lib.hid hI2
        have HO := Lib.hid hO
        have HB2 := Lib.hid hB2
        by_cases hlt : j < 32
        · have hox := hO
          unfold OwnI at hox
          rw [hlen] at hox
          have HOX := Lib.hid hox
          have hnx : ∀ x, fixD.getD j 0 = x → fixD.take (j + 1) = fixD.take j ++ [x] := fun x hx => take_next (by show j < 32; omega) hx
          have hsz2 := hB2.size
          clear hI2
          generalize fixD.take j = acc at *
          have HLEN := Lib.hid hlen
          have HNX := Lib.hid hnx
          obtain ⟨wo, rfl⟩ : ∃ wo : World, wo = wr := ⟨_, rfl⟩
          clear hO hB2 hox hlen hnx
          have hx : fixD.getD j 0 = 5 := by
            have : ∀ j < 32, fixD.getD j 0 = 5 := by decide +kernel
            exact this j hlt
          have HX := Lib.hid hx
          clear hx
          go_wp2_with (at_builtin; go_loud (refine wpList_append_own _ rfl _ _ 48 rfl w1.heap.size 3 i0 (.int .i64 0) 1 8 Tryd.underlying48 hi0 hz0 hz1 hz2 rfl (by decide) (.slice A2 j cA2) j (acc.map (.int .i64)) rfl (HOX.out.alloc _) ⟨wo.heap.size, 0, none⟩ 1 1 [.int .i64 (5 : Int)] rfl rfl ?c1 ?c2 ?c3 ?c4 ?c5 ?_))
          case c1 => exact World.news_of_block (cs := #[.int .i64 (5 : Int)]) (t := 3) (fr := (0, 0)) (heap_alloc_new wo _)
          case c2 => simp [Value.oneCell']
          case c3 => unfold maxLen; omega
          case c4 => omega
          case c5 => simp; omega
          intro v' w3 hown hgrow _
          have hp := OwnI.pushed (x := 5) HB2.out HO.out (by rw [HLEN.out]; exact hown) hgrow
          have HP := Lib.hid hp
          clear hown hgrow hp
          go_wp2
          go_roundw
          case rel => exact ⟨j + 1, by omega, by go_num, by rw [HNX.out _ HX.out]; exact HP.out.1, HP.out.2⟩
          case measure => simp [intOf]; omega
        · have hj32 : j = 32 := by omega
          have dj : decide ((j : Int) < 32) = false := by simp; omega
          have hD : Ints wr A2 32 fixD := by
            have h := HI2.out
            rw [show fixD.take j = fixD from List.take_of_length_le (by show 32 ≤ j; omega), hj32] at h
            exact h
          have hL := HI.out.but HB2.out (by simp)
          have hl2 : ∀ a, A2 = some a → w.heap.size ≤ a.block := fun a e => by
            subst e
            have := (World.ownsRow.lt hO a.block rfl).1
            omega
          obtain ⟨a1, rfl⟩ := some_of hL (by omega)
          obtain ⟨a2, rfl⟩ := some_of hD (by omega)
          have HD := Lib.hid hD
          have HL := Lib.hid hL
          have HJ := Lib.hid hj32
          have hz2 := hl2 a2 rfl
          have hz1 := HLOW.out a1 rfl
          clear hl2
          clear hD hL hI2 hO hB2 hlen HO HI HI2 hj32 hlt
          go_wp2
          go_ret2
          exact ⟨a1, a2, _, _, by rw [HI288.out, HJ.out]; rfl, HL.out, HD.out, HB.out.trans HB2.out, hz1, hz2⟩
end Go.Proofs.YtobmghjpfkdooaaDoor
