/- Lists of numbers one behind the other: slices.Concat. -/
import Derived.Test.YtobmghjpfkdooaaDoorRep
import Derived.Test.YtobmghjpfkdooaaDoorLawD
import Derived.Lib.AppendZeros
namespace Go.Proofs.YtobmghjpfkdooaaDoor
set_option maxRecDepth 100000
open Go Go.RowKit

theorem zero_size (n : Nat) : (Builtin.zeroCells #[Value.int .i64 0] n).size = n := by simp [Builtin.zeroCells]
theorem grown_own (w : World) (n cap : Nat) (hn : n ≤ cap) (hc : cap ≤ maxLen) (fz : Nat × Nat) (hfz : fz = (0, 0)) :
    (w.drew.alloc (.cells (Builtin.zeroCells #[Value.int .i64 0] n ++ Builtin.zeroCells #[Value.int .i64 0] (cap - n)) 3 fz)).ownsRow w.heap.size 3 1 (.slice (some ⟨w.heap.size, 0, none⟩) 0 cap) 0 [] := by
  subst hfz
  refine ⟨rfl, .inr ⟨w.heap.size, cap, _, rfl, Nat.le_refl _, Is.fresh w.drew 3 _, Nat.zero_le _, hc, ?_, ?_⟩⟩
  · rw [Array.size_append, zero_size, zero_size]; omega
  · simp
theorem grow_nil {n : Nat} (w : World) (h0 : 0 < n) (hn : n ≤ 100000) :
    Calls Tryd.prog 49 #[.slice none 0 0, .int .i64 n] w fun e w' => ∃ c, e = .returned (.slice (some ⟨w.heap.size, 0, none⟩) 0 c) ∧ w'.ownsRow w.heap.size 3 1 (.slice (some ⟨w.heap.size, 0, none⟩) 0 c) 0 [] ∧ But [] w w' := by
  obtain ⟨i0, hi0, hz0, hz1, hz2⟩ := info_parts info_int
  have hr := fun ty => Lib.run_append_nil_zeros (P := Tryd.prog) w 48 3 ty 3 i0 _ .i64 .i64 Tryd.underlying48 Tryd.underlying3 hi0 hz0 n h0 (by omega) (by omega) (by rw [hz2]; omega)
  have hc := grownCap_ge w n 0 3
  have hc2 := grownCap_le_maxLen w n 0 3 (by unfold maxLen; omega)
  have hown := grown_own w n (grownCap w n 0 3) hc hc2 (0, 0) rfl
  have HR := Lib.hid hr
  have HOWN := Lib.hid hown
  obtain ⟨G, hG⟩ : ∃ G, G = grownCap w n 0 3 := ⟨_, rfl⟩
  have hc3 : G ≤ 9223372036854775807 := by unfold maxLen at hc2; omega
  have HGG := Lib.hid hG
  clear hr hown hc hc2 hG
  go_enter Tryd.func49, Tryd.ntmps49
  go_wp2_with (at_builtin; refine Lib.wpList_append_run _ rfl _ _ _ _ rfl _ _ rfl rfl _ _ (HR.out _) ?_)
  go_ret
  exact ⟨_, rfl, HOWN.out.drew, ((But.refl [] w).alloc _).drew⟩

/-- Slices of numbers side by side. -/
def Heads (w : World) (g : Nat) (vs : List Value) (ls : List (List Int)) : Prop :=
  vs.length = ls.length ∧ ∀ i, i < ls.length → w.cell? ⟨g, i, none⟩ = some (vs.getD i (.pointer none)) ∧ ∃ A c, vs.getD i (.pointer none) = .slice (some A) (ls.getD i []).length c ∧ Ints w (some A) (ls.getD i []).length (ls.getD i []) ∧ 0 < (ls.getD i []).length
theorem flat_take (ls : List (List Int)) (k : Nat) (h : k < ls.length) : (ls.take (k + 1)).flatten = (ls.take k).flatten ++ ls.getD k [] := by
  rw [List.take_succ_eq_append_getElem h, List.flatten_append, List.getD_eq_getElem?_getD, List.getElem?_eq_getElem h]; simp
theorem flat_le (ls : List (List Int)) (k : Nat) : (ls.take k).flatten.length ≤ ls.flatten.length := by
  have h : ls.flatten = (ls.take k).flatten ++ (ls.drop k).flatten := by rw [← List.flatten_append, List.take_append_drop]
  rw [h, List.length_append]; omega
attribute [local irreducible] Heads

set_option maxHeartbeats 1000000 in
theorem concat_any {w : World} {g c : Nat} {vs : List Value} {ls : List (List Int)} (hH : Heads w g vs ls) (h0 : 0 < ls.flatten.length) (hn : ls.flatten.length ≤ 100000) (hl : ls.length ≤ 1000) :
    Calls Tryd.prog 40 #[.slice (some ⟨g, 0, none⟩) ls.length c] w fun e w' => ∃ v, e = .returned v ∧ OwnI w' w.heap.size v ls.flatten ∧ But [] w w' := by
  obtain ⟨i0, hi0, hz0, hz1, hz2⟩ := info_parts info_int
  have HH := Lib.hid hH
  obtain ⟨N, hN⟩ : ∃ N, N = ls.length := ⟨_, rfl⟩
  rw [← hN] at hl ⊢
  have HN := Lib.hid hN
  have h00 : (ls.take 0).flatten.length = 0 := by simp
  have H00 := Lib.hid h00
  have HT := Lib.hid hn
  have HT0 := Lib.hid h0
  clear hH hN h00 h0 hn
  go_enter Tryd.func40, Tryd.ntmps40
  go_wp2
  go_loop [3, 5, 11] (fun sv _ iv => ∃ (k m : Nat), k ≤ N ∧ iv = .int .i64 k ∧ sv = .int .i64 m ∧ Hid (m = (ls.take k).flatten.length) ∧ m ≤ 100000) (fun _ _ iv => N - (intOf iv).toNat)
  case atStart => exact ⟨0, 0, Nat.zero_le _, rfl, rfl, by rfl, by omega⟩
  case round =>
    obtain ⟨k, m, hk, rfl, rfl, HM, hm⟩ := hrel
    by_cases hlt : k < N
    · have hh := HH.out
      unfold Heads at hh
      obtain ⟨hc, A, cc, hv, hI, hp⟩ := hh.2 k (by have := HN.out; omega)
      rw [hv] at hc
      have hf := flat_take ls k (by have := HN.out; omega)
      have hle := flat_le ls (k + 1)
      obtain ⟨L, hL⟩ : ∃ L, L = (ls.getD k []).length := ⟨_, rfl⟩
      have hmL : m + L = (ls.take (k + 1)).flatten.length := by rw [hf, List.length_append, HM.out, hL]
      have hmb : m + L ≤ 100000 := by have := HT.out; omega
      rw [← hL] at hc
      have HML := Lib.hid hmL
      have b1 : decide ((m : Int) + (L : Int) < 0) = false := by simp; omega
      clear hh hv hI hp hf hle hL hmL HM
      go_wp2
      go_round
      case rel => exact ⟨k + 1, m + L, by omega, by go_num, by go_num, HML.out, hmb⟩
      case measure => simp [intOf]; omega
    · obtain rfl : k = N := by omega
      have hall : m = ls.flatten.length := by rw [HM.out, HN.out, List.take_length]
      have h0 : 0 < m := by have := HT0.out; omega
      have hgr := grow_nil w h0 hm
      have HGR := Lib.hid hgr
      clear hgr hall HM
      go_wp2_with fail
      refine HGR.out.mono ?_
      rintro e w1 ⟨cg, rfl, hown, hB1⟩
      have HO := Lib.hid hown
      have HB1 := Lib.hid hB1
      clear hown hB1 HGR
      go_wp2
      go_loopw [6, 8, 27] (fun v _ iv wr => ∃ j : Nat, j ≤ k ∧ iv = .int .i64 j ∧ OwnI wr w.heap.size v (ls.take j).flatten ∧ But [] w wr) (fun _ _ iv _ => k - (intOf iv).toNat)
      case atStart => exact ⟨0, Nat.zero_le _, rfl, by unfold OwnI; exact HO.out, HB1.out⟩
      case round =>
        obtain ⟨j, hj, rfl, hOw, hBr⟩ := hrel
        have HOW := Lib.hid hOw
        have HBR := Lib.hid hBr
        clear hOw hBr HO HB1
        by_cases hlt2 : j < k
        · have hh := HH.out
          unfold Heads at hh
          obtain ⟨hc, A, cc, hv, hI, hp⟩ := hh.2 j (by have := HN.out; omega)
          rw [hv] at hc
          have hc2 := HBR.out.cell hc (by simp)
          have hI2 := hI.but HBR.out (by simp)
          have hf := flat_take ls j (by have := HN.out; omega)
          have hle := flat_le ls (j + 1)
          rw [hf, List.length_append] at hle
          obtain ⟨X, hX⟩ : ∃ X, X = ls.getD j [] := ⟨_, rfl⟩
          obtain ⟨Y, hY⟩ : ∃ Y, Y = (ls.take j).flatten := ⟨_, rfl⟩
          rw [← hX] at hc2 hI2 hf hp hle
          rw [← hY] at hf hle HOW
          obtain ⟨gA, oA, eA, _⟩ := hI2.2 hp
          obtain rfl : A = ⟨gA, oA, none⟩ := by injection eA
          have hnw := hI2.news hp
          have hsz := HBR.out.size
          obtain ⟨LX, hLX⟩ : ∃ LX, LX = X.length := ⟨_, rfl⟩
          obtain ⟨LY, hLY⟩ : ∃ LY, LY = Y.length := ⟨_, rfl⟩
          have hLL : LY + LX ≤ 100000 := by have := HT.out; omega
          rw [← hLX] at hc2
          have HF := Lib.hid hf
          have HNW := Lib.hid hnw
          have HLX := Lib.hid hLX.symm
          have HLY := Lib.hid hLY.symm
          have ho := HOW.out
          unfold OwnI at ho
          rw [← hLY] at ho
          have HOX := Lib.hid ho
          clear hh hc hv hI hp hI2 hf hle hX hY hnw eA HOW hLX hLY ho
          go_wp2_with (at_builtin; go_loud (refine wpList_append_own _ rfl _ _ 48 rfl w.heap.size 3 i0 (.int .i64 0) 1 8 Tryd.underlying48 hi0 hz0 hz1 hz2 rfl (by decide) _ LY (Y.map (.int .i64)) rfl HOX.out ⟨gA, oA, none⟩ LX cc (X.map (.int .i64)) rfl (by simp; exact HLX.out) HNW.out ?c2 ?c3 ?c4 hsz ?_))
          case c2 => intro u hu; obtain ⟨x, _, rfl⟩ := List.mem_map.1 hu; rfl
          case c3 => unfold maxLen; omega
          case c4 => omega
          intro v' w2 hown hgrow _
          have hO2 : OwnI w2 w.heap.size v' (Y ++ X) := by
            unfold OwnI
            rw [List.length_append, HLX.out, HLY.out, List.map_append]
            exact hown
          have hB2 := HBR.out.grown hgrow (fun g e => .inr (World.ownsRow.lt HOX.out g e).1)
          have HO2 := Lib.hid hO2
          have HB2 := Lib.hid hB2
          clear hown hgrow hO2 hB2
          go_wp2
          go_roundw
          case rel => exact ⟨j + 1, by omega, by go_num, by rw [HF.out]; exact HO2.out, HB2.out⟩
          case measure => simp [intOf]; omega
        · obtain rfl : j = k := by omega
          have ho := HOW.out
          rw [HN.out, List.take_length] at ho
          have HOX := Lib.hid ho
          clear ho
          go_wp2
          go_ret
          exact ⟨_, rfl, HOX.out, HBR.out⟩
end Go.Proofs.YtobmghjpfkdooaaDoor
