/- The document's small functions: the order of small lengths, least lengths and distances. -/
import Derived.Test.YtobmghjpfkdooaaDoorInfPr
import Derived.BigQuiet
namespace Go.Proofs.YtobmghjpfkdooaaDoor
set_option maxRecDepth 100000
open Go Go.RowKit

theorem ret_one {a b : Int} (h : a = b) : Ending.returned (.int .i64 a) = .returned (.int .i64 b) := by rw [h]
theorem lengthBits_any {w : World} (t : Nat) (ht : t ≤ 100000) :
    Calls Tryd.prog 37 #[.int .i64 t] w fun e w' => e = .returned (.int .i64 (lenBits t : Nat)) ∧ w = w' := by
  by_cases h1 : t < 265
  · have d1 : decide ((t : Int) < 265) = true := by simp; omega
    have hr : lenBits t = 0 := if_pos (.inl h1)
    have HR := Lib.hid hr
    clear hr h1
    go_enter Tryd.func37, Tryd.ntmps37
    go_wp2
    go_ret
    exact ⟨by rw [HR.out]; rfl, rfl⟩
  · have d1 : decide ((t : Int) < 265) = false := by simp; omega
    by_cases h2 : t = 285
    · subst h2
      have hr : lenBits 285 = 0 := if_pos (.inr rfl)
      have HR := Lib.hid hr
      clear hr h1
      go_enter Tryd.func37, Tryd.ntmps37
      go_wp2
      go_ret
      exact ⟨by rw [HR.out]; rfl, rfl⟩
    · have d2 : ((t : Int) == 285) = false := by simp; omega
      have hr : lenBits t = (t - 261) / 4 := if_neg (by omega)
      obtain ⟨m, hm⟩ : ∃ m, m = t - 261 := ⟨_, rfl⟩
      rw [← hm] at hr
      have e1 : wrap64 ((t : Int) - 261) = (m : Int) := by rw [IntWalk.wrap64_in _ ⟨by omega, by omega⟩]; omega
      have HR := Lib.hid hr
      have HM := Lib.hid (show m = t - 261 ∧ 265 ≤ t from ⟨hm, by omega⟩)
      clear hr h1 h2 hm
      go_enter Tryd.func37, Tryd.ntmps37
      go_wp2
      go_ret
      exact ⟨ret_one (by rw [HR.out, Int.tdiv_eq_ediv_of_nonneg (by have := HM.out; omega)]; have := HM.out; omega), rfl⟩
theorem distanceBits_any {w : World} (t : Nat) (ht : t ≤ 100000) :
    Calls Tryd.prog 38 #[.int .i64 t] w fun e w' => e = .returned (.int .i64 (dstBits t : Nat)) ∧ w = w' := by
  by_cases h1 : t < 4
  · have d1 : decide ((t : Int) < 4) = true := by simp; omega
    have hr : dstBits t = 0 := if_pos h1
    have HR := Lib.hid hr
    clear hr h1
    go_enter Tryd.func38, Tryd.ntmps38
    go_wp2
    go_ret
    exact ⟨by rw [HR.out]; rfl, rfl⟩
  · have d1 : decide ((t : Int) < 4) = false := by simp; omega
    have hr : dstBits t = t / 2 - 1 := if_neg h1
    have HR := Lib.hid hr
    have H1 := Lib.hid h1
    clear hr h1
    go_enter Tryd.func38, Tryd.ntmps38
    go_wp2
    go_ret
    exact ⟨ret_one (by rw [HR.out]; have := H1.out; omega), rfl⟩

/-- The least length below symbol 257 + k. -/
def lenSum (k : Nat) : Nat := 3 + ((List.range k).map fun k => 2 ^ lenBits (257 + k)).sum
theorem lenSum_succ (k : Nat) : lenSum (k + 1) = lenSum k + 2 ^ lenBits (257 + k) := by unfold lenSum; rw [List.range_succ, List.map_append, List.sum_append]; simp; omega
def dstSum (k : Nat) : Nat := 1 + ((List.range k).map fun k => 2 ^ dstBits k).sum
theorem dstSum_succ (k : Nat) : dstSum (k + 1) = dstSum k + 2 ^ dstBits k := by unfold dstSum; rw [List.range_succ, List.map_append, List.sum_append]; simp; omega
theorem lenB5 {k : Nat} (h : k ≤ 28) : lenBits (257 + k) ≤ 5 := by unfold lenBits; split <;> omega
theorem dstB13 {k : Nat} (h : k ≤ 29) : dstBits k ≤ 13 := by unfold dstBits; split <;> omega
theorem pow5 {b : Nat} (h : b ≤ 13) : 2 ^ b ≤ 8192 := Nat.pow_le_pow_right (n := 2) (by decide) h
theorem two_pow (b : Nat) : (2 : Int) ^ b = ((2 ^ b : Nat) : Int) := by simp
theorem shl_one {b : Nat} (h : b ≤ 13) : wrap64 ((2 : Int) ^ b) = ((2 ^ b : Nat) : Int) := by
  have := pow5 h
  rw [two_pow]
  generalize 2 ^ b = z at *
  rw [IntWalk.wrap64_in _ ⟨by omega, by omega⟩]
theorem length_any {w : World} (t : Nat) (h1 : 257 ≤ t) (h2 : t ≤ 285) :
    Calls Tryd.prog 24 #[.int .i64 t] w fun e w' => e = .returned (.tuple #[.int .i64 (lenBase t : Nat), .int .i64 (lenBits t : Nat)]) ∧ w = w' := by
  by_cases h3 : t = 285
  · subst h3
    have hr : lenBits 285 = 0 := if_pos (.inr rfl)
    have hb : lenBase 285 = 258 := if_pos rfl
    have HR := Lib.hid hr
    have HB := Lib.hid hb
    clear hr hb h1 h2
    go_enter Tryd.func24, Tryd.ntmps24
    go_wp2
    go_ret2
    exact ⟨by rw [HR.out, HB.out]; rfl, rfl⟩
  · have d : ((t : Int) == 285) = false := by simp; omega
    have hb : lenBase t = lenSum (t - 257) := if_neg h3
    have HB := Lib.hid hb
    clear hb h3
    go_enter Tryd.func24, Tryd.ntmps24
    go_wp2
    go_loopw [4, 5] (fun nv sv wr => ∃ k : Nat, 257 + k ≤ t ∧ nv = .int .i64 (lenSum k : Nat) ∧ sv = .int .i64 ((257 + k : Nat) : Int) ∧ lenSum k ≤ 3 + k * 32 ∧ w = wr) (fun _ sv _ => t - (intOf sv).toNat)
    case atStart => exact ⟨0, by omega, rfl, rfl, by decide, rfl⟩
    case round =>
      obtain ⟨k, hk, rfl, rfl, hle, rfl⟩ := hrel
      obtain ⟨u, hu⟩ : ∃ u, u = 257 + k := ⟨_, rfl⟩
      rw [← hu]
      by_cases hlt : u < t
      · have hs := lenSum_succ k
        have hbb := lenB5 (k := k) (by omega)
        have hc := lengthBits_any (w := w) u (by omega)
        rw [← hu] at hs hbb
        generalize hB : lenBits u = B at *
        have hp : 2 ^ B ≤ 32 := Nat.pow_le_pow_right (n := 2) (by decide) hbb
        have e1 := shl_one (b := B) (by omega)
        generalize hX : lenSum k = X at *
        have HS := Lib.hid hs
        have HC := Lib.hid hc
        have HU := Lib.hid hu
        have e1b := two_pow B
        generalize 2 ^ B = P at *
        have e2 : wrap64 ((X : Int) + (P : Int)) = (X : Int) + (P : Int) := IntWalk.wrap64_in _ ⟨by omega, by omega⟩
        have hB13 : (B : Int) < 64 := by omega
        clear hs hc hu hB hX
        go_wp2_with fail
        refine HC.out.mono ?_
        rintro e w2 ⟨rfl, rfl⟩
        go_wp2
        go_roundw
        case rel => exact ⟨k + 1, by have := HU.out; omega, by rw [HS.out]; go_num, by have := HU.out; go_num, by rw [HS.out]; omega, by trivial⟩
        case measure => simp [intOf]; have := HU.out; omega
      · obtain rfl : u = t := by omega
        have hc := lengthBits_any (w := w) u (by omega)
        have HC := Lib.hid hc
        have HU := Lib.hid hu
        clear hc hu
        go_wp2_with fail
        refine HC.out.mono ?_
        rintro e w2 ⟨rfl, rfl⟩
        go_wp2
        go_ret2
        have e : lenBase u = lenSum k := HB.out.trans (by rw [HU.out, Nat.add_sub_cancel_left])
        exact ⟨by rw [e]; rfl, rfl⟩
theorem distance_any {w : World} (t : Nat) (h2 : t ≤ 29) :
    Calls Tryd.prog 25 #[.int .i64 t] w fun e w' => e = .returned (.tuple #[.int .i64 (dstBase t : Nat), .int .i64 (dstBits t : Nat)]) ∧ w = w' := by
  have hb : dstBase t = dstSum t := rfl
  have HB := Lib.hid hb
  clear hb
  go_enter Tryd.func25, Tryd.ntmps25
  go_wp2
  go_loopw [4, 5] (fun nv sv wr => ∃ k : Nat, k ≤ t ∧ nv = .int .i64 (dstSum k : Nat) ∧ sv = .int .i64 k ∧ dstSum k ≤ 1 + k * 8192 ∧ w = wr) (fun _ sv _ => t - (intOf sv).toNat)
  case atStart => exact ⟨0, by omega, rfl, rfl, by decide, rfl⟩
  case round =>
    obtain ⟨k, hk, rfl, rfl, hle, rfl⟩ := hrel
    by_cases hlt : k < t
    · have hs := dstSum_succ k
      have hbb := dstB13 (k := k) (by omega)
      have hc := distanceBits_any (w := w) k (by omega)
      generalize hB : dstBits k = B at *
      have hp := pow5 (b := B) (by omega)
      have e1 := shl_one (b := B) (by omega)
      generalize hX : dstSum k = X at *
      have HS := Lib.hid hs
      have HC := Lib.hid hc
      have e1b := two_pow B
      generalize 2 ^ B = P at *
      have e2 : wrap64 ((X : Int) + (P : Int)) = (X : Int) + (P : Int) := IntWalk.wrap64_in _ ⟨by omega, by omega⟩
      have hB13 : (B : Int) < 64 := by omega
      clear hs hc hB hX
      go_wp2_with fail
      refine HC.out.mono ?_
      rintro e w2 ⟨rfl, rfl⟩
      go_wp2
      go_roundw
      case rel => exact ⟨k + 1, by omega, by rw [HS.out]; go_num, by go_num, by rw [HS.out]; omega, by trivial⟩
      case measure => simp [intOf]; omega
    · obtain rfl : k = t := by omega
      have hc := distanceBits_any (w := w) k (by omega)
      have HC := Lib.hid hc
      clear hc
      go_wp2_with fail
      refine HC.out.mono ?_
      rintro e w2 ⟨rfl, rfl⟩
      go_wp2
      go_ret2
      exact ⟨by rw [HB.out]; rfl, rfl⟩
end Go.Proofs.YtobmghjpfkdooaaDoor
