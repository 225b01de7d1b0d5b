/- The contract of the text that a call of a statement lays: so many bytes that count up. -/
import Derived.Test.YtafchckfanbkcaaWriteD
namespace Go.Proofs.Ytafchckfanbkcaa
open Go Go.RowKit

/-- The byte at place i. -/
def upByte (v : Int) (i : Nat) : UInt8 := UInt8.ofNat ((v + (i : Int)) % 256).toNat
theorem upByte_nat (v : Int) (i : Nat) : ((upByte v i).toNat : Int) = (v + (i : Int)) % 256 := by
  have h : (upByte v i).toNat = ((v + (i : Int)) % 256).toNat % 256 := UInt8.toNat_ofNat'
  omega
def upLen (n : Int) : Nat := min n.toNat 50
def upText (n v : Int) : ByteArray := ⟨((List.range (upLen n)).map (upByte v)).toArray⟩
theorem upText_size (n v : Int) : (upText n v).size = upLen n := by
  show ((List.range (upLen n)).map (upByte v)).toArray.size = _
  simp
theorem upLen_le (n : Int) : upLen n ≤ 50 := by unfold upLen; omega
/-- The bytes when j of them are laid. -/
def upMid (k : Nat) (v : Int) (j : Nat) : List UInt8 := (List.range k).map fun i => if i < j then upByte v i else 0
theorem upMid_length (k : Nat) (v : Int) (j : Nat) : (upMid k v j).length = k := by simp [upMid]
theorem upMid_zero (k : Nat) (v : Int) : upMid k v 0 = List.replicate k 0 := by
  unfold upMid
  apply List.ext_getElem
  · simp
  · intro i h1 h2; simp
theorem upMid_full (k : Nat) (v : Int) : upMid k v k = (List.range k).map (upByte v) := by
  unfold upMid
  apply List.map_congr_left
  intro i hi
  rw [if_pos (List.mem_range.1 hi)]
theorem upMid_succ (k : Nat) (v : Int) (j : Nat) : (upMid k v j).set j (upByte v j) = upMid k v (j + 1) := by
  unfold upMid
  apply List.ext_getElem
  · simp
  · intro i h1 h2
    simp only [List.getElem_set, List.getElem_map, List.getElem_range]
    by_cases h : j = i
    · subst h; simp
    · rw [if_neg h]
      by_cases h3 : i < j
      · rw [if_pos h3, if_pos (by omega)]
      · rw [if_neg h3, if_neg (by omega)]
theorem wrap_up (v : Int) (j : Nat) : wrap64 (v + (j : Int)) % 256 = ((upByte v j).toNat : Int) := by
  rw [upByte_nat]
  unfold wrap64
  omega

theorem up_text (wh : Bool) (n v : Int) (w : World) :
    Calls Try.prog 24 #[.agg #[.bool wh, .int .i64 n, .int .i64 v]] w fun e w' => e = .returned (.string (upText n v)) ∧ But [] w w' := by
  obtain ⟨i0, hi0, hz0, hz1, hz2⟩ := info_parts info_u8
  obtain ⟨k, hk⟩ : ∃ k, k = upLen n := ⟨_, rfl⟩
  have hk50 : k ≤ 50 := by rw [hk]; exact upLen_le n
  have HK : (n ≤ 0 ∧ k = 0) ∨ (0 < n ∧ n ≤ 50 ∧ n = (k : Int)) ∨ (50 < n ∧ k = 50) := by unfold upLen at hk; omega
  have hfin : upText n v = ⟨(upMid k v k).toArray⟩ := by unfold upText; rw [upMid_full, hk]
  rw [hfin]
  clear hk hfin
  have hz : (madeCells (Value.int .u8 0).cells (k * 1)).toList = cellsOf (upMid k v 0) := by
    have e : (Value.int .u8 0).cells = #[.int .u8 0] := rfl
    rw [e, toList_madeCells_one, upMid_zero, Nat.mul_one]
    simp [cellsOf]
  go_enter Try.func24, Try.ntmps24
  go_upto_region 2 with (at_make; refine wpList_make_full _ rfl _ _ 43 rfl w.heap.size 5 i0 _ 1 Try.underlying43 hi0 hz0 hz1 _ _ _ _ k rfl rfl (by omega) (by omega) (by rw [hz2]; omega) (by unfold maxLen; omega) (by simp) ?_; intro w1 hown hgrow)
  go_goals
  rw [hz] at hown
  have hbox0 : Is (w.alloc (.cells #[.bool wh, .int .i64 n, .int .i64 v] 32)) w.heap.size 32 #[.bool wh, .int .i64 n, .int .i64 v] := Is.fresh w _ _
  have hbox : Is w1 w.heap.size 32 #[.bool wh, .int .i64 n, .int .i64 v] := hbox0.grown hgrow (by simp)
  have hB : But [] w w1 := ((But.refl [] w).alloc _).grown hgrow (by simp)
  have hown1 : w1.ownsRow w.heap.size 5 1 (.slice (some ⟨w.heap.size + 1, 0, none⟩) k k) k (cellsOf (upMid k v 0)) := by simpa using hown
  clear hown hbox0 hgrow hz HK
  go_cut [3, 4] (fun s i wx => s = .slice (some ⟨w.heap.size + 1, 0, none⟩) k k ∧ i = .int .i64 0 ∧ wx = w1)
  case first =>
    go_wp2
    all_goals (go_meet; exact ⟨rfl, rfl, rfl⟩)
  case rest =>
  obtain ⟨rfl, rfl, rfl⟩ := hcut
  go_wp2
  go_loopw [4] (fun i wr => ∃ j : Nat, j ≤ k ∧ i = .int .i64 j ∧ wr.ownsRow w.heap.size 5 1 (.slice (some ⟨w.heap.size + 1, 0, none⟩) k k) k (cellsOf (upMid k v j)) ∧ Is wr w.heap.size 32 #[.bool wh, .int .i64 n, .int .i64 v] ∧ But [] w wr) (fun i _ => k - (intOf i).toNat)
  case atStart => exact ⟨0, Nat.zero_le _, rfl, hown1, hbox, hB⟩
  case round =>
    obtain ⟨j, hj, rfl, ho, hi, hb⟩ := hrel
    clear hown1 hbox hB
    by_cases hlt : j < k
    · have c0 : wr.cell? ⟨w.heap.size, 2, none⟩ = some (.int .i64 v) := hi.cell 2
      have ce : wr.cell? ⟨w.heap.size + 1, j, none⟩ = some (.int .u8 (((upMid k v j)[j]'(by rw [upMid_length]; exact hlt)).toNat : Int)) := own_cell ho _
      have ef : wr.frozen? ⟨w.heap.size + 1, j, none⟩ = false := ho.frozenAt _
      have HW := Lib.hid (wrap_up v j)
      go_wp2
      go_roundw
      case rel =>
        refine ⟨j + 1, by omega, by go_num, ?_, hi.far (by simp) _, hb.setCell (.inr (by simp)) _⟩
        rw [HW.out]
        have hs := (ho.stored j (.int .u8 ((upByte v j).toNat : Int))).1
        have ec : cellsOf (upMid k v (j + 1)) = (cellsOf (upMid k v j)).set j (.int .u8 ((upByte v j).toNat : Int)) := by
          rw [← upMid_succ]; unfold cellsOf; rw [List.map_set]
        rw [ec]; exact hs
      case measure => simp [intOf]; omega
    · obtain rfl : j = k := by omega
      have hcv := own_text ho
      go_wp2
      go_ret
      exact ⟨rfl, hb⟩
end Go.Proofs.Ytafchckfanbkcaa
