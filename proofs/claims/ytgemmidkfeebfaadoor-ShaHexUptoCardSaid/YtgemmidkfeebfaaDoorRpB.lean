/- The library's Repeat of one byte 0, as often as there is room in a block of the hash. -/
import Derived.Test.YtgemmidkfeebfaaDoorRpA
import Derived.Test.YtgemmidkfeebfaaDoorBuA
import Derived.Test.YtgemmidkfeebfaaDoorMem
import Derived.Test.YtgemmidkfeebfaaDoorWA
import Derived.Deep.LoopGhost
set_option maxRecDepth 100000
set_option linter.unusedVariables false
namespace Go.Proofs.YtgemmidkfeebfaaDoor
set_option maxRecDepth 100000
open Go Go.RowKit
theorem bldF_check (B b : Nat) (bs : List Value) (w : World) (h : Lib.IsBuilderF 51 5 B b bs w) :
    Calls Tryd.prog 33 #[.pointer (some ⟨b, 0, none⟩)] w fun e w' => e = .returned (.tuple #[]) ∧ (Lib.BuilderAtF 51 5 B b (.pointer (some ⟨b, 0, none⟩)) bs w' ∧ Below B w w') := by
  rcases h with h | h
  · refine (bld_fresh b w h.cell0 h.shape h.frozen0).mono ?_
    rintro e w' ⟨rfl, rfl⟩
    exact ⟨rfl, h.used _, (Below.refl B w).setCell (p := ⟨b, 0, none⟩) h.1 _⟩
  · refine (bld_used b w h.cell0).mono ?_
    rintro e w' ⟨rfl, rfl⟩
    exact ⟨rfl, h, Below.refl B _⟩
theorem bldF_write (B b : Nat) (bs : List Value) (s : ByteArray) (w : World) (h : Lib.IsBuilderF 51 5 B b bs w) (hlen : bs.length + s.size ≤ 140737488355328) (hBw : B ≤ w.heap.size) :
    Calls Tryd.prog 27 #[.pointer (some ⟨b, 0, none⟩), .string s] w fun e w' => e = .returned (.tuple #[.int .i64 s.size, .nilIface]) ∧ (Lib.BuilderAtF 51 5 B b (.pointer (some ⟨b, 0, none⟩)) (bs ++ Lib.strCells s) w' ∧ Below B w w') := by
  obtain ⟨i0, hi, hz0, hz1, hz2⟩ := info_parts info_byteB
  go_enter Tryd.func27, Tryd.ntmps27
  go_wp2_with (go_at_call 33; refine (bldF_check B b bs _ h).mono ?_)
  rintro e w1 ⟨rfl, h1, hb1⟩
  obtain ⟨hB, v, hbk, hown, hne⟩ := h1
  have c0 : w1.cell? ⟨b, 0, none⟩ = some (.pointer (some ⟨b, 0, none⟩)) := by rw [Lib.cell_of_heap hbk]; rfl
  have c1 : w1.cell? ⟨b, 1, none⟩ = some v := by rw [Lib.cell_of_heap hbk]; rfl
  go_wp2_with (at_builtin; refine Lib.wpList_append_own_stringF _ rfl _ _ 26 9 rfl B 5 i0 Tryd.underlying26 Tryd.underlying9 hi hz0 hz1 hz2 _ _ _ rfl hown s rfl ?c3 ?c4 ?c5 ?_)
  case c3 => unfold maxLen; omega
  case c4 => omega
  case c5 => have := hb1.size; omega
  intro v' w2 hown' hgrow _
  have hlt : b < w1.heap.size := by
    rcases Nat.lt_or_ge b w1.heap.size with h' | h'
    · exact h'
    · simp [Array.getElem?_eq_none h'] at hbk
  have hb2 : w2.heap[b]? = some (.cells #[.pointer (some ⟨b, 0, none⟩), v] 51 (0, 0)) := by
    rw [hgrow.block b hlt (fun e => hne e.symm)]
    exact hbk
  have d0 : w2.cell? ⟨b, 0, none⟩ = some (.pointer (some ⟨b, 0, none⟩)) := by rw [Lib.cell_of_heap hb2]; rfl
  have d1 : w2.cell? ⟨b, 1, none⟩ = some v := by rw [Lib.cell_of_heap hb2]; rfl
  have f1 : w2.frozen? ⟨b, 1, none⟩ = false := Lib.frozen_of_heap hb2 1
  obtain ⟨ao, n', cap, rfl⟩ : ∃ ao n' cap, v' = .slice ao n' cap := by
    rcases hown'.2 with ⟨hv, _⟩ | ⟨g, cap, cur, fz, hv, _⟩
    · exact ⟨_, _, _, hv⟩
    · exact ⟨_, _, _, hv⟩
  go_wp2
  go_ret2
  refine ⟨rfl, ?_, ?_⟩
  · exact Lib.BuilderAtF.put (T := 51) (e := 5) hB hb2 (bs' := bs ++ Lib.strCells s) (by simpa [Lib.strCells_length] using hown') (by decide)
  · exact (hb1.grown hgrow (by have := hb1.size; omega) (fun k hk => (hown.lt k hk).1)).setCell (p := ⟨b, 1, none⟩) hB _
/-- Room for so many bytes, at least one, in a builder that is new. -/
theorem bldF_Grow (B b n : Nat) (w : World) (hB : B ≤ b) (hbk : w.heap[b]? = some (.cells #[.pointer none, .slice none 0 0] 51 (0, 0))) (hBw : B ≤ w.heap.size) (hn : n ≤ 281474976710656) (hn1 : 1 ≤ n) :
    Calls Tryd.prog 26 #[.pointer (some ⟨b, 0, none⟩), .int .i64 n] w fun e w' => e = .returned (.tuple #[]) ∧ (Lib.BuilderAt 51 5 B b (.pointer (some ⟨b, 0, none⟩)) [] w' ∧ Below B w w') := by
  obtain ⟨W, hW⟩ : ∃ W, W = w.setCell ⟨b, 0, none⟩ (.pointer (some ⟨b, 0, none⟩)) := ⟨_, rfl⟩
  have hbk1 : W.heap[b]? = some (.cells #[.pointer (some ⟨b, 0, none⟩), .slice none 0 0] 51 (0, 0)) := by
    rw [hW]; simp [World.setCell, Array.getElem?_modify, hbk]
  have c1 : W.cell? ⟨b, 1, none⟩ = some (.slice none 0 0) := by rw [Lib.cell_of_heap hbk1]; rfl
  have hb1 : Below B w W := by rw [hW]; exact (Below.refl B w).setCell (p := ⟨b, 0, none⟩) hB _
  have hBW : B ≤ W.heap.size := Nat.le_trans hBw hb1.size
  have HC : Hid (Calls Tryd.prog 33 #[.pointer (some ⟨b, 0, none⟩)] w fun e w' => e = .returned (.tuple #[]) ∧ w' = W) := Lib.hid (by
    rw [hW]; exact bld_fresh b w (by rw [Lib.cell_of_heap hbk]; rfl) (by simp [World.shape?, hbk]) (Lib.frozen_of_heap hbk 0))
  have HG : Hid (∀ q, Calls Tryd.prog 34 #[.pointer (some ⟨b, 0, none⟩), .int .i64 n] (W.drewN q) fun e w' => e = .returned (.tuple #[]) ∧ (Lib.BuilderAt 51 5 B b (.pointer (some ⟨b, 0, none⟩)) [] w' ∧ Below B w w')) := Lib.hid fun q => by
    refine (rp_grow B b n (W.drewN q) hB hbk1 hBW hn).mono ?_
    rintro e w' ⟨h1, h2, h3⟩
    exact ⟨h1, h2, (show Below B w (W.drewN q) from ⟨hb1.os, hb1.tape, hb1.output, hb1.size, hb1.block⟩).trans h3⟩
  have l0 : (0 : Int) < (n : Int) := by omega
  clear hbk hbk1 hW hb1 hBW hBw
  go_enter Tryd.func26, Tryd.ntmps26
  go_wp2_with fail
  refine HC.out.mono ?_
  rintro e w1 ⟨rfl, rfl⟩
  go_upto_region 3 with (fail)
  go_quiet (fail)
  go_wp2_with fail
  refine (HG.out _).mono ?_
  rintro e w1 ⟨rfl, h1, h2⟩
  go_wp2
  go_end0
  exact ⟨rfl, h1, h2⟩
theorem zeros_cells (q : Nat) : (Lib.byteCells (List.replicate q 0)).length = q := by rw [Lib.byteCells_length, List.length_replicate]
theorem below_but {w w' : World} (h : Below w.heap.size w w') : But [] w w' := ⟨h.os, h.tape, h.output, h.size, fun k hk _ => h.block k hk⟩
theorem cutz_run {q k : Nat} (h : k ≤ q) (W : World) : (Instr.slice 9 (.string (strL (List.replicate q 0))) none (some (.int .i64 (k : Int))) none).run Tryd.prog W = .ok (.string (strL (List.replicate k 0))) W := by
  rw [run_slice_string_to_if W 9 (strL (List.replicate q 0)) .i64 (k : Int) Tryd.underlying9, if_pos (by rw [strL_size, List.length_replicate]; omega), Int.toNat_natCast, ext_list, strL_list, List.drop_zero, List.take_replicate, Nat.min_eq_left h]
theorem cells_ofR (l : List UInt8) : Lib.strCells (strL l) = Lib.byteCells l := by
  unfold Lib.strCells Lib.byteCells
  rw [show (strL l).data.toList = l from strL_list l]
theorem zero_str : (⟨#[0]⟩ : ByteArray) = strL (List.replicate 1 0) := rfl
set_option maxHeartbeats 1000000 in
theorem repeat_main (w : World) {c : Nat} (h2 : 2 ≤ c) (h63 : c ≤ 63) :
    Calls Tryd.prog 20 #[.string (strL (List.replicate 1 0)), .int .i64 c] w fun e w' => e = .returned (.string (strL (List.replicate c 0))) ∧ But [] w w' := by
  have hM := rp_Mul 1 c (by decide) (by omega) w
  rw [Nat.one_mul, Nat.div_eq_of_lt (by omega), Nat.mod_eq_of_lt (by omega)] at hM
  have HM : Hid (Calls Tryd.prog 24 #[.int .u64 1, .int .u64 (c : Int)] w fun e w' => e = .returned (.tuple #[.int .u64 0, .int .u64 (c : Int)]) ∧ w' = w) := Lib.hid hM
  have k0 : ∀ W, (Instr.index 9 (.string (strL (List.replicate 1 0))) (.int .i64 0)).run Tryd.prog W = .ok (.int .u8 0) W := fun W => by
    rw [← zero_str]
    simp [go_sem, Tryd.underlying9]
    rfl
  obtain ⟨Z, hZ⟩ : ∃ Z, Z = strL (List.replicate 1 0) := ⟨_, rfl⟩
  have hZs : Z.size = 1 := by rw [hZ, strL_size]; rfl
  rw [← hZ] at k0 ⊢
  have u1 : IntKind.u64.wrap (c : Int) = (c : Int) := by simp [IntKind.wrap_u64]; omega
  have u2 : IntKind.i64.wrap (c : Int) = (c : Int) := by rw [IntKind.wrap_i64]; omega
  have c0 : ((c : Int) == 0) = false := by simp; omega
  have c1 : ((c : Int) == 1) = false := by simp; omega
  have c2 : ¬ (c : Int) < 0 := by omega
  have c3 : ¬ (9223372036854775807 : Int) < (c : Int) := by omega
  have c4 : ¬ (8192 : Int) < (c : Int) := by omega
  clear hM
  have HZ := Lib.hid hZ
  clear hZ
  go_enter Tryd.func20, Tryd.ntmps20
  have hcA := (But.refl [] w).alloc (.cells #[.pointer none, .slice none 0 0] 51)
  obtain ⟨W1, hW1⟩ : ∃ W, W = w.alloc (.cells #[.pointer none, .slice none 0 0] 51) := ⟨_, rfl⟩
  have HGr : Hid (Calls Tryd.prog 26 #[.pointer (some ⟨w.heap.size, 0, none⟩), .int .i64 c] W1 fun e w' => e = .returned (.tuple #[]) ∧ (Lib.BuilderAt 51 5 w.heap.size w.heap.size (.pointer (some ⟨w.heap.size, 0, none⟩)) [] w' ∧ Below w.heap.size W1 w')) :=
    Lib.hid (bldF_Grow w.heap.size w.heap.size c W1 (Nat.le_refl _) (by rw [hW1]; exact heap_alloc_new w _) (by rw [hW1]; simp) (by omega) (by omega))
  have HB1 : Hid (Below w.heap.size w W1) := Lib.hid (by rw [hW1]; exact (Below.refl _ w).alloc (Nat.le_refl _) _)
  go_wp2_with fail
  refine HM.out.mono ?_
  rintro e w1 ⟨rfl, hw⟩
  obtain rfl : w = w1 := hw.symm
  go_wp2_with fail
  rw [← hW1]
  refine HGr.out.mono ?_
  rintro e W2 ⟨rfl, h1, b1⟩
  clear HGr hW1 hcA
  have HW := Lib.hid (bldF_write w.heap.size w.heap.size [] Z W2 (Lib.IsBuilderF.of (Or.inr h1)) (by simp [hZs]) (Nat.le_trans HB1.out.size b1.size))
  have HB2 := Lib.hid (HB1.out.trans b1)
  clear HB1 b1 h1
  obtain ⟨gb, hgb⟩ : ∃ g, g = w.heap.size := ⟨_, rfl⟩
  rw [← hgb] at HW HB2 ⊢
  have HGB := Lib.hid hgb
  clear hgb
  go_wp2_with fail
  refine HW.out.mono ?_
  rintro e W3 ⟨rfl, h3, b3⟩
  have HB3 := Lib.hid (HB2.out.trans b3)
  have HI3 : Hid (Lib.IsBuilderF 51 5 gb gb (Lib.byteCells (List.replicate 1 0)) W3) := Lib.hid (.inr (by
    rw [List.nil_append, HZ.out, cells_ofR] at h3
    exact h3))
  clear HW HB2 b3 h3
  go_wp2_with fail
  go_loopg [] (c - 1) (fun g wx => ∃ q : Nat, 1 ≤ q ∧ q + g = c ∧ Hid (Lib.IsBuilderF 51 5 gb gb (Lib.byteCells (List.replicate q 0)) wx) ∧ Hid (Below gb w wx))
  case atStart => exact ⟨1, Nat.le_refl _, by omega, HI3, HB3⟩
  case round =>
    clear HI3 HB3
    obtain ⟨q, hq1, hqg, HI, HB⟩ := hrel
    have cLen := rp_Len gb gb _ wr HI.out
    rw [zeros_cells] at cLen
    have HL := Lib.hid cLen
    have HS := Lib.hid (rp_String gb gb (List.replicate q 0) wr HI.out (by rw [HGB.out]; exact HB.out.size))
    clear cLen
    rw [show (⟨(List.replicate q (0 : UInt8)).toArray⟩ : ByteArray) = strL (List.replicate q 0) from rfl] at HS
    have hq63 : q ≤ 63 := by omega
    cases gk with
    | zero =>
      obtain rfl : q = c := by omega
      go_wp2_with fail
      refine HL.out.mono ?_
      rintro e w1 ⟨rfl, hw⟩
      obtain rfl : wr = w1 := hw.symm
      go_wp2_with fail
      refine HS.out.mono ?_
      rintro e w1 ⟨rfl, h3, b3⟩
      go_wp2
      go_ret
      exact ⟨rfl, below_but (by rw [← HGB.out]; exact HB.out.trans b3)⟩
    | succ g =>
      have hqc : q < c := by omega
      have l1 : (q : Int) < (c : Int) := by omega
      obtain ⟨m, hm⟩ : ∃ m, m = min (c - q) q := ⟨_, rfl⟩
      have hm1 : 1 ≤ m ∧ m ≤ q ∧ q + m ≤ c := by omega
      have hmin : ∀ (ts : Array TypeId) (t : TypeId) (W : World), (Builtin.min_ ts t #[.int .i64 ((c : Int) - (q : Int)), .int .i64 (q : Int), .int .i64 (c : Int)]).run Tryd.prog W = .ok (.int .i64 (m : Int)) W := fun ts t W => by
        rw [run_min_int3]
        congr 2
        omega
      have kz := fun W => cutz_run hm1.2.1 W
      obtain ⟨S, hS⟩ : ∃ S, S = strL (List.replicate q (0 : UInt8)) := ⟨_, rfl⟩
      rw [← hS] at HS
      simp only [← hS] at kz
      clear hS
      clear hm
      go_wp2_with fail
      refine HL.out.mono ?_
      rintro e w1 ⟨rfl, hw⟩
      obtain rfl : wr = w1 := hw.symm
      go_wp2_with fail
      refine HL.out.mono ?_
      rintro e w1 ⟨rfl, hw⟩
      obtain rfl : wr = w1 := hw.symm
      go_wp2_with fail
      refine HL.out.mono ?_
      rintro e w1 ⟨rfl, hw⟩
      obtain rfl : wr = w1 := hw.symm
      go_wp2_with fail
      refine HS.out.mono ?_
      rintro e W4 ⟨rfl, h4, b4⟩
      have HB4 := Lib.hid (HB.out.trans b4)
      have HW4 := Lib.hid (bldF_write gb gb (Lib.byteCells (List.replicate q 0)) (strL (List.replicate m 0)) W4 h4 (by rw [zeros_cells, strL_size, List.length_replicate]; omega) (by rw [HGB.out]; exact HB4.out.size))
      clear h4 b4 HL HS HI HB
      go_wp2_with fail
      refine HW4.out.mono ?_
      rintro e W5 ⟨rfl, h5, b5⟩
      have HB5 := Lib.hid (HB4.out.trans b5)
      have HI5 : Hid (Lib.IsBuilderF 51 5 gb gb (Lib.byteCells (List.replicate (q + m) 0)) W5) := Lib.hid (.inr (by
        rw [cells_ofR, ← Lib.byteCells_append, List.replicate_append_replicate] at h5
        exact h5))
      clear HW4 HB4 h5 b5
      go_wp2
      go_roundg (c - (q + m))
      case measure => omega
      case rel => exact ⟨q + m, by omega, by omega, HI5, HB5⟩
theorem repeat_any (w : World) {c : Nat} (h63 : c ≤ 63) :
    Calls Tryd.prog 20 #[.string (strL (List.replicate 1 0)), .int .i64 c] w fun e w' => e = .returned (.string (strL (List.replicate c 0))) ∧ But [] w w' := by
  match c, h63 with
  | 0, _ =>
    go_enter Tryd.func20, Tryd.ntmps20
    go_wp2
    go_ret
    exact ⟨rfl, But.refl [] _⟩
  | 1, _ =>
    go_enter Tryd.func20, Tryd.ntmps20
    go_wp2
    go_ret
    exact ⟨rfl, But.refl [] _⟩
  | c + 2, h => exact repeat_main w (by omega) h
end Go.Proofs.YtgemmidkfeebfaaDoor
