/- Several texts in one: BbB, RpA, RpB, HaD, HaE (what BandsApart, BandsCuts, BandsJoins, BandsManifest, BandsNames, BandsReads reach of them). -/
import Derived.Test.YtmdiilnipoblbaaDoorK01
import Derived.Test.YtmdiilnipoblbaaDoorK02
import Derived.Below
import Derived.BigQuiet
import Derived.BigRegion
import Derived.Deep.AppendLies
import Derived.Deep.Cut
import Derived.Deep.CutBlock
import Derived.Deep.CutRange
import Derived.Deep.DeepCutAuto
import Derived.Deep.Draws
import Derived.Deep.LoopGhost
import Derived.Deep.QuietTactic
import Derived.Deep.RegionLaw
import Derived.Deep.RegionWith
import Derived.Deep.Slices
import Derived.Handy
import Derived.Laws.BitsAllLaws
import Derived.Laws.BitsLemmas
import Derived.Laws.BytesArg
import Derived.Laws.Cells
import Derived.Laws.Externs
import Derived.Laws.IdiomStrings
import Derived.Laws.MakeOwn
import Derived.Laws.OwnMore
import Derived.Laws.Rows
import Derived.Laws.StructEq
import Derived.Laws.Tables
import Derived.Lib.AppendStr
import Derived.Lib.BufferWrite
import Derived.Lib.Hide
import Derived.Lib.UnsafeStr
import Derived.Maps.AppendAt
import Derived.OpenShut
import Derived.OrdersHeld
import Derived.OrdersIn
import Derived.Outline
import Derived.OwnWalk
import Derived.OwnWalkIn
import Derived.ProofKit
import Derived.RangeFuncCalls
import Derived.RegionTactic
import Derived.Shelf.LaysM
import Derived.Shelf.Small.Wraps
import Derived.Shelf.Strconv.Clone
import Derived.Shelf.Strings.Builder1
import Derived.Shelf.Strings.BuilderF
import Derived.Shelf.Strings.Prefix
import Derived.Shelf.Strings.Repeat
import Derived.Sort.CutIn
import Derived.TacticsInMore
import Derived.Test.YtmdiilnipoblbaaDoorChecked
import Derived.WalkKit
set_option maxRecDepth 100000
set_option linter.unusedVariables false
set_option maxRecDepth 100000
set_option linter.unusedVariables false
namespace Go.Proofs.YtmdiilnipoblbaaDoor
set_option maxRecDepth 100000
open Go Go.RowKit
/-- The first pieces. -/
def pcs (n : Nat) (s : List UInt8) (m : Nat) : List ByteArray := (List.range m).map fun i => strL ((s.drop (n * i)).take n)
theorem pcs_next (n : Nat) (s : List UInt8) (m : Nat) : pcs n s (m + 1) = pcs n s m ++ [strL ((s.drop (n * m)).take n)] := by unfold pcs; rw [List.range_succ, List.map_append]; rfl
theorem pcs_len (n : Nat) (s : List UInt8) (m : Nat) : (pcs n s m).length = m := by unfold pcs; rw [List.length_map, List.length_range]
theorem pcs_bands (W H : Nat) (s : List UInt8) : pcs (64 * W) s (manyB H) = (bandsB W H s).map strL := by unfold pcs bandsB; rw [List.map_map]; rfl
set_option maxHeartbeats 1000000 in
theorem ppieces_any (w : World) {n m : Nat} {s : List UInt8} (hn : 1 ≤ n) (hn2 : n ≤ 1000000) (hs : s.length ≤ 1000000) (hm : m ≤ 100000) (h1 : ∀ i, i < m → n * i < s.length) (h2 : s.length ≤ n * m) :
    Calls Tryd.prog 23 #[.string (strL s), .int .i64 n] w fun e w' => ∃ b v, e = .returned v ∧ OwnSt w' b v (pcs n s m) ∧ But [] w w' := by
  have H1 := Lib.hid h1
  have HC := Lib.hid fun (v : World) (x : ByteArray) (hx : x.size ≤ 281474976710656) => pclone15_any v hx
  obtain ⟨L9, hL9⟩ : ∃ z, z = pcs n s m := ⟨_, rfl⟩
  have HL9 : Hid (pcs n s m = L9) := Lib.hid hL9.symm
  have H2 := Lib.hid h2
  have HS := Lib.hid hs
  rw [← hL9]
  obtain ⟨wv, hwv⟩ : ∃ W, W = w := ⟨w, rfl⟩
  have HWV := Lib.hid hwv
  clear h1 h2 hL9 hs hwv
  go_enter Tryd.func23, Tryd.ntmps23
  go_wp2
  go_loopw [0, 5] (fun sv ov wr => ∃ i : Nat, i ≤ m ∧ sv = .string (strL (s.drop (n * i))) ∧ Hid (OwnSt wr w.heap.size ov (pcs n s i)) ∧ Hid (But [] w wr)) (fun sv _ _ => match sv with | .string x => x.size | _ => 0)
  case atStart => exact ⟨0, Nat.zero_le _, by rw [Nat.mul_zero, List.drop_zero], Lib.hid (OwnSt.nil _ _), Lib.hid (But.refl [] _)⟩
  case round =>
    obtain ⟨i, hi, rfl, HO, HB⟩ := hrel
    by_cases hlt : i < m
    · have hl := H1.out i hlt
      obtain ⟨t, ht⟩ : ∃ t, t = s.drop (n * i) := ⟨_, rfl⟩
      have htl : t.length = s.length - n * i := by rw [ht, List.length_drop]
      have ht1 : 1 ≤ t.length := by omega
      have hS := HS.out
      have htm : t.length ≤ 1000000 := by omega
      obtain ⟨q, hq⟩ : ∃ q, q = min n t.length := ⟨_, rfl⟩
      have hq1 : 1 ≤ q ∧ q ≤ t.length := by omega
      have e1 : t.take q = t.take n := by rw [hq, ← List.take_eq_take_min]
      have e2 : t.drop q = s.drop (n * (i + 1)) := by
        rw [show n * (i + 1) = n * i + n by rw [Nat.mul_add, Nat.mul_one], ← List.drop_drop, ← ht, hq]
        by_cases hnt : n ≤ t.length
        · rw [Nat.min_eq_left hnt]
        · rw [Nat.min_eq_right (by omega), List.drop_eq_nil_of_le (Nat.le_refl _), List.drop_eq_nil_of_le (by omega)]
      have hsz : (strL t).size = t.length := strL_size t
      have k1 : ∀ v, (Instr.slice 9 (.string (strL t)) none (some (.int .i64 (q : Nat))) none).run Tryd.prog v = .ok (.string (strL (t.take n))) v := fun v => by
        rw [cutB_to _ v hq1.2, e1]
      have k2 : ∀ v, (Instr.slice 9 (.string (strL t)) (some (.int .i64 (q : Nat))) none none).run Tryd.prog v = .ok (.string (strL (s.drop (n * (i + 1))))) v := fun v => by
        rw [cutB_from _ v hq1.2, e2]
      have k3 : ((strL t).toList == []) = false := by
        rw [ByteArray.toList_eq, strL_list]
        cases t with
        | nil => simp at ht1
        | cons x y => rfl
      have k4 : ∀ v, (Builtin.min_ #[3, 3] 3 #[.int .i64 (n : Int), .int .i64 ((strL t).size : Int)]).run Tryd.prog v = .ok (.int .i64 (q : Int)) v := fun v => by
        rw [hsz]
        have e4 : (if (t.length : Int) < (n : Int) then (t.length : Int) else (n : Int)) = (q : Int) := by
          rw [hq]
          split <;> omega
        rw [← e4]
        simp [Builtin.min_, Builtin.min2]
      have HM : Hid ((strL (s.drop (n * (i + 1)))).size < (strL t).size) := Lib.hid (by rw [strL_size, strL_size, ← e2, List.length_drop]; omega)
      obtain ⟨b, hb⟩ : ∃ z, z = strL (t.take n) := ⟨_, rfl⟩
      have HCb : Hid (∀ v : World, Calls Tryd.prog 44 #[.string b] v fun e w' => e = .returned (.string b) ∧ But [] v w') := Lib.hid fun v => HC.out v b (by rw [hb, strL_size, List.length_take]; omega)
      obtain ⟨L, hL⟩ : ∃ z, z = pcs n s i := ⟨_, rfl⟩
      have hlen : L.length = i := by rw [hL, pcs_len]
      have HLE := Lib.hid hlen
      have HN : Hid (pcs n s (i + 1) = L ++ [b]) := Lib.hid (by rw [hL, hb, ht, pcs_next])
      rw [← hL] at HO
      have HLB : Hid (L.length < 1000000) := Lib.hid (by omega)
      obtain ⟨T, hT⟩ : ∃ z, z = strL t := ⟨_, rfl⟩
      obtain ⟨T2, hT2⟩ : ∃ z, z = strL (s.drop (n * (i + 1))) := ⟨_, rfl⟩
      have HT2 := Lib.hid hT2
      have HHT := Lib.hid hT
      rw [← ht]
      rw [← hT2, ← hT] at HM
      rw [← hT] at k3 ⊢
      simp only [← hT, ← hb] at k1
      simp only [← hT, ← hT2] at k2
      simp only [← hT] at k4
      obtain ⟨A0, cp0, rfl, _⟩ := HO.out.shape
      clear hb hT hT2 hL hlen hsz e1 e2 hq1 htl ht1 htm hl hS ht hq
      go_wp2_with fail
      refine (HCb.out _).mono ?_
      rintro e w2 ⟨rfl, hB2⟩
      have HB2 := Lib.hid (HB.out.trans hB2)
      have HO2 := Lib.hid (HO.out.but hB2)
      clear hB2
      go_wp2_with (at_builtin; refine wpList_append_st (w0 := w) _ rfl _ _ rfl (.slice A0 L.length cp0) L.length L rfl rfl (HO2.out.but ((But.refl [] _).alloc _)) (HB2.out.alloc _) b rfl (Is.fresh _ _ _) HLB.out ?_; intro A9 c9 w9 _ HO9 HB9)
      have HO8 : Hid (OwnSt w9 w.heap.size (.slice A9 (L.length + 1) c9) (pcs n s (i + 1))) := Lib.hid (by rw [HN.out]; exact HO9.out)
      clear HO9 HN
      go_roundw
      case rel => exact ⟨i + 1, by omega, by rw [HT2.out], HO8, HB9⟩
      case measure => exact HM.out
    · obtain rfl : m = i := by omega
      have hd : s.drop (n * m) = [] := List.drop_eq_nil_of_le H2.out
      rw [HL9.out] at HO
      rw [hd]
      have k3 : ((strL ([] : List UInt8)).toList == []) = true := by rw [ByteArray.toList_eq, strL_list]; rfl
      obtain ⟨T, hT⟩ : ∃ z, z = strL ([] : List UInt8) := ⟨_, rfl⟩
      rw [← hT] at k3 ⊢
      clear hT hd
      go_wp2
      go_ret
      exact ⟨_, _, rfl, HO.out, HB.out⟩
end Go.Proofs.YtmdiilnipoblbaaDoor
set_option maxRecDepth 100000
set_option linter.unusedVariables false
namespace Go.Proofs.YtmdiilnipoblbaaDoor
set_option maxRecDepth 100000
open Go Go.Shelf Go.RowKit
def rp169_ren : Go.Shelf.Ren := ⟨fun | 169 => 38 | n => n, fun | 0 => 0 | 3 => 3 | 5 => 5 | 9 => 9 | 37 => 48 | 70 => 56 | 72 => 58 | 127 => 75 | n => n, fun | n => n⟩
theorem rp169 : Go.Proofs.Lays.n169 Tryd.prog rp169_ren := {
  mixed := by kernel_rfl
  f169 := Tryd.func38.trans (congrArg some (by kernel_rfl))
  t0 := Tryd.underlying0
  a0 := Tryd.isAgg0
  z0 := Tryd.sizeOf0
  v0 := Tryd.zeroValue0
  t3 := Tryd.underlying3
  a3 := Tryd.isAgg3
  z3 := Tryd.sizeOf3
  v3 := Tryd.zeroValue3
  t9 := Tryd.underlying9
  a9 := Tryd.isAgg9
  z9 := Tryd.sizeOf9
  v9 := Tryd.zeroValue9
  t37 := Tryd.underlying48
  a37 := Tryd.isAgg48
  z37 := Tryd.sizeOf48
  v37 := Tryd.zeroValue48
  t70 := Tryd.underlying56
  a70 := Tryd.isAgg56
  z70 := Tryd.sizeOf56
  v70 := Tryd.zeroValue56
  t72 := Tryd.underlying58
  a72 := Tryd.isAgg58
  z72 := Tryd.sizeOf58
  v72 := Tryd.zeroValue58
  t127 := Tryd.underlying75
  a127 := Tryd.isAgg75
  z127 := Tryd.sizeOf75
  v127 := Tryd.zeroValue75 }
theorem rp169X : Builder.Extra Tryd.prog rp169_ren := {
  sizeBuilder := by kernel_rfl
  liesBuilder := by kernel_rfl
  t5 := Tryd.underlying5
  a5 := Tryd.isAgg5
  z5 := Tryd.sizeOf5
  v5 := Tryd.zeroValue5
  infoByte := by kernel_rfl
  cellsByte := by kernel_rfl
  sizeByte := by kernel_rfl
  neB5 := by decide }
def rp170_ren : Go.Shelf.Ren := ⟨fun | 170 => 36 | n => n, fun | 0 => 0 | 3 => 3 | 5 => 5 | 37 => 48 | 70 => 56 | 72 => 58 | n => n, fun | n => n⟩
theorem rp170 : Go.Proofs.Lays.n170 Tryd.prog rp170_ren := {
  mixed := by kernel_rfl
  f170 := Tryd.func36.trans (congrArg some (by kernel_rfl))
  t0 := Tryd.underlying0
  a0 := Tryd.isAgg0
  z0 := Tryd.sizeOf0
  v0 := Tryd.zeroValue0
  t3 := Tryd.underlying3
  a3 := Tryd.isAgg3
  z3 := Tryd.sizeOf3
  v3 := Tryd.zeroValue3
  t37 := Tryd.underlying48
  a37 := Tryd.isAgg48
  z37 := Tryd.sizeOf48
  v37 := Tryd.zeroValue48
  t70 := Tryd.underlying56
  a70 := Tryd.isAgg56
  z70 := Tryd.sizeOf56
  v70 := Tryd.zeroValue56
  t72 := Tryd.underlying58
  a72 := Tryd.isAgg58
  z72 := Tryd.sizeOf58
  v72 := Tryd.zeroValue58 }
def rp241_ren : Go.Shelf.Ren := ⟨fun | 241 => 66 | 277 => 68 | n => n, fun | 0 => 0 | 3 => 3 | 5 => 5 | 37 => 48 | 70 => 56 | 72 => 58 | n => n, fun | n => n⟩
theorem rp241 : Go.Proofs.Lays.n241 Tryd.prog rp241_ren := {
  mixed := by kernel_rfl
  f241 := Tryd.func66.trans (congrArg some (by kernel_rfl))
  f277 := Tryd.func68.trans (congrArg some (by kernel_rfl))
  t0 := Tryd.underlying0
  a0 := Tryd.isAgg0
  z0 := Tryd.sizeOf0
  v0 := Tryd.zeroValue0
  t3 := Tryd.underlying3
  a3 := Tryd.isAgg3
  z3 := Tryd.sizeOf3
  v3 := Tryd.zeroValue3
  t37 := Tryd.underlying48
  a37 := Tryd.isAgg48
  z37 := Tryd.sizeOf48
  v37 := Tryd.zeroValue48
  t70 := Tryd.underlying56
  a70 := Tryd.isAgg56
  z70 := Tryd.sizeOf56
  v70 := Tryd.zeroValue56
  t72 := Tryd.underlying58
  a72 := Tryd.isAgg58
  z72 := Tryd.sizeOf58
  v72 := Tryd.zeroValue58 }
theorem rp241X : Builder.Extra Tryd.prog rp241_ren := {
  sizeBuilder := by kernel_rfl
  liesBuilder := by kernel_rfl
  t5 := Tryd.underlying5
  a5 := Tryd.isAgg5
  z5 := Tryd.sizeOf5
  v5 := Tryd.zeroValue5
  infoByte := by kernel_rfl
  cellsByte := by kernel_rfl
  sizeByte := by kernel_rfl
  neB5 := by decide }
def rp212_ren : Go.Shelf.Ren := ⟨fun | 212 => 56 | 263 => 63 | 264 => 64 | n => n, fun | 46 => 69 | 51 => 49 | 53 => 79 | 146 => 91 | 148 => 93 | n => n, fun | n => n⟩
theorem rp212 : Go.Proofs.Lays.n212 Tryd.prog rp212_ren := {
  mixed := by kernel_rfl
  f212 := Tryd.func56.trans (congrArg some (by kernel_rfl))
  f263 := Tryd.func63.trans (congrArg some (by kernel_rfl))
  f264 := Tryd.func64.trans (congrArg some (by kernel_rfl))
  t46 := Tryd.underlying69
  a46 := Tryd.isAgg69
  z46 := Tryd.sizeOf69
  v46 := Tryd.zeroValue69
  t51 := Tryd.underlying49
  a51 := Tryd.isAgg49
  z51 := Tryd.sizeOf49
  v51 := Tryd.zeroValue49
  t53 := Tryd.underlying79
  a53 := Tryd.isAgg79
  z53 := Tryd.sizeOf79
  v53 := Tryd.zeroValue79
  t146 := Tryd.underlying91
  a146 := Tryd.isAgg91
  z146 := Tryd.sizeOf91
  v146 := Tryd.zeroValue91
  t148 := Tryd.underlying93
  a148 := Tryd.isAgg93
  z148 := Tryd.sizeOf93
  v148 := Tryd.zeroValue93 }
theorem rp_Mul (x y : Nat) (hx : x < 18446744073709551616) (hy : y < 18446744073709551616) (w : World) :
    Calls Tryd.prog 56 #[.int .u64 x, .int .u64 y] w fun e w' => e = .returned (.tuple #[.int .u64 ((x * y / 18446744073709551616 : Nat) : Int), .int .u64 ((x * y % 18446744073709551616 : Nat) : Int)]) ∧ w' = w := Any.bits_Mul rp212 x y hx hy w
theorem rp_Len (B b : Nat) (bs : List Value) (w : World) (h : Lib.IsBuilderF 58 5 B b bs w) :
    Calls Tryd.prog 36 #[.pointer (some ⟨b, 0, none⟩)] w fun e w' => e = .returned (.int .i64 bs.length) ∧ w' = w := Any.Builder_Len_f rp170 B b bs w h
theorem rp_String (B b : Nat) (l : List UInt8) (w : World) (h : Lib.IsBuilderF 58 5 B b (Lib.byteCells l) w) (hBw : B ≤ w.heap.size) :
    Calls Tryd.prog 38 #[.pointer (some ⟨b, 0, none⟩)] w fun e w' => e = .returned (.string ⟨l.toArray⟩) ∧ (Lib.IsBuilderF 58 5 B b (Lib.byteCells l) w' ∧ Below B w w') := Any.Builder_String_any_f rp169 rp169X B b l w h hBw
theorem rp_grow (B b n : Nat) (w : World) (hB : B ≤ b) (hbk : w.heap[b]? = some (.cells #[.pointer (some ⟨b, 0, none⟩), .slice none 0 0] 58 (0, 0))) (hBw : B ≤ w.heap.size) (hn : n ≤ 281474976710656) :
    Calls Tryd.prog 66 #[.pointer (some ⟨b, 0, none⟩), .int .i64 n] w fun e w' => e = .returned (.tuple #[]) ∧ (Lib.BuilderAt 58 5 B b (.pointer (some ⟨b, 0, none⟩)) [] w' ∧ Below B w w') := Any.Builder_grow_fresh rp241 rp241X B b n w hB hbk hBw hn
end Go.Proofs.YtmdiilnipoblbaaDoor
set_option maxRecDepth 100000
set_option linter.unusedVariables false
namespace Go.Proofs.YtmdiilnipoblbaaDoor
set_option maxRecDepth 100000
open Go Go.RowKit
theorem bldF_check (B b : Nat) (bs : List Value) (w : World) (h : Lib.IsBuilderF 58 5 B b bs w) :
    Calls Tryd.prog 49 #[.pointer (some ⟨b, 0, none⟩)] w fun e w' => e = .returned (.tuple #[]) ∧ (Lib.BuilderAtF 58 5 B b (.pointer (some ⟨b, 0, none⟩)) bs w' ∧ Below B w w') := by
  rcases h with h | h
  · refine (bld_fresh b w h.cell0 h.shape h.frozen0).mono ?_
    rintro e w' ⟨rfl, rfl⟩
    exact ⟨rfl, h.used _, (Below.refl B w).setCell (p := ⟨b, 0, none⟩) h.1 _⟩
  · refine (bld_used b w h.cell0).mono ?_
    rintro e w' ⟨rfl, rfl⟩
    exact ⟨rfl, h, Below.refl B _⟩
set_option maxHeartbeats 1000000 in
theorem bldF_write (B b : Nat) (bs : List Value) (s : ByteArray) (w : World) (h : Lib.IsBuilderF 58 5 B b bs w) (hlen : bs.length + s.size ≤ 140737488355328) (hBw : B ≤ w.heap.size) :
    Calls Tryd.prog 37 #[.pointer (some ⟨b, 0, none⟩), .string s] w fun e w' => e = .returned (.tuple #[.int .i64 s.size, .nilIface]) ∧ (Lib.BuilderAtF 58 5 B b (.pointer (some ⟨b, 0, none⟩)) (bs ++ Lib.strCells s) w' ∧ Below B w w') := by
  obtain ⟨i0, hi, hz0, hz1, hz2⟩ := info_parts info_byteB
  go_enter Tryd.func37, Tryd.ntmps37
  go_wp2_with (go_at_call 49; refine (bldF_check B b bs _ h).mono ?_)
  rintro e w1 ⟨rfl, h1, hb1⟩
  obtain ⟨hB, v, hbk, hown, hne⟩ := h1
  have c0 : w1.cell? ⟨b, 0, none⟩ = some (.pointer (some ⟨b, 0, none⟩)) := by rw [Lib.cell_of_heap hbk]; rfl
  have c1 : w1.cell? ⟨b, 1, none⟩ = some v := by rw [Lib.cell_of_heap hbk]; rfl
  go_wp2_with (at_builtin; refine Lib.wpList_append_own_stringF _ rfl _ _ 48 9 rfl B 5 i0 Tryd.underlying48 Tryd.underlying9 hi hz0 hz1 hz2 _ _ _ rfl hown s rfl ?c3 ?c4 ?c5 ?_)
  case c3 => unfold maxLen; omega
  case c4 => omega
  case c5 => have := hb1.size; omega
  intro v' w2 hown' hgrow _
  have hlt : b < w1.heap.size := by
    rcases Nat.lt_or_ge b w1.heap.size with h' | h'
    · exact h'
    · simp [Array.getElem?_eq_none h'] at hbk
  have hb2 : w2.heap[b]? = some (.cells #[.pointer (some ⟨b, 0, none⟩), v] 58 (0, 0)) := by
    rw [hgrow.block b hlt (fun e => hne e.symm)]
    exact hbk
  have d0 : w2.cell? ⟨b, 0, none⟩ = some (.pointer (some ⟨b, 0, none⟩)) := by rw [Lib.cell_of_heap hb2]; rfl
  have d1 : w2.cell? ⟨b, 1, none⟩ = some v := by rw [Lib.cell_of_heap hb2]; rfl
  have f1 : w2.frozen? ⟨b, 1, none⟩ = false := Lib.frozen_of_heap hb2 1
  obtain ⟨ao, n', cap, rfl⟩ : ∃ ao n' cap, v' = .slice ao n' cap := by
    rcases hown'.2 with ⟨hv, _⟩ | ⟨g, cap, cur, fz, hv, _⟩
    · exact ⟨_, _, _, hv⟩
    · exact ⟨_, _, _, hv⟩
  go_wp2
  go_ret2
  refine ⟨rfl, ?_, ?_⟩
  · exact Lib.BuilderAtF.put (T := 58) (e := 5) hB hb2 (bs' := bs ++ Lib.strCells s) (by simpa [Lib.strCells_length] using hown') (by decide)
  · exact (hb1.grown hgrow (by have := hb1.size; omega) (fun k hk => (hown.lt k hk).1)).setCell (p := ⟨b, 1, none⟩) hB _
set_option maxHeartbeats 1000000 in
/-- Room for so many bytes, at least one, in a builder that is new. -/
theorem bldF_Grow (B b n : Nat) (w : World) (hB : B ≤ b) (hbk : w.heap[b]? = some (.cells #[.pointer none, .slice none 0 0] 58 (0, 0))) (hBw : B ≤ w.heap.size) (hn : n ≤ 281474976710656) (hn1 : 1 ≤ n) :
    Calls Tryd.prog 58 #[.pointer (some ⟨b, 0, none⟩), .int .i64 n] w fun e w' => e = .returned (.tuple #[]) ∧ (Lib.BuilderAt 58 5 B b (.pointer (some ⟨b, 0, none⟩)) [] w' ∧ Below B w w') := by
  obtain ⟨W, hW⟩ : ∃ W, W = w.setCell ⟨b, 0, none⟩ (.pointer (some ⟨b, 0, none⟩)) := ⟨_, rfl⟩
  have hbk1 : W.heap[b]? = some (.cells #[.pointer (some ⟨b, 0, none⟩), .slice none 0 0] 58 (0, 0)) := by
    rw [hW]; simp [World.setCell, Array.getElem?_modify, hbk]
  have c1 : W.cell? ⟨b, 1, none⟩ = some (.slice none 0 0) := by rw [Lib.cell_of_heap hbk1]; rfl
  have hb1 : Below B w W := by rw [hW]; exact (Below.refl B w).setCell (p := ⟨b, 0, none⟩) hB _
  have hBW : B ≤ W.heap.size := Nat.le_trans hBw hb1.size
  have HC : Hid (Calls Tryd.prog 49 #[.pointer (some ⟨b, 0, none⟩)] w fun e w' => e = .returned (.tuple #[]) ∧ w' = W) := Lib.hid (by
    rw [hW]; exact bld_fresh b w (by rw [Lib.cell_of_heap hbk]; rfl) (by simp [World.shape?, hbk]) (Lib.frozen_of_heap hbk 0))
  have HG : Hid (∀ q, Calls Tryd.prog 66 #[.pointer (some ⟨b, 0, none⟩), .int .i64 n] (W.drewN q) fun e w' => e = .returned (.tuple #[]) ∧ (Lib.BuilderAt 58 5 B b (.pointer (some ⟨b, 0, none⟩)) [] w' ∧ Below B w w')) := Lib.hid fun q => by
    refine (rp_grow B b n (W.drewN q) hB hbk1 hBW hn).mono ?_
    rintro e w' ⟨h1, h2, h3⟩
    exact ⟨h1, h2, (show Below B w (W.drewN q) from ⟨hb1.os, hb1.tape, hb1.output, hb1.size, hb1.block⟩).trans h3⟩
  have l0 : (0 : Int) < (n : Int) := by omega
  clear hbk hbk1 hW hb1 hBW hBw
  go_enter Tryd.func58, Tryd.ntmps58
  go_wp2_with fail
  refine HC.out.mono ?_
  rintro e w1 ⟨rfl, rfl⟩
  go_upto_region 3 with (fail)
  go_quiet (fail)
  go_wp2_with fail
  refine (HG.out _).mono ?_
  rintro e w1 ⟨rfl, h1, h2⟩
  go_wp2
  go_end0
  exact ⟨rfl, h1, h2⟩
theorem zeros_cells (q : Nat) : (Lib.byteCells (List.replicate q 0)).length = q := by rw [Lib.byteCells_length, List.length_replicate]
theorem below_but {w w' : World} (h : Below w.heap.size w w') : But [] w w' := ⟨h.os, h.tape, h.output, h.size, fun k hk _ => h.block k hk⟩
theorem cutz_run {q k : Nat} (h : k ≤ q) (W : World) : (Instr.slice 9 (.string (strL (List.replicate q 0))) none (some (.int .i64 (k : Int))) none).run Tryd.prog W = .ok (.string (strL (List.replicate k 0))) W := by
  rw [run_slice_string_to_if W 9 (strL (List.replicate q 0)) .i64 (k : Int) Tryd.underlying9, if_pos (by rw [strL_size, List.length_replicate]; omega), Int.toNat_natCast, ext_list, strL_list, List.drop_zero, List.take_replicate, Nat.min_eq_left h]
theorem cells_ofR (l : List UInt8) : Lib.strCells (strL l) = Lib.byteCells l := by
  unfold Lib.strCells Lib.byteCells
  rw [show (strL l).data.toList = l from strL_list l]
theorem zero_str : (⟨#[0]⟩ : ByteArray) = strL (List.replicate 1 0) := rfl
set_option maxHeartbeats 1000000 in
theorem repeat_main (w : World) {c : Nat} (h2 : 2 ≤ c) (h63 : c ≤ 63) :
    Calls Tryd.prog 48 #[.string (strL (List.replicate 1 0)), .int .i64 c] w fun e w' => e = .returned (.string (strL (List.replicate c 0))) ∧ But [] w w' := by
  have hM := rp_Mul 1 c (by decide) (by omega) w
  rw [Nat.one_mul, Nat.div_eq_of_lt (by omega), Nat.mod_eq_of_lt (by omega)] at hM
  have HM : Hid (Calls Tryd.prog 56 #[.int .u64 1, .int .u64 (c : Int)] w fun e w' => e = .returned (.tuple #[.int .u64 0, .int .u64 (c : Int)]) ∧ w' = w) := Lib.hid hM
  have k0 : ∀ W, (Instr.index 9 (.string (strL (List.replicate 1 0))) (.int .i64 0)).run Tryd.prog W = .ok (.int .u8 0) W := fun W => by
    rw [← zero_str]
    simp [go_sem, Tryd.underlying9]
    rfl
  obtain ⟨Z, hZ⟩ : ∃ Z, Z = strL (List.replicate 1 0) := ⟨_, rfl⟩
  have hZs : Z.size = 1 := by rw [hZ, strL_size]; rfl
  rw [← hZ] at k0 ⊢
  have u1 : IntKind.u64.wrap (c : Int) = (c : Int) := by simp [IntKind.wrap_u64]; omega
  have u2 : IntKind.i64.wrap (c : Int) = (c : Int) := by rw [IntKind.wrap_i64]; omega
  have c0 : ((c : Int) == 0) = false := by simp; omega
  have c1 : ((c : Int) == 1) = false := by simp; omega
  have c2 : ¬ (c : Int) < 0 := by omega
  have c3 : ¬ (9223372036854775807 : Int) < (c : Int) := by omega
  have c4 : ¬ (8192 : Int) < (c : Int) := by omega
  clear hM
  have HZ := Lib.hid hZ
  clear hZ
  go_enter Tryd.func48, Tryd.ntmps48
  have hcA := (But.refl [] w).alloc (.cells #[.pointer none, .slice none 0 0] 58)
  obtain ⟨W1, hW1⟩ : ∃ W, W = w.alloc (.cells #[.pointer none, .slice none 0 0] 58) := ⟨_, rfl⟩
  have HGr : Hid (Calls Tryd.prog 58 #[.pointer (some ⟨w.heap.size, 0, none⟩), .int .i64 c] W1 fun e w' => e = .returned (.tuple #[]) ∧ (Lib.BuilderAt 58 5 w.heap.size w.heap.size (.pointer (some ⟨w.heap.size, 0, none⟩)) [] w' ∧ Below w.heap.size W1 w')) :=
    Lib.hid (bldF_Grow w.heap.size w.heap.size c W1 (Nat.le_refl _) (by rw [hW1]; exact heap_alloc_new w _) (by rw [hW1]; simp) (by omega) (by omega))
  have HB1 : Hid (Below w.heap.size w W1) := Lib.hid (by rw [hW1]; exact (Below.refl _ w).alloc (Nat.le_refl _) _)
  go_wp2_with fail
  refine HM.out.mono ?_
  rintro e w1 ⟨rfl, hw⟩
  obtain rfl : w = w1 := hw.symm
  go_wp2_with fail
  rw [← hW1]
  refine HGr.out.mono ?_
  rintro e W2 ⟨rfl, h1, b1⟩
  clear HGr hW1 hcA
  have HW := Lib.hid (bldF_write w.heap.size w.heap.size [] Z W2 (Lib.IsBuilderF.of (Or.inr h1)) (by simp [hZs]) (Nat.le_trans HB1.out.size b1.size))
  have HB2 := Lib.hid (HB1.out.trans b1)
  clear HB1 b1 h1
  obtain ⟨gb, hgb⟩ : ∃ g, g = w.heap.size := ⟨_, rfl⟩
  rw [← hgb] at HW HB2 ⊢
  have HGB := Lib.hid hgb
  clear hgb
  go_wp2_with fail
  refine HW.out.mono ?_
  rintro e W3 ⟨rfl, h3, b3⟩
  have HB3 := Lib.hid (HB2.out.trans b3)
  have HI3 : Hid (Lib.IsBuilderF 58 5 gb gb (Lib.byteCells (List.replicate 1 0)) W3) := Lib.hid (.inr (by
    rw [List.nil_append, HZ.out, cells_ofR] at h3
    exact h3))
  clear HW HB2 b3 h3
  go_wp2_with fail
  go_loopg [] (c - 1) (fun g wx => ∃ q : Nat, 1 ≤ q ∧ q + g = c ∧ Hid (Lib.IsBuilderF 58 5 gb gb (Lib.byteCells (List.replicate q 0)) wx) ∧ Hid (Below gb w wx))
  case atStart => exact ⟨1, Nat.le_refl _, by omega, HI3, HB3⟩
  case round =>
    clear HI3 HB3
    obtain ⟨q, hq1, hqg, HI, HB⟩ := hrel
    have cLen := rp_Len gb gb _ wr HI.out
    rw [zeros_cells] at cLen
    have HL := Lib.hid cLen
    have HS := Lib.hid (rp_String gb gb (List.replicate q 0) wr HI.out (by rw [HGB.out]; exact HB.out.size))
    clear cLen
    rw [show (⟨(List.replicate q (0 : UInt8)).toArray⟩ : ByteArray) = strL (List.replicate q 0) from rfl] at HS
    have hq63 : q ≤ 63 := by omega
    cases gk with
    | zero =>
      obtain rfl : q = c := by omega
      go_wp2_with fail
      refine HL.out.mono ?_
      rintro e w1 ⟨rfl, hw⟩
      obtain rfl : wr = w1 := hw.symm
      go_wp2_with fail
      refine HS.out.mono ?_
      rintro e w1 ⟨rfl, h3, b3⟩
      go_wp2
      go_ret
      exact ⟨rfl, below_but (by rw [← HGB.out]; exact HB.out.trans b3)⟩
    | succ g =>
      have hqc : q < c := by omega
      have l1 : (q : Int) < (c : Int) := by omega
      obtain ⟨m, hm⟩ : ∃ m, m = min (c - q) q := ⟨_, rfl⟩
      have hm1 : 1 ≤ m ∧ m ≤ q ∧ q + m ≤ c := by omega
      have hmin : ∀ (ts : Array TypeId) (t : TypeId) (W : World), (Builtin.min_ ts t #[.int .i64 ((c : Int) - (q : Int)), .int .i64 (q : Int), .int .i64 (c : Int)]).run Tryd.prog W = .ok (.int .i64 (m : Int)) W := fun ts t W => by
        rw [run_min_int3]
        congr 2
        omega
      have kz := fun W => cutz_run hm1.2.1 W
      obtain ⟨S, hS⟩ : ∃ S, S = strL (List.replicate q (0 : UInt8)) := ⟨_, rfl⟩
      rw [← hS] at HS
      simp only [← hS] at kz
      clear hS
      clear hm
      go_wp2_with fail
      refine HL.out.mono ?_
      rintro e w1 ⟨rfl, hw⟩
      obtain rfl : wr = w1 := hw.symm
      go_wp2_with fail
      refine HL.out.mono ?_
      rintro e w1 ⟨rfl, hw⟩
      obtain rfl : wr = w1 := hw.symm
      go_wp2_with fail
      refine HL.out.mono ?_
      rintro e w1 ⟨rfl, hw⟩
      obtain rfl : wr = w1 := hw.symm
      go_wp2_with fail
      refine HS.out.mono ?_
      rintro e W4 ⟨rfl, h4, b4⟩
      have HB4 := Lib.hid (HB.out.trans b4)
      have HW4 := Lib.hid (bldF_write gb gb (Lib.byteCells (List.replicate q 0)) (strL (List.replicate m 0)) W4 h4 (by rw [zeros_cells, strL_size, List.length_replicate]; omega) (by rw [HGB.out]; exact HB4.out.size))
      clear h4 b4 HL HS HI HB
      go_wp2_with fail
      refine HW4.out.mono ?_
      rintro e W5 ⟨rfl, h5, b5⟩
      have HB5 := Lib.hid (HB4.out.trans b5)
      have HI5 : Hid (Lib.IsBuilderF 58 5 gb gb (Lib.byteCells (List.replicate (q + m) 0)) W5) := Lib.hid (.inr (by
        rw [cells_ofR, ← Lib.byteCells_append, List.replicate_append_replicate] at h5
        exact h5))
      clear HW4 HB4 h5 b5
      go_wp2
      go_roundg (c - (q + m))
      case measure => omega
      case rel => exact ⟨q + m, by omega, by omega, HI5, HB5⟩
set_option maxHeartbeats 1000000 in
theorem repeat_any (w : World) {c : Nat} (h63 : c ≤ 63) :
    Calls Tryd.prog 48 #[.string (strL (List.replicate 1 0)), .int .i64 c] w fun e w' => e = .returned (.string (strL (List.replicate c 0))) ∧ But [] w w' := by
  match c, h63 with
  | 0, _ =>
    go_enter Tryd.func48, Tryd.ntmps48
    go_wp2
    go_ret
    exact ⟨rfl, But.refl [] _⟩
  | 1, _ =>
    go_enter Tryd.func48, Tryd.ntmps48
    go_wp2
    go_ret
    exact ⟨rfl, But.refl [] _⟩
  | c + 2, h => exact repeat_main w (by omega) h
end Go.Proofs.YtmdiilnipoblbaaDoor
set_option maxRecDepth 100000
set_option linter.unusedVariables false
namespace Go.Proofs.YtmdiilnipoblbaaDoor
set_option maxRecDepth 100000
open Go Go.RowKit
theorem Is.row {w : World} {b : Nat} {t : TypeId} {cs : Array Value} (h : Is w b t cs) (cs' : Array Value) : Is (w.setRow b cs') b t cs' := setRow_heap w b cs cs' t (0, 0) h
theorem But.setRow {S : List Nat} {w w' : World} (h : But S w w') {b : Nat} (hp : b ∈ S ∨ w.heap.size ≤ b) (cs : Array Value) : But S w (w'.setRow b cs) :=
  ⟨h.os, h.tape, h.output, by rw [setRow_size]; exact h.size, fun k hk hS => (setRow_other w' b k cs (by
    rcases hp with e | e
    · intro e'; subst e'; exact hS e
    · omega)).trans (h.block k hk hS)⟩
/-- What is told of a type of arrays. -/
def AggT (T : TypeId) (n : Nat) : Prop := (Tryd.prog.info? T).map (·.size) = some n ∧ ∀ w, (isAgg T).run Tryd.prog w = .ok true w
theorem AggT.sizeOf {T : TypeId} {n : Nat} (h : AggT T n) (w : World) : (sizeOf T).run Tryd.prog w = .ok n w := by
  obtain ⟨hi, _⟩ := h
  cases hq : Tryd.prog.info? T with
  | none => simp [hq] at hi
  | some i =>
    have hs : i.size = n := by simpa [hq] using hi
    simp [Go.sizeOf, typeInfo, Sem.run_bind, hq, hs]
theorem agg8 : AggT 66 8 := ⟨by kernel_rfl, fun w => by unfold isAgg; rw [Sem.run_bind, run_underlying Tryd.underlying66 w]; rfl⟩
theorem agg64 : AggT 77 64 := ⟨by kernel_rfl, fun w => by unfold isAgg; rw [Sem.run_bind, run_underlying Tryd.underlying77 w]; rfl⟩
/-- A block is read whole. -/
theorem load_is {T t : TypeId} {w : World} {b : Nat} {cs : Array Value} (h : Is w b t cs) (hT : AggT T cs.size) : (Instr.loadAt T (.pointer (some ⟨b, 0, none⟩))).run Tryd.prog w = .ok (.agg cs) w := by
  have hl := run_loadCells_list (P := Tryd.prog) w ⟨b, 0, none⟩ cs.toList (fun j v hv => by
    have hadd : (⟨b, 0, none⟩ : Addr).add j = ⟨b, j, none⟩ := by unfold Addr.add; split <;> simp_all
    rw [hadd, h.cell, ← hv, Array.getElem?_toList])
  rw [Array.length_toList] at hl
  unfold Instr.loadAt Instr.sureAddr loadVar
  simp [Sem.run_bind, hT.2, hT.sizeOf w, hl]
theorem loadVar_is {T t : TypeId} {w : World} {b : Nat} {cs : Array Value} (h : Is w b t cs) (hT : AggT T cs.size) : (loadVar T ⟨b, 0, none⟩).run Tryd.prog w = .ok (.agg cs) w := load_is h hT
/-- A block is written whole. -/
theorem store_is {T t : TypeId} {w : World} {b : Nat} {old cs : Array Value} (h : Is w b t old) (hT : AggT T cs.size) (ho : old.size = cs.size) (h1 : ∀ v ∈ cs.toList, v.oneCell' = true) : (Instr.storeAt T (.pointer (some ⟨b, 0, none⟩)) (.agg cs)).run Tryd.prog w = .ok () (w.setRow b cs) := by
  have hs := run_storeCells_from (P := Tryd.prog) b t cs.toList 0 old w h (by rw [Array.length_toList]; omega) h1
  rw [show (old.toList.take 0 ++ cs.toList).toArray = cs by simp] at hs
  unfold Instr.storeAt Instr.sureAddr storeVar
  have hc : (Value.agg cs).cells = cs := rfl
  simp [Sem.run_bind, hc, hT.sizeOf w, hs]
section
variable {ops : Array Oper} {rest : List Oper} {o : Oper} {a : Act} {w : World} {Q : Exit → Act → World → Prop}
theorem wpList_load_is (T : TypeId) {b : Nat} {t : TypeId} {cs : Array Value} (hgd : o.guard = none) (x : Operand) (ho : o.op = .load T x) (hx : a.eval x = .pointer (some ⟨b, 0, none⟩)) (hT : AggT T cs.size) (h : Is w b t cs)
    (hK : wpList Tryd.prog ops Q rest (a.put o.dst (.agg cs)) w) : wpList Tryd.prog ops Q (o :: rest) a w := by
  refine wpList_plain hgd fun K hK' => ?_
  unfold Oper.wp execOp
  simp only [ho, hx, load_is h hT, Sem.run_bind, Sem.run_pure, Result.andThen_ok]
  exact hK' _ _ hK
theorem wpList_store_is (T : TypeId) {b : Nat} {t : TypeId} {old cs : Array Value} (hgd : o.guard = none) (x v : Operand) (ho : o.op = .store T x v) (hx : a.eval x = .pointer (some ⟨b, 0, none⟩)) (hv : a.eval v = .agg cs) (hT : AggT T cs.size) (h : Is w b t old) (ho2 : old.size = cs.size) (h1 : ∀ v ∈ cs.toList, v.oneCell' = true)
    (hK : wpList Tryd.prog ops Q rest (a.put o.dst (.tuple #[])) (w.setRow b cs)) : wpList Tryd.prog ops Q (o :: rest) a w := by
  refine wpList_plain hgd fun K hK' => ?_
  unfold Oper.wp execOp
  simp only [ho, hx, hv, store_is h hT ho2 h1, Sem.run_bind, Sem.run_pure, Result.andThen_ok]
  exact hK' _ _ hK
end
/-- Words of 32 bits in memory, the last ones still 0. -/
def uCells (l : List Nat) : List Value := l.map fun x => .int .u32 (x : Nat)
def rowW (L : List Nat) (n : Nat) : Array Value := (uCells (L ++ List.replicate (n - L.length) 0)).toArray
theorem uCells_append (a b : List Nat) : uCells (a ++ b) = uCells a ++ uCells b := by simp [uCells]
theorem rowW_put {L : List Nat} {n : Nat} (x : Nat) (h : L.length < n) : (rowW L n).setIfInBounds L.length (.int .u32 (x : Nat)) = rowW (L ++ [x]) n := by
  obtain ⟨k, hk⟩ : ∃ k, n - L.length = k + 1 := ⟨n - L.length - 1, by omega⟩
  unfold rowW
  rw [hk, List.replicate_succ, List.length_append, show n - (L.length + [x].length) = k by simp; omega, uCells_append, uCells_append, uCells_append]
  apply Array.ext'
  simp [uCells]
theorem rowW_at {L : List Nat} {i : Nat} (h : i < L.length) (n : Nat) : (rowW L n)[i]? = some (.int .u32 (L.getD i 0 : Nat)) := by
  unfold rowW uCells
  rw [List.getElem?_toArray, List.map_append, List.getElem?_append_left (by rw [List.length_map]; exact h), List.getElem?_map, List.getElem?_eq_getElem h, List.getD_eq_getElem?_getD, List.getElem?_eq_getElem h]
  rfl
theorem rowW_size {L : List Nat} {n : Nat} (h : L.length ≤ n) : (rowW L n).size = n := by
  unfold rowW uCells
  simp
  omega
theorem rowW_some {L : List Nat} {n i : Nat} (h : L.length ≤ n) (hi : i < n) : ∃ v, (rowW L n)[i]? = some v := ⟨_, Array.getElem?_eq_getElem (by rw [rowW_size h]; exact hi)⟩
theorem rowW_one {L : List Nat} {n : Nat} : ∀ v ∈ (rowW L n).toList, v.oneCell' = true := by
  intro v hv
  unfold rowW uCells at hv
  rw [List.toList_toArray] at hv
  obtain ⟨y, _, rfl⟩ := List.mem_map.1 hv
  rfl
theorem info64 : (Tryd.prog.info? 77).bind (·.zero) = some (.agg (rowW [] 64)) := by kernel_rfl
theorem zero64 (w : World) : (zeroValue 77).run Tryd.prog w = .ok (.agg (rowW [] 64)) w := by
  have h := info64
  cases hq : Tryd.prog.info? 77 with
  | none => rw [hq] at h; cases h
  | some i =>
    rw [hq] at h
    have hz : i.zero = some (.agg (rowW [] 64)) := h
    simp [Go.zeroValue, typeInfo, Sem.run_bind, hq, hz]
theorem alloc64 (w : World) : (Instr.alloc 77 true (.tuple #[])).run Tryd.prog w = .ok (.pointer (some ⟨w.heap.size, 0, none⟩)) (w.alloc (.cells (rowW [] 64) 77)) := by
  unfold Instr.alloc
  simp only [Sem.run_bind, zero64, Result.andThen_ok]
  rfl
theorem wpList_alloc64 {ops : Array Oper} {rest : List Oper} {o : Oper} {a : Act} {w : World} {Q : Exit → Act → World → Prop} (hgd : o.guard = none) (ho : o.op = .alloc 77)
    (hK : wpList Tryd.prog ops Q rest (a.put o.dst (.pointer (some ⟨w.heap.size, 0, none⟩))) (w.alloc (.cells (rowW [] 64) 77))) : wpList Tryd.prog ops Q (o :: rest) a w := by
  refine wpList_plain hgd fun K hK' => ?_
  unfold Oper.wp execOp
  simp only [ho, alloc64, Sem.run_bind, Sem.run_pure, Result.andThen_ok]
  exact hK' _ _ hK
end Go.Proofs.YtmdiilnipoblbaaDoor
set_option maxRecDepth 100000
set_option linter.unusedVariables false
namespace Go.Proofs.YtmdiilnipoblbaaDoor
set_option maxRecDepth 100000
open Go Go.RowKit
theorem cut_midH (s : List UInt8) {i j : Nat} (h : i ≤ j) (W : World) (hj : j ≤ s.length) : (Instr.slice 9 (.string (strL s)) (some (.int .i64 (i : Int))) (some (.int .i64 (j : Int))) none).run Tryd.prog W = .ok (.string (strL ((s.drop i).take (j - i)))) W := by
  rw [run_slice_string W 9 (strL s) .i64 .i64 (i : Int) (j : Int) Tryd.underlying9 (by omega) (by omega) (by rw [strL_size]; omega), Int.toNat_natCast, Int.toNat_natCast, ext_list, strL_list, List.drop_take]
theorem cut_fromH (s : List UInt8) {i : Nat} (W : World) (hi : i ≤ s.length) : (Instr.slice 9 (.string (strL s)) (some (.int .i64 (i : Int))) none none).run Tryd.prog W = .ok (.string (strL (s.drop i))) W := by
  rw [run_slice_string_from_if W 9 (strL s) .i64 (i : Int) Tryd.underlying9, if_pos (by rw [strL_size]; omega), Int.toNat_natCast, ext_list, strL_list, List.take_of_length_le (by rw [strL_size]; exact Nat.le_refl _)]
theorem cut_toH (s : List UInt8) {j : Nat} (W : World) (hj : j ≤ s.length) : (Instr.slice 9 (.string (strL s)) none (some (.int .i64 (j : Int))) none).run Tryd.prog W = .ok (.string (strL (s.take j))) W := by
  rw [run_slice_string_to_if W 9 (strL s) .i64 (j : Int) Tryd.underlying9, if_pos (by rw [strL_size]; omega), Int.toNat_natCast, ext_list, strL_list, List.drop_zero]
theorem wordsB_length (b : List UInt8) : (wordsB b).length = 16 := by unfold wordsB; rw [List.length_map, List.length_range]
theorem wordsB_next (b : List UInt8) {k : Nat} (h : k < 16) : (wordsB b).take (k + 1) = (wordsB b).take k ++ [ofL ((b.drop (4 * k)).take 4)] := by
  have hl : k < (wordsB b).length := by rw [wordsB_length]; exact h
  have e : (wordsB b)[k]'hl = ofL ((b.drop (4 * k)).take 4) := by simp only [wordsB, List.getElem_map, List.getElem_range]
  rw [List.take_succ_eq_append_getElem hl, e]
theorem nextWd_of {w : List Nat} {k x y p q s0 s1 : Nat} (hk : w.length = k) (h16 : 16 ≤ k) (hx : w.getD (k - 15) 0 = x) (hy : w.getD (k - 2) 0 = y) (hp : w.getD (k - 16) 0 = p) (hq : w.getD (k - 7) 0 = q)
    (h0 : s0 = rotT x 7 ^^^ rotT x 18 ^^^ x / 8) (h1 : s1 = rotT y 17 ^^^ rotT y 19 ^^^ y / 1024) : (((p + s0) % 4294967296 + q) % 4294967296 + s1) % 4294967296 = nextWd w := by
  unfold nextWd
  rw [hk, hx, hy, hp, hq, Nat.shiftRight_eq_div_pow, Nat.shiftRight_eq_div_pow, show 2 ^ 3 = 8 from rfl, show 2 ^ 10 = 1024 from rfl, ← h0, ← h1]
  omega
attribute [local irreducible] rowW wordsB extWd nextWd rotT
set_option maxHeartbeats 2000000 in
theorem pschedule_any (w : World) {b : List UInt8} (hb : b.length = 64) :
    Calls Tryd.prog 51 #[.string (strL b)] w fun e w' => e = .returned (.agg (rowW (extWd 48 (wordsB b)) 64)) ∧ But [] w w' := by
  have hI2 := Is.fresh w 77 (rowW [] 64)
  have hI2b := hI2.alloc (.cells (rowW [] 64) 77)
  have hI3 := Is.fresh (w.alloc (.cells (rowW [] 64) 77)) 77 (rowW [] 64)
  have hB0 := ((But.refl [] w).alloc (.cells (rowW [] 64) 77)).alloc (.cells (rowW [] 64) 77)
  obtain ⟨W0, hW0⟩ : ∃ W, W = (w.alloc (.cells (rowW [] 64) 77)).alloc (.cells (rowW [] 64) 77) := ⟨_, rfl⟩
  obtain ⟨g2, hg2⟩ : ∃ g, g = w.heap.size := ⟨_, rfl⟩
  obtain ⟨g3, hg3⟩ : ∃ g, g = w.heap.size + 1 := ⟨_, rfl⟩
  have hsz : (w.alloc (.cells (rowW [] 64) 77)).heap.size = w.heap.size + 1 := by simp
  rw [hsz] at hI3
  have hne : g2 ≠ g3 := by rw [hg2, hg3]; simp
  have hle2 : w.heap.size ≤ g2 := Nat.le_of_eq hg2.symm
  have hle3 : w.heap.size ≤ g3 := by rw [hg3]; omega
  have HI2 : Hid (Is W0 g2 77 (rowW [] 64)) := Lib.hid (by rw [hW0, hg2]; exact hI2b)
  have HI3 : Hid (Is W0 g3 77 (rowW ((wordsB b).take 0) 64)) := Lib.hid (by rw [hW0, hg3]; exact hI3)
  have HB0 : Hid (But [] w W0) := Lib.hid (by rw [hW0]; exact hB0)
  have HL2 := Lib.hid hle2
  have HL3 := Lib.hid hle3
  have HNE := Lib.hid hne
  have HWL := Lib.hid (wordsB_length b)
  have HBL := Lib.hid hb
  clear hsz hI2 hI2b hI3 hB0 hle2 hle3 hne
  go_enter Tryd.func51, Tryd.ntmps51
  go_wp2_with (refine wpList_alloc64 rfl rfl ?_)
  rw [← hW0, ← hg3, ← hg2]
  clear hW0 hg2 hg3
  go_loopw [4, 10] (fun tv kv wr => ∃ k : Nat, k ≤ 16 ∧ kv = .int .i64 k ∧ Hid (Is wr g2 77 (rowW [] 64)) ∧ Hid (Is wr g3 77 (rowW ((wordsB b).take k) 64)) ∧ Hid (But [] w wr)) (fun _ kv _ => 16 - (intOf kv).toNat)
  case atStart => exact ⟨0, Nat.zero_le _, rfl, HI2, HI3, HB0⟩
  case round =>
    clear HI2 HI3 HB0
    obtain ⟨k, hk, rfl, HI2, HI3, HB⟩ := hrel
    by_cases hlt : k < 16
    · obtain ⟨p, hp⟩ : ∃ p, p = 4 * k := ⟨_, rfl⟩
      obtain ⟨k1, hk1⟩ : ∃ q, q = k + 1 := ⟨_, rfl⟩
      obtain ⟨q, hq⟩ : ∃ q, q = 4 * k1 := ⟨_, rfl⟩
      have e1 : (4 : Int) * (k : Int) = (p : Int) := by omega
      have e2 : (k : Int) + 1 = (k1 : Int) := by omega
      have e3 : (4 : Int) * (k1 : Int) = (q : Int) := by omega
      have kc := fun W => cut_midH b (i := p) (j := q) (by omega) W (by rw [hb]; omega)
      rw [show q - p = 4 by omega] at kc
      have hl4 : ((b.drop p).take 4).length = 4 := by rw [List.length_take, List.length_drop, hb]; omega
      have HV := Lib.hid fun W => pvalueW_any W hl4
      obtain ⟨n, hn⟩ : ∃ n, n = ofL ((b.drop p).take 4) := ⟨_, rfl⟩
      obtain ⟨S, hS⟩ : ∃ S, S = strL ((b.drop p).take 4) := ⟨_, rfl⟩
      have HN : Hid ((wordsB b).take k ++ [n] = (wordsB b).take (k + 1)) := Lib.hid (by rw [wordsB_next b hlt, hn, hp])
      have HTL : Hid (((wordsB b).take k).length = k) := Lib.hid (by rw [List.length_take, HWL.out]; omega)
      rw [← hn, ← hS] at HV
      simp only [← hS] at kc
      clear hn hS hl4 hp hk1 hq
      go_wp2_with (go_at_call 61; refine (HV.out _).mono ?_)
      rintro e w1 ⟨rfl, nq, rfl⟩
      have hI3 := HI3.out.drewN nq
      obtain ⟨v, hv⟩ := rowW_some (L := (wordsB b).take k) (n := 64) (i := k) (by rw [HTL.out]; omega) (by omega)
      have c0 := hI3.cell k
      rw [hv] at c0
      have c1 := hI3.free k
      have HI3b : Hid (Is ((wr.drewN nq).setCell ⟨g3, k, none⟩ (.int .u32 (n : Nat))) g3 77 (rowW ((wordsB b).take (k + 1)) 64)) := Lib.hid (by
        have h := hI3.put k (.int .u32 (n : Nat))
        have e := rowW_put (L := (wordsB b).take k) (n := 64) n (by rw [HTL.out]; omega)
        rw [HTL.out] at e
        rw [e, HN.out] at h
        exact h)
      have HI2b : Hid (Is ((wr.drewN nq).setCell ⟨g3, k, none⟩ (.int .u32 (n : Nat))) g2 77 (rowW [] 64)) := Lib.hid ((HI2.out.drewN nq).far HNE.out _)
      have HBb : Hid (But [] w ((wr.drewN nq).setCell ⟨g3, k, none⟩ (.int .u32 (n : Nat)))) := Lib.hid ((HB.out.drewN nq).setCell (.inr HL3.out) _)
      clear hI3 hv HV kc
      go_wp2
      go_roundw
      case rel => exact ⟨k + 1, by omega, by go_num, HI2b, HI3b, HBb⟩
      case measure => simp [intOf] <;> omega
    · have HI3b : Hid (Is wr g3 77 (rowW (extWd 0 (wordsB b)) 64)) := Lib.hid (by
        have h := HI3.out
        rw [List.take_of_length_le (by rw [HWL.out]; omega)] at h
        rw [show extWd 0 (wordsB b) = wordsB b by unfold extWd; rfl]
        exact h)
      obtain ⟨k0, hk0⟩ : ∃ z, z = k := ⟨_, rfl⟩
      rw [← hk0] at hlt hk ⊢
      clear HI3 hk0
      obtain ⟨wv, rfl⟩ : ∃ W, W = wr := ⟨wr, rfl⟩
      go_wp2_with fail
      clear hlt hk
      go_loopw [5, 6, 7, 8, 9] (fun kv _ _ _ _ wx => ∃ k : Nat, k ≤ 48 ∧ kv = .int .i64 ((k + 16 : Nat) : Int) ∧ Hid (Is wx g2 77 (rowW [] 64)) ∧ Hid (Is wx g3 77 (rowW (extWd k (wordsB b)) 64)) ∧ Hid (But [] w wx)) (fun kv _ _ _ _ _ => 64 - (intOf kv).toNat)
      case atStart => exact ⟨0, Nat.zero_le _, rfl, HI2, HI3b, HB⟩
      case round =>
        clear HI2 HI3b HB
        obtain ⟨k, hk, rfl, HI2, HI3, HB⟩ := hrel
        obtain ⟨t, ht⟩ : ∃ t, t = k + 16 := ⟨_, rfl⟩
        rw [← ht]
        by_cases hlt : k < 48
        · obtain ⟨X, hX⟩ : ∃ X, X = extWd k (wordsB b) := ⟨_, rfl⟩
          have hXl : X.length = t := by rw [hX, extWd_length, HWL.out, ht]; omega
          have hXs : Small X := by rw [hX]; exact small_ext k (small_words b)
          obtain ⟨i15, h15⟩ : ∃ i, i = t - 15 := ⟨_, rfl⟩
          obtain ⟨i2, h2⟩ : ∃ i, i = t - 2 := ⟨_, rfl⟩
          obtain ⟨i16, h16⟩ : ∃ i, i = t - 16 := ⟨_, rfl⟩
          obtain ⟨i7, h7⟩ : ∃ i, i = t - 7 := ⟨_, rfl⟩
          have e15 : (t : Int) - 15 = (i15 : Int) := by omega
          have e2 : (t : Int) - 2 = (i2 : Int) := by omega
          have e16 : (t : Int) - 16 = (i16 : Int) := by omega
          have e7 : (t : Int) - 7 = (i7 : Int) := by omega
          have w15 := wrapI_in (show i15 < 1000000000000000 by omega)
          have w2 := wrapI_in (show i2 < 1000000000000000 by omega)
          have w16 := wrapI_in (show i16 < 1000000000000000 by omega)
          have w7 := wrapI_in (show i7 < 1000000000000000 by omega)
          obtain ⟨x, hx⟩ : ∃ x, x = X.getD i15 0 := ⟨_, rfl⟩
          obtain ⟨y, hy⟩ : ∃ x, x = X.getD i2 0 := ⟨_, rfl⟩
          obtain ⟨p, hp⟩ : ∃ x, x = X.getD i16 0 := ⟨_, rfl⟩
          obtain ⟨q, hq⟩ : ∃ x, x = X.getD i7 0 := ⟨_, rfl⟩
          have xl : x < 4294967296 := by rw [hx]; exact hXs _
          have yl : y < 4294967296 := by rw [hy]; exact hXs _
          have pl : p < 4294967296 := by rw [hp]; exact hXs _
          have ql : q < 4294967296 := by rw [hq]; exact hXs _
          rw [← hX] at HI3
          have c15 := HI3.out.cell i15
          rw [rowW_at (by omega), ← hx] at c15
          have c2 := HI3.out.cell i2
          rw [rowW_at (by omega), ← hy] at c2
          have c16 := HI3.out.cell i16
          rw [rowW_at (by omega), ← hp] at c16
          have c7 := HI3.out.cell i7
          rw [rowW_at (by omega), ← hq] at c7
          have l15 : i15 < 64 := by omega
          have l2 : i2 < 64 := by omega
          have l16 : i16 < 64 := by omega
          have l7 : i7 < 64 := by omega
          have lt : t < 64 := by omega
          have H7 := Lib.hid fun W => protr_any W (n := 7) xl (by decide)
          have H18 := Lib.hid fun W => protr_any W (n := 18) xl (by decide)
          have H17 := Lib.hid fun W => protr_any W (n := 17) yl (by decide)
          have H19 := Lib.hid fun W => protr_any W (n := 19) yl (by decide)
          obtain ⟨r7, hr7⟩ : ∃ r, r = rotT x 7 := ⟨_, rfl⟩
          obtain ⟨r18, hr18⟩ : ∃ r, r = rotT x 18 := ⟨_, rfl⟩
          obtain ⟨r17, hr17⟩ : ∃ r, r = rotT y 17 := ⟨_, rfl⟩
          obtain ⟨r19, hr19⟩ : ∃ r, r = rotT y 19 := ⟨_, rfl⟩
          rw [← hr7] at H7
          rw [← hr18] at H18
          rw [← hr17] at H17
          rw [← hr19] at H19
          have b7 : r7 < 4294967296 := by rw [hr7]; exact rotT_lt _ _
          have b18 : r18 < 4294967296 := by rw [hr18]; exact rotT_lt _ _
          have b17 : r17 < 4294967296 := by rw [hr17]; exact rotT_lt _ _
          have b19 : r19 < 4294967296 := by rw [hr19]; exact rotT_lt _ _
          obtain ⟨x3, hx3⟩ : ∃ z, z = x / 8 := ⟨_, rfl⟩
          obtain ⟨y10, hy10⟩ : ∃ z, z = y / 1024 := ⟨_, rfl⟩
          have f3 : (x : Int) / 8 = (x3 : Int) := by omega
          have f10 : (y : Int) / 1024 = (y10 : Int) := by omega
          have wx3 : IntKind.u32.wrap (x3 : Int) = (x3 : Int) := wrapW_in (by omega)
          have wy10 : IntKind.u32.wrap (y10 : Int) = (y10 : Int) := wrapW_in (by omega)
          obtain ⟨m0, hm0⟩ : ∃ z, z = r7 ^^^ r18 := ⟨_, rfl⟩
          obtain ⟨s0, hs0⟩ : ∃ z, z = m0 ^^^ x3 := ⟨_, rfl⟩
          obtain ⟨m1, hm1⟩ : ∃ z, z = r17 ^^^ r19 := ⟨_, rfl⟩
          obtain ⟨s1, hs1⟩ : ∃ z, z = m1 ^^^ y10 := ⟨_, rfl⟩
          have lm0 : m0 < 4294967296 := by rw [hm0]; exact Nat.xor_lt_two_pow (n := 32) b7 b18
          have lm1 : m1 < 4294967296 := by rw [hm1]; exact Nat.xor_lt_two_pow (n := 32) b17 b19
          have ls0 : s0 < 4294967296 := by rw [hs0]; exact Nat.xor_lt_two_pow (n := 32) lm0 (show x3 < 2 ^ 32 by omega)
          have ls1 : s1 < 4294967296 := by rw [hs1]; exact Nat.xor_lt_two_pow (n := 32) lm1 (show y10 < 2 ^ 32 by omega)
          have g1 : bits .xor .u32 (r7 : Int) (r18 : Int) = (m0 : Int) := by rw [u32_xor_nat _ _ b7 b18, hm0]
          have g2x : bits .xor .u32 (m0 : Int) (x3 : Int) = (s0 : Int) := by rw [u32_xor_nat _ _ lm0 (by omega), hs0]
          have g3x : bits .xor .u32 (r17 : Int) (r19 : Int) = (m1 : Int) := by rw [u32_xor_nat _ _ b17 b19, hm1]
          have g4 : bits .xor .u32 (m1 : Int) (y10 : Int) = (s1 : Int) := by rw [u32_xor_nat _ _ lm1 (by omega), hs1]
          obtain ⟨a1, ha1⟩ : ∃ z, z = p + s0 := ⟨_, rfl⟩
          obtain ⟨a2, ha2⟩ : ∃ z, z = a1 % 4294967296 := ⟨_, rfl⟩
          obtain ⟨a3, ha3⟩ : ∃ z, z = a2 + q := ⟨_, rfl⟩
          obtain ⟨a4, ha4⟩ : ∃ z, z = a3 % 4294967296 := ⟨_, rfl⟩
          obtain ⟨a5, ha5⟩ : ∃ z, z = a4 + s1 := ⟨_, rfl⟩
          obtain ⟨a6, ha6⟩ : ∃ z, z = a5 % 4294967296 := ⟨_, rfl⟩
          have j1 : (p : Int) + (s0 : Int) = (a1 : Int) := by omega
          have j2 : IntKind.u32.wrap (a1 : Int) = (a2 : Int) := by rw [wrapW, ha2]
          have j3 : (a2 : Int) + (q : Int) = (a3 : Int) := by omega
          have j4 : IntKind.u32.wrap (a3 : Int) = (a4 : Int) := by rw [wrapW, ha4]
          have j5 : (a4 : Int) + (s1 : Int) = (a5 : Int) := by omega
          have j6 : IntKind.u32.wrap (a5 : Int) = (a6 : Int) := by rw [wrapW, ha6]
          have HNX : Hid (X ++ [a6] = extWd (k + 1) (wordsB b)) := Lib.hid (by
            rw [extWd_succ, ← hX, ← nextWd_of (x := x) (y := y) (p := p) (q := q) (s0 := s0) (s1 := s1) hXl (by omega) (by rw [hx, h15]) (by rw [hy, h2]) (by rw [hp, h16]) (by rw [hq, h7]) (by rw [hs0, hm0, hr7, hr18, hx3]) (by rw [hs1, hm1, hr17, hr19, hy10])]
            rw [ha6, ha5, ha4, ha3, ha2, ha1])
          obtain ⟨v, hv⟩ := rowW_some (L := X) (n := 64) (i := t) (by omega) lt
          have ct := HI3.out.cell t
          rw [hv] at ct
          have cf := HI3.out.free t
          have HPUT : Hid ((rowW X 64).setIfInBounds t (.int .u32 (a6 : Nat)) = rowW (extWd (k + 1) (wordsB b)) 64) := Lib.hid (by
            have e := rowW_put (L := X) (n := 64) a6 (by omega)
            rw [hXl] at e
            rw [e, HNX.out])
          have t0 : (0 : Int) ≤ (t : Int) := by omega
          have t64 : (t : Int) < 64 := by omega
          have HT := Lib.hid ht
          clear hX hXl hXs h15 h2 h16 h7 hx hy hp hq hr7 hr18 hr17 hr19 hx3 hy10 hm0 hs0 hm1 hs1 ha1 ha2 ha3 ha4 ha5 ha6 hv HNX ht
          clear xl yl pl ql b7 b18 b17 b19 lm0 lm1 ls0 ls1
          go_upto_region 10 with (fail)
          go_quiet (fail)
          go_wp2_with fail
          refine (H7.out _).mono ?_
          rintro e w1 ⟨rfl, n1, rfl⟩
          go_wp2_with fail
          refine (H18.out _).mono ?_
          rintro e w1 ⟨rfl, n2, rfl⟩
          go_wp2_with fail
          refine (H17.out _).mono ?_
          rintro e w1 ⟨rfl, n3, rfl⟩
          go_wp2_with fail
          refine (H19.out _).mono ?_
          rintro e w1 ⟨rfl, n4, rfl⟩
          have hW3 := (HI3.out.drewN (nq + n1 + n2 + n3)).drewN n4
          have hW2 := (HI2.out.drewN (nq + n1 + n2 + n3)).drewN n4
          have hWB := (HB.out.drewN (nq + n1 + n2 + n3)).drewN n4
          obtain ⟨W1, hW1⟩ : ∃ W, W = (wr.drewN (nq + n1 + n2 + n3)).drewN n4 := ⟨_, rfl⟩
          rw [← hW1] at hW3 hW2 hWB ⊢
          have d16 := hW3.cell i16
          have d7 := hW3.cell i7
          have dt := hW3.cell t
          have df := hW3.free t
          rw [← HI3.out.cell, c16] at d16
          rw [← HI3.out.cell, c7] at d7
          rw [← HI3.out.cell, ct] at dt
          clear c15 c2 c16 c7 ct cf hW1
          have HI3b : Hid (Is (W1.setCell ⟨g3, t, none⟩ (.int .u32 (a6 : Nat))).drew g3 77 (rowW (extWd (k + 1) (wordsB b)) 64)) := Lib.hid (by
            have h := (hW3.put t (.int .u32 (a6 : Nat))).drew
            rw [HPUT.out] at h
            exact h)
          have HI2b : Hid (Is (W1.setCell ⟨g3, t, none⟩ (.int .u32 (a6 : Nat))).drew g2 77 (rowW [] 64)) := Lib.hid (hW2.far HNE.out _).drew
          have HBb : Hid (But [] w (W1.setCell ⟨g3, t, none⟩ (.int .u32 (a6 : Nat))).drew) := Lib.hid (hWB.setCell (.inr HL3.out) _).drew
          clear hW3 hW2 hWB HI3 HI2 HB HPUT
          go_wp2_with fail
          go_region
          all_goals
            go_wp2
            go_roundw
            case rel => refine ⟨k + 1, by omega, ?_, HI2b, HI3b, HBb⟩; have := HT.out; go_num
            case measure => simp [intOf] <;> omega
        · have h48 : k = 48 := by omega
          have hz2 : (rowW [] 64).size = 64 := rowW_size (by decide)
          rw [h48] at HI3
          have hz3 : (rowW (extWd 48 (wordsB b)) 64).size = 64 := rowW_size (by rw [extWd_length, HWL.out]; decide)
          have HI4 := HI2.out.row (rowW (extWd 48 (wordsB b)) 64)
          have HB4 := HB.out.setRow (b := g2) (.inr HL2.out) (rowW (extWd 48 (wordsB b)) 64)
          have t64 : ¬ (t : Int) < 64 := by omega
          go_wp2_with (first
            | (refine wpList_load_is 77 rfl _ rfl rfl (by rw [hz3]; exact agg64) HI3.out ?_)
            | (refine wpList_store_is 77 rfl _ _ rfl rfl rfl (by rw [hz3]; exact agg64) HI2.out (by rw [hz2, hz3]) rowW_one ?_))
          refine bodyPost_ret (v := .agg (rowW (extWd 48 (wordsB b)) 64)) ?_ rfl ⟨rfl, HB4⟩
          have hl := loadVar_is (T := 77) HI4 (by rw [hz3]; exact agg64)
          simp [results, Tryd.results51, asAddr, hl]
end Go.Proofs.YtmdiilnipoblbaaDoor
