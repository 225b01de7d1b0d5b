/- Several texts in one: BaN, BaP, Slib, CkA, BuA, BuB, BbF, BaF (what BandsJoins reach of them). -/
import Derived.Test.YtmdiilnipoblbaaDoorK01
import Derived.Test.YtmdiilnipoblbaaDoorK02
import Derived.Test.YtmdiilnipoblbaaDoorK03
import Derived.Test.YtmdiilnipoblbaaDoorK04
import Derived.Test.YtmdiilnipoblbaaDoorK05
import Derived.Test.YtmdiilnipoblbaaDoorK07
import Derived.Test.YtmdiilnipoblbaaDoorK11
import Derived.Test.YtmdiilnipoblbaaDoorK13
import Derived.Test.YtmdiilnipoblbaaDoorK15
import Derived.Test.YtmdiilnipoblbaaDoorK18
import Derived.ArgAppend
import Derived.Below
import Derived.BigQuiet
import Derived.BigRegion
import Derived.Deep.AppendLies
import Derived.Deep.Cut
import Derived.Deep.CutBlock
import Derived.Deep.CutRange
import Derived.Deep.DeepCutAuto
import Derived.Deep.Draws
import Derived.Deep.LoopGhost
import Derived.Deep.QuietTactic
import Derived.Deep.RegionLaw
import Derived.Deep.RegionWith
import Derived.Deep.Slices
import Derived.Handy
import Derived.Laws.BitsAllLaws
import Derived.Laws.BitsLemmas
import Derived.Laws.BytesArg
import Derived.Laws.Cells
import Derived.Laws.Externs
import Derived.Laws.IdiomStrings
import Derived.Laws.MakeOwn
import Derived.Laws.OwnMore
import Derived.Laws.Rows
import Derived.Laws.StructEq
import Derived.Laws.Tables
import Derived.Lib.AppendStr
import Derived.Lib.BufferWrite
import Derived.Lib.Hide
import Derived.Lib.UnsafeStr
import Derived.Maps.AppendAt
import Derived.OpenShut
import Derived.OrdersHeld
import Derived.OrdersIn
import Derived.Outline
import Derived.OwnWalk
import Derived.OwnWalkIn
import Derived.ProofKit
import Derived.RangeFuncCalls
import Derived.RegionTactic
import Derived.Shelf.LaysM
import Derived.Shelf.Small.Wraps
import Derived.Shelf.Strconv.Clone
import Derived.Shelf.Strings.Builder1
import Derived.Shelf.Strings.BuilderF
import Derived.Shelf.Strings.Prefix
import Derived.Shelf.Strings.Repeat
import Derived.Sort.CutIn
import Derived.TacticsInMore
import Derived.Test.YtmdiilnipoblbaaDoorChecked
import Derived.WalkKit
set_option maxRecDepth 100000
set_option linter.unusedVariables false
set_option linter.unusedVariables false
namespace Go.Proofs.YtmdiilnipoblbaaDoor
set_option maxRecDepth 100000
open Go
/-- Whether a list's strings are the bands of a manifest, the first so many. -/
def fitB (s : List UInt8) (l : List (List UInt8)) (k : Nat) : Prop := ∀ i, i < k → (l.getD i []).length = sizeB (manW s) (manH s) i ∧ shaT (l.getD i []) = hashB s i
theorem fitB_next {s : List UInt8} {l : List (List UInt8)} {k : Nat} (h : fitB s l k) (h1 : (l.getD k []).length = sizeB (manW s) (manH s) k) (h2 : shaT (l.getD k []) = hashB s k) : fitB s l (k + 1) := by
  intro i hi
  by_cases e : i = k
  · rw [e]; exact ⟨h1, h2⟩
  · exact h i (by omega)
/-- What is told of a manifest and bands: the raster, or what is wrong. -/
noncomputable def joinB (s : List UInt8) (l : List (List UInt8)) : (Nat × Nat × List UInt8) × Int :=
  open Classical in
  if ¬ okM s then ((0, 0, []), 42) else if l.length ≠ manyB (manH s) ∨ ¬ fitB s l (manyB (manH s)) then ((0, 0, []), 43) else ((manW s, manH s, l.flatten), 0)
theorem joinB_bad {s : List UInt8} {l : List (List UInt8)} (h : ¬ okM s) : joinB s l = ((0, 0, []), 42) := by unfold joinB; rw [if_pos h]
theorem joinB_many {s : List UInt8} {l : List (List UInt8)} (h : okM s) (hl : l.length ≠ manyB (manH s)) : joinB s l = ((0, 0, []), 43) := by
  unfold joinB; rw [if_neg (fun e => e h), if_pos (.inl hl)]
theorem joinB_band {s : List UInt8} {l : List (List UInt8)} (h : okM s) {i : Nat} (hi : i < manyB (manH s)) (hf : ¬ ((l.getD i []).length = sizeB (manW s) (manH s) i ∧ shaT (l.getD i []) = hashB s i)) : joinB s l = ((0, 0, []), 43) := by
  unfold joinB; rw [if_neg (fun e => e h), if_pos (.inr (fun f => hf (f i hi)))]
theorem joinB_ok {s : List UInt8} {l : List (List UInt8)} (h : okM s) (hl : l.length = manyB (manH s)) (hf : fitB s l (manyB (manH s))) : joinB s l = ((manW s, manH s, l.flatten), 0) := by
  unfold joinB; rw [if_neg (fun e => e h), if_neg (fun e => e.elim (fun e => e hl) (fun e => e hf))]
theorem size_most {s : List UInt8} (h : okM s) (i : Nat) : sizeB (manW s) (manH s) i ≤ 65536 := by
  have h1 := okM_right h
  unfold sizeB
  have : 8 * manW s * min 8 (manH s - i * 8) ≤ 8192 * 8 := Nat.mul_le_mul (by omega) (Nat.min_le_left _ _)
  omega
end Go.Proofs.YtmdiilnipoblbaaDoor
set_option maxRecDepth 100000
set_option linter.unusedVariables false
namespace Go.Proofs.YtmdiilnipoblbaaDoor
set_option maxRecDepth 100000
open Go Go.RowKit
/-- The bytes of strings. -/
def bl (L : List ByteArray) : List (List UInt8) := L.map fun x => x.data.toList
theorem bl_len (L : List ByteArray) : (bl L).length = L.length := by unfold bl; rw [List.length_map]
theorem bl_at {L : List ByteArray} {i : Nat} {x : ByteArray} (h : L[i]? = some x) : (bl L).getD i [] = x.data.toList := by
  unfold bl
  rw [List.getD_eq_getElem?_getD, List.getElem?_map, h]
  rfl
/-- The first so many strings, one behind the other. -/
def flatB (L : List ByteArray) (k : Nat) : List UInt8 := ((bl L).take k).flatten
theorem flatB_next {L : List ByteArray} {k : Nat} {x : ByteArray} (h : L[k]? = some x) : flatB L (k + 1) = flatB L k ++ x.data.toList := by
  unfold flatB
  have hl : k < (bl L).length := by rw [bl_len]; exact (List.getElem?_eq_some_iff.1 h).1
  have e : (bl L)[k]? = some x.data.toList := by unfold bl; rw [List.getElem?_map, h]; rfl
  rw [List.take_add_one, e]
  simp
theorem flatB_all {L : List ByteArray} {n : Nat} (h : L.length = n) : flatB L n = (bl L).flatten := by
  unfold flatB
  rw [List.take_of_length_le (by rw [bl_len, h]; exact Nat.le_refl _)]
theorem flatB_len {s : List UInt8} {L : List ByteArray} : ∀ {k : Nat}, fitB s (bl L) k → k ≤ manyB (manH s) → k ≤ L.length → (flatB L k).length = 8 * manW s * min (8 * k) (manH s)
  | 0, _, _, _ => by rw [show min (8 * 0) (manH s) = 0 by omega]; rfl
  | k + 1, hf, hk, hl => by
    have ih := flatB_len (k := k) (fun i hi => hf i (by omega)) (by omega) (by omega)
    have hx : L[k]? = some L[k] := List.getElem?_eq_getElem (by omega)
    have h8 := many_lt (show k < manyB (manH s) by omega)
    have hz := (hf k (by omega)).1
    rw [bl_at hx] at hz
    rw [flatB_next hx, List.length_append, ih, hz]
    unfold sizeB
    rw [← Nat.mul_add]
    congr 1
    omega
/-- What is left for the band of a place. -/
theorem size_rest {W H k : Nat} (hk : k < manyB H) : min (64 * W) (8 * W * H - 8 * W * min (8 * k) H) = sizeB W H k ∧ 8 * W * min (8 * k) H ≤ 8 * W * H := by
  have h8 := many_lt hk
  rw [Nat.min_eq_left (show 8 * k ≤ H by omega), ← Nat.mul_sub]
  refine ⟨?_, Nat.mul_le_mul_left _ (by omega)⟩
  unfold sizeB
  rw [show 64 * W = 8 * W * 8 by omega, ← Nat.mul_min_mul_left]
  congr 2
  omega
theorem toList_strL (l : List UInt8) : (strL l).toList = l := by rw [ByteArray.toList_eq]; exact strL_list l
theorem join_ret {fn : Func} (hfn : fn.results = #[.cell 4 23, .tmp 5]) {w V : World} {b : Nat} {tmps : Array Value} {er : Int} {c0 : Array Value} (hI : Is V b 23 c0) (hs : c0.size = 3) (hB : But [] w V) (hb : w.heap.size ≤ b)
    (h4 : tmps[4]? = some (.pointer (some ⟨b, 0, none⟩))) (h5 : tmps[5]? = some (.int .i64 er)) (x y : Int) (p : ByteArray) :
    bodyPost Tryd.prog fn (fun e w' => e = .returned (.tuple #[.agg #[.int .i64 x, .int .i64 y, .string p], .int .i64 er]) ∧ But [] w w') Exit.ret { tmps := tmps, defers := [] }
      (((V.setCell ⟨b, 0, none⟩ (.int .i64 x)).setCell ⟨b, 1, none⟩ (.int .i64 y)).setCell ⟨b, 2, none⟩ (.string p)) := by
  obtain ⟨a0, a1, a2, rfl⟩ : ∃ a0 a1 a2, c0 = #[a0, a1, a2] := by
    match c0, hs with
    | ⟨[a0, a1, a2]⟩, _ => exact ⟨a0, a1, a2, rfl⟩
  have h0 := hI.put 0 (.int .i64 x)
  have h1 := h0.put 1 (.int .i64 y)
  have h2 := h1.put 2 (.string p)
  have k0 := hB.setCell (p := ⟨b, 0, none⟩) (.inr hb) (.int .i64 x)
  have k1 := k0.setCell (p := ⟨b, 1, none⟩) (.inr hb) (.int .i64 y)
  have k2 := k1.setCell (p := ⟨b, 2, none⟩) (.inr hb) (.string p)
  obtain ⟨W, hW⟩ : ∃ W, W = (((V.setCell ⟨b, 0, none⟩ (.int .i64 x)).setCell ⟨b, 1, none⟩ (.int .i64 y)).setCell ⟨b, 2, none⟩ (.string p)) := ⟨_, rfl⟩
  rw [← hW] at h2 k2 ⊢
  clear h0 h1 k0 k1 hW
  have e0 := h2.cell 0
  have e1 := h2.cell 1
  have e2 := h2.cell 2
  refine bodyPost_ret (v := .tuple #[.agg #[.int .i64 x, .int .i64 y, .string p], .int .i64 er]) ?_ rfl ⟨rfl, k2⟩
  simp [results, hfn, go_sem, e0, e1, e2, h4, h5]
end Go.Proofs.YtmdiilnipoblbaaDoor
set_option maxRecDepth 100000
set_option linter.unusedVariables false
namespace Go.Proofs.YtmdiilnipoblbaaDoor
set_option maxRecDepth 100000
open Go Go.Shelf Go.RowKit
def lays169_ren : Go.Shelf.Ren := ⟨fun | 169 => 38 | n => n, fun | 70 => 56 | 9 => 9 | 0 => 0 | 72 => 58 | 37 => 48 | 127 => 75 | 3 => 3 | 5 => 5 | n => n, fun | n => n⟩
theorem lays169 : Go.Proofs.Lays.n169 Tryd.prog lays169_ren := {
  mixed := by kernel_rfl
  f169 := Tryd.func38.trans (congrArg some (by kernel_rfl))
  t0 := Tryd.underlying0
  a0 := Tryd.isAgg0
  z0 := Tryd.sizeOf0
  v0 := Tryd.zeroValue0
  t3 := Tryd.underlying3
  a3 := Tryd.isAgg3
  z3 := Tryd.sizeOf3
  v3 := Tryd.zeroValue3
  t9 := Tryd.underlying9
  a9 := Tryd.isAgg9
  z9 := Tryd.sizeOf9
  v9 := Tryd.zeroValue9
  t37 := Tryd.underlying48
  a37 := Tryd.isAgg48
  z37 := Tryd.sizeOf48
  v37 := Tryd.zeroValue48
  t70 := Tryd.underlying56
  a70 := Tryd.isAgg56
  z70 := Tryd.sizeOf56
  v70 := Tryd.zeroValue56
  t72 := Tryd.underlying58
  a72 := Tryd.isAgg58
  z72 := Tryd.sizeOf58
  v72 := Tryd.zeroValue58
  t127 := Tryd.underlying75
  a127 := Tryd.isAgg75
  z127 := Tryd.sizeOf75
  v127 := Tryd.zeroValue75 }
theorem Builder_Extra_169 : Builder.Extra Tryd.prog lays169_ren := {
  sizeBuilder := by kernel_rfl
  liesBuilder := by kernel_rfl
  t5 := Tryd.underlying5
  a5 := Tryd.isAgg5
  z5 := Tryd.sizeOf5
  v5 := Tryd.zeroValue5
  infoByte := by kernel_rfl
  cellsByte := by kernel_rfl
  sizeByte := by kernel_rfl
  neB5 := by decide }
theorem Builder_String_any (B b : Nat) (l : List UInt8) (w : World) (h : Lib.IsBuilder 58 5 B b (Lib.byteCells l) w) (hBw : B ≤ w.heap.size) :
    Calls Tryd.prog 38 #[.pointer (some ⟨b, 0, none⟩)] w fun e w' => e = .returned (.string ⟨l.toArray⟩) ∧ Below B w w' := Any.Builder_String_any lays169 Builder_Extra_169 B b l w h hBw
end Go.Proofs.YtmdiilnipoblbaaDoor
set_option maxRecDepth 100000
namespace Go.Proofs.YtmdiilnipoblbaaDoor
set_option maxRecDepth 100000
open Go Go.RowKit Go.ChangeShapes Go.WideShapes
def ckCells (L : List Ck) : List Value := L.flatMap fun c => [.string (strL c.1), .string (strL c.2)]
theorem ckCells_at : ∀ (L : List Ck) (i : Nat) (h : i < L.length), (ckCells L)[i * 2]? = some (.string (strL L[i].1)) ∧ (ckCells L)[i * 2 + 1]? = some (.string (strL L[i].2))
  | x :: L, 0, _ => by simp [ckCells]
  | x :: L, i + 1, h => by
    have := ckCells_at L i (by simpa using h)
    have e : ckCells (x :: L) = .string (strL x.1) :: .string (strL x.2) :: ckCells L := by simp [ckCells]
    rw [e, show (i + 1) * 2 = i * 2 + 1 + 1 from by omega]
    simpa using this
theorem length_ckCells (L : List Ck) : (ckCells L).length = L.length * 2 := by
  induction L with
  | nil => rfl
  | cons x L ih => simp only [ckCells, List.flatMap_cons, List.length_append] at ih ⊢; rw [ih]; simp; omega
theorem Cks.news {w : World} {g o n : Nat} {L : List Ck} (h : Cks w (some ⟨g, o, none⟩) n L) (hn : 0 < n) : ∀ j u, (ckCells L)[j]? = some u → w.cell? ((⟨g, o, none⟩ : Addr).add j) = some u := by
  intro j u hu
  obtain ⟨g', o', e, _, hc⟩ := h.2 hn
  injection e with e
  injection e with e1 e2
  subst e1 e2
  have hj : j < L.length * 2 := by
    have := (List.getElem?_eq_some_iff.1 hu).1
    rwa [length_ckCells] at this
  obtain ⟨h0, h1⟩ := ckCells_at L (j / 2) (by omega)
  obtain ⟨c0, c1⟩ := hc (j / 2) (by omega)
  rw [Go.WideShapes.add_plain]
  have hr : j = j / 2 * 2 ∨ j = j / 2 * 2 + 1 := by omega
  rcases hr with e | e
  · rw [← e] at h0 c0; rw [c0, ← h0, hu]
  · rw [← e] at h1; rw [Nat.add_assoc, ← e] at c1; rw [c1, ← h1, hu]
end Go.Proofs.YtmdiilnipoblbaaDoor
set_option maxRecDepth 100000
set_option linter.unusedVariables false
namespace Go.Proofs.YtmdiilnipoblbaaDoor
set_option maxRecDepth 100000
open Go Go.RowKit
theorem bld_check (B b : Nat) (bs : List Value) (w : World) (h : Lib.IsBuilder 58 5 B b bs w) :
    Calls Tryd.prog 49 #[.pointer (some ⟨b, 0, none⟩)] w fun e w' => e = .returned (.tuple #[]) ∧ (Lib.BuilderAt 58 5 B b (.pointer (some ⟨b, 0, none⟩)) bs w' ∧ Below B w w') := by
  rcases h with h | h
  · refine (bld_fresh b w h.cell0 h.shape h.frozen0).mono ?_
    rintro e w' ⟨rfl, rfl⟩
    exact ⟨rfl, h.used _, (Below.refl B w).setCell (p := ⟨b, 0, none⟩) h.1 _⟩
  · refine (bld_used b w h.cell0).mono ?_
    rintro e w' ⟨rfl, rfl⟩
    exact ⟨rfl, h, Below.refl B _⟩
set_option maxHeartbeats 1000000 in
theorem bld_write (B b : Nat) (bs : List Value) (s : ByteArray) (w : World) (h : Lib.IsBuilder 58 5 B b bs w) (hlen : bs.length + s.size ≤ 140737488355328) (hBw : B ≤ w.heap.size) :
    Calls Tryd.prog 37 #[.pointer (some ⟨b, 0, none⟩), .string s] w fun e w' => e = .returned (.tuple #[.int .i64 s.size, .nilIface]) ∧ (Lib.BuilderAt 58 5 B b (.pointer (some ⟨b, 0, none⟩)) (bs ++ Lib.strCells s) w' ∧ Below B w w') := by
  obtain ⟨i0, hi, hz0, hz1, hz2⟩ := info_parts info_byteB
  go_enter Tryd.func37, Tryd.ntmps37
  go_wp2_with (go_at_call 49; refine (bld_check B b bs _ h).mono ?_)
  rintro e w1 ⟨rfl, h1, hb1⟩
  obtain ⟨hB, v, hbk, hown, hne⟩ := h1
  have c0 : w1.cell? ⟨b, 0, none⟩ = some (.pointer (some ⟨b, 0, none⟩)) := by rw [Lib.cell_of_heap hbk]; rfl
  have c1 : w1.cell? ⟨b, 1, none⟩ = some v := by rw [Lib.cell_of_heap hbk]; rfl
  go_wp2_with (at_builtin; refine Lib.wpList_append_own_string _ rfl _ _ 48 9 rfl B 5 i0 Tryd.underlying48 Tryd.underlying9 hi hz0 hz1 hz2 _ _ _ rfl hown s rfl ?c3 ?c4 ?c5 ?_)
  case c3 => unfold maxLen; omega
  case c4 => omega
  case c5 => have := hb1.size; omega
  intro v' w2 hown' hgrow _
  have hlt : b < w1.heap.size := by
    rcases Nat.lt_or_ge b w1.heap.size with h' | h'
    · exact h'
    · simp [Array.getElem?_eq_none h'] at hbk
  have hb2 : w2.heap[b]? = some (.cells #[.pointer (some ⟨b, 0, none⟩), v] 58 (0, 0)) := by
    rw [hgrow.block b hlt (fun e => hne e.symm)]
    exact hbk
  have d0 : w2.cell? ⟨b, 0, none⟩ = some (.pointer (some ⟨b, 0, none⟩)) := by rw [Lib.cell_of_heap hb2]; rfl
  have d1 : w2.cell? ⟨b, 1, none⟩ = some v := by rw [Lib.cell_of_heap hb2]; rfl
  have f1 : w2.frozen? ⟨b, 1, none⟩ = false := Lib.frozen_of_heap hb2 1
  obtain ⟨ao, n', cap, rfl⟩ : ∃ ao n' cap, v' = .slice ao n' cap := by
    rcases hown'.2 with ⟨hv, _⟩ | ⟨g, cap, cur, hv, _⟩
    · exact ⟨_, _, _, hv⟩
    · exact ⟨_, _, _, hv⟩
  go_wp2
  go_ret2
  refine ⟨rfl, ?_, ?_⟩
  · exact Lib.BuilderAt.put (T := 58) (e := 5) hB hb2 (bs' := bs ++ Lib.strCells s) (by simpa [Lib.strCells_length] using hown') (by decide)
  · exact (hb1.grown hgrow (by have := hb1.size; omega) (fun k hk => (hown.lt k hk).1)).setCell (p := ⟨b, 1, none⟩) hB _
end Go.Proofs.YtmdiilnipoblbaaDoor
set_option maxRecDepth 100000
set_option linter.unusedVariables false
namespace Go.Proofs.YtmdiilnipoblbaaDoor
set_option maxRecDepth 100000
open Go Go.RowKit
theorem cells_ofB (l : List UInt8) : Lib.strCells (strL l) = Lib.byteCells l := by
  unfold Lib.strCells Lib.byteCells
  rw [show (strL l).data.toList = l from strL_list l]
theorem byteCells_ap (a b : List UInt8) : Lib.byteCells (a ++ b) = Lib.byteCells a ++ Lib.byteCells b := by
  unfold Lib.byteCells; rw [List.map_append]
theorem bld_put {w0 w : World} {b : Nat} {l : List UInt8} (s : List UInt8) (h : Bld w w0.heap.size b l) (hB : But [] w0 w) (hlen : l.length + s.length ≤ 140737488355328) :
    Calls Tryd.prog 37 #[.pointer (some ⟨b, 0, none⟩), .string (strL s)] w fun e w' => e = .returned (.tuple #[.int .i64 (s.length : Nat), .nilIface]) ∧ Bld w' w0.heap.size b (l ++ s) ∧ But [] w0 w' := by
  refine (bld_write w0.heap.size b (Lib.byteCells l) (strL s) w h (by rw [strL_size, Lib.byteCells_length]; exact hlen) hB.size).mono ?_
  rintro e w1 ⟨rfl, h1, h2⟩
  rw [strL_size]
  refine ⟨rfl, ?_, ?_⟩
  · unfold Bld
    rw [byteCells_ap, ← cells_ofB s]
    exact .inr h1
  · exact ⟨h2.os.trans hB.os, h2.tape.trans hB.tape, h2.output.trans hB.output, Nat.le_trans hB.size h2.size, fun i hi _ => (h2.block i hi).trans (hB.block i hi (by simp))⟩
theorem bld_text {w0 w : World} {b : Nat} {l : List UInt8} (h : Bld w w0.heap.size b l) (hB : But [] w0 w) :
    Calls Tryd.prog 38 #[.pointer (some ⟨b, 0, none⟩)] w fun e w' => e = .returned (.string (strL l)) ∧ But [] w0 w' := by
  refine (Builder_String_any w0.heap.size b l w h hB.size).mono ?_
  rintro e w1 ⟨rfl, h2⟩
  exact ⟨rfl, h2.os.trans hB.os, h2.tape.trans hB.tape, h2.output.trans hB.output, Nat.le_trans hB.size h2.size, fun i hi _ => (h2.block i hi).trans (hB.block i hi (by simp))⟩
end Go.Proofs.YtmdiilnipoblbaaDoor
set_option maxRecDepth 100000
set_option linter.unusedVariables false
namespace Go.Proofs.YtmdiilnipoblbaaDoor
set_option maxRecDepth 100000
open Go Go.RowKit
theorem pjoin_fn : Tryd.f19.results = #[.cell 4 23, .tmp 5] := Tryd.results19
set_option maxHeartbeats 1000000 in
theorem pjoinB_any (w : World) (hG : GK w) {s : List UInt8} (hs : s.length ≤ 140737488351232) {A : Option Addr} {n c : Nat} {L : List ByteArray} (hL : Sr w A n L) :
    Calls Tryd.prog 19 #[.string (strL s), .slice A n c] w fun e w' => e = .returned (.tuple #[.agg #[.int .i64 ((joinB s (bl L)).1.1 : Nat), .int .i64 ((joinB s (bl L)).1.2.1 : Nat), .string (strL (joinB s (bl L)).1.2.2)], .int .i64 (joinB s (bl L)).2]) ∧ But [] w w' := by
  obtain ⟨b0, hb0⟩ : ∃ g, g = w.heap.size := ⟨_, rfl⟩
  obtain ⟨w1, hw1⟩ : ∃ X, X = w.alloc (.cells #[.int .i64 0, .int .i64 0, .string ⟨#[]⟩] 23) := ⟨_, rfl⟩
  have hI : Is w1 b0 23 #[.int .i64 0, .int .i64 0, .string ⟨#[]⟩] := by rw [hw1, hb0]; exact Is.fresh _ _ _
  have hB : But [] w w1 := by rw [hw1]; exact (But.refl [] w).alloc _
  have HB := Lib.hid hB
  have HI := Lib.hid hI
  have HG : Hid (∀ v, But [] w1 v → GK v) := Lib.hid fun v hv => (hG.but hB).but hv
  have HL : Hid (∀ v, But [] w1 v → Sr v A n L) := Lib.hid fun v hv => (hL.but hB).but hv
  have HC : Hid (∀ v, But [] w1 v → v.cell? ⟨b0, 0, none⟩ = some (.int .i64 0) ∧ v.cell? ⟨b0, 1, none⟩ = some (.int .i64 0) ∧ v.cell? ⟨b0, 2, none⟩ = some (.string ⟨#[]⟩) ∧ v.frozen? ⟨b0, 0, none⟩ = false ∧ v.frozen? ⟨b0, 1, none⟩ = false ∧ v.frozen? ⟨b0, 2, none⟩ = false ∧ b0 < v.heap.size) := Lib.hid fun v hv => by
    have hh := hI.but hv (by simp)
    exact ⟨hh.cell 0, hh.cell 1, hh.cell 2, hh.free 0, hh.free 1, hh.free 2, hh.lt⟩
  have HR0 : Hid (∀ v (V : World) (tmps : Array Value) (er x y : Int) (p : ByteArray), But [] w1 V → tmps[4]? = some (.pointer (some ⟨b0, 0, none⟩)) → tmps[5]? = some (.int .i64 er) → v = (.tuple #[.agg #[.int .i64 x, .int .i64 y, .string p], .int .i64 er]) →
      bodyPost Tryd.prog Tryd.f19 (fun e w' => e = .returned v ∧ But [] w w') Exit.ret { tmps := tmps, defers := [] } (((V.setCell ⟨b0, 0, none⟩ (.int .i64 x)).setCell ⟨b0, 1, none⟩ (.int .i64 y)).setCell ⟨b0, 2, none⟩ (.string p))) := Lib.hid fun v V tmps er x y p hV h4 h5 hv => by
    rw [hv]
    exact join_ret pjoin_fn (hI.but hV (by simp)) rfl (hB.trans hV) (by rw [hb0]; exact Nat.le_refl _) h4 h5 x y p
  obtain ⟨R, hR⟩ : ∃ R, R = (Value.tuple #[.agg #[.int .i64 ((joinB s (bl L)).1.1 : Nat), .int .i64 ((joinB s (bl L)).1.2.1 : Nat), .string (strL (joinB s (bl L)).1.2.2)], .int .i64 (joinB s (bl L)).2]) := ⟨_, rfl⟩
  rw [← hR]
  have hLn := hL.1
  have hnl : n = (bl L).length := by rw [bl_len, hLn]
  by_cases hok : okM s
  · have hR5 := okM_right hok
    have hml : manyB (manH s) ≤ 128 := by unfold manyB; omega
    obtain ⟨m, hm⟩ : ∃ m, m = manyB (manH s) := ⟨_, rfl⟩
    have HRd : Hid (∀ v, Calls Tryd.prog 17 #[.string (strL s)] v fun e w' => ∃ b u, e = .returned (.tuple #[.int .i64 (manW s : Nat), .int .i64 (manH s : Nat), u, .int .i64 0]) ∧ OwnSt w' b u ((hashesB s).map strL) ∧ But [] v w') := Lib.hid fun v => preadB_any v hok
    by_cases hnm : n = m
    · obtain rfl : m = n := hnm.symm
      have HF : Hid (∀ k, fitB s (bl L) k → k ≤ m → (flatB L k).length = 8 * manW s * min (8 * k) (manH s)) := Lib.hid fun k h1 h2 => flatB_len h1 (by omega) (by omega)
      have HZ : Hid (∀ k, k < m → min (64 * manW s) (8 * manW s * manH s - 8 * manW s * min (8 * k) (manH s)) = sizeB (manW s) (manH s) k ∧ 8 * manW s * min (8 * k) (manH s) ≤ 8 * manW s * manH s ∧ sizeB (manW s) (manH s) k ≤ 65536) := Lib.hid fun k hk => ⟨(size_rest (by omega)).1, (size_rest (by omega)).2, size_most hok k⟩
      have HOK : Hid (fitB s (bl L) m → R = (Value.tuple #[.agg #[.int .i64 (manW s : Nat), .int .i64 (manH s : Nat), .string (strL (flatB L m))], .int .i64 0])) := Lib.hid fun h => by
        rw [hR, joinB_ok hok (by rw [← hnl, hm]) (by rw [← hm]; exact h), flatB_all hLn]
      have HBAD : Hid (∀ k x, k < m → L[k]? = some x → ¬ (x.data.toList.length = sizeB (manW s) (manH s) k ∧ shaT x.data.toList = hashB s k) → R = (Value.tuple #[.agg #[.int .i64 0, .int .i64 0, .string (strL [])], .int .i64 43])) := Lib.hid fun k x hk hx h => by
        rw [hR, joinB_band hok (i := k) (by omega) (by rw [bl_at hx]; exact h)]
        rfl
      have HN : Hid (∀ k x, L[k]? = some x → fitB s (bl L) k → x.data.toList.length = sizeB (manW s) (manH s) k → shaT x.data.toList = hashB s k → fitB s (bl L) (k + 1)) := Lib.hid fun k x hx h h1 h2 => fitB_next h (by rw [bl_at hx]; exact h1) (by rw [bl_at hx]; exact h2)
      have HX : Hid (∀ k, k < m → ((hashesB s).map strL)[k]? = some (strL (hashB s k))) := Lib.hid fun k hk => by
        unfold hashesB
        rw [List.map_map, List.getElem?_map, List.getElem?_range (by omega)]
        rfl
      have HBS : Hid (∀ v, Calls Tryd.prog 24 #[.int .i64 (manW s : Nat)] v fun e w' => e = .returned (.int .i64 (64 * manW s : Nat)) ∧ v = w') := Lib.hid fun v => bsize_any v (by omega)
      have hHl : ((hashesB s).map strL).length = m := by rw [List.length_map, hashesB_length, hm]
      obtain ⟨HH, hHH⟩ : ∃ z, z = (hashesB s).map strL := ⟨_, rfl⟩
      rw [← hHH] at HRd hHl HX
      have HHL := Lib.hid hHl
      obtain ⟨f, hf⟩ : ∃ z, z = strL s := ⟨_, rfl⟩
      rw [← hf] at HRd ⊢
      obtain ⟨a8, ha8⟩ : ∃ z, z = 8 * manW s := ⟨_, rfl⟩
      obtain ⟨tot, htot⟩ : ∃ z, z = 8 * manW s * manH s := ⟨_, rfl⟩
      obtain ⟨b64, hb64⟩ : ∃ z, z = 64 * manW s := ⟨_, rfl⟩
      have htl : tot ≤ 8388608 := by rw [htot]; exact Nat.mul_le_mul (by omega : 8 * manW s ≤ 8192) hR5.2.2.2
      have e1 : (8 : Int) * (manW s : Int) = (a8 : Int) := by omega
      have e2 : (a8 : Int) * (manH s : Int) = (tot : Int) := by rw [htot, ha8]; simp
      have v1 := wrapI_in (show a8 < 1000000000000000 by omega)
      have v2 := wrapI_in (show tot < 1000000000000000 by omega)
      have HT : Hid (tot = 8 * manW s * manH s) := Lib.hid htot
      have HLn : Hid (L.length = m) := Lib.hid hLn
      rw [← hb64] at HBS
      rw [← htot, ← hb64] at HZ
      obtain ⟨W, hW⟩ : ∃ z, z = manW s := ⟨_, rfl⟩
      obtain ⟨H, hH⟩ : ∃ z, z = manH s := ⟨_, rfl⟩
      rw [← hW, ← hH] at HRd HF HZ HT HOK HBAD HN
      rw [← hW] at HBS e1
      rw [← hH] at e2
      have hml2 : m ≤ 128 := by omega
      clear hf hR hnl hLn hL hG hI hB hs hm hHl hHH hW hH hnm hR5 hml ha8 htot hb64 hok
      go_enter Tryd.func19, Tryd.ntmps19
      go_upto_region 1 with (fail)
      rw [← hw1, ← hb0]
      clear hw1 hb0
      go_wp2_with fail
      refine (HRd.out _).mono ?_
      rintro e w2 ⟨bs, u, rfl, hO, hB2⟩
      have HB2 := Lib.hid hB2
      obtain ⟨A1, cp1, hu, _⟩ := hO.shape
      rw [HHL.out] at hu
      subst hu
      have HO2 := Lib.hid hO.sr
      clear hB2 hO
      go_upto_region 7 with (fail)
      obtain ⟨wq, hwq⟩ : ∃ X, X = w2.alloc (.cells #[.pointer none, .slice none 0 0] 58) := ⟨_, rfl⟩
      obtain ⟨bb, hbb⟩ : ∃ X, X = w2.heap.size := ⟨_, rfl⟩
      have HD0 : Hid (Bld wq w2.heap.size bb []) := Lib.hid (by rw [hwq, hbb]; exact Bld.fresh w2 (Nat.le_refl _))
      have HBq : Hid (But [] w2 wq) := Lib.hid (by rw [hwq]; exact (But.refl [] w2).alloc _)
      rw [← hwq, ← hbb]
      clear hwq hbb
      go_wp2_with fail
      go_loopw [33] (fun kv wr => ∃ k : Nat, k ≤ m ∧ kv = .int .i64 k ∧ Hid (Bld wr w2.heap.size bb (flatB L k)) ∧ Hid (But [] w2 wr) ∧ Hid (fitB s (bl L) k)) (fun kv _ => m - (intOf kv).toNat)
      case atStart => exact ⟨0, Nat.zero_le _, rfl, HD0, HBq, Lib.hid (fun i hi => by omega)⟩
      case round =>
        clear HD0 HBq
        obtain ⟨k, hk, rfl, HD, HBk, HFk⟩ := hrel
        by_cases hlt : k < m
        · obtain ⟨x, hx⟩ : ∃ x, L[k]? = some x := ⟨_, List.getElem?_eq_getElem (by rw [HLn.out]; exact hlt)⟩
          obtain ⟨g, o, rfl, hg, k0⟩ := (HL.out _ (HB2.out.trans HBk.out)).at hx
          have hz := HZ.out k hlt
          have hln := HF.out k HFk.out hk
          obtain ⟨z, hzz⟩ : ∃ z, z = sizeB W H k := ⟨_, rfl⟩
          obtain ⟨ln, hl2⟩ : ∃ z, z = 8 * W * min (8 * k) H := ⟨_, rfl⟩
          rw [← hzz, ← hl2] at hz
          rw [← hl2] at hln
          obtain ⟨rem, hrem⟩ : ∃ z, z = tot - ln := ⟨_, rfl⟩
          have hLen := rp_Len w2.heap.size bb _ wr (Lib.IsBuilderF.of HD.out)
          rw [Lib.byteCells_length, hln] at hLen
          have HLen := Lib.hid hLen
          have f1 : (tot : Int) - (ln : Int) = (rem : Int) := by omega
          have u1 := wrapI_in (show rem < 1000000000000000 by omega)
          have k4 : ∀ v, (Builtin.min_ #[3, 3] 3 #[.int .i64 (b64 : Int), .int .i64 (rem : Int)]).run Tryd.prog v = .ok (.int .i64 (z : Int)) v := fun v => by
            have e4 : (if (rem : Int) < (b64 : Int) then (rem : Int) else (b64 : Int)) = (z : Int) := by
              split <;> omega
            rw [← e4]
            simp [Builtin.min_, Builtin.min2]
          have hz6 : z ≤ 65536 := hz.2.2
          have HZZ := Lib.hid hzz
          have hxl : x.data.toList.length = x.size := Array.length_toList
          have HXL := Lib.hid hxl
          have HXX := Lib.hid hx
          clear hz hln hl2 hrem hLen hzz hxl hx
          go_wp2_with fail
          refine (HBS.out _).mono ?_
          rintro e wz ⟨rfl, rfl⟩
          go_wp2_with fail
          refine HLen.out.mono ?_
          rintro e wz ⟨rfl, hwz⟩
          obtain rfl : wr = wz := hwz.symm
          go_upto_region 11 with (fail)
          by_cases hsz : x.size = z
          · have q1 : ((x.size : Int) != (z : Int)) = false := by simp; omega
            have q2 : ((x.size : Int) = (z : Int)) = True := by simp; omega
            obtain ⟨y, hy⟩ : ∃ y, y = strL (shaT x.data.toList) := ⟨_, rfl⟩
            have HSM : Hid (∀ v, GK v → Calls Tryd.prog 21 #[.string x] v fun e w' => e = .returned (.string y) ∧ But [] v w') := Lib.hid fun v hv => by rw [hy]; exact psum_str v x (by omega) hv
            obtain ⟨g1, o1, rfl, hg1, _⟩ := (HO2.out.but HBk.out).at (HX.out k hlt)
            obtain ⟨h9, hh9⟩ : ∃ z, z = strL (hashB s k) := ⟨_, rfl⟩
            have HHC : Hid (∀ v, But [] wr v → v.cell? ⟨g1, o1 + k, none⟩ = some (.string h9) ∧ g1 < v.heap.size) := Lib.hid fun v hv => by
              obtain ⟨g2, o2, e, hg2, hc2⟩ := ((HO2.out.but HBk.out).but hv).at (HX.out k hlt)
              injection e with e
              injection e with e1 e2
              subst e1 e2
              exact ⟨by rw [hh9]; exact hc2, hg2⟩
            obtain ⟨r, hr⟩ : ∃ r : Bool, r = (y.toList == h9.toList) := ⟨_, rfl⟩
            have q3 : (y.toList == h9.toList) = r := hr.symm
            have HRR : Hid (r = true ↔ shaT x.data.toList = hashB s k) := Lib.hid (by
              rw [hr, hy, hh9, toList_strL, toList_strL]
              exact beq_iff_eq)
            have i0 : (0 : Int) ≤ (k : Int) := by omega
            have i1 : (k : Int) < (m : Int) := by omega
            clear hr hy hh9
            refine wp_region_m (S := fun v => But [] wr v) (R := fun v v' => But [] v v') (fun w => But.refl [] w) (by kernel_rfl) ((But.refl [] wr).drew) ?_
            refine rdk 0 (.string x) ?_
            refine rdk 1 (.int .i64 (x.size : Int)) ?_
            refine rdk 2 (.int .i64 (z : Int)) ?_
            refine rdk 3 (.bool false) ?_
            refine rdk 4 (.bool false) ?_
            refine rdk 5 (.string x) ?_
            refine wpM_take (fun w => But.refl [] w) (fun x y z h k => h.trans k) (i := 6) (v := .string y) rfl (by kernel_rfl) (by kernel_rfl) (by kernel_rfl) (fun _ _ _ h => h) (.inl ⟨?_, fun w hS => .inr ⟨_, _, ?_, (HSM.out w (HG.out w ((HB2.out.trans HBk.out).trans hS))).mono ?_⟩⟩) ?_
            · go_simp
            · go_simp
            · rintro e wy ⟨rfl, hB⟩; exact ⟨rfl, hS.trans hB, hB⟩
            refine rdk 7 (.slice (some ⟨g1, o1, none⟩) m cp1) ?_
            refine rdk 8 (.int .i64 (k : Int)) ?_
            refine rdk 9 (.pointer (some ⟨g1, o1 + k, none⟩)) ?_
            refine rdq 10 (.string h9) (fun w' hS => ?_) ?_
            · have y := (HHC.out w' hS).1; have y2 := (HHC.out w' hS).2; go_simp
            refine rdk 11 (.bool (!r)) ?_
            refine rdk 12 (.bool (!r)) ?_
            refine ⟨by kernel_rfl, fun w8 hR8 hS8 => ?_⟩
            have HB8 := Lib.hid hS8
            clear hR8 hS8
            cases r with
            | false =>
              obtain ⟨c0, c1, c2, f0, f1, f2, hgl⟩ := HC.out _ ((HB2.out.trans HBk.out).trans HB8.out)
              go_simp
              go_wp2
              exact HR0.out _ _ _ 43 0 0 _ ((HB2.out.trans HBk.out).trans HB8.out) (by rfl) (by rfl) (HBAD.out k x hlt HXX.out (fun hh => by have := HRR.out.2 hh.2; cases this))
            | true =>
              have HPut := Lib.hid (bld_put (w0 := w2) x.data.toList (HD.out.but HB8.out) (HBk.out.trans HB8.out) (by rw [HF.out k HFk.out hk, HXL.out]; have := HT.out; have hm3 : 8 * W * min (8 * k) H ≤ 8 * W * H := Nat.mul_le_mul_left _ (Nat.min_le_right _ _); omega))
              have HFk2 : Hid (fitB s (bl L) (k + 1)) := Lib.hid (HN.out k x HXX.out HFk.out (by rw [HXL.out, ← HZZ.out]; exact hsz) (HRR.out.1 rfl))
              rw [strL_ofH, ← flatB_next HXX.out] at HPut
              clear HSM HHC HLen k4 f1 u1 k0 q1 q2 q3
              go_simp
              go_wp2_with fail
              refine HPut.out.mono ?_
              rintro e w9 ⟨rfl, hD9, hB9⟩
              have HD9 := Lib.hid hD9
              have HB9 := Lib.hid hB9
              clear hD9 hB9
              go_wp2
              go_roundw
              case rel => exact ⟨k + 1, by omega, by go_num, HD9, HB9, HFk2⟩
              case measure => simp [intOf] <;> omega
          · have q1 : ((x.size : Int) != (z : Int)) = true := by simp; omega
            have q2 : ((x.size : Int) = (z : Int)) = False := by simp; omega
            refine wp_region_m (S := fun v => But [] wr v) (R := fun v v' => But [] v v') (fun w => But.refl [] w) (by kernel_rfl) ((But.refl [] wr).drew) ?_
            refine rdk 0 (.string x) ?_
            refine rdk 1 (.int .i64 (x.size : Int)) ?_
            refine rdk 2 (.int .i64 (z : Int)) ?_
            refine rdk 3 (.bool true) ?_
            refine rdk 4 (.bool true) ?_
            refine rdu 5 ?_
            refine rdu 6 ?_
            refine rdu 7 ?_
            refine rdu 8 ?_
            refine rdu 9 ?_
            refine rdu 10 ?_
            refine rdu 11 ?_
            refine rdk 12 (.bool true) ?_
            refine ⟨by kernel_rfl, fun w8 hR8 hS8 => ?_⟩
            have HB8 := Lib.hid hS8
            clear hR8 hS8
            obtain ⟨c0, c1, c2, f0, f1, f2, hgl⟩ := HC.out _ ((HB2.out.trans HBk.out).trans HB8.out)
            go_simp
            go_wp2
            exact HR0.out _ _ _ 43 0 0 _ ((HB2.out.trans HBk.out).trans HB8.out) (by rfl) (by rfl) (HBAD.out k x hlt HXX.out (fun hh => hsz (by rw [← HXL.out, hh.1, HZZ.out])))
        · obtain rfl : m = k := by omega
          have HTx := Lib.hid (bld_text (w0 := w2) HD.out HBk.out)
          have i1 : ¬ (m : Int) < (m : Int) := by omega
          go_wp2_with fail
          refine HTx.out.mono ?_
          rintro e w9 ⟨rfl, hB9⟩
          have HB9 := Lib.hid hB9
          clear hB9
          obtain ⟨c0, c1, c2, f0, f1, f2, hgl⟩ := HC.out _ (HB2.out.trans HB9.out)
          go_wp2
          exact HR0.out _ _ _ 0 W H _ (HB2.out.trans HB9.out) (by rfl) (by rfl) (HOK.out HFk.out)
    · rw [joinB_many hok (by rw [← hnl, ← hm]; exact hnm)] at hR
      have HRR : Hid (R = (Value.tuple #[.agg #[.int .i64 0, .int .i64 0, .string (strL [])], .int .i64 43])) := Lib.hid hR
      obtain ⟨f, hf⟩ : ∃ z, z = strL s := ⟨_, rfl⟩
      rw [← hf] at HRd ⊢
      have hHl : ((hashesB s).map strL).length = m := by rw [List.length_map, hashesB_length, hm]
      obtain ⟨HH, hHH⟩ : ∃ z, z = (hashesB s).map strL := ⟨_, rfl⟩
      rw [← hHH] at HRd hHl
      have HHL := Lib.hid hHl
      obtain ⟨W, hW⟩ : ∃ z, z = manW s := ⟨_, rfl⟩
      obtain ⟨H, hH⟩ : ∃ z, z = manH s := ⟨_, rfl⟩
      rw [← hW, ← hH] at HRd
      have q1 : ((n : Int) != (m : Int)) = true := by simp; omega
      have q2 : ((n : Int) = (m : Int)) = False := by simp; omega
      clear hf hR hok hnl hLn hL hG hI hB hs hm hHl hHH hW hH hnm hR5 hml
      go_enter Tryd.func19, Tryd.ntmps19
      go_upto_region 1 with (fail)
      rw [← hw1, ← hb0]
      clear hw1 hb0
      go_wp2_with fail
      refine (HRd.out _).mono ?_
      rintro e w2 ⟨bs, u, rfl, hO, hB2⟩
      have HB2 := Lib.hid hB2
      obtain ⟨A1, c1, hu, _⟩ := hO.shape
      rw [HHL.out] at hu
      subst hu
      clear hB2 hO
      obtain ⟨c0, c1, c2, f0, f1, f2, hgl⟩ := HC.out _ HB2.out
      go_wp2
      exact HR0.out _ _ _ 43 0 0 _ HB2.out (by rfl) (by rfl) HRR.out
  · rw [joinB_bad hok] at hR
    have HRR : Hid (R = (Value.tuple #[.agg #[.int .i64 0, .int .i64 0, .string (strL [])], .int .i64 42])) := Lib.hid hR
    have HRd : Hid (∀ v, Calls Tryd.prog 17 #[.string (strL s)] v fun e w' => e = .returned (.tuple #[.int .i64 0, .int .i64 0, .slice none 0 0, .int .i64 42]) ∧ But [] v w') := Lib.hid fun v => preadB_bad v hs hok
    obtain ⟨f, hf⟩ : ∃ z, z = strL s := ⟨_, rfl⟩
    rw [← hf] at HRd ⊢
    clear hf hR hok hnl hLn hL hG hI hB hs
    go_enter Tryd.func19, Tryd.ntmps19
    go_upto_region 1 with (fail)
    rw [← hw1, ← hb0]
    clear hw1 hb0
    go_wp2_with fail
    refine (HRd.out _).mono ?_
    rintro e w2 ⟨rfl, hB2⟩
    have HB2 := Lib.hid hB2
    clear hB2
    obtain ⟨c0, c1, c2, f0, f1, f2, hgl⟩ := HC.out _ HB2.out
    go_wp2
    exact HR0.out _ _ _ 42 0 0 _ HB2.out (by rfl) (by rfl) HRR.out
end Go.Proofs.YtmdiilnipoblbaaDoor
set_option maxRecDepth 100000
set_option linter.unusedVariables false
namespace Go.Proofs.YtmdiilnipoblbaaDoor
set_option maxRecDepth 100000
open Go Go.RowKit
theorem ejoin_fn : Tryd.f20.results = #[.cell 4 23, .tmp 5] := Tryd.results20
set_option maxHeartbeats 1000000 in
theorem ejoinB_any (w : World) {s : List UInt8} (hs : s.length ≤ 140737488351232) {A : Option Addr} {n c : Nat} {L : List ByteArray} (hL : Sr w A n L) :
    Calls Tryd.prog 20 #[.string (strL s), .slice A n c] w fun e w' => e = .returned (.tuple #[.agg #[.int .i64 ((joinB s (bl L)).1.1 : Nat), .int .i64 ((joinB s (bl L)).1.2.1 : Nat), .string (strL (joinB s (bl L)).1.2.2)], .int .i64 (joinB s (bl L)).2]) ∧ But [] w w' := by
  obtain ⟨b0, hb0⟩ : ∃ g, g = w.heap.size := ⟨_, rfl⟩
  obtain ⟨w1, hw1⟩ : ∃ X, X = w.alloc (.cells #[.int .i64 0, .int .i64 0, .string ⟨#[]⟩] 23) := ⟨_, rfl⟩
  have hI : Is w1 b0 23 #[.int .i64 0, .int .i64 0, .string ⟨#[]⟩] := by rw [hw1, hb0]; exact Is.fresh _ _ _
  have hB : But [] w w1 := by rw [hw1]; exact (But.refl [] w).alloc _
  have HB := Lib.hid hB
  have HI := Lib.hid hI
  have HL : Hid (∀ v, But [] w1 v → Sr v A n L) := Lib.hid fun v hv => (hL.but hB).but hv
  have HC : Hid (∀ v, But [] w1 v → v.cell? ⟨b0, 0, none⟩ = some (.int .i64 0) ∧ v.cell? ⟨b0, 1, none⟩ = some (.int .i64 0) ∧ v.cell? ⟨b0, 2, none⟩ = some (.string ⟨#[]⟩) ∧ v.frozen? ⟨b0, 0, none⟩ = false ∧ v.frozen? ⟨b0, 1, none⟩ = false ∧ v.frozen? ⟨b0, 2, none⟩ = false ∧ b0 < v.heap.size) := Lib.hid fun v hv => by
    have hh := hI.but hv (by simp)
    exact ⟨hh.cell 0, hh.cell 1, hh.cell 2, hh.free 0, hh.free 1, hh.free 2, hh.lt⟩
  have HR0 : Hid (∀ v (V : World) (tmps : Array Value) (er x y : Int) (p : ByteArray), But [] w1 V → tmps[4]? = some (.pointer (some ⟨b0, 0, none⟩)) → tmps[5]? = some (.int .i64 er) → v = (.tuple #[.agg #[.int .i64 x, .int .i64 y, .string p], .int .i64 er]) →
      bodyPost Tryd.prog Tryd.f20 (fun e w' => e = .returned v ∧ But [] w w') Exit.ret { tmps := tmps, defers := [] } (((V.setCell ⟨b0, 0, none⟩ (.int .i64 x)).setCell ⟨b0, 1, none⟩ (.int .i64 y)).setCell ⟨b0, 2, none⟩ (.string p))) := Lib.hid fun v V tmps er x y p hV h4 h5 hv => by
    rw [hv]
    exact join_ret ejoin_fn (hI.but hV (by simp)) rfl (hB.trans hV) (by rw [hb0]; exact Nat.le_refl _) h4 h5 x y p
  obtain ⟨R, hR⟩ : ∃ R, R = (Value.tuple #[.agg #[.int .i64 ((joinB s (bl L)).1.1 : Nat), .int .i64 ((joinB s (bl L)).1.2.1 : Nat), .string (strL (joinB s (bl L)).1.2.2)], .int .i64 (joinB s (bl L)).2]) := ⟨_, rfl⟩
  rw [← hR]
  have hLn := hL.1
  have hnl : n = (bl L).length := by rw [bl_len, hLn]
  by_cases hok : okM s
  · have hR5 := okM_right hok
    have hml : manyB (manH s) ≤ 128 := by unfold manyB; omega
    obtain ⟨m, hm⟩ : ∃ m, m = manyB (manH s) := ⟨_, rfl⟩
    have HRd : Hid (∀ v, Calls Tryd.prog 18 #[.string (strL s)] v fun e w' => ∃ b u, e = .returned (.tuple #[.int .i64 (manW s : Nat), .int .i64 (manH s : Nat), u, .int .i64 0]) ∧ OwnSt w' b u ((hashesB s).map strL) ∧ But [] v w') := Lib.hid fun v => ereadB_any v hok
    by_cases hnm : n = m
    · obtain rfl : m = n := hnm.symm
      have HF : Hid (∀ k, fitB s (bl L) k → k ≤ m → (flatB L k).length = 8 * manW s * min (8 * k) (manH s)) := Lib.hid fun k h1 h2 => flatB_len h1 (by omega) (by omega)
      have HZ : Hid (∀ k, k < m → min (64 * manW s) (8 * manW s * manH s - 8 * manW s * min (8 * k) (manH s)) = sizeB (manW s) (manH s) k ∧ 8 * manW s * min (8 * k) (manH s) ≤ 8 * manW s * manH s ∧ sizeB (manW s) (manH s) k ≤ 65536) := Lib.hid fun k hk => ⟨(size_rest (by omega)).1, (size_rest (by omega)).2, size_most hok k⟩
      have HOK : Hid (fitB s (bl L) m → R = (Value.tuple #[.agg #[.int .i64 (manW s : Nat), .int .i64 (manH s : Nat), .string (strL (flatB L m))], .int .i64 0])) := Lib.hid fun h => by
        rw [hR, joinB_ok hok (by rw [← hnl, hm]) (by rw [← hm]; exact h), flatB_all hLn]
      have HBAD : Hid (∀ k x, k < m → L[k]? = some x → ¬ (x.data.toList.length = sizeB (manW s) (manH s) k ∧ shaT x.data.toList = hashB s k) → R = (Value.tuple #[.agg #[.int .i64 0, .int .i64 0, .string (strL [])], .int .i64 43])) := Lib.hid fun k x hk hx h => by
        rw [hR, joinB_band hok (i := k) (by omega) (by rw [bl_at hx]; exact h)]
        rfl
      have HN : Hid (∀ k x, L[k]? = some x → fitB s (bl L) k → x.data.toList.length = sizeB (manW s) (manH s) k → shaT x.data.toList = hashB s k → fitB s (bl L) (k + 1)) := Lib.hid fun k x hx h h1 h2 => fitB_next h (by rw [bl_at hx]; exact h1) (by rw [bl_at hx]; exact h2)
      have HX : Hid (∀ k, k < m → ((hashesB s).map strL)[k]? = some (strL (hashB s k))) := Lib.hid fun k hk => by
        unfold hashesB
        rw [List.map_map, List.getElem?_map, List.getElem?_range (by omega)]
        rfl
      have HBS : Hid (∀ k, k < m → ∀ v, Calls Tryd.prog 27 #[.int .i64 (manW s : Nat), .int .i64 (manH s : Nat), .int .i64 k] v fun e w' => e = .returned (.int .i64 (sizeB (manW s) (manH s) k : Nat)) ∧ v = w') := Lib.hid fun k hk v => (esizeB_any v hR5.2.1 hR5.2.2.2 (by omega)).mono fun _ _ h => ⟨h.1, h.2.symm⟩
      have hHl : ((hashesB s).map strL).length = m := by rw [List.length_map, hashesB_length, hm]
      obtain ⟨HH, hHH⟩ : ∃ z, z = (hashesB s).map strL := ⟨_, rfl⟩
      rw [← hHH] at HRd hHl HX
      have HHL := Lib.hid hHl
      obtain ⟨f, hf⟩ : ∃ z, z = strL s := ⟨_, rfl⟩
      rw [← hf] at HRd ⊢
      obtain ⟨tot, htot⟩ : ∃ z, z = 8 * manW s * manH s := ⟨_, rfl⟩
      have htl : tot ≤ 8388608 := by rw [htot]; exact Nat.mul_le_mul (by omega : 8 * manW s ≤ 8192) hR5.2.2.2
      have HT : Hid (tot = 8 * manW s * manH s) := Lib.hid htot
      have HLn : Hid (L.length = m) := Lib.hid hLn
      rw [← htot] at HZ
      obtain ⟨W, hW⟩ : ∃ z, z = manW s := ⟨_, rfl⟩
      obtain ⟨H, hH⟩ : ∃ z, z = manH s := ⟨_, rfl⟩
      rw [← hW, ← hH] at HRd HF HZ HT HOK HBAD HN HBS
      have hml2 : m ≤ 128 := by omega
      clear hf hR hnl hLn hL hI hB hs hm hHl hHH hW hH hnm hR5 hml htot hok
      go_enter Tryd.func20, Tryd.ntmps20
      go_upto_region 1 with (fail)
      rw [← hw1, ← hb0]
      clear hw1 hb0
      go_wp2_with fail
      refine (HRd.out _).mono ?_
      rintro e w2 ⟨bs, u, rfl, hO, hB2⟩
      have HB2 := Lib.hid hB2
      obtain ⟨A1, cp1, hu, _⟩ := hO.shape
      rw [HHL.out] at hu
      subst hu
      have HO2 := Lib.hid hO.sr
      clear hB2 hO
      go_wp2_with fail
      go_loopw [10, 11] (fun ov kv wr => ∃ k : Nat, k ≤ m ∧ kv = .int .i64 k ∧ ov = .string (strL (flatB L k)) ∧ Hid (But [] w2 wr) ∧ Hid (fitB s (bl L) k)) (fun _ kv _ => m - (intOf kv).toNat)
      case atStart => exact ⟨0, Nat.zero_le _, rfl, rfl, Lib.hid (But.refl [] _), Lib.hid (fun i hi => by omega)⟩
      case round =>
        obtain ⟨k, hk, rfl, rfl, HBk, HFk⟩ := hrel
        by_cases hlt : k < m
        · obtain ⟨x, hx⟩ : ∃ x, L[k]? = some x := ⟨_, List.getElem?_eq_getElem (by rw [HLn.out]; exact hlt)⟩
          obtain ⟨g, o, rfl, hg, _⟩ := (HL.out _ (HB2.out.trans HBk.out)).at hx
          have HKC : Hid (∀ v, But [] wr v → v.cell? ⟨g, o + k, none⟩ = some (.string x) ∧ g < v.heap.size) := Lib.hid fun v hv => by
            obtain ⟨g2, o2, e, hg2, hc2⟩ := ((HL.out _ (HB2.out.trans HBk.out)).but hv).at hx
            injection e with e
            injection e with e1 e2
            subst e1 e2
            exact ⟨hc2, hg2⟩
          have hz := HZ.out k hlt
          have hln := HF.out k HFk.out hk
          obtain ⟨z, hzz⟩ : ∃ z, z = sizeB W H k := ⟨_, rfl⟩
          have HBk1 := Lib.hid (HBS.out k hlt)
          rw [← hzz] at hz HBk1
          have hz6 : z ≤ 65536 := hz.2.2
          have hfl : (flatB L k).length ≤ 8388608 := by rw [hln]; exact Nat.le_trans hz.2.1 htl
          have HZZ := Lib.hid hzz
          have hxl : x.data.toList.length = x.size := Array.length_toList
          have HXL := Lib.hid hxl
          have HXX := Lib.hid hx
          have i0 : (0 : Int) ≤ (k : Int) := by omega
          have i1 : (k : Int) < (m : Int) := by omega
          obtain ⟨ob, hob⟩ : ∃ z, z = strL (flatB L k) := ⟨_, rfl⟩
          have HOX : Hid (ob ++ x = strL (flatB L (k + 1))) := Lib.hid (by rw [flatB_next hx, strL_append, ← hob, strL_of])
          have hobs : ob.size ≤ 8388608 := by rw [hob, strL_size]; exact hfl
          rw [← hob]
          clear hz hln hzz hxl hx hob hfl
          go_upto_region 10 with (fail)
          by_cases hsz : x.size = z
          · have q1 : ((x.size : Int) != (z : Int)) = false := by simp; omega
            have q2 : ((x.size : Int) = (z : Int)) = True := by simp; omega
            obtain ⟨y, hy⟩ : ∃ y, y = strL (shaT x.data.toList) := ⟨_, rfl⟩
            have HSM : Hid (∀ v, Calls Tryd.prog 30 #[.string x] v fun e w' => e = .returned (.string y) ∧ But [] v w') := Lib.hid fun v => by rw [hy]; exact esum_any v x (by omega)
            obtain ⟨g1, o1, rfl, hg1, _⟩ := (HO2.out.but HBk.out).at (HX.out k hlt)
            obtain ⟨h9, hh9⟩ : ∃ z, z = strL (hashB s k) := ⟨_, rfl⟩
            have HHC : Hid (∀ v, But [] wr v → v.cell? ⟨g1, o1 + k, none⟩ = some (.string h9) ∧ g1 < v.heap.size) := Lib.hid fun v hv => by
              obtain ⟨g2, o2, e, hg2, hc2⟩ := ((HO2.out.but HBk.out).but hv).at (HX.out k hlt)
              injection e with e
              injection e with e1 e2
              subst e1 e2
              exact ⟨by rw [hh9]; exact hc2, hg2⟩
            obtain ⟨r, hr⟩ : ∃ r : Bool, r = (y.toList == h9.toList) := ⟨_, rfl⟩
            have q3 : (y.toList == h9.toList) = r := hr.symm
            have HRR : Hid (r = true ↔ shaT x.data.toList = hashB s k) := Lib.hid (by
              rw [hr, hy, hh9, toList_strL, toList_strL]
              exact beq_iff_eq)
            clear hr hy hh9
            refine wp_region_m (S := fun v => But [] wr v) (R := fun v v' => But [] v v') (fun w => But.refl [] w) (by kernel_rfl) ((But.refl [] wr).drew) ?_
            refine rdk 0 (.slice (some ⟨g, o, none⟩) m c) ?_
            refine rdk 1 (.int .i64 (k : Int)) ?_
            refine rdk 2 (.pointer (some ⟨g, o + k, none⟩)) ?_
            refine rdq 3 (.string x) (fun w' hS => ?_) ?_
            · have y := (HKC.out w' hS).1; have y2 := (HKC.out w' hS).2; go_simp
            refine rdk 4 (.int .i64 (x.size : Int)) ?_
            refine rdk 5 (.int .i64 (W : Int)) ?_
            refine rdk 6 (.int .i64 (H : Int)) ?_
            refine rdk 7 (.int .i64 (k : Int)) ?_
            refine wpM_take (fun w => But.refl [] w) (fun x y z h k => h.trans k) (i := 8) (v := .int .i64 (z : Int)) rfl (by kernel_rfl) (by kernel_rfl) (by kernel_rfl) (fun _ _ _ h => h) (.inl ⟨?_, fun w hS => .inr ⟨_, _, ?_, (HBk1.out w).mono ?_⟩⟩) ?_
            · go_simp
            · go_simp
            · rintro e wy ⟨rfl, rfl⟩; exact ⟨rfl, hS, But.refl [] _⟩
            refine rdk 9 (.bool false) ?_
            refine rdk 10 (.bool false) ?_
            refine rdk 11 (.slice (some ⟨g, o, none⟩) m c) ?_
            refine rdk 12 (.int .i64 (k : Int)) ?_
            refine rdk 13 (.pointer (some ⟨g, o + k, none⟩)) ?_
            refine rdq 14 (.string x) (fun w' hS => ?_) ?_
            · have y := (HKC.out w' hS).1; have y2 := (HKC.out w' hS).2; go_simp
            refine wpM_take (fun w => But.refl [] w) (fun x y z h k => h.trans k) (i := 15) (v := .string y) rfl (by kernel_rfl) (by kernel_rfl) (by kernel_rfl) (fun _ _ _ h => h) (.inl ⟨?_, fun w hS => .inr ⟨_, _, ?_, (HSM.out w).mono ?_⟩⟩) ?_
            · go_simp
            · go_simp
            · rintro e wy ⟨rfl, hB⟩; exact ⟨rfl, hS.trans hB, hB⟩
            refine rdk 16 (.slice (some ⟨g1, o1, none⟩) m cp1) ?_
            refine rdk 17 (.int .i64 (k : Int)) ?_
            refine rdk 18 (.pointer (some ⟨g1, o1 + k, none⟩)) ?_
            refine rdq 19 (.string h9) (fun w' hS => ?_) ?_
            · have y := (HHC.out w' hS).1; have y2 := (HHC.out w' hS).2; go_simp
            refine rdk 20 (.bool (!r)) ?_
            refine rdk 21 (.bool (!r)) ?_
            refine ⟨by kernel_rfl, fun w8 hR8 hS8 => ?_⟩
            have HB8 := Lib.hid hS8
            clear hR8 hS8
            cases r with
            | false =>
              obtain ⟨c0, c1, c2, f0, f1, f2, hgl⟩ := HC.out _ ((HB2.out.trans HBk.out).trans HB8.out)
              go_simp
              go_wp2
              exact HR0.out _ _ _ 43 0 0 _ ((HB2.out.trans HBk.out).trans HB8.out) (by rfl) (by rfl) (HBAD.out k x hlt HXX.out (fun hh => by have := HRR.out.2 hh.2; cases this))
            | true =>
              have HFk2 : Hid (fitB s (bl L) (k + 1)) := Lib.hid (HN.out k x HXX.out HFk.out (by rw [HXL.out, ← HZZ.out]; exact hsz) (HRR.out.1 rfl))
              have k0 := (HKC.out w8 HB8.out).1
              have k1 := (HKC.out w8 HB8.out).2
              have hoy : ob.size + x.size ≤ 9223372036854775807 := by omega
              clear HSM HHC q1 q2 q3 hg hg1
              go_simp
              go_wp2
              go_roundw
              case rel => exact ⟨k + 1, by omega, by go_num, by rw [HOX.out], Lib.hid (HBk.out.trans HB8.out), HFk2⟩
              case measure => simp [intOf] <;> omega
          · have q1 : ((x.size : Int) != (z : Int)) = true := by simp; omega
            have q2 : ((x.size : Int) = (z : Int)) = False := by simp; omega
            refine wp_region_m (S := fun v => But [] wr v) (R := fun v v' => But [] v v') (fun w => But.refl [] w) (by kernel_rfl) ((But.refl [] wr).drew) ?_
            refine rdk 0 (.slice (some ⟨g, o, none⟩) m c) ?_
            refine rdk 1 (.int .i64 (k : Int)) ?_
            refine rdk 2 (.pointer (some ⟨g, o + k, none⟩)) ?_
            refine rdq 3 (.string x) (fun w' hS => ?_) ?_
            · have y := (HKC.out w' hS).1; have y2 := (HKC.out w' hS).2; go_simp
            refine rdk 4 (.int .i64 (x.size : Int)) ?_
            refine rdk 5 (.int .i64 (W : Int)) ?_
            refine rdk 6 (.int .i64 (H : Int)) ?_
            refine rdk 7 (.int .i64 (k : Int)) ?_
            refine wpM_take (fun w => But.refl [] w) (fun x y z h k => h.trans k) (i := 8) (v := .int .i64 (z : Int)) rfl (by kernel_rfl) (by kernel_rfl) (by kernel_rfl) (fun _ _ _ h => h) (.inl ⟨?_, fun w hS => .inr ⟨_, _, ?_, (HBk1.out w).mono ?_⟩⟩) ?_
            · go_simp
            · go_simp
            · rintro e wy ⟨rfl, rfl⟩; exact ⟨rfl, hS, But.refl [] _⟩
            refine rdk 9 (.bool true) ?_
            refine rdk 10 (.bool true) ?_
            refine rdu 11 ?_
            refine rdu 12 ?_
            refine rdu 13 ?_
            refine rdu 14 ?_
            refine rdu 15 ?_
            refine rdu 16 ?_
            refine rdu 17 ?_
            refine rdu 18 ?_
            refine rdu 19 ?_
            refine rdu 20 ?_
            refine rdk 21 (.bool true) ?_
            refine ⟨by kernel_rfl, fun w8 hR8 hS8 => ?_⟩
            have HB8 := Lib.hid hS8
            clear hR8 hS8
            obtain ⟨c0, c1, c2, f0, f1, f2, hgl⟩ := HC.out _ ((HB2.out.trans HBk.out).trans HB8.out)
            go_simp
            go_wp2
            exact HR0.out _ _ _ 43 0 0 _ ((HB2.out.trans HBk.out).trans HB8.out) (by rfl) (by rfl) (HBAD.out k x hlt HXX.out (fun hh => hsz (by rw [← HXL.out, hh.1, HZZ.out])))
        · obtain rfl : m = k := by omega
          have i1 : ¬ (m : Int) < (m : Int) := by omega
          obtain ⟨c0, c1, c2, f0, f1, f2, hgl⟩ := HC.out _ (HB2.out.trans HBk.out)
          go_wp2
          exact HR0.out _ _ _ 0 W H _ (HB2.out.trans HBk.out) (by rfl) (by rfl) (HOK.out HFk.out)
    · rw [joinB_many hok (by rw [← hnl, ← hm]; exact hnm)] at hR
      have HRR : Hid (R = (Value.tuple #[.agg #[.int .i64 0, .int .i64 0, .string (strL [])], .int .i64 43])) := Lib.hid hR
      obtain ⟨f, hf⟩ : ∃ z, z = strL s := ⟨_, rfl⟩
      rw [← hf] at HRd ⊢
      have hHl : ((hashesB s).map strL).length = m := by rw [List.length_map, hashesB_length, hm]
      obtain ⟨HH, hHH⟩ : ∃ z, z = (hashesB s).map strL := ⟨_, rfl⟩
      rw [← hHH] at HRd hHl
      have HHL := Lib.hid hHl
      obtain ⟨W, hW⟩ : ∃ z, z = manW s := ⟨_, rfl⟩
      obtain ⟨H, hH⟩ : ∃ z, z = manH s := ⟨_, rfl⟩
      rw [← hW, ← hH] at HRd
      have q1 : ((n : Int) != (m : Int)) = true := by simp; omega
      have q2 : ((n : Int) = (m : Int)) = False := by simp; omega
      clear hf hR hok hnl hLn hL hI hB hs hm hHl hHH hW hH hnm hR5 hml
      go_enter Tryd.func20, Tryd.ntmps20
      go_upto_region 1 with (fail)
      rw [← hw1, ← hb0]
      clear hw1 hb0
      go_wp2_with fail
      refine (HRd.out _).mono ?_
      rintro e w2 ⟨bs, u, rfl, hO, hB2⟩
      have HB2 := Lib.hid hB2
      obtain ⟨A1, c1, hu, _⟩ := hO.shape
      rw [HHL.out] at hu
      subst hu
      clear hB2 hO
      obtain ⟨c0, c1, c2, f0, f1, f2, hgl⟩ := HC.out _ HB2.out
      go_wp2
      exact HR0.out _ _ _ 43 0 0 _ HB2.out (by rfl) (by rfl) HRR.out
  · rw [joinB_bad hok] at hR
    have HRR : Hid (R = (Value.tuple #[.agg #[.int .i64 0, .int .i64 0, .string (strL [])], .int .i64 42])) := Lib.hid hR
    have HRd : Hid (∀ v, Calls Tryd.prog 18 #[.string (strL s)] v fun e w' => e = .returned (.tuple #[.int .i64 0, .int .i64 0, .slice none 0 0, .int .i64 42]) ∧ But [] v w') := Lib.hid fun v => ereadB_bad v hs hok
    obtain ⟨f, hf⟩ : ∃ z, z = strL s := ⟨_, rfl⟩
    rw [← hf] at HRd ⊢
    clear hf hR hok hnl hLn hL hI hB hs
    go_enter Tryd.func20, Tryd.ntmps20
    go_upto_region 1 with (fail)
    rw [← hw1, ← hb0]
    clear hw1 hb0
    go_wp2_with fail
    refine (HRd.out _).mono ?_
    rintro e w2 ⟨rfl, hB2⟩
    have HB2 := Lib.hid hB2
    clear hB2
    obtain ⟨c0, c1, c2, f0, f1, f2, hgl⟩ := HC.out _ HB2.out
    go_wp2
    exact HR0.out _ _ _ 42 0 0 _ HB2.out (by rfl) (by rfl) HRR.out
end Go.Proofs.YtmdiilnipoblbaaDoor
