/- Several texts in one: RwF, SbC, SbM, SbD, SbE, SbG, SbH, SbJ, SbK (what PixelImages, PixelRows, PixelSame reach of them). -/
import Derived.Test.YtfiedoejdikcgaaDoorQ01
import Derived.Test.YtfiedoejdikcgaaDoorQ02
import Derived.Below
import Derived.BigQuiet
import Derived.BigRegion
import Derived.Deep.AppendLies
import Derived.Deep.CutBlock
import Derived.Deep.CutRange
import Derived.Deep.DeepCutAuto
import Derived.Deep.Draws
import Derived.Deep.QuietTactic
import Derived.Deep.RegionLaw
import Derived.Deep.RegionWith
import Derived.Handy
import Derived.Laws.BitsAllLaws
import Derived.Laws.BitsLemmas
import Derived.Laws.BytesArg
import Derived.Laws.IdiomStrings
import Derived.Laws.MakeOwn
import Derived.Laws.OwnMore
import Derived.Laws.Rows
import Derived.Lib.Hide
import Derived.Maps.AppendAt
import Derived.OrdersHeld
import Derived.Outline
import Derived.OwnWalk
import Derived.RegionTactic
import Derived.Test.YtfiedoejdikcgaaDoorChecked
import Derived.WalkKit
set_option maxRecDepth 100000
set_option linter.unusedVariables false
set_option maxRecDepth 100000
set_option linter.unusedVariables false
namespace Go.Proofs.YtfiedoejdikcgaaDoor
set_option maxRecDepth 100000
open Go Go.RowKit
theorem getD_byte (s : ByteArray) {k : Nat} (h : k < s.size) : s.data.toList.getD k 0 = s[k] := by
  have h2 : k < s.data.toList.length := by rw [Array.length_toList]; exact h
  rw [getD_lt h2]
  rfl
theorem getD_over (s : ByteArray) {k : Nat} (h : s.size ≤ k) : s.data.toList.getD k 0 = 0 := getD_ge (by rw [Array.length_toList]; exact h)
def cellsF (l : List UInt8) : List Value := l.map fun x => .int .u8 (x.toNat : Int)
theorem cellsF_length (l : List UInt8) : (cellsF l).length = l.length := by simp [cellsF]
theorem cellsF_append (a b : List UInt8) : cellsF (a ++ b) = cellsF a ++ cellsF b := by simp [cellsF]
theorem own_sliceF {w : World} {base n size : Nat} {e : TypeId} {v : Value} {xs : List Value} (h : w.ownsRow base e size v n xs) : ∃ A c, v = .slice A n c ∧ n ≤ c := by
  rcases h.2 with ⟨rfl, rfl⟩ | ⟨g, cap, cur, rfl, _, _, hc, _⟩
  · exact ⟨none, 0, rfl, Nat.le_refl _⟩
  · exact ⟨_, cap, rfl, hc⟩
theorem ownsRow_butF {w w' : World} {base n size : Nat} {e : TypeId} {v : Value} {xs : List Value} {S : List Nat} (h : w.ownsRow base e size v n xs) (hw : But S w w') (hS : ∀ g, v.ownBlock = some g → g ∉ S) : w'.ownsRow base e size v n xs := by
  obtain ⟨h1, h2⟩ := h
  refine ⟨h1, ?_⟩
  rcases h2 with h2 | ⟨g, cap, cur, rfl, hg, hh, r⟩
  · exact .inl h2
  · have hlt : g < w.heap.size := (Array.getElem?_eq_some_iff.1 hh).1
    exact .inr ⟨g, cap, cur, rfl, hg, (hw.block g hlt (hS g rfl)).trans hh, r⟩
/-- Bytes in memory as a string. -/
theorem conv_atF {W : World} {g cap : Nat} {L : List UInt8} (h : ∀ j (hj : j < L.length), W.cell? ⟨g, j, none⟩ = some (.int .u8 (L[j].toNat : Int))) :
    (convert 45 9 (.slice (some ⟨g, 0, none⟩) L.length cap)).run Tryd.prog W = .ok (.string (strL L)) W := by
  refine run_convert_bytes_back W 45 9 5 ⟨g, 0, none⟩ cap L Tryd.underlying45 Tryd.underlying5 Tryd.underlying9 (fun j hj => ?_)
  have e2 : (⟨g, 0, none⟩ : Addr).add j = ⟨g, j, none⟩ := by unfold Addr.add; split <;> simp_all
  rw [e2]
  exact h j hj
theorem own_textF {w : World} {base n : Nat} {v : Value} {L : List UInt8} (h : w.ownsRow base 5 1 v n (cellsF L)) : (convert 45 9 v).run Tryd.prog w = .ok (.string (strL L)) w := by
  have hl : L.length = n := by have := h.1; rw [cellsF_length] at this; omega
  rcases h.2 with ⟨rfl, rfl⟩ | ⟨g, cap, cur, rfl, _⟩
  · have : L = [] := List.eq_nil_of_length_eq_zero hl
    subst this
    exact run_convert_bytes_nil w 45 5 Tryd.underlying45 Tryd.underlying5 _ _ 9 Tryd.underlying9
  · subst hl
    refine conv_atF fun i hi => ?_
    have hc := h.cells (g := g) rfl i (.int .u8 (L[i].toNat : Int)) (by simp [cellsF, hi])
    have e2 : (⟨g, 0, none⟩ : Addr).add i = ⟨g, i, none⟩ := by unfold Addr.add; split <;> simp_all
    rw [e2] at hc
    exact hc
/-- Bytes of the call's own. -/
def OwnF (w : World) (base : Nat) (v : Value) (L : List UInt8) : Prop := w.ownsRow base 5 1 v L.length (cellsF L)
theorem OwnF.nil (w : World) (base : Nat) : OwnF w base (.slice none 0 0) [] := World.ownsRow_nil _ _ _ _
theorem OwnF.but {w w' : World} {base : Nat} {v : Value} {L : List UInt8} (h : OwnF w base v L) (hw : But [] w w') : OwnF w' base v L := ownsRow_butF h hw (fun _ _ => by simp)
theorem OwnF.shape {w : World} {base : Nat} {v : Value} {L : List UInt8} (h : OwnF w base v L) : ∃ A c, v = .slice A L.length c := by
  obtain ⟨A, c, e, _⟩ := own_sliceF h
  exact ⟨A, c, e⟩
theorem OwnF.lt {w : World} {base : Nat} {v : Value} {L : List UInt8} (h : OwnF w base v L) : ∀ g, v.ownBlock = some g → base ≤ g := fun g e => (World.ownsRow.lt h g e).1
theorem OwnF.text {w : World} {base : Nat} {v : Value} {L : List UInt8} (h : OwnF w base v L) : (convert 45 9 v).run Tryd.prog w = .ok (.string (strL L)) w := own_textF h
theorem news_is {w : World} {g : Nat} {x : Value} (h : Is w g 5 #[x]) : ∀ (j : Nat) u, [x][j]? = some u → w.cell? ((⟨g, 0, none⟩ : Addr).add j) = some u := by
  intro j u hj
  match j, hj with
  | 0, hj =>
    have e : x = u := by simpa using hj
    have := h.cell 0
    rw [← e]
    exact this
  | j + 1, hj => simp at hj
/-- One byte appended, at a step of a drawn region. -/
theorem step_append_f {w0 : World} (w : World) {ops : Array Oper} {o : Oper} {a : Act} {K : Act → World → Prop} {Q : Exit → Act → World → Prop} {E : Prop} (hgd : o.guard = none) (sl x : Operand)
    (ho : o.op = .call { callee := .builtin .append, args := #[sl, x], argTypes := #[45, 45] })
    {i : TypeInfo} (hi : Tryd.prog.info? 5 = some i) (hz : i.zero = some (.int .u8 0)) (hsize : i.size = 1) (hby : i.bytes = 1) (v : Value) (L : List UInt8) (hs : a.eval sl = v) (hO : OwnF w w0.heap.size v L) (hB : But [] w0 w) (y : UInt8) {g : Nat}
    (hx : a.eval x = .slice (some ⟨g, 0, none⟩) 1 1) (hI : Is w g 5 #[.int .u8 (y.toNat : Int)]) (hbound : L.length < 140737488355328)
    (h : ∀ A c w' M, M = L ++ [y] → OwnF w' w0.heap.size (.slice A M.length c) M → But [] w0 w' → K (a.put o.dst (.slice A M.length c)) w') : if Region.wanted o (yielded ops a.tmps) = true then Oper.wp Tryd.prog o a w K Q else E := by
  refine step_append_lies w hgd sl x 45 ho w0.heap.size 5 i (.int .u8 0) 1 1 Tryd.underlying45 hi hz hsize hby rfl (by omega) v L.length (cellsF L) hs hO ⟨g, 0, none⟩ 1 1 [.int .u8 (y.toNat : Int)] hx rfl (news_is hI) (by simp [Value.oneCell']) (by omega) (by unfold maxLen; omega) (by omega) hB.size w.heap.size rfl ?_
  intro g' cap w' hown hgrow _ _
  have hO2 : OwnF w' w0.heap.size (.slice (some ⟨g', 0, none⟩) (L ++ [y]).length cap) (L ++ [y]) := by
    unfold OwnF
    rw [List.length_append, cellsF_append]
    exact hown
  have key := h (some ⟨g', 0, none⟩) cap w' (L ++ [y]) rfl hO2 (hB.grown hgrow (fun k e => .inr (hO.lt k e)))
  rw [List.length_append] at key
  exact key
theorem info_u8F : (Tryd.prog.info? 5).map (fun i => (i.zero, i.size, i.bytes)) = some (some (.int .u8 0), 1, 1) := by kernel_rfl
/-- A block reads as these bytes, and they may be written. -/
def RowF (w : World) (g : Nat) (l : List UInt8) : Prop := ∃ (cs : Array Value) (fr : Nat × Nat), w.heap[g]? = some (.cells cs 5 fr) ∧
  ∀ i, i < l.length → cs[i]? = some (.int .u8 ((l.getD i 0).toNat : Nat)) ∧ (decide (fr.1 ≤ i) && decide (i < fr.2)) = false
section
variable {w w' : World} {g : Nat} {l : List UInt8}
theorem RowF.lt (h : RowF w g l) : g < w.heap.size := by
  obtain ⟨cs, fr, h1, _⟩ := h
  exact (Array.getElem?_eq_some_iff.1 h1).1
theorem RowF.cell (h : RowF w g l) {i : Nat} (hi : i < l.length) : w.cell? ⟨g, i, none⟩ = some (.int .u8 ((l.getD i 0).toNat : Nat)) := by
  obtain ⟨cs, fr, h1, h2⟩ := h
  have := (h2 i hi).1
  simp [World.cell?, h1, this]
theorem RowF.free (h : RowF w g l) {i : Nat} (hi : i < l.length) : w.frozen? ⟨g, i, none⟩ = false := by
  obtain ⟨cs, fr, h1, h2⟩ := h
  have := (h2 i hi).2
  simp only [World.frozen?, h1]
  exact this
theorem RowF.but (h : RowF w g l) (k : But [] w w') : RowF w' g l := by
  have hl := h.lt
  obtain ⟨cs, fr, h1, h2⟩ := h
  exact ⟨cs, fr, (k.block g hl (by simp)).trans h1, h2⟩
theorem RowF.keep (h : RowF w g l) {g2 : Nat} (k : But [g2] w w') (hne : g ≠ g2) : RowF w' g l := by
  have hl := h.lt
  obtain ⟨cs, fr, h1, h2⟩ := h
  exact ⟨cs, fr, (k.block g hl (by simpa using hne)).trans h1, h2⟩
theorem RowF.put (h : RowF w g l) (i : Nat) (x : UInt8) (hi : i < l.length) : RowF (w.setCell ⟨g, i, none⟩ (.int .u8 (x.toNat : Nat))) g (l.set i x) := by
  obtain ⟨cs, fr, h1, h2⟩ := h
  refine ⟨cs.setIfInBounds i (.int .u8 (x.toNat : Nat)), fr, by simp [World.setCell, Array.getElem?_modify, h1], fun j hj => ?_⟩
  rw [List.length_set] at hj
  obtain ⟨c1, c2⟩ := h2 j hj
  refine ⟨?_, c2⟩
  by_cases e : i = j
  · subst e
    have hs : i < cs.size := (Array.getElem?_eq_some_iff.1 c1).1
    rw [Array.getElem?_setIfInBounds_self, if_pos hs]
    congr 3
    rw [getD_lt (by rw [List.length_set]; exact hi), List.getElem_set_self]
  · rw [Array.getElem?_setIfInBounds_ne e, c1]
    congr 3
    rw [List.getD_eq_getElem?_getD, List.getD_eq_getElem?_getD, List.getElem?_set_ne e]
theorem RowF.far (h : RowF w g l) {p : Addr} (hp : g ≠ p.block) (u : Value) : RowF (w.setCell p u) g l := by
  obtain ⟨cs, fr, h1, h2⟩ := h
  exact ⟨cs, fr, (Below.heap_setCell w p u g hp).trans h1, h2⟩
theorem RowF.text (h : RowF w g l) (cap : Nat) : (convert 45 9 (.slice (some ⟨g, 0, none⟩) l.length cap)).run Tryd.prog w = .ok (.string (strL l)) w :=
  conv_atF fun j hj => by rw [h.cell hj, getD_lt hj]
end
/-- A string's bytes, laid anew. -/
def rowOf (w : World) (s : ByteArray) : World := w.drew.alloc (.cells (bytesRow s (grownCap w s.size 0 5)) 5 ((bytesRow s (grownCap w s.size 0 5)).size, (bytesRow s (grownCap w s.size 0 5)).size + 1))
theorem run_rowOf (w : World) (s : ByteArray) : (convert 9 45 (.string s)).run Tryd.prog w = .ok (.slice (some ⟨w.heap.size, 0, none⟩) s.size (grownCap w s.size 0 5)) (rowOf w s) :=
  run_bytes_of_string w 9 45 5 s Tryd.underlying9 Tryd.underlying45 Tryd.underlying5
theorem rowOf_but (w : World) (s : ByteArray) : But [] w (rowOf w s) := ((But.refl [] w).drew).alloc _
theorem rowOf_row (w : World) (s : ByteArray) : RowF (rowOf w s) w.heap.size s.data.toList := by
  refine ⟨_, _, heap_alloc_new w.drew _, fun i hi => ?_⟩
  rw [Array.length_toList] at hi
  have hi2 : i < s.size := hi
  have hsz : i < (s.data.map (fun b => Value.int .u8 b.toNat)).size := by rw [Array.size_map]; exact hi
  have hb : i < (bytesRow s (grownCap w s.size 0 5)).size := by unfold bytesRow; rw [Array.size_append]; omega
  refine ⟨?_, by simp; omega⟩
  unfold bytesRow
  rw [Array.getElem?_append_left hsz, getD_byte s hi2]
  simp
  exact ⟨_, Array.getElem?_eq_getElem hi, rfl⟩
theorem grownCap_le' (w : World) (n : Nat) (e : TypeId) : n ≤ grownCap w n 0 e := grownCap_ge w n 0 e
/-- Noughts, laid anew. -/
def noughtsF (w : World) (n : Nat) : World := w.alloc (.cells (madeCells (Value.int .u8 0).cells n) 5)
theorem run_noughts (w : World) {n : Nat} (hn : n ≤ 140737488355328) : (Instr.makeSlice 45 (.int .i64 (n : Int)) (.int .i64 (n : Int))).run Tryd.prog w = .ok (.slice (some ⟨w.heap.size, 0, none⟩) n n) (noughtsF w n) := by
  obtain ⟨i0, hi0, hz0, hz1, hz2⟩ := info_parts info_u8F
  have h := run_make (P := Tryd.prog) w 45 5 i0 (.int .u8 0) Tryd.underlying45 hi0 hz0 .i64 .i64 (n : Int) (n : Int) (by omega) (by omega) (by rw [hz2]; omega) (by omega)
  rw [hz1] at h
  simpa [noughtsF] using h
theorem noughtsF_but (w : World) (n : Nat) : But [] w (noughtsF w n) := (But.refl [] w).alloc _
theorem noughtsF_row (w : World) (n : Nat) : RowF (noughtsF w n) w.heap.size (List.replicate n 0) := by
  refine ⟨_, _, heap_alloc_new w _, fun i hi => ?_⟩
  rw [List.length_replicate] at hi
  refine ⟨?_, by simp⟩
  rw [getD_zeros]
  have e : (Value.int .u8 0).cells = #[.int .u8 0] := rfl
  unfold madeCells
  rw [e]
  simp [hi, Nat.mod_one]
end Go.Proofs.YtfiedoejdikcgaaDoor
set_option maxRecDepth 100000
set_option linter.unusedVariables false
namespace Go.Proofs.YtfiedoejdikcgaaDoor
set_option maxRecDepth 100000
open Go Go.RowKit
/-- The samples of a row, of whatever arguments. -/
def unpackA (s : ByteArray) (d n : Int) : List Nat × Int :=
  if depB d = false ∨ n < 0 ∨ 4096 < n then ([], 1) else if 8 * (s.size : Int) < n * d then ([], 30) else (unpackT s.data.toList d.toNat n.toNat, 0)
theorem unpackT_next (row : List UInt8) (D i : Nat) : unpackT row D (i + 1) = unpackT row D i ++ [sampleN row D i] := by
  unfold unpackT
  rw [List.range_succ, List.map_append]
  rfl
theorem unpackT_length (row : List UInt8) (D i : Nat) : (unpackT row D i).length = i := by unfold unpackT; rw [List.length_map, List.length_range]
theorem byteR_run {s : ByteArray} {k : Nat} (hk : k < s.size) (w : World) : (Instr.index 9 (.string s) (.int .i64 (k : Int))).run Tryd.prog w = .ok (.int .u8 (s[k].toNat : Nat)) w := by
  simp [go_sem, Tryd.underlying9, hk]
/-- What is told of samples. -/
def GotN (w : World) (r : List Nat × Int) (e : Ending) (w' : World) : Prop := ∃ A cap, e = .returned (.tuple #[.slice A r.1.length cap, .int .i64 r.2]) ∧ Nums w' A r.1.length r.1 ∧ r.1.length ≤ cap ∧ But [] w w'
end Go.Proofs.YtfiedoejdikcgaaDoor
set_option linter.unusedVariables false
namespace Go.Proofs.YtfiedoejdikcgaaDoor
set_option maxRecDepth 100000
open Go
/-- The low bits of a number that may be below nought. -/
def lowN (x : Int) : Nat := (x % 65536).toNat
theorem packBit_of {D : Nat} {l : List Nat} {i b : Nat} (hi : i < l.length) (hb : b < D) : packBit D l (i * D + b) = bitN (l.getD i 0) (D - 1 - b) := by
  have hlt : i * D + b < l.length * D := by
    have : (i + 1) * D ≤ l.length * D := Nat.mul_le_mul_right _ hi
    rw [Nat.succ_mul] at this
    omega
  unfold packBit
  rw [if_pos hlt]
  have e1 : (i * D + b) / D = i := by rw [Nat.mul_comm, Nat.mul_add_div (by omega), Nat.div_eq_of_lt hb, Nat.add_zero]
  have e2 : (i * D + b) % D = b := by rw [Nat.mul_comm, Nat.mul_add_mod, Nat.mod_eq_of_lt hb]
  rw [e1, e2]
end Go.Proofs.YtfiedoejdikcgaaDoor
set_option maxRecDepth 100000
set_option linter.unusedVariables false
namespace Go.Proofs.YtfiedoejdikcgaaDoor
set_option maxRecDepth 100000
open Go Go.RowKit
/-- A slice reads as these numbers, which may be below nought. -/
def Zs (w : World) (A : Option Addr) (n : Nat) (l : List Int) : Prop :=
  l.length = n ∧ (0 < n → ∃ g o, A = some ⟨g, o, none⟩ ∧ g < w.heap.size ∧ ∀ (i : Nat) (h : i < l.length), w.cell? ⟨g, o + i, none⟩ = some (.int .i64 l[i]))
theorem Zs.but {w w' : World} {A : Option Addr} {n : Nat} {l : List Int} (h : Zs w A n l) (hw : But [] w w') : Zs w' A n l :=
  ⟨h.1, fun hn => by
    obtain ⟨g, o, e, hg, hc⟩ := h.2 hn
    exact ⟨g, o, e, Nat.lt_of_lt_of_le hg hw.size, fun i hi => hw.cell (hc i hi) (by simp)⟩⟩
theorem Zs.at {w : World} {A : Option Addr} {n : Nat} {l : List Int} (h : Zs w A n l) {i : Nat} (hi : i < n) : ∃ g o x, A = some ⟨g, o, none⟩ ∧ g < w.heap.size ∧ l[i]? = some x ∧ w.cell? ⟨g, o + i, none⟩ = some (.int .i64 x) := by
  obtain ⟨g, o, e, hg, hc⟩ := h.2 (by omega)
  have hl : i < l.length := by have := h.1; omega
  exact ⟨g, o, l[i], e, hg, List.getElem?_eq_getElem hl, hc i hl⟩
/-- The numbers fit. -/
def ZFit (l : List Int) : Prop := ∀ x, x ∈ l → -9223372036854775808 ≤ x ∧ x ≤ 9223372036854775807
/-- A row of samples, of whatever arguments. -/
def packA (d : Int) (l : List Int) : List UInt8 × Int := if depB d = false then ([], 1) else (packT d.toNat (l.map lowN), 0)
/-- A row of the call's own. -/
def OneS (w v : World) (g : Nat) (l : List UInt8) : Prop := RowF v g l ∧ w.heap.size ≤ g ∧ But [] w v
theorem OneS.but {w v v' : World} {g : Nat} {l : List UInt8} (h : OneS w v g l) (k : But [] v v') : OneS w v' g l := ⟨h.1.but k, h.2.1, h.2.2.trans k⟩
theorem OneS.put {w v : World} {g : Nat} {l : List UInt8} (h : OneS w v g l) {i : Nat} (x : UInt8) (hi : i < l.length) : OneS w (v.setCell ⟨g, i, none⟩ (.int .u8 (x.toNat : Nat))) g (l.set i x) :=
  ⟨h.1.put i x hi, h.2.1, h.2.2.setCell (p := ⟨g, i, none⟩) (.inr h.2.1) _⟩
theorem wrapI_in {q : Nat} (h : q < 1000000000000000) : IntKind.i64.wrap (q : Int) = (q : Int) := by rw [IntKind.wrap_i64]; omega
theorem wrapY_in {z : Nat} (h : z < 256) : IntKind.u8.wrap (z : Int) = (z : Int) := by rw [IntKind.wrap_u8]; omega
end Go.Proofs.YtfiedoejdikcgaaDoor
set_option maxRecDepth 100000
set_option linter.unusedVariables false
namespace Go.Proofs.YtfiedoejdikcgaaDoor
set_option maxRecDepth 100000
open Go Go.RowKit
/-- Two bytes of a number, the high one first. -/
def twoB (n : Nat) : List UInt8 := [UInt8.ofNat (n / 256), UInt8.ofNat n]
/-- Whether a sample is that of a transparency. -/
def sameAt (D : Nat) (tr : ByteArray) (l : List Int) (i : Nat) : Bool := decide ((((256 * (tr.data.toList.getD (2 * i) 0).toNat + (tr.data.toList.getD (2 * i + 1) 0).toNat) % 2 ^ D : Nat) : Int) = l.getD i 0)
/-- Whether samples are those of a transparency. -/
def sameS (D : Nat) (tr : ByteArray) (has : Bool) (l : List Int) : Bool := has && decide (tr.size = 2 * l.length) && (List.range l.length).all (sameAt D tr l)
/-- What stands while samples are compared. -/
def SmS (w : World) (g : Nat) (cs : Array Value) (A : Option Addr) (n : Nat) (l : List Int) (v : World) : Prop := Is v g 31 cs ∧ Zs v A n l ∧ But [] w v
theorem SmS.but {w v v' : World} {g : Nat} {cs : Array Value} {A : Option Addr} {n : Nat} {l : List Int} (h : SmS w g cs A n l v) (k : But [] v v') : SmS w g cs A n l v' := ⟨h.1.but k (by simp), h.2.1.but k, h.2.2.trans k⟩
theorem sameS_no {D : Nat} {tr : ByteArray} {has : Bool} {l : List Int} (h : has = false ∨ tr.size ≠ 2 * l.length) : sameS D tr has l = false := by
  unfold sameS
  rcases h with h | h
  · rw [h]; rfl
  · rw [decide_eq_false h, Bool.and_false, Bool.false_and]
end Go.Proofs.YtfiedoejdikcgaaDoor
set_option maxRecDepth 100000
set_option linter.unusedVariables false
namespace Go.Proofs.YtfiedoejdikcgaaDoor
set_option maxRecDepth 100000
open Go Go.RowKit
def stCells (L : List ByteArray) : List Value := L.map fun x => .string x
/-- Strings of the call's own. -/
def OwnSt (w : World) (base : Nat) (v : Value) (L : List ByteArray) : Prop := w.ownsRow base 9 1 v L.length (stCells L)
theorem OwnSt.nil (w : World) (base : Nat) : OwnSt w base (.slice none 0 0) [] := World.ownsRow_nil _ _ _ _
theorem OwnSt.but {w w' : World} {base : Nat} {v : Value} {L : List ByteArray} (h : OwnSt w base v L) (hw : But [] w w') : OwnSt w' base v L := by
  obtain ⟨h1, h2⟩ := h
  refine ⟨h1, ?_⟩
  rcases h2 with h2 | ⟨g, cap, cur, rfl, hg, hh, r⟩
  · exact .inl h2
  · have hlt : g < w.heap.size := (Array.getElem?_eq_some_iff.1 hh).1
    exact .inr ⟨g, cap, cur, rfl, hg, (hw.block g hlt (by simp)).trans hh, r⟩
theorem OwnSt.shape {w : World} {base : Nat} {v : Value} {L : List ByteArray} (h : OwnSt w base v L) : ∃ A c, v = .slice A L.length c ∧ L.length ≤ c := by
  rcases h.2 with ⟨rfl, e⟩ | ⟨g, cap, cur, rfl, _, _, hc, _⟩
  · have : L = [] := List.eq_nil_of_length_eq_zero e
    subst this
    exact ⟨none, 0, rfl, Nat.le_refl _⟩
  · exact ⟨_, cap, rfl, hc⟩
theorem OwnSt.lt {w : World} {base : Nat} {v : Value} {L : List ByteArray} (h : OwnSt w base v L) : ∀ g, v.ownBlock = some g → base ≤ g := fun g e => (World.ownsRow.lt h g e).1
theorem OwnSt.at {w : World} {base n c : Nat} {A : Option Addr} {L : List ByteArray} (h : OwnSt w base (.slice A n c) L) {i : Nat} {x : ByteArray} (hi : L[i]? = some x) :
    ∃ g, A = some ⟨g, 0, none⟩ ∧ g < w.heap.size ∧ w.cell? ⟨g, i, none⟩ = some (.string x) := by
  have hl := (List.getElem?_eq_some_iff.1 hi).1
  obtain ⟨g, cap, e, h1, h2⟩ := World.ownsRow.form h (by omega)
  injection e with e1 e2 e3
  subst e1 e3
  refine ⟨g, rfl, h2, ?_⟩
  have hc := World.ownsRow.cells h (g := g) rfl i (.string x) (by simp [stCells, hi])
  have e2 : (⟨g, 0, none⟩ : Addr).add i = ⟨g, i, none⟩ := by unfold Addr.add; split <;> simp_all
  rw [e2] at hc
  exact hc
end Go.Proofs.YtfiedoejdikcgaaDoor
set_option maxRecDepth 100000
set_option linter.unusedVariables false
namespace Go.Proofs.YtfiedoejdikcgaaDoor
set_option maxRecDepth 100000
open Go Go.RowKit
theorem wideA_lt (x : Int) (d : Int) : wideA x d < 65536 := by
  unfold wideA
  by_cases h : depB d = true
  · rw [if_pos h]
    obtain ⟨D, rfl, hdep, _, _⟩ := depB_nat h
    have h1 : (x % 2 ^ (D : Int).toNat).toNat ≤ 2 ^ D - 1 := by
      have e : (D : Int).toNat = D := rfl
      rw [e]
      have hp : 0 < 2 ^ D := Nat.pow_pos (by decide)
      have h2 : x % ((2 ^ D : Nat) : Int) < ((2 ^ D : Nat) : Int) := Int.emod_lt_of_pos _ (by omega)
      have h3 : 0 ≤ x % ((2 ^ D : Nat) : Int) := Int.emod_nonneg _ (by omega)
      have e2 : ((2 ^ D : Nat) : Int) = (2 : Int) ^ D := by simp
      rw [← e2]
      omega
    have := wideN_le hdep h1
    exact Nat.lt_of_le_of_lt this (by decide)
  · rw [if_neg h]; decide
/-- Whether samples are of a depth. -/
def inR (D : Nat) (l : List Int) : Bool := l.all fun x => decide (0 ≤ x ∧ x < ((2 ^ D : Nat) : Int))
end Go.Proofs.YtfiedoejdikcgaaDoor
set_option maxRecDepth 100000
set_option linter.unusedVariables false
namespace Go.Proofs.YtfiedoejdikcgaaDoor
set_option maxRecDepth 100000
open Go Go.RowKit
set_option maxHeartbeats 1000000 in
theorem pisdepth_any (w : World) (d : Int) : Calls Tryd.prog 71 #[.int .i64 d] w fun e w' => e = .returned (.bool (depB d)) ∧ w = w' := by
  obtain ⟨r, hr⟩ : ∃ r, r = depB d := ⟨_, rfl⟩
  rw [← hr]
  have HR := Lib.hid hr
  clear hr
  go_enter Tryd.func71, Tryd.ntmps71
  go_wp2
  all_goals
    go_ret
    refine ⟨?_, rfl⟩
    rw [HR.out]
    unfold depB
    clear HR
    simp_all
set_option maxHeartbeats 1000000 in
theorem pgreatest_any (w : World) {D : Nat} (hD : D ≤ 16) : Calls Tryd.prog 82 #[.int .i64 D] w fun e w' => e = .returned (.int .i64 (2 ^ D - 1)) ∧ w = w' := by
  obtain ⟨M, hM⟩ : ∃ M, M = 2 ^ D := ⟨_, rfl⟩
  have hM1 : 1 ≤ M := by rw [hM]; exact Nat.pow_pos (by decide)
  have hM2 : M ≤ 65536 := by rw [hM]; exact Nat.pow_le_pow_right (by decide) hD
  have p1 : (2 : Int) ^ D = (M : Int) := by rw [hM]; simp
  rw [p1]
  have t7 : IntKind.i64.wrap (M : Int) = (M : Int) := by rw [IntKind.wrap_i64]; omega
  clear hM
  go_enter Tryd.func82, Tryd.ntmps82
  go_wp2
  go_ret
  exact ⟨rfl, rfl⟩
set_option maxHeartbeats 1000000 in
theorem plow_any (w : World) (v : Int) {D : Nat} (hD : D ≤ 16) : Calls Tryd.prog 79 #[.int .i64 v, .int .i64 D] w fun e w' => e = .returned (.int .i64 (v % 2 ^ D)) ∧ w = w' := by
  have HG := Lib.hid fun W => pgreatest_any W hD
  have e1 := i64_mask v D (by omega)
  obtain ⟨r, hr⟩ : ∃ r, r = v % 2 ^ D := ⟨_, rfl⟩
  obtain ⟨m, hm⟩ : ∃ r : Int, r = 2 ^ D - 1 := ⟨_, rfl⟩
  rw [← hm] at HG e1
  rw [← hr] at e1 ⊢
  clear hr hm
  go_enter Tryd.func79, Tryd.ntmps79
  go_wp2_with fail
  refine (HG.out _).mono ?_
  rintro e w1 ⟨rfl, rfl⟩
  go_wp2
  go_ret
  exact ⟨rfl, rfl⟩
theorem wideA_yes {v : Int} {D : Nat} (h : depB (D : Int) = true) : wideA v D = (v % 2 ^ D).toNat * 65535 / (2 ^ D - 1) := by
  unfold wideA wideN; rw [if_pos h]; rfl
set_option maxHeartbeats 1000000 in
theorem swide_any (w : World) (v d : Int) : Calls Tryd.prog 76 #[.int .i64 v, .int .i64 d] w fun e w' => e = .returned (.int .i64 (wideA v d : Nat)) ∧ w = w' := by
  by_cases h : depB d = true
  · obtain ⟨D, rfl, hdep, hD1, hD16⟩ := depB_nat h
    have HD := Lib.hid fun W => pisdepth_any W D
    rw [h] at HD
    have HL := Lib.hid fun W => plow_any W v hD16
    have HG := Lib.hid fun W => pgreatest_any W hD16
    obtain ⟨M, hM⟩ : ∃ M, M = 2 ^ D := ⟨_, rfl⟩
    have hM1 : 2 ≤ M := by rw [hM]; exact Nat.pow_le_pow_right (n := 2) (by decide) hD1
    have hM2 : M ≤ 65536 := by rw [hM]; exact Nat.pow_le_pow_right (by decide) hD16
    have p1 : (2 : Int) ^ D = (M : Int) := by rw [hM]; simp
    rw [p1] at HL HG
    obtain ⟨G, hG⟩ : ∃ G : Nat, G = M - 1 := ⟨_, rfl⟩
    have eG : (M : Int) - 1 = (G : Int) := by omega
    rw [eG] at HG
    obtain ⟨m, hm⟩ : ∃ m : Nat, m = (v % M).toNat := ⟨_, rfl⟩
    have hvm : v % (M : Int) = (m : Int) := by
      have := Int.emod_nonneg v (show (M : Int) ≠ 0 by omega)
      omega
    have hml : m < M := by
      have := Int.emod_lt_of_pos v (show (0 : Int) < M by omega)
      omega
    rw [hvm] at HL
    obtain ⟨x, hx⟩ : ∃ x, x = m * 65535 := ⟨_, rfl⟩
    obtain ⟨q, hq⟩ : ∃ q, q = x / G := ⟨_, rfl⟩
    have e1 : (m : Int) * 65535 = (x : Int) := by omega
    have e2 : (x : Int).tdiv (G : Int) = (q : Int) := by rw [Int.tdiv_eq_ediv_of_nonneg (by omega), hq]; simp
    have e3 : (x : Int) / (G : Int) = (q : Int) := by rw [hq]; simp
    have hql : q ≤ x := by rw [hq]; exact Nat.div_le_self _ _
    have hxl : x < 4294967296 := by omega
    have t1 : IntKind.i64.wrap (x : Int) = (x : Int) := by rw [IntKind.wrap_i64]; omega
    have t2 : IntKind.i64.wrap (q : Int) = (q : Int) := by rw [IntKind.wrap_i64]; omega
    have nG : ((G : Int) == 0) = false := by simp; omega
    have nG1 : ¬ (G : Int) = 0 := by omega
    have nG2 : ¬ G = 0 := by omega
    have HR : Hid (wideA v D = q) := Lib.hid (by rw [wideA_yes h, p1, hvm, hq, hx, hG, hM]; rfl)
    rw [HR.out]
    clear h hdep hM hG hm hx hq p1 eG hvm
    go_enter Tryd.func76, Tryd.ntmps76
    go_wp2_with (first | (refine (HD.out _).mono ?_; rintro e wz ⟨rfl, rfl⟩) | (refine (HL.out _).mono ?_; rintro e wz ⟨rfl, rfl⟩) | (refine (HG.out _).mono ?_; rintro e wz ⟨rfl, rfl⟩))
    go_ret
    exact ⟨rfl, rfl⟩
  · have hf : depB d = false := by simpa using h
    have HD := Lib.hid fun W => pisdepth_any W d
    rw [hf] at HD
    have HR := Lib.hid (wideA_no (v := v) hf)
    rw [HR.out]
    clear h hf
    go_enter Tryd.func76, Tryd.ntmps76
    go_wp2_with fail
    refine (HD.out _).mono ?_
    rintro e w1 ⟨rfl, rfl⟩
    go_wp2
    go_ret
    exact ⟨rfl, rfl⟩
end Go.Proofs.YtfiedoejdikcgaaDoor
set_option maxRecDepth 100000
set_option linter.unusedVariables false
namespace Go.Proofs.YtfiedoejdikcgaaDoor
set_option maxRecDepth 100000
open Go Go.RowKit
theorem valN_mid (v : Nat) : ∀ n m, valN (fun b => bitN v (m + n - 1 - b)) n = v / 2 ^ m % 2 ^ n := by
  intro n
  induction n with
  | zero => intro m; rw [Nat.pow_zero, Nat.mod_one]; rfl
  | succ n ih =>
    intro m
    have h := ih (m + 1)
    show 2 * valN (fun b => bitN v (m + (n + 1) - 1 - b)) n + bitN v (m + (n + 1) - 1 - n) = _
    rw [valN_congr (g := fun b => bitN v (m + 1 + n - 1 - b)) (fun b _ => by show bitN v (m + (n + 1) - 1 - b) = bitN v (m + 1 + n - 1 - b); rw [show m + (n + 1) - 1 - b = m + 1 + n - 1 - b by omega]), h]
    unfold bitN
    rw [show m + (n + 1) - 1 - n = m by omega, Nat.pow_succ 2 m, ← Nat.div_div_eq_div_mul, Nat.pow_succ 2 n, Nat.mul_comm (2 ^ n) 2, Nat.mod_mul]
    omega
theorem valN_add (f : Nat → Nat) (m : Nat) : ∀ n, valN f (m + n) = valN f m * 2 ^ n + valN (fun b => f (m + b)) n := by
  intro n
  induction n with
  | zero => show valN f m = _; rw [Nat.pow_zero, Nat.mul_one]; rfl
  | succ n ih =>
    show 2 * valN f (m + n) + f (m + n) = _ + (2 * valN (fun b => f (m + b)) n + f (m + n))
    rw [ih, Nat.pow_succ, ← Nat.mul_assoc, Nat.mul_add]
    generalize valN f m * 2 ^ n = p
    omega
/-- A sample that lies in one byte. -/
theorem sample_in {row : List UInt8} {D i : Nat} (hD : D = 1 ∨ D = 2 ∨ D = 4 ∨ D = 8) : sampleN row D i = (row.getD (i * D / 8) 0).toNat / 2 ^ (8 - D - i * D % 8) % 2 ^ D ∧ i * D % 8 + D ≤ 8 := by
  have hr : i * D % 8 + D ≤ 8 := by rcases hD with rfl | rfl | rfl | rfl <;> omega
  refine ⟨?_, hr⟩
  unfold sampleN
  rw [← valN_mid]
  refine valN_congr fun b hb => ?_
  unfold rowBit
  rw [show (i * D + b) / 8 = i * D / 8 by omega, show (i * D + b) % 8 = i * D % 8 + b by omega, show 7 - (i * D % 8 + b) = 8 - D - i * D % 8 + D - 1 - b by omega]
/-- A sample of two bytes. -/
theorem sample_two (row : List UInt8) (i : Nat) : sampleN row 16 i = 256 * (row.getD (2 * i) 0).toNat + (row.getD (2 * i + 1) 0).toNat := by
  have hb : ∀ j, valN (fun b => rowBit row (8 * j + b)) 8 = (row.getD j 0).toNat := fun j => by
    have h : valN (fun b => rowBit row (8 * j + b)) 8 = valN (fun b => bitN (row.getD j 0).toNat (0 + 8 - 1 - b)) 8 := valN_congr fun b hb => by
      unfold rowBit
      rw [show (8 * j + b) / 8 = j by omega, show (8 * j + b) % 8 = b by omega, show 7 - b = 0 + 8 - 1 - b by omega]
    have hx := (row.getD j 0).toNat_lt
    rw [h, valN_mid, Nat.pow_zero, Nat.div_one, Nat.mod_eq_of_lt (by omega)]
  unfold sampleN
  rw [show (16 : Nat) = 8 + 8 from rfl, valN_add]
  have e1 : valN (fun b => rowBit row (i * (8 + 8) + b)) 8 = (row.getD (2 * i) 0).toNat := by
    rw [← hb (2 * i)]
    exact valN_congr fun b _ => by show rowBit row (i * (8 + 8) + b) = rowBit row (8 * (2 * i) + b); rw [show i * (8 + 8) + b = 8 * (2 * i) + b by omega]
  have e2 : valN (fun b => rowBit row (i * (8 + 8) + (8 + b))) 8 = (row.getD (2 * i + 1) 0).toNat := by
    rw [← hb (2 * i + 1)]
    exact valN_congr fun b _ => by show rowBit row (i * (8 + 8) + (8 + b)) = rowBit row (8 * (2 * i + 1) + b); rw [show i * (8 + 8) + (8 + b) = 8 * (2 * i + 1) + b by omega]
  rw [e1, e2]
  omega
theorem or_two {x y : Nat} (hx : x < 256) (hy : y < 256) : bits .or .i64 ((256 * x : Nat) : Int) (y : Int) = ((256 * x + y : Nat) : Int) := by
  rw [i64_or _ _ (by omega) (by omega)]
  have := Nat.two_pow_add_eq_or_of_lt (i := 8) (b := y) (by omega) x
  rw [show (2 : Nat) ^ 8 = 256 from rfl] at this
  rw [this]
set_option maxHeartbeats 1000000 in
theorem psampleAt_two (w : World) {s : ByteArray} {i : Nat} (hi : 2 * i + 1 < s.size) (hs : s.size ≤ 140737488351232) :
    Calls Tryd.prog 72 #[.string s, .int .i64 16, .int .i64 i] w fun e w' => e = .returned (.int .i64 (sampleN s.data.toList 16 i : Nat)) ∧ But [] w w' := by
  obtain ⟨i2, hi2⟩ : ∃ z, z = 2 * i := ⟨_, rfl⟩
  have e1 : (2 : Int) * (i : Int) = (i2 : Int) := by omega
  obtain ⟨i3, hi3⟩ : ∃ z, z = i2 + 1 := ⟨_, rfl⟩
  have e1b : (i2 : Int) + 1 = (i3 : Int) := by omega
  have hl1 : i2 < s.size := by omega
  have hl2 : i3 < s.size := by omega
  obtain ⟨x1, hx1⟩ : ∃ z, z = s[i2].toNat := ⟨_, rfl⟩
  obtain ⟨x2, hx2⟩ : ∃ z, z = s[i3].toNat := ⟨_, rfl⟩
  have x1b : x1 < 256 := by rw [hx1]; exact s[i2].toNat_lt
  have x2b : x2 < 256 := by rw [hx2]; exact s[i3].toNat_lt
  have kx1 : ∀ w, (Instr.index 9 (.string s) (.int .i64 (i2 : Int))).run Tryd.prog w = .ok (.int .u8 (x1 : Int)) w := fun w => by rw [hx1]; exact byteR_run hl1 w
  have kx2 : ∀ w, (Instr.index 9 (.string s) (.int .i64 (i3 : Int))).run Tryd.prog w = .ok (.int .u8 (x2 : Int)) w := fun w => by rw [hx2]; exact byteR_run hl2 w
  obtain ⟨m1, hm1⟩ : ∃ z, z = 256 * x1 := ⟨_, rfl⟩
  obtain ⟨m, hm⟩ : ∃ z, z = 256 * x1 + x2 := ⟨_, rfl⟩
  have e2 : (x1 : Int) * 256 = (m1 : Int) := by omega
  have e2b : (x1 : Int) * 2 ^ 8 = (m1 : Int) := by omega
  have e3 : bits .or .i64 (m1 : Int) (x2 : Int) = (m : Int) := by rw [hm1, hm]; exact or_two x1b x2b
  have HR : Hid (sampleN s.data.toList 16 i = m) := Lib.hid (by
    rw [sample_two, ← hi2, ← hi3, getD_byte s hl1, getD_byte s hl2, ← hx1, ← hx2, hm])
  rw [HR.out]
  have HB := Lib.hid (But.refl [] w)
  have t1 := wrapI_in (show i2 < 1000000000000000 by omega)
  have t2 := wrapI_in (show i3 < 1000000000000000 by omega)
  have t3 := wrapI_in (show x1 < 1000000000000000 by omega)
  have t4 := wrapI_in (show x2 < 1000000000000000 by omega)
  have t5 := wrapI_in (show m1 < 1000000000000000 by omega)
  clear hi hi2 hi3 hx1 hx2 hm1 hm
  go_enter Tryd.func72, Tryd.ntmps72
  go_upto_region 2 with (fail)
  go_quiet (fail)
  go_wp2
  go_ret
  exact ⟨rfl, HB.out.drewN _⟩
set_option maxHeartbeats 1000000 in
theorem psampleAt_in (w : World) {s : ByteArray} {D i : Nat} (hD : D = 1 ∨ D = 2 ∨ D = 4 ∨ D = 8) (hi : (i + 1) * D ≤ 8 * s.size) (hs : s.size ≤ 140737488351232) :
    Calls Tryd.prog 72 #[.string s, .int .i64 D, .int .i64 i] w fun e w' => e = .returned (.int .i64 (sampleN s.data.toList D i : Nat)) ∧ But [] w w' := by
  obtain ⟨hsm, hr⟩ := sample_in (row := s.data.toList) (i := i) hD
  have hD8 : D ≤ 8 := by omega
  have hD1 : 1 ≤ D := by omega
  obtain ⟨t, ht⟩ : ∃ t, t = i * D := ⟨_, rfl⟩
  have e0 : (i : Int) * (D : Int) = (t : Int) := by rw [ht, Int.natCast_mul]
  have hit : t + D ≤ 8 * s.size := by rw [ht]; rw [Nat.succ_mul] at hi; exact hi
  rw [← ht] at hsm hr
  obtain ⟨q, hq⟩ : ∃ z, z = t / 8 := ⟨_, rfl⟩
  obtain ⟨r, hr2⟩ : ∃ z, z = t % 8 := ⟨_, rfl⟩
  obtain ⟨sh, hsh⟩ : ∃ z, z = 8 - D - r := ⟨_, rfl⟩
  obtain ⟨d8, hd8⟩ : ∃ z, z = 8 - D := ⟨_, rfl⟩
  have hql : q < s.size := by omega
  obtain ⟨x, hx⟩ : ∃ z, z = s[q].toNat := ⟨_, rfl⟩
  have x1b : x < 256 := by rw [hx]; exact s[q].toNat_lt
  have kx : ∀ w, (Instr.index 9 (.string s) (.int .i64 (q : Int))).run Tryd.prog w = .ok (.int .u8 (x : Int)) w := fun w => by rw [hx]; exact byteR_run hql w
  obtain ⟨y, hy⟩ : ∃ z, z = x / 2 ^ sh := ⟨_, rfl⟩
  have hyl : y ≤ x := by rw [hy]; exact Nat.div_le_self _ _
  obtain ⟨v, hv⟩ : ∃ z, z = y % 2 ^ D := ⟨_, rfl⟩
  have HR : Hid (sampleN s.data.toList D i = v) := Lib.hid (by rw [hsm, ← hq, ← hr2, ← hsh, getD_byte s hql, ← hx, ← hy, hv])
  have HL : Hid (∀ W, Calls Tryd.prog 79 #[.int .i64 (y : Nat), .int .i64 D] W fun e w' => e = .returned (.int .i64 (v : Nat)) ∧ W = w') := Lib.hid fun W => by
    have h := plow_any W (y : Int) (D := D) (by omega)
    rw [show ((y : Int) % 2 ^ D) = (v : Int) by rw [hv]; simp] at h
    exact h
  rw [HR.out]
  have f1 : (t : Int).tdiv 8 = (q : Int) := by rw [Int.tdiv_eq_ediv_of_nonneg (by omega)]; omega
  have f2 : (t : Int) / 8 = (q : Int) := by omega
  have f3 : (t : Int).tmod 8 = (r : Int) := by rw [Int.tmod_eq_emod_of_nonneg (by omega)]; omega
  have f4 : (t : Int) % 8 = (r : Int) := by omega
  have f5 : (8 : Int) - (D : Int) = (d8 : Int) := by omega
  have f6 : (d8 : Int) - (r : Int) = (sh : Int) := by omega
  have f7 : (x : Int) / 2 ^ sh = (y : Int) := by rw [hy]; simp
  have t1 : IntKind.i64.wrap (t : Int) = (t : Int) := by rw [IntKind.wrap_i64]; omega
  have t2 := wrapI_in (show q < 1000000000000000 by omega)
  have t3 := wrapI_in (show r < 1000000000000000 by omega)
  have t4 := wrapI_in (show d8 < 1000000000000000 by omega)
  have t5 := wrapI_in (show sh < 1000000000000000 by omega)
  have t6 := wrapI_in (show x < 1000000000000000 by omega)
  have n16 : ((D : Int) == 16) = false := by simp; omega
  have n16b : ¬ (D : Int) = 16 := by omega
  have n16c : ¬ D = 16 := by omega
  have hs2 : sh ≤ 7 := by omega
  clear hsm ht hi hD hq hr2 hsh hd8 hx hy hv hr hit
  go_enter Tryd.func72, Tryd.ntmps72
  go_wp2_with fail
  refine (HL.out _).mono ?_
  rintro e w1 ⟨rfl, rfl⟩
  go_wp2
  go_ret
  exact ⟨rfl, But.refl [] _⟩
theorem psampleAt_any (w : World) {s : ByteArray} {D i : Nat} (hD : isDepth D) (hi : (i + 1) * D ≤ 8 * s.size) (hs : s.size ≤ 140737488351232) :
    Calls Tryd.prog 72 #[.string s, .int .i64 D, .int .i64 i] w fun e w' => e = .returned (.int .i64 (sampleN s.data.toList D i : Nat)) ∧ But [] w w' := by
  by_cases h : D = 16
  · subst h
    exact psampleAt_two w (by omega) hs
  · exact psampleAt_in w (by unfold isDepth at hD; omega) hi hs
/-- A row of numbers, as many as there are to be, the last ones still 0. -/
def rowZ (L : List Nat) (n : Nat) : Array Value := (nCells (L ++ List.replicate (n - L.length) 0)).toArray
theorem rowZ_put {L : List Nat} {n : Nat} (x : Nat) (h : L.length < n) : (rowZ L n).setIfInBounds L.length (.int .i64 (x : Nat)) = rowZ (L ++ [x]) n := by
  obtain ⟨k, hk⟩ : ∃ k, n - L.length = k + 1 := ⟨n - L.length - 1, by omega⟩
  unfold rowZ
  rw [hk, List.replicate_succ, List.length_append, show n - (L.length + [x].length) = k by simp; omega, nCells_append, nCells_append, nCells_append]
  apply Array.ext'
  simp [nCells]
theorem rowZ_at {L : List Nat} {i : Nat} (h : i < L.length) (n : Nat) : (rowZ L n)[i]? = some (.int .i64 (L[i] : Nat)) := by
  unfold rowZ nCells
  rw [List.getElem?_toArray, List.map_append, List.getElem?_append_left (by rw [List.length_map]; exact h), List.getElem?_map, List.getElem?_eq_getElem h]
  rfl
theorem rowZ_size {L : List Nat} {n : Nat} (h : L.length ≤ n) : (rowZ L n).size = n := by
  unfold rowZ nCells
  simp
  omega
theorem rowZ_some {L : List Nat} {n i : Nat} (h : L.length ≤ n) (hi : i < n) : ∃ v, (rowZ L n)[i]? = some v := ⟨_, Array.getElem?_eq_getElem (by rw [rowZ_size h]; exact hi)⟩
theorem Nums.row {w : World} {g : Nat} {L : List Nat} (h : Is w g 3 (rowZ L L.length)) : Nums w (some ⟨g, 0, none⟩) L.length L :=
  ⟨rfl, fun _ => ⟨g, 0, rfl, h.lt, fun i hi => by rw [h.cell, Nat.zero_add]; exact rowZ_at hi _⟩⟩
/-- Numbers 0, laid anew. -/
def zeroZ (w : World) (n : Nat) : World := w.alloc (.cells (rowZ [] n) 3)
theorem run_zeroZ (w : World) {n : Nat} (hn : n ≤ 4096) : (Instr.makeSlice 37 (.int .i64 (n : Int)) (.int .i64 (n : Int))).run Tryd.prog w = .ok (.slice (some ⟨w.heap.size, 0, none⟩) n n) (zeroZ w n) := by
  obtain ⟨i0, hi0, hz0, hz1, hz2⟩ := info_parts info_intN
  have h := run_make (P := Tryd.prog) w 37 3 i0 (.int .i64 0) Tryd.underlying37 hi0 hz0 .i64 .i64 (n : Int) (n : Int) (by omega) (by omega) (by rw [hz2]; omega) (by omega)
  rw [hz1] at h
  have e : madeCells (Value.int .i64 0).cells n = rowZ [] n := by
    have e : (Value.int .i64 0).cells = #[.int .i64 0] := rfl
    unfold madeCells rowZ nCells
    rw [e]
    apply Array.ext'
    simp [Nat.mod_one]
    exact List.eq_replicate_iff.2 ⟨by simp, by simp⟩
  unfold zeroZ
  rw [← e]
  simpa using h
end Go.Proofs.YtfiedoejdikcgaaDoor
