/- Several texts in one, each with its own words ahead: ZlA, ZlD, HdA, SbA, SbJ, SbB. -/
import Derived.Test.YtgemmidkfeebfaaDoorWA
import Derived.Test.YtgemmidkfeebfaaDoorCrc
import Derived.Test.YtgemmidkfeebfaaDoorMem
import Derived.Deep.QuietTactic
import Derived.BigQuiet
import Derived.BigRegion
import Derived.Deep.RegionWith
import Derived.Deep.Cut
import Derived.Test.YtgemmidkfeebfaaDoorHeM
import Derived.Deep.DeepCutAuto
import Derived.Deep.CutRange
import Derived.Deep.CutBlock
import Derived.Test.YtgemmidkfeebfaaDoorSaM
import Derived.Test.YtgemmidkfeebfaaDoorWords
import Derived.WalkKit
import Derived.Handy
import Derived.OwnWalk
import Derived.Laws.OwnMore
import Derived.Deep.AppendLies
import Derived.Maps.AppendAt
set_option maxRecDepth 100000
/- The program's sum as four bytes, its check of the head, its check of the sum. -/
set_option maxRecDepth 100000
set_option linter.unusedVariables false
namespace Go.Proofs.YtgemmidkfeebfaaDoor
set_option maxRecDepth 100000
open Go Go.RowKit
theorem conv_atZ {W : World} {g cap : Nat} {L : List UInt8} (h : ∀ j (hj : j < L.length), W.cell? ⟨g, j, none⟩ = some (.int .u8 (L[j].toNat : Int))) :
    (convert 26 9 (.slice (some ⟨g, 0, none⟩) L.length cap)).run Tryd.prog W = .ok (.string (strL L)) W := by
  refine run_convert_bytes_back W 26 9 5 ⟨g, 0, none⟩ cap L Tryd.underlying26 Tryd.underlying5 Tryd.underlying9 (fun j hj => ?_)
  have e2 : (⟨g, 0, none⟩ : Addr).add j = ⟨g, j, none⟩ := by unfold Addr.add; split <;> simp_all
  rw [e2]; exact h j hj
theorem conv_fourZ (W : World) {n a b c d : Nat} (h1 : a = n / 16777216 % 256) (h2 : b = n / 65536 % 256) (h3 : c = n / 256 % 256) (h4 : d = n % 256) :
    (convert 26 9 (.slice (some ⟨W.heap.size, 0, none⟩) 4 4)).run Tryd.prog (W.alloc (.cells #[.int .u8 a, .int .u8 b, .int .u8 c, .int .u8 d] 5)) = .ok (.string (strL (fourL n))) (W.alloc (.cells #[.int .u8 a, .int .u8 b, .int .u8 c, .int .u8 d] 5)) := by
  refine conv_atZ (L := fourL n) (cap := 4) fun j hj => ?_
  have a1 := UInt8.toNat_ofNat' (n := n / 16777216)
  have a2 := UInt8.toNat_ofNat' (n := n / 65536)
  have a3 := UInt8.toNat_ofNat' (n := n / 256)
  have a4 := UInt8.toNat_ofNat' (n := n)
  rw [World.cell?_alloc_mark]
  rw [fourL_length] at hj
  unfold fourL
  match j, hj with
  | 0, _ => show some (Value.int .u8 (a : Int)) = some (Value.int .u8 ((UInt8.ofNat (n / 16777216)).toNat : Int)); rw [a1, h1]
  | 1, _ => show some (Value.int .u8 (b : Int)) = some (Value.int .u8 ((UInt8.ofNat (n / 65536)).toNat : Int)); rw [a2, h2]
  | 2, _ => show some (Value.int .u8 (c : Int)) = some (Value.int .u8 ((UInt8.ofNat (n / 256)).toNat : Int)); rw [a3, h3]
  | 3, _ => show some (Value.int .u8 (d : Int)) = some (Value.int .u8 ((UInt8.ofNat n).toNat : Int)); rw [a4, h4]
theorem bits32 (b : Nat) (h : b < 256) : bits .and .i64 (b : Int) 32 = ((32 * (b / 32 % 2) : Nat) : Int) := by
  have h0 : ∀ b, b < 256 → bits .and .i64 ((b : Nat) : Int) 32 = ((32 * (b / 32 % 2) : Nat) : Int) := by decide +kernel
  exact h0 b h
theorem byteZ_run {s : ByteArray} {k : Nat} (hk : k < s.size) (w : World) : (Instr.index 9 (.string s) (.int .i64 (k : Int))).run Tryd.prog w = .ok (.int .u8 (s[k].toNat : Nat)) w := by
  rw [run_index_string w 9 s .i64 _ Tryd.underlying9, dif_pos (by omega)]
  simp
end Go.Proofs.YtgemmidkfeebfaaDoor
/- The document's four bytes of a number, and the number of bytes. -/
set_option maxRecDepth 100000
set_option linter.unusedVariables false
namespace Go.Proofs.YtgemmidkfeebfaaDoor
open Go Go.RowKit
theorem ofL_snoc (l : List UInt8) (b : UInt8) : ofL (l ++ [b]) = 256 * ofL l + b.toNat := by
  unfold ofL; rw [List.foldl_append]; rfl
theorem ofL_small : ∀ (n : Nat) (l : List UInt8), l.length = n → n ≤ 7 → ofL l < 256 ^ n
  | 0, l, h, _ => by rw [List.length_eq_zero_iff.1 h]; decide
  | n + 1, l, h, h7 => by
    have hne : l ≠ [] := fun e => by rw [e] at h; simp at h
    rw [← List.dropLast_concat_getLast hne, ofL_snoc]
    have ih := ofL_small n l.dropLast (by rw [List.length_dropLast, h]; rfl) (by omega)
    have hb := (l.getLast hne).toNat_lt
    rw [Nat.pow_succ]
    omega
end Go.Proofs.YtgemmidkfeebfaaDoor
/- The document's samples of a colour, and which heads may be. -/
set_option maxRecDepth 100000
set_option linter.unusedVariables false
namespace Go.Proofs.YtgemmidkfeebfaaDoor
open Go Go.RowKit
/-- How many samples a pixel of a colour has, of whatever number. -/
def samplesI (c : Int) : Int := if c = 0 ∨ c = 3 then 1 else if c = 4 then 2 else if c = 2 then 3 else if c = 6 then 4 else 0
end Go.Proofs.YtgemmidkfeebfaaDoor
/- The document's depths, and a sample with 16 bits. -/
set_option maxRecDepth 100000
set_option linter.unusedVariables false
namespace Go.Proofs.YtgemmidkfeebfaaDoor
open Go Go.RowKit
/-- Whether a number is a depth. -/
def depB (d : Int) : Bool := decide (d = 1 ∨ d = 2 ∨ d = 4 ∨ d = 8 ∨ d = 16)
theorem depB_nat {d : Int} (h : depB d = true) : ∃ D : Nat, d = (D : Int) ∧ isDepth D ∧ 1 ≤ D ∧ D ≤ 16 := by
  have h2 := of_decide_eq_true h
  refine ⟨d.toNat, by omega, ?_, by omega, by omega⟩
  unfold isDepth
  omega
/-- A sample of a depth with 16 bits, of whatever numbers. -/
def wideA (v d : Int) : Nat := if depB d = true then wideN (v % 2 ^ d.toNat).toNat d.toNat else 0
theorem wideA_no {v d : Int} (h : depB d = false) : wideA v d = 0 := by unfold wideA; rw [if_neg (by rw [h]; decide)]
end Go.Proofs.YtgemmidkfeebfaaDoor
/- The program's depths, its masks, and a sample with 16 bits. -/
set_option maxRecDepth 100000
set_option linter.unusedVariables false
namespace Go.Proofs.YtgemmidkfeebfaaDoor
open Go Go.RowKit
theorem wideA_yes {v : Int} {D : Nat} (h : depB (D : Int) = true) : wideA v D = (v % 2 ^ D).toNat * 65535 / (2 ^ D - 1) := by
  unfold wideA wideN; rw [if_pos h]; rfl
end Go.Proofs.YtgemmidkfeebfaaDoor
/- Numbers in memory: lists of them that a call owns, that a slice reads as. -/
set_option maxRecDepth 100000
set_option linter.unusedVariables false
namespace Go.Proofs.YtgemmidkfeebfaaDoor
open Go Go.RowKit
def nCells (L : List Nat) : List Value := L.map fun x => .int .i64 (x : Nat)
theorem nCells_append (L M : List Nat) : nCells (L ++ M) = nCells L ++ nCells M := by simp [nCells]
theorem nCells_length (L : List Nat) : (nCells L).length = L.length := by simp [nCells]
/-- A slice reads as these numbers. -/
def Nums (w : World) (A : Option Addr) (n : Nat) (L : List Nat) : Prop :=
  L.length = n ∧ (0 < n → ∃ g o, A = some ⟨g, o, none⟩ ∧ g < w.heap.size ∧ ∀ (i : Nat) (h : i < L.length), w.cell? ⟨g, o + i, none⟩ = some (.int .i64 (L[i] : Nat)))
theorem Nums.nil (w : World) (A : Option Addr) : Nums w A 0 [] := ⟨rfl, fun h => absurd h (by omega)⟩
theorem Nums.but {w w' : World} {A : Option Addr} {n : Nat} {L : List Nat} (h : Nums w A n L) (hw : But [] w w') : Nums w' A n L :=
  ⟨h.1, fun hn => by
    obtain ⟨g, o, e, hg, hc⟩ := h.2 hn
    exact ⟨g, o, e, Nat.lt_of_lt_of_le hg hw.size, fun i hi => hw.cell (hc i hi) (by simp)⟩⟩
theorem Nums.at {w : World} {A : Option Addr} {n : Nat} {L : List Nat} (h : Nums w A n L) {i : Nat} (hi : i < n) : ∃ g o x, A = some ⟨g, o, none⟩ ∧ g < w.heap.size ∧ L[i]? = some x ∧ w.cell? ⟨g, o + i, none⟩ = some (.int .i64 (x : Nat)) := by
  obtain ⟨g, o, e, hg, hc⟩ := h.2 (by omega)
  have hl : i < L.length := by have := h.1; omega
  exact ⟨g, o, L[i], e, hg, List.getElem?_eq_getElem hl, hc i hl⟩
/-- Numbers of the call's own. -/
def OwnN (w : World) (base : Nat) (v : Value) (L : List Nat) : Prop := w.ownsRow base 3 1 v L.length (nCells L)
theorem OwnN.nil (w : World) (base : Nat) : OwnN w base (.slice none 0 0) [] := World.ownsRow_nil _ _ _ _
theorem OwnN.but {w w' : World} {base : Nat} {v : Value} {L : List Nat} (h : OwnN w base v L) (hw : But [] w w') : OwnN w' base v L := by
  obtain ⟨h1, h2⟩ := h
  refine ⟨h1, ?_⟩
  rcases h2 with h2 | ⟨g, cap, cur, rfl, hg, hh, r⟩
  · exact .inl h2
  · have hlt : g < w.heap.size := (Array.getElem?_eq_some_iff.1 hh).1
    exact .inr ⟨g, cap, cur, rfl, hg, (hw.block g hlt (by simp)).trans hh, r⟩
theorem OwnN.shape {w : World} {base : Nat} {v : Value} {L : List Nat} (h : OwnN w base v L) : ∃ A c, v = .slice A L.length c ∧ L.length ≤ c := by
  rcases h.2 with ⟨rfl, e⟩ | ⟨g, cap, cur, rfl, _, _, hc, _⟩
  · have : L = [] := List.eq_nil_of_length_eq_zero e
    subst this
    exact ⟨none, 0, rfl, Nat.le_refl _⟩
  · exact ⟨_, cap, rfl, hc⟩
theorem OwnN.lt {w : World} {base : Nat} {v : Value} {L : List Nat} (h : OwnN w base v L) : ∀ g, v.ownBlock = some g → base ≤ g := fun g e => (World.ownsRow.lt h g e).1
theorem OwnN.nums {w : World} {base n c : Nat} {A : Option Addr} {L : List Nat} (h : OwnN w base (.slice A n c) L) : Nums w A L.length L := by
  refine ⟨rfl, fun hn => ?_⟩
  obtain ⟨g, cap, e, h1, h2⟩ := World.ownsRow.form h hn
  injection e with e1 e2 e3
  subst e1 e3
  refine ⟨g, 0, rfl, h2, fun i hi => ?_⟩
  have hc := World.ownsRow.cells h (g := g) rfl i (.int .i64 (L[i] : Nat)) (by simp [nCells, hi])
  have e2 : (⟨g, 0, none⟩ : Addr).add i = ⟨g, 0 + i, none⟩ := by unfold Addr.add; split <;> simp_all
  rw [e2] at hc
  exact hc
theorem info_intN : (Tryd.prog.info? 3).map (fun i => (i.zero, i.size, i.bytes)) = some (some (.int .i64 0), 1, 8) := by kernel_rfl
theorem news_n {w : World} {g : Nat} {cs : Array Value} (h : Is w g 3 cs) : ∀ (j : Nat) u, cs.toList[j]? = some u → w.cell? ((⟨g, 0, none⟩ : Addr).add j) = some u := by
  intro j u hj
  have e2 : (⟨g, 0, none⟩ : Addr).add j = ⟨g, j, none⟩ := by unfold Addr.add; split <;> simp_all
  rw [e2, h.cell, ← Array.getElem?_toList]
  exact hj
/-- One number appended. -/
theorem wpList_append_n {w0 : World} (w : World) {ops : Array Oper} {rest : List Oper} {o : Oper} {a : Act} {Q : Exit → Act → World → Prop} (hgd : o.guard = none) (sl x : Operand)
    (ho : o.op = .call { callee := .builtin .append, args := #[sl, x], argTypes := #[34, 34] })
    (v : Value) (L : List Nat) (hs : a.eval sl = v) (hO : OwnN w w0.heap.size v L) (hB : But [] w0 w) (p : Nat) {g : Nat} (hx : a.eval x = .slice (some ⟨g, 0, none⟩) 1 1) (hI : Is w g 3 #[.int .i64 (p : Nat)]) (hbound : L.length < 1000000000)
    (h : ∀ A c w', Hid (OwnN w' w0.heap.size (.slice A (L.length + 1) c) (L ++ [p])) → Hid (But [] w0 w') → wpList Tryd.prog ops Q rest (a.put o.dst (.slice A (L.length + 1) c)) w') : wpList Tryd.prog ops Q (o :: rest) a w := by
  obtain ⟨i0, hi0, hz0, hz1, hz2⟩ := info_parts info_intN
  refine wpList_append_own_at w hgd sl x 34 ho w0.heap.size 3 i0 _ 1 8 Tryd.underlying34 hi0 hz0 hz1 hz2 rfl (by decide) v L.length (nCells L) hs hO ⟨g, 0, none⟩ 1 1 [.int .i64 (p : Nat)] hx rfl (news_n hI) (by simp [Value.oneCell']) (by unfold maxLen; omega) (by omega) hB.size ?_
  intro v' w' hown hgrow _ hat
  have hO2 : OwnN w' w0.heap.size v' (L ++ [p]) := by
    unfold OwnN
    rw [List.length_append, nCells_append]
    exact hown
  obtain ⟨A, c, rfl, _⟩ := hO2.shape
  have key := h A c w'
  rw [List.length_append] at hO2 ⊢
  exact key (Lib.hid hO2) (Lib.hid (hB.grown hgrow (fun k e => .inr (hO.lt k e))))
end Go.Proofs.YtgemmidkfeebfaaDoor
