/- The document's row of samples. -/
import Derived.Test.YtgemmidkfeebfaaDoorSbC
import Derived.Test.YtgemmidkfeebfaaDoorSbM
import Derived.Deep.RegionWith
import Derived.BigRegion
set_option maxRecDepth 100000
set_option linter.unusedVariables false
namespace Go.Proofs.YtgemmidkfeebfaaDoor
set_option maxRecDepth 100000
open Go Go.RowKit
/-- A slice reads as these numbers, which may be below nought. -/
def Zs (w : World) (A : Option Addr) (n : Nat) (l : List Int) : Prop :=
  l.length = n ∧ (0 < n → ∃ g o, A = some ⟨g, o, none⟩ ∧ g < w.heap.size ∧ ∀ (i : Nat) (h : i < l.length), w.cell? ⟨g, o + i, none⟩ = some (.int .i64 l[i]))
theorem Zs.but {w w' : World} {A : Option Addr} {n : Nat} {l : List Int} (h : Zs w A n l) (hw : But [] w w') : Zs w' A n l :=
  ⟨h.1, fun hn => by
    obtain ⟨g, o, e, hg, hc⟩ := h.2 hn
    exact ⟨g, o, e, Nat.lt_of_lt_of_le hg hw.size, fun i hi => hw.cell (hc i hi) (by simp)⟩⟩
theorem Zs.at {w : World} {A : Option Addr} {n : Nat} {l : List Int} (h : Zs w A n l) {i : Nat} (hi : i < n) : ∃ g o x, A = some ⟨g, o, none⟩ ∧ g < w.heap.size ∧ l[i]? = some x ∧ w.cell? ⟨g, o + i, none⟩ = some (.int .i64 x) := by
  obtain ⟨g, o, e, hg, hc⟩ := h.2 (by omega)
  have hl : i < l.length := by have := h.1; omega
  exact ⟨g, o, l[i], e, hg, List.getElem?_eq_getElem hl, hc i hl⟩
/-- The numbers fit. -/
def ZFit (l : List Int) : Prop := ∀ x, x ∈ l → -9223372036854775808 ≤ x ∧ x ≤ 9223372036854775807
/-- A row of samples, of whatever arguments. -/
def packA (d : Int) (l : List Int) : List UInt8 × Int := if depB d = false then ([], 1) else (packT d.toNat (l.map lowN), 0)
/-- A row of the call's own. -/
def OneS (w v : World) (g : Nat) (l : List UInt8) : Prop := RowF v g l ∧ w.heap.size ≤ g ∧ But [] w v
theorem OneS.but {w v v' : World} {g : Nat} {l : List UInt8} (h : OneS w v g l) (k : But [] v v') : OneS w v' g l := ⟨h.1.but k, h.2.1, h.2.2.trans k⟩
theorem OneS.put {w v : World} {g : Nat} {l : List UInt8} (h : OneS w v g l) {i : Nat} (x : UInt8) (hi : i < l.length) : OneS w (v.setCell ⟨g, i, none⟩ (.int .u8 (x.toNat : Nat))) g (l.set i x) :=
  ⟨h.1.put i x hi, h.2.1, h.2.2.setCell (p := ⟨g, i, none⟩) (.inr h.2.1) _⟩
theorem wrapI_in {q : Nat} (h : q < 1000000000000000) : IntKind.i64.wrap (q : Int) = (q : Int) := by rw [IntKind.wrap_i64]; omega
theorem wrapD_in {D : Nat} (h1 : 1 ≤ D) (h2 : D ≤ 16) : IntKind.i64.wrap ((D : Int) - 1) = (D : Int) - 1 := by rw [IntKind.wrap_i64]; omega
theorem wrapY_in {z : Nat} (h : z < 256) : IntKind.u8.wrap (z : Int) = (z : Int) := by rw [IntKind.wrap_u8]; omega
end Go.Proofs.YtgemmidkfeebfaaDoor
