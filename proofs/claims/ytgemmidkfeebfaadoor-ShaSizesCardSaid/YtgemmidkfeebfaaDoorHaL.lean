/- The document's hash of bytes: its loops as declarations, and words in its memory. -/
import Derived.Test.YtgemmidkfeebfaaDoorHaK
import Derived.Test.YtgemmidkfeebfaaDoorHaI
set_option maxRecDepth 1000000
set_option linter.unusedVariables false
namespace Go.Proofs.YtgemmidkfeebfaaDoor
set_option maxRecDepth 100000
open Go Go.RowKit
/-- The loops of a piece of code that lie in no other of its loops: what each repeats. -/
def loopsOf : Code → List Code
  | .loop c => [c]
  | .seq a b => loopsOf a ++ loopsOf b
  | .block _ c => loopsOf c
  | .scope c => loopsOf c
  | .cond _ a b => loopsOf a ++ loopsOf b
  | _ => []
noncomputable def eOuter (k : Nat) : Code := ((Tryd.f8.body.map loopsOf).getD []).getD k .skip
noncomputable def eInner (k : Nat) : Code := (loopsOf (eOuter 0)).getD k .skip
/-- Words in memory, as the document has them. -/
theorem rowZ_get {L : List Nat} {i : Nat} (h : i < L.length) (n : Nat) : (rowZ L n)[i]? = some (.int .i64 (L.getD i 0 : Nat)) := by
  rw [rowZ_at h, List.getD_eq_getElem?_getD, List.getElem?_eq_getElem h]; rfl
theorem rowZ_set {L : List Nat} {n i : Nat} (x : Nat) (hL : L.length = n) : (rowZ L n).setIfInBounds i (.int .i64 (x : Nat)) = rowZ (L.set i x) n := by
  unfold rowZ nCells
  rw [List.length_set, hL, Nat.sub_self, List.replicate_zero, List.append_nil, List.append_nil]
  apply Array.ext'
  simp [List.map_set]
theorem rowZ8 (a b c d e f g h : Nat) : rowZ [a, b, c, d, e, f, g, h] 8 = #[.int .i64 a, .int .i64 b, .int .i64 c, .int .i64 d, .int .i64 e, .int .i64 f, .int .i64 g, .int .i64 h] := rfl
/-- Bytes in a block, from a place on. -/
def SB (w : World) (g o n : Nat) (S : List UInt8) : Prop := S.length = n ∧ ∀ i, i < n → w.cell? ⟨g, o + i, none⟩ = some (.int .u8 ((S.getD i 0).toNat : Nat))
theorem SB.but {w w' : World} {g o n : Nat} {S : List UInt8} {T : List Nat} (h : SB w g o n S) (hw : But T w w') (hg : g ∉ T) : SB w' g o n S := ⟨h.1, fun i hi => hw.cell (h.2 i hi) hg⟩
theorem SB.cut {w : World} {g o n : Nat} {S : List UInt8} {k : Nat} (h : SB w g o n S) (hk : k ≤ n) : SB w g (o + k) (n - k) (S.drop k) :=
  ⟨by rw [List.length_drop, h.1], fun i hi => by rw [Nat.add_assoc, h.2 (k + i) (by omega), List.getD_eq_getElem?_getD, List.getD_eq_getElem?_getD, List.getElem?_drop]⟩
end Go.Proofs.YtgemmidkfeebfaaDoor
