/- The contracts of Lay: the program's and the document's; and of the document's Make. -/
import Derived.Test.YtobmghjpfkdooaaDoorLawE
import Derived.Test.YtobmghjpfkdooaaDoorAwake
namespace Go.Proofs.YtobmghjpfkdooaaDoor
set_option maxRecDepth 100000
open Go Go.RowKit

/-- The bits of a code of which so many are still to be laid, the highest first. -/
def layG (c : Int) : Nat → Nat → Nat → Nat × Nat
  | 0, X, N => (X, N)
  | i + 1, X, N => layG c i (layX X N (c / 2 ^ i) 1) (layN N 1)
/-- Has this symbol a code? -/
def has (l : List Int) (s : Int) : Prop := 0 ≤ s ∧ s < l.length ∧ l.getD s.toNat 0 ≠ 0
instance (l : List Int) (s : Int) : Decidable (has l s) := by unfold has; infer_instance
def layS (l : List Int) (s : Int) (X N : Nat) : Nat × Nat := if has l s then layG ((codes l).getD s.toNat 0) (l.getD s.toNat 0).toNat X N else (X, N)
theorem layN_one (N : Nat) : layN N 1 = N + 1 := by unfold layN; rw [if_neg (by omega)]; rfl
theorem layG_len (c : Int) : ∀ (n X N : Nat), (layG c n X N).2 = N + n
  | 0, _, _ => rfl
  | n + 1, X, N => by rw [layG, layG_len c n, layN_one]; omega

theorem getD_get {l : List Int} {n : Nat} (h : n < l.length) : l.getD n 0 = l[n] := by rw [List.getD_eq_getElem?_getD, List.getElem?_eq_getElem h]; rfl

/-- The document's table of lengths lies in block b. -/
def RT (w : World) (b : Nat) (l : List Int) : Prop :=
  ∃ Al cl Ac cc, Is w b 89 #[.slice Al l.length cl, .slice Ac l.length cc] ∧ Ints w Al l.length l ∧ Ints w Ac l.length (codes l)
theorem RT.but {w w' : World} {b : Nat} {l : List Int} (h : RT w b l) (hw : But [] w w') : RT w' b l := by
  obtain ⟨Al, cl, Ac, cc, h1, h3, h4⟩ := h
  exact ⟨Al, cl, Ac, cc, h1.but hw (by simp), h3.but hw (by simp), h4.but hw (by simp)⟩

end Go.Proofs.YtobmghjpfkdooaaDoor
