/- The walk of the statement on Codes. -/
import Derived.Test.YtobmghjpfkdooaaDoorCodesW
import Derived.OwnWalk
import Derived.BigRegion
import Derived.StillTailTactics
import Derived.WalkKit
namespace Go.Proofs.YtobmghjpfkdooaaDoor
set_option maxRecDepth 100000
open Go Go.RowKit

/-- Own copy of a list that was handed in. -/
theorem Ints.news {w : World} {g o n : Nat} {l : List Int} (h : Ints w (some ⟨g, o, none⟩) n l) (hn : 0 < n) : ∀ j u, (l.map (Value.int .i64))[j]? = some u → w.cell? ((⟨g, o, none⟩ : Addr).add j) = some u := by
  intro j u hu
  obtain ⟨g', o', e, _, hc⟩ := h.2 hn
  injection e with e
  injection e with e1 e2
  subst e1 e2
  have hj : j < l.length := by
    have := (List.getElem?_eq_some_iff.1 hu).1
    simpa using this
  rw [Go.WideShapes.add_plain, hc j hj]
  simpa [hj] using hu

theorem OwnI.ints_of {w : World} {base n c : Nat} {A : Option Addr} {l : List Int} (h : OwnI w base (.slice A n c) l) (hn : n = l.length) : Ints w A n l := by
  obtain ⟨A', c', e, hi, _⟩ := h.open
  injection e with e1 e2 e3
  subst e1 e2
  exact hi
theorem made_none (w : World) : (w.alloc (.cells #[] 3)).ownsRow w.heap.size 3 1 (.slice (some ⟨w.heap.size, 0, none⟩) 0 0) 0 [] :=
  ⟨rfl, .inr ⟨w.heap.size, 0, #[], rfl, Nat.le_refl _, Is.fresh w 3 #[], Nat.le_refl _, Nat.zero_le _, rfl, rfl⟩⟩

end Go.Proofs.YtobmghjpfkdooaaDoor
