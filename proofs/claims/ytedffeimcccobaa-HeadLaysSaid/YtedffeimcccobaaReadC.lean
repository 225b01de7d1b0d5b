/- The contract of the reader's Bytes. -/
import Derived.Test.YtedffeimcccobaaReadB
import Derived.Deep.DeepCutAuto
namespace Go.Proofs.Ytedffeimcccobaa
set_option maxRecDepth 100000
open Go Go.RowKit

theorem ByteRow.take {w : World} {A : Option Addr} {n : Nat} {l : List UInt8} (h : ByteRow w A n l) {m : Nat} (hm : m ≤ n) : ByteRow w A m (l.take m) := by
  have hl := h.1
  refine ⟨by rw [List.length_take]; omega, fun hp => ?_⟩
  obtain ⟨g, o, e, hc⟩ := h.2 (by omega)
  refine ⟨g, o, e, fun i hi => ?_⟩
  rw [List.length_take] at hi
  rw [List.getElem_take]
  exact hc i (by omega)
theorem ByteRow.text {w : World} {A : Option Addr} {n c : Nat} {l : List UInt8} (h : ByteRow w A n l) :
    (convert 48 9 (.slice A n c)).run Try.prog w = .ok (.string ⟨l.toArray⟩) w := by
  obtain ⟨rfl, hc⟩ := h
  rcases A with _ | a
  · have h0 : l = [] := by
      cases l with
      | nil => rfl
      | cons x l => obtain ⟨g, o, e, _⟩ := hc (by simp); cases e
    subst h0
    exact run_convert_bytes_nil w 48 5 Try.underlying48 Try.underlying5 _ _ 9 Try.underlying9
  · refine run_convert_bytes_back w 48 9 5 a c l Try.underlying48 Try.underlying5 Try.underlying9 (fun j hj => ?_)
    obtain ⟨g, o, e, hcell⟩ := hc (by omega)
    obtain rfl : a = ⟨g, o, none⟩ := by injection e
    have e2 : (⟨g, o, none⟩ : Addr).add j = ⟨g, o + j, none⟩ := by unfold Addr.add; split <;> simp_all
    rw [e2]
    exact hcell j hj

end Go.Proofs.Ytedffeimcccobaa
