/- Own law for drawn regions, further: several operations may come up. -/
import Derived.Test.YtfibffcmbnlomaaRegM
set_option linter.unusedVariables false
namespace Go.Proofs.Ytfibffcmbnlomaa
set_option maxRecDepth 100000
open Go
section
variable {P : Program} {ops : Array Oper} {Q : Exit → Act → World → Prop} {md : Region.Mode} {S : World → Prop} {R : World → World → Prop}
/-- Two that may come up. -/
theorem wpM_two {i j : Nat} {oi oj : Oper} {f : Nat} {listed : Array Bool} {a : Act} {w : World} (hi : ops[i]? = some oi) (hj : ops[j]? = some oj) (hr : Region.ready md ops listed = [i, j])
    (h1 : ∀ w1, R w w1 → S w1 → ∀ K' : Act → World → Prop, (∀ a' w', (S w' ∧ wpM P md ops Q S R f (listed.setIfInBounds i true) a' w') → K' a' w') →
      if Region.wanted oi (yielded ops a.tmps) = true then Oper.wp P oi a w1 K' Q else K' (a.put oi.dst undef) w1)
    (h2 : ∀ w1, R w w1 → S w1 → ∀ K' : Act → World → Prop, (∀ a' w', (S w' ∧ wpM P md ops Q S R f (listed.setIfInBounds j true) a' w') → K' a' w') →
      if Region.wanted oj (yielded ops a.tmps) = true then Oper.wp P oj a w1 K' Q else K' (a.put oj.dst undef) w1) : wpM P md ops Q S R (f + 1) listed a w := by
  intro w1 hR hS
  refine ⟨fun h0 => (by rw [hr] at h0; cases h0), fun k hk => ?_⟩
  rw [hr] at hk
  rcases List.mem_cons.1 hk with rfl | hk
  · exact wpOp_step hi (h1 w1 hR hS)
  · have hkj : k = j := by simpa using hk
    subst hkj
    exact wpOp_step hj (h2 w1 hR hS)
end
end Go.Proofs.Ytfibffcmbnlomaa
