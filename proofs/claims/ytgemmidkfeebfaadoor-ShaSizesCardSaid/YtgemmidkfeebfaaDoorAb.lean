/- Short forms of the steps of drawn regions, for the limit of a claim. -/
import Derived.Test.YtgemmidkfeebfaaDoorWC
import Derived.Test.YtgemmidkfeebfaaDoorMem
set_option linter.unusedVariables false
namespace Go.Proofs.YtgemmidkfeebfaaDoor
set_option maxRecDepth 100000
open Go
section
variable {P : Program} {ops : Array Oper} {Q : Exit → Act → World → Prop} {md : Region.Mode} {S : World → Prop}
/-- One that reads; how it reads is told last. -/
theorem rdq (i : Nat) (v : Value) {oi : Oper} {f : Nat} {listed : Array Bool} {a : Act} {w : World}
    (hv : ∀ w, S w → (execOp a.eval oi).run P w = .ok (.value v) w)
    (h : wpM P md ops Q S (fun v v' => But [] v v') f (listed.setIfInBounds i true) (a.put oi.dst v) w)
    (hi : ops[i]? = some oi := by rfl) (hs : Region.noSelect ops = true := by kernel_rfl) (hf : Region.free md ops listed i = true := by kernel_rfl)
    (hr : (Region.ready md ops listed).contains i = true := by kernel_rfl) (hw : Region.wanted oi (yielded ops a.tmps) = true := by first | kernel_rfl | go_simp)
    (hQ : ∀ c a w, Q (.panic c) (a.put oi.dst v) w → Q (.panic c) a w := by exact fun _ _ _ h => h) : wpM P md ops Q S (fun v v' => But [] v v') (f + 1) listed a w :=
  wpM_take (fun w => But.refl [] w) (fun x y z h k => h.trans k) hi hs hf hr hQ (YieldsR.read (fun w => But.refl [] w) hw hv) h
/-- One that reads nothing but the frame. -/
theorem rdk (i : Nat) (v : Value) {oi : Oper} {f : Nat} {listed : Array Bool} {a : Act} {w : World}
    (h : wpM P md ops Q S (fun v v' => But [] v v') f (listed.setIfInBounds i true) (a.put oi.dst v) w)
    (hi : ops[i]? = some oi := by rfl) (hs : Region.noSelect ops = true := by kernel_rfl) (hf : Region.free md ops listed i = true := by kernel_rfl)
    (hr : (Region.ready md ops listed).contains i = true := by kernel_rfl) (hw : Region.wanted oi (yielded ops a.tmps) = true := by first | kernel_rfl | go_simp)
    (hv : ∀ w, S w → (execOp a.eval oi).run P w = .ok (.value v) w := by intro w hS; go_simp)
    (hQ : ∀ c a w, Q (.panic c) (a.put oi.dst v) w → Q (.panic c) a w := by exact fun _ _ _ h => h) : wpM P md ops Q S (fun v v' => But [] v v') (f + 1) listed a w :=
  rdq i v hv h hi hs hf hr hw hQ
end
end Go.Proofs.YtgemmidkfeebfaaDoor
