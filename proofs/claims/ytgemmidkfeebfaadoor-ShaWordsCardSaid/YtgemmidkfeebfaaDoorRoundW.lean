/- Own law: a region that draws its order, within a round of a range over a function, goes by the plain walk where the fence is the widest and no operation defers. -/
import Derived.Test.YtgemmidkfeebfaaDoorWC
import Derived.RangeFuncCalls
import Derived.TacticsInMore
import Derived.OwnWalkIn
import Derived.OrdersIn
set_option linter.unusedVariables false
namespace Go.Proofs.YtgemmidkfeebfaaDoor
set_option maxRecDepth 100000
open Go
section
variable {P : Program} {ops : Array Oper} {Q : Exit → Act → World → Prop}
theorem rows_wideR {n l : Nat} {row : String} {args : Array Value} {w : World} {R : Value → World → Prop} (h : Rows P row args w R) : RowsIn (Fence.wide.inRound l) n P row args w R := fun c cs _ =>
  let ⟨v, w', r, s⟩ := h c cs
  ⟨v, w', r, (stepsIn_wide (P := P)).2 s⟩
theorem wpOpIn_round {n l i : Nat} {K : Act → World → Prop} {a : Act} {w : World} (hnd : ∀ (i : Nat) (o : Oper), ops[i]? = some o → ∀ c, o.op ≠ Op.defer c) (hlo : ¬ LetsOut Q) (h : wpOp P ops Q i K a w) : wpOpIn (Fence.wide.inRound l) n P ops Q i K a w := by
  unfold wpOp at h
  unfold wpOpIn
  cases ho : ops[i]? with
  | none => rw [ho] at h; exact h
  | some o =>
    rw [ho] at h
    dsimp only at h ⊢
    by_cases hw : Region.wanted o (yielded ops a.tmps) = true
    · rw [if_pos hw] at h ⊢
      rcases h with h | h
      · unfold Oper.wp at h
        unfold Oper.wpIn
        refine ⟨fun f _ => trivial, ?_⟩
        rw [Oper.semAt_plain _ _ _ (hnd i o ho)]
        generalize (execOp a.eval o).run P w = r at *
        cases r with
        | ok x w' =>
          cases x <;> simp only [Oper.upon, Oper.uponIn] at h ⊢
          case value u => exact h
          case skip => exact h
          case defer d => exact h
          case enter f args => exact ⟨fun hd => (by cases hd), CallsIn.inRound l (callsIn_wide.2 h)⟩
          case row r args => exact ⟨fun hd => (by cases hd), rows_wideR h⟩
        | halt x w' =>
          cases x <;> simp only [Oper.upon, Oper.uponIn] at h ⊢
          exact h
      · exact absurd h.2 hlo
    · rw [if_neg hw] at h ⊢
      exact ⟨fun f _ => trivial, h⟩
theorem wpAnyIn_round {n l : Nat} {md : Region.Mode} (hnd : ∀ (i : Nat) (o : Oper), ops[i]? = some o → ∀ c, o.op ≠ Op.defer c) (hlo : ¬ LetsOut Q) : ∀ (f : Nat) (listed : Array Bool) (a : Act) (w : World), wpAny P md ops Q f listed a w → wpAnyIn (Fence.wide.inRound l) n P md ops Q f listed a w
  | 0, _, _, _, h => h
  | f + 1, listed, a, w, h => ⟨h.1, fun i hi => wpOpIn_round hnd hlo (wpOp_mono (fun a' w' h' => wpAnyIn_round hnd hlo f _ a' w' h') (h.2 i hi))⟩
/-- The region, by RegM's law. -/
theorem region_round {F : Fence} (hF : F = Fence.wide) {S : World → Prop} {R : World → World → Prop} (hrefl : ∀ w, R w w) {n l id : Nat} {a : Act} {w : World} (hm : P.follows .mixedOrders = true) (hnd : ops.toList.all (fun o => match o.op with | .defer _ => false | _ => true) = true) (hlo : ¬ LetsOut Q)
    (hS : S { w with drawn := w.drawn + 1 }) (h : wpM P .any ops Q S R ops.size (Array.replicate ops.size false) a { w with drawn := w.drawn + 1 }) : (Code.region id ops true).wpIn (F.inRound l) n P Q a w := by
  subst hF
  refine wpIn_region_any hm (wpAnyIn_round (fun i o ho c e => ?_) hlo _ _ _ _ (wpAny_of_m hrefl _ _ _ _ hS h))
  have hmem : o ∈ ops.toList := by
    have := List.mem_of_getElem? (show ops.toList[i]? = some o by rw [Array.getElem?_toList]; exact ho)
    exact this
  have := List.all_eq_true.1 hnd o hmem
  rw [e] at this
  cases this
end
end Go.Proofs.YtgemmidkfeebfaaDoor
