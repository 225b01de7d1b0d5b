/- Own law: as RegM, but the operation z, which waits for all that are taken first, may leave what the loads read. -/
import Derived.Test.YtgemmidkfeebfaaDoorRoundW
set_option linter.unusedVariables false
namespace Go.Proofs.YtgemmidkfeebfaaDoor
set_option maxRecDepth 100000
open Go
section
variable {P : Program} {ops : Array Oper} {Q : Exit → Act → World → Prop} {md : Region.Mode} {S : World → Prop} {R : World → World → Prop} {z : Nat}
def wpZ (P : Program) (md : Region.Mode) (ops : Array Oper) (Q : Exit → Act → World → Prop) (S : World → Prop) (R : World → World → Prop) (z : Nat) : Nat → Array Bool → Act → World → Prop
  | 0, listed, a, w => Region.ready md ops listed = [] ∧ ∀ w1, R w w1 → S w1 → Q .normal a w1
  | f + 1, listed, a, w => ∀ w1, R w w1 → S w1 → (Region.ready md ops listed = [] → Q .normal a w1) ∧
      ∀ i ∈ Region.ready md ops listed, wpOp P ops Q i (fun a' w' => if i = z then wpAny P md ops Q f (listed.setIfInBounds i true) a' w' else S w' ∧ wpZ P md ops Q S R z f (listed.setIfInBounds i true) a' w') a w1
theorem wpZ_mono (htr : ∀ x y z, R x y → R y z → R x z) : ∀ {f : Nat} {listed : Array Bool} {a : Act} {w w' : World}, wpZ P md ops Q S R z f listed a w → R w w' → wpZ P md ops Q S R z f listed a w'
  | 0, _, _, _, _, h, hr => ⟨h.1, fun w1 h1 h2 => h.2 w1 (htr _ _ _ hr h1) h2⟩
  | _ + 1, _, _, _, _, h, hr => fun w1 h1 h2 => h w1 (htr _ _ _ hr h1) h2
theorem wpAny_of_z (hrefl : ∀ w, R w w) : ∀ (f : Nat) (listed : Array Bool) (a : Act) (w : World), S w → wpZ P md ops Q S R z f listed a w → wpAny P md ops Q f listed a w
  | 0, _, _, w, hS, h => ⟨h.1, h.2 w (hrefl w) hS⟩
  | f + 1, _, _, w, hS, h => ⟨(h w (hrefl w) hS).1, fun i hi => wpOp_mono (fun a' w' h' => by
      by_cases e : i = z
      · rw [if_pos e] at h'; exact h'
      · rw [if_neg e] at h'; exact wpAny_of_z hrefl f _ a' w' h'.1 h'.2) ((h w (hrefl w) hS).2 i hi)⟩
theorem wpZ_first (hrefl : ∀ w, R w w) (htr : ∀ x y z, R x y → R y z → R x z) {i : Nat} {oi oz : Oper} {v : Value} (hi : ops[i]? = some oi) (hz : ops[z]? = some oz) (haz : ∃ e ∈ oz.after, Region.binds md e = true ∧ e.on = i) (hiz : i ≠ z)
    (hsel : ∀ (j : Nat) (o : Oper) cs b, ops[j]? = some o → o.op ≠ .select cs b)
    (hQ : ∀ c a w, Q (.panic c) (a.put oi.dst v) w → Q (.panic c) a w) :
    ∀ (f : Nat) (listed : Array Bool) (a : Act) (w : World),
      (∀ j oj, ops[j]? = some oj → j ≠ i → listed.getD j true = false → (∀ e ∈ oj.after, Region.binds md e = true → e.on ≠ i) → oi.apart ops oj = true) →
      i ∈ Region.ready md ops listed → YieldsR P ops S R oi v a →
      wpZ P md ops Q S R z f (listed.setIfInBounds i true) (a.put oi.dst v) w → wpZ P md ops Q S R z (f + 1) listed a w := by
  intro f
  induction f with
  | zero =>
    intro listed a w _ hr hy H w1 hR hS
    refine ⟨fun h => (by rw [h] at hr; cases hr), fun j hj => ?_⟩
    by_cases hji : j = i
    · subst hji
      refine hy.wpOp hi hrefl hS fun w2 h1 h2 => ?_
      rw [if_neg hiz]
      exact ⟨h1, wpZ_mono htr H (htr _ _ _ hR h2)⟩
    · have := ready_mono hj hji
      rw [H.1] at this
      cases this
  | succ f ih =>
    intro listed a w hfree hr hy H w1 hR hS
    refine ⟨fun h => (by rw [h] at hr; cases hr), fun j hj => ?_⟩
    by_cases hji : j = i
    · subst hji
      refine hy.wpOp hi hrefl hS fun w2 h1 h2 => ?_
      rw [if_neg hiz]
      exact ⟨h1, wpZ_mono htr H (htr _ _ _ hR h2)⟩
    · have h1 := (H w1 hR hS).2 j (ready_mono hj hji)
      obtain ⟨hjun, oj, hoj, hall⟩ := mem_ready.1 hj
      have hnot : ∀ e ∈ oj.after, Region.binds md e = true → e.on ≠ i := fun e he hb heq => by
        have h2 := hall e he hb
        have h0 := (mem_ready.1 hr).1
        rw [heq] at h2
        rcases Nat.lt_or_ge i listed.size with h' | h'
        · simp [h'] at h0 h2; rw [h0] at h2; cases h2
        · simp [Array.getElem?_eq_none h'] at h2
      have hjz : j ≠ z := fun e => by
        rw [e, hz] at hoj
        cases hoj
        obtain ⟨x, hx, hb, hon⟩ := haz
        exact hnot x hx hb hon
      simp only [if_neg hjz] at h1
      have hap := hfree j oj hoj hji hjun hnot
      obtain ⟨_, _, h3⟩ := Oper.apart_spec hap
      have triv : YieldsIf P ops (fun _ => False) oi v a := by
        rcases hy with ⟨hw, _⟩ | ⟨hw, hv⟩
        · exact .inl ⟨hw, fun _ h => h.elim⟩
        · exact .inr ⟨hw, hv⟩
      have keep : ∀ (b : Act), YieldsR P ops S R oi v b → ∀ u, YieldsR P ops S R oi v (b.put oj.dst u) := fun b hb u =>
        hb.of_same (execOp_put oi (fun cs c => hsel i oi cs c hi) b oj.dst u h3) (wanted_put oi b oj.dst u h3)
      have h2 := wpOp_putIf hoj hap (fun cs b => hsel i oi cs b hi) (fun cs b => hsel j oj cs b hoj) hQ triv h1
      have h4 := wpOp_tag hoj (YieldsR P ops S R oi v) (fun u => keep a hy u) (fun d u => keep { a with defers := d :: a.defers } (hy.of_same rfl rfl) u) h2
      have hfree' : ∀ k ok, ops[k]? = some ok → k ≠ i → (listed.setIfInBounds j true).getD k true = false →
          (∀ e ∈ ok.after, Region.binds md e = true → e.on ≠ i) → oi.apart ops ok = true := fun k ok hk hki hun hno => by
        refine hfree k ok hk hki ?_ hno
        by_cases hjk : j = k
        · subst hjk; exact hjun
        · rw [getD_set_ne true hjk] at hun; exact hun
      refine wpOp_mono (fun a' w' h5 => ?_) h4
      rw [if_neg hjz]
      refine ⟨h5.2.2.1, ih (listed.setIfInBounds j true) a' w' hfree' (ready_mono hr (Ne.symm hji)) h5.1 ?_⟩
      rw [Array.setIfInBounds_comm _ _ hji]
      exact h5.2.2.2
/-- Whether an operation waits for another. -/
def waits (md : Region.Mode) (ops : Array Oper) (z i : Nat) : Bool := match ops[z]? with
  | some o => o.after.toList.any fun e => Region.binds md e && (e.on == i)
  | none => false
/-- One operation first. -/
theorem wpZ_take (hrefl : ∀ w, R w w) (htr : ∀ x y z, R x y → R y z → R x z) {i : Nat} {oi : Oper} {v : Value} {f : Nat} {listed : Array Bool} {a : Act} {w : World} (hi : ops[i]? = some oi)
    (hz : waits md ops z i = true) (hiz : i ≠ z) (hs : Region.noSelect ops = true) (hf : Region.free md ops listed i = true) (hr : (Region.ready md ops listed).contains i = true)
    (hQ : ∀ c a w, Q (.panic c) (a.put oi.dst v) w → Q (.panic c) a w) (hy : YieldsR P ops S R oi v a)
    (h : wpZ P md ops Q S R z f (listed.setIfInBounds i true) (a.put oi.dst v) w) : wpZ P md ops Q S R z (f + 1) listed a w := by
  unfold waits at hz
  cases ho : ops[z]? with
  | none => rw [ho] at hz; cases hz
  | some oz =>
    rw [ho] at hz
    obtain ⟨e, he, hb⟩ := List.any_eq_true.1 hz
    rw [Bool.and_eq_true] at hb
    exact wpZ_first hrefl htr hi ho ⟨e, by simpa using he, hb.1, by simpa using hb.2⟩ hiz (Region.noSelect_spec hs) hQ f listed a w (Region.free_spec hi hf) (by simpa using hr) hy h
/-- z, the only one that is left. -/
theorem wpZ_last {oz : Oper} {listed : Array Bool} {a : Act} {w : World} (hz : ops[z]? = some oz) (hr : Region.ready md ops listed = [z]) (hr2 : Region.ready md ops (listed.setIfInBounds z true) = [])
    (h : ∀ w1, R w w1 → S w1 → ∀ K' : Act → World → Prop, (∀ a' w', Q .normal a' w' → K' a' w') →
      if Region.wanted oz (yielded ops a.tmps) = true then Oper.wp P oz a w1 K' Q else K' (a.put oz.dst undef) w1) : wpZ P md ops Q S R z 1 listed a w := by
  intro w1 hR hS
  refine ⟨fun h0 => (by rw [hr] at h0; cases h0), fun j hj => ?_⟩
  rw [hr] at hj
  have hji : j = z := by simpa using hj
  subst hji
  exact wpOp_step hz (fun K' hK => h w1 hR hS K' fun a' w' hq => hK a' w' (by rw [if_pos rfl]; exact ⟨hr2, hq⟩))
/-- The region, by this law. -/
theorem wp_region_z (hrefl : ∀ w, R w w) {id : Nat} {a : Act} {w : World} (hm : P.follows .mixedOrders = true) (hS : S { w with drawn := w.drawn + 1 })
    (h : wpZ P .any ops Q S R z ops.size (Array.replicate ops.size false) a { w with drawn := w.drawn + 1 }) : (Code.region id ops true).wp P Q a w :=
  wp_region_any hm (wpAny_of_z hrefl _ _ _ _ hS h)
/-- The region within a round, by this law. -/
theorem region_round_z {F : Fence} (hF : F = Fence.wide) (hrefl : ∀ w, R w w) {n l id : Nat} {a : Act} {w : World} (hm : P.follows .mixedOrders = true) (hnd : ops.toList.all (fun o => match o.op with | .defer _ => false | _ => true) = true) (hlo : ¬ LetsOut Q)
    (hS : S { w with drawn := w.drawn + 1 }) (h : wpZ P .any ops Q S R z ops.size (Array.replicate ops.size false) a { w with drawn := w.drawn + 1 }) : (Code.region id ops true).wpIn (F.inRound l) n P Q a w := by
  subst hF
  refine wpIn_region_any hm (wpAnyIn_round (fun i o ho c e => ?_) hlo _ _ _ _ (wpAny_of_z hrefl _ _ _ _ hS h))
  have hmem : o ∈ ops.toList := List.mem_of_getElem? (show ops.toList[i]? = some o by rw [Array.getElem?_toList]; exact ho)
  have := List.all_eq_true.1 hnd o hmem
  rw [e] at this
  cases this
end
end Go.Proofs.YtgemmidkfeebfaaDoor
