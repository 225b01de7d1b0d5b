/- Several texts in one, each with its own words ahead: RegM, RegN, RwF. -/
import Derived.OrdersHeld
import Derived.RegionTactic
import Derived.Test.YtgemmidkfeebfaaDoorFiM
import Derived.Test.YtgemmidkfeebfaaDoorWA
import Derived.Test.YtgemmidkfeebfaaDoorMem
import Derived.Test.YtgemmidkfeebfaaDoorChecked
import Derived.WalkKit
import Derived.Handy
import Derived.Lib.Hide
import Derived.Outline
import Derived.OwnWalk
import Derived.Laws.IdiomStrings
import Derived.Laws.BytesArg
import Derived.Laws.OwnMore
import Derived.Laws.MakeOwn
import Derived.Deep.AppendLies
import Derived.Deep.RegionLaw
set_option maxRecDepth 100000
/- Own law for regions that draw their order: an operation that gives one value wherever it comes up, and makes no more than fresh memory, may be taken first. -/
set_option linter.unusedVariables false
namespace Go.Proofs.YtgemmidkfeebfaaDoor
set_option maxRecDepth 100000
open Go
section
variable {P : Program} {ops : Array Oper} {Q : Exit → Act → World → Prop} {md : Region.Mode} {S : World → Prop} {R : World → World → Prop}
/-- An operation's outcome, with a word on the state that it leaves. -/
theorem wpOp_tag {j : Nat} {oj : Oper} (hj : ops[j]? = some oj) {K : Act → World → Prop} {a : Act} {w : World} (C : Act → Prop)
    (hput : ∀ u, C (a.put oj.dst u)) (hdef : ∀ d u, C (({ a with defers := d :: a.defers } : Act).put oj.dst u)) (h : wpOp P ops Q j K a w) :
    wpOp P ops Q j (fun b w1 => C b ∧ K b w1) a w := by
  unfold wpOp at *
  simp only [hj] at *
  by_cases hw : Region.wanted oj (yielded ops a.tmps) = true
  · rw [if_pos hw] at h ⊢
    rcases h with h | h
    · left
      unfold Oper.wp at *
      cases hr : (execOp a.eval oj).run P w with
      | ok n w1 =>
        rw [hr] at h
        cases n with
        | value u => exact ⟨hput u, h⟩
        | skip => exact ⟨hput _, h⟩
        | defer d => exact ⟨hdef d _, h⟩
        | enter f args =>
          refine Calls.mono h fun e w2 he => ?_
          cases e with
          | returned u => exact ⟨hput u, he⟩
          | panicked c => exact he
          | outgrown => exact he
        | row r args => exact Rows.mono h fun u w2 he => ⟨hput u, he⟩
        | _ => exact h
      | halt x w1 =>
        rw [hr] at h
        cases x <;> exact h
    · exact .inr h
  · rw [if_neg hw] at h ⊢
    exact ⟨hput _, h⟩
/-- In every world that meets S the operation gives v, and leaves a world that meets S and is no more than R away. -/
def YieldsR (P : Program) (ops : Array Oper) (S : World → Prop) (R : World → World → Prop) (o : Oper) (v : Value) (a : Act) : Prop :=
  (Region.wanted o (yielded ops a.tmps) = true ∧ ∀ w, S w → ((∃ w1, (execOp a.eval o).run P w = .ok (.value v) w1 ∧ S w1 ∧ R w w1) ∨
    ∃ f args, (execOp a.eval o).run P w = .ok (.enter f args) w ∧ Calls P f args w fun e w1 => e = .returned v ∧ S w1 ∧ R w w1)) ∨
  (Region.wanted o (yielded ops a.tmps) = false ∧ v = undef)
theorem YieldsR.of_same {o : Oper} {v : Value} {a a' : Act} (hy : YieldsR P ops S R o v a) (he : execOp a'.eval o = execOp a.eval o)
    (hw : Region.wanted o (yielded ops a'.tmps) = Region.wanted o (yielded ops a.tmps)) : YieldsR P ops S R o v a' := by
  unfold YieldsR at *
  rw [he, hw]
  exact hy
theorem YieldsR.wpOp {i : Nat} {o : Oper} {v : Value} {a : Act} (hi : ops[i]? = some o) (hy : YieldsR P ops S R o v a) (hrefl : ∀ w, R w w)
    {K : Act → World → Prop} {w : World} (hS : S w) (h : ∀ w1, S w1 → R w w1 → K (a.put o.dst v) w1) : wpOp P ops Q i K a w := by
  unfold Go.wpOp
  simp only [hi]
  rcases hy with ⟨hw, hv⟩ | ⟨hw, rfl⟩
  · rw [if_pos hw]
    left
    unfold Oper.wp
    rcases hv w hS with ⟨w1, hr, h1, h2⟩ | ⟨f, args, hr, hc⟩
    · rw [hr]; exact h w1 h1 h2
    · rw [hr]
      refine Calls.mono hc fun e w1 he => ?_
      obtain ⟨rfl, h1, h2⟩ := he
      exact h w1 h1 h2
  · rw [if_neg (by simp [hw])]
    exact h w hS (hrefl w)
/-- Whatever order is picked from here on, and whatever is made anew meanwhile. -/
def wpM (P : Program) (md : Region.Mode) (ops : Array Oper) (Q : Exit → Act → World → Prop) (S : World → Prop) (R : World → World → Prop) : Nat → Array Bool → Act → World → Prop
  | 0, listed, a, w => Region.ready md ops listed = [] ∧ ∀ w1, R w w1 → S w1 → Q .normal a w1
  | f + 1, listed, a, w => ∀ w1, R w w1 → S w1 → (Region.ready md ops listed = [] → Q .normal a w1) ∧
      ∀ i ∈ Region.ready md ops listed, wpOp P ops Q i (fun a' w' => S w' ∧ wpM P md ops Q S R f (listed.setIfInBounds i true) a' w') a w1
theorem wpM_mono (htr : ∀ x y z, R x y → R y z → R x z) : ∀ {f : Nat} {listed : Array Bool} {a : Act} {w w' : World}, wpM P md ops Q S R f listed a w → R w w' → wpM P md ops Q S R f listed a w'
  | 0, _, _, _, _, h, hr => ⟨h.1, fun w1 h1 h2 => h.2 w1 (htr _ _ _ hr h1) h2⟩
  | _ + 1, _, _, _, _, h, hr => fun w1 h1 h2 => h w1 (htr _ _ _ hr h1) h2
theorem wpAny_of_m (hrefl : ∀ w, R w w) : ∀ (f : Nat) (listed : Array Bool) (a : Act) (w : World), S w → wpM P md ops Q S R f listed a w → wpAny P md ops Q f listed a w
  | 0, _, _, w, hS, h => ⟨h.1, h.2 w (hrefl w) hS⟩
  | f + 1, _, _, w, hS, h => ⟨(h w (hrefl w) hS).1, fun i hi => wpOp_mono (fun a' w' h' => wpAny_of_m hrefl f _ a' w' h'.1 h'.2) ((h w (hrefl w) hS).2 i hi)⟩
theorem wpM_first (hrefl : ∀ w, R w w) (htr : ∀ x y z, R x y → R y z → R x z) {i : Nat} {oi : Oper} {v : Value} (hi : ops[i]? = some oi)
    (hsel : ∀ (j : Nat) (o : Oper) cs b, ops[j]? = some o → o.op ≠ .select cs b)
    (hQ : ∀ c a w, Q (.panic c) (a.put oi.dst v) w → Q (.panic c) a w) :
    ∀ (f : Nat) (listed : Array Bool) (a : Act) (w : World),
      (∀ j oj, ops[j]? = some oj → j ≠ i → listed.getD j true = false → (∀ e ∈ oj.after, Region.binds md e = true → e.on ≠ i) → oi.apart ops oj = true) →
      i ∈ Region.ready md ops listed → YieldsR P ops S R oi v a →
      wpM P md ops Q S R f (listed.setIfInBounds i true) (a.put oi.dst v) w → wpM P md ops Q S R (f + 1) listed a w := by
  intro f
  induction f with
  | zero =>
    intro listed a w _ hr hy H w1 hR hS
    refine ⟨fun h => (by rw [h] at hr; cases hr), fun j hj => ?_⟩
    by_cases hji : j = i
    · subst hji
      exact hy.wpOp hi hrefl hS fun w2 h1 h2 => ⟨h1, wpM_mono htr H (htr _ _ _ hR h2)⟩
    · have := ready_mono hj hji
      rw [H.1] at this
      cases this
  | succ f ih =>
    intro listed a w hfree hr hy H w1 hR hS
    refine ⟨fun h => (by rw [h] at hr; cases hr), fun j hj => ?_⟩
    by_cases hji : j = i
    · subst hji
      exact hy.wpOp hi hrefl hS fun w2 h1 h2 => ⟨h1, wpM_mono htr H (htr _ _ _ hR h2)⟩
    · have h1 := (H w1 hR hS).2 j (ready_mono hj hji)
      obtain ⟨hjun, oj, hoj, hall⟩ := mem_ready.1 hj
      have hnot : ∀ e ∈ oj.after, Region.binds md e = true → e.on ≠ i := fun e he hb heq => by
        have h2 := hall e he hb
        have h0 := (mem_ready.1 hr).1
        rw [heq] at h2
        rcases Nat.lt_or_ge i listed.size with h' | h'
        · simp [h'] at h0 h2; rw [h0] at h2; cases h2
        · simp [Array.getElem?_eq_none h'] at h2
      have hap := hfree j oj hoj hji hjun hnot
      obtain ⟨_, _, h3⟩ := Oper.apart_spec hap
      have triv : YieldsIf P ops (fun _ => False) oi v a := by
        rcases hy with ⟨hw, _⟩ | ⟨hw, hv⟩
        · exact .inl ⟨hw, fun _ h => h.elim⟩
        · exact .inr ⟨hw, hv⟩
      have keep : ∀ (b : Act), YieldsR P ops S R oi v b → ∀ u, YieldsR P ops S R oi v (b.put oj.dst u) := fun b hb u =>
        hb.of_same (execOp_put oi (fun cs c => hsel i oi cs c hi) b oj.dst u h3) (wanted_put oi b oj.dst u h3)
      have h2 := wpOp_putIf hoj hap (fun cs b => hsel i oi cs b hi) (fun cs b => hsel j oj cs b hoj) hQ triv h1
      have h4 := wpOp_tag hoj (YieldsR P ops S R oi v) (fun u => keep a hy u) (fun d u => keep { a with defers := d :: a.defers } (hy.of_same rfl rfl) u) h2
      have hfree' : ∀ k ok, ops[k]? = some ok → k ≠ i → (listed.setIfInBounds j true).getD k true = false →
          (∀ e ∈ ok.after, Region.binds md e = true → e.on ≠ i) → oi.apart ops ok = true := fun k ok hk hki hun hno => by
        refine hfree k ok hk hki ?_ hno
        by_cases hjk : j = k
        · subst hjk; exact hjun
        · rw [getD_set_ne true hjk] at hun; exact hun
      refine wpOp_mono (fun a' w' h5 => ⟨h5.2.2.1, ih (listed.setIfInBounds j true) a' w' hfree' (ready_mono hr (Ne.symm hji)) h5.1 ?_⟩) h4
      rw [Array.setIfInBounds_comm _ _ hji]
      exact h5.2.2.2
/-- The beginning. -/
theorem wp_region_m (hrefl : ∀ w, R w w) {id : Nat} {a : Act} {w : World} (hm : P.follows .mixedOrders = true) (hS : S { w with drawn := w.drawn + 1 })
    (h : wpM P .any ops Q S R ops.size (Array.replicate ops.size false) a { w with drawn := w.drawn + 1 }) : (Code.region id ops true).wp P Q a w :=
  wp_region_any hm (wpAny_of_m hrefl _ _ _ _ hS h)
/-- One operation first. -/
theorem wpM_take (hrefl : ∀ w, R w w) (htr : ∀ x y z, R x y → R y z → R x z) {i : Nat} {oi : Oper} {v : Value} {f : Nat} {listed : Array Bool} {a : Act} {w : World} (hi : ops[i]? = some oi)
    (hs : Region.noSelect ops = true) (hf : Region.free md ops listed i = true) (hr : (Region.ready md ops listed).contains i = true)
    (hQ : ∀ c a w, Q (.panic c) (a.put oi.dst v) w → Q (.panic c) a w) (hy : YieldsR P ops S R oi v a)
    (h : wpM P md ops Q S R f (listed.setIfInBounds i true) (a.put oi.dst v) w) : wpM P md ops Q S R (f + 1) listed a w :=
  wpM_first hrefl htr hi (Region.noSelect_spec hs) hQ f listed a w (Region.free_spec hi hf) (by simpa using hr) hy h
/-- One that reads, or less. -/
theorem YieldsR.read (hrefl : ∀ w, R w w) {o : Oper} {v : Value} {a : Act} (hw : Region.wanted o (yielded ops a.tmps) = true) (h : ∀ w, S w → (execOp a.eval o).run P w = .ok (.value v) w) : YieldsR P ops S R o v a :=
  .inl ⟨hw, fun w hS => .inl ⟨w, h w hS, hS, hrefl w⟩⟩
/-- The only one that may come up. -/
theorem wpM_one {i : Nat} {oi : Oper} {f : Nat} {listed : Array Bool} {a : Act} {w : World} (hi : ops[i]? = some oi) (hr : Region.ready md ops listed = [i])
    (h : ∀ w1, R w w1 → S w1 → ∀ K' : Act → World → Prop, (∀ a' w', (S w' ∧ wpM P md ops Q S R f (listed.setIfInBounds i true) a' w') → K' a' w') →
      if Region.wanted oi (yielded ops a.tmps) = true then Oper.wp P oi a w1 K' Q else K' (a.put oi.dst undef) w1) : wpM P md ops Q S R (f + 1) listed a w := by
  intro w1 hR hS
  refine ⟨fun h0 => (by rw [hr] at h0; cases h0), fun j hj => ?_⟩
  rw [hr] at hj
  have hji : j = i := by simpa using hj
  subst hji
  exact wpOp_step hi (h w1 hR hS)
end
end Go.Proofs.YtgemmidkfeebfaaDoor
/- Own law for drawn regions, further: several operations may come up. -/
set_option linter.unusedVariables false
namespace Go.Proofs.YtgemmidkfeebfaaDoor
open Go
section
variable {P : Program} {ops : Array Oper} {Q : Exit → Act → World → Prop} {md : Region.Mode} {S : World → Prop} {R : World → World → Prop}
/-- Two that may come up. -/
theorem wpM_two {i j : Nat} {oi oj : Oper} {f : Nat} {listed : Array Bool} {a : Act} {w : World} (hi : ops[i]? = some oi) (hj : ops[j]? = some oj) (hr : Region.ready md ops listed = [i, j])
    (h1 : ∀ w1, R w w1 → S w1 → ∀ K' : Act → World → Prop, (∀ a' w', (S w' ∧ wpM P md ops Q S R f (listed.setIfInBounds i true) a' w') → K' a' w') →
      if Region.wanted oi (yielded ops a.tmps) = true then Oper.wp P oi a w1 K' Q else K' (a.put oi.dst undef) w1)
    (h2 : ∀ w1, R w w1 → S w1 → ∀ K' : Act → World → Prop, (∀ a' w', (S w' ∧ wpM P md ops Q S R f (listed.setIfInBounds j true) a' w') → K' a' w') →
      if Region.wanted oj (yielded ops a.tmps) = true then Oper.wp P oj a w1 K' Q else K' (a.put oj.dst undef) w1) : wpM P md ops Q S R (f + 1) listed a w := by
  intro w1 hR hS
  refine ⟨fun h0 => (by rw [hr] at h0; cases h0), fun k hk => ?_⟩
  rw [hr] at hk
  rcases List.mem_cons.1 hk with rfl | hk
  · exact wpOp_step hi (h1 w1 hR hS)
  · have hkj : k = j := by simpa using hk
    subst hkj
    exact wpOp_step hj (h2 w1 hR hS)
end
end Go.Proofs.YtgemmidkfeebfaaDoor
/- Bytes in memory that a call owns: rows that grow, rows that are written in place. -/
set_option maxRecDepth 100000
set_option linter.unusedVariables false
namespace Go.Proofs.YtgemmidkfeebfaaDoor
open Go Go.RowKit
theorem getD_byte (s : ByteArray) {k : Nat} (h : k < s.size) : s.data.toList.getD k 0 = s[k] := by
  have h2 : k < s.data.toList.length := by rw [Array.length_toList]; exact h
  rw [getD_lt h2]
  rfl
theorem getD_over (s : ByteArray) {k : Nat} (h : s.size ≤ k) : s.data.toList.getD k 0 = 0 := getD_ge (by rw [Array.length_toList]; exact h)
def cellsF (l : List UInt8) : List Value := l.map fun x => .int .u8 (x.toNat : Int)
theorem cellsF_length (l : List UInt8) : (cellsF l).length = l.length := by simp [cellsF]
theorem cellsF_append (a b : List UInt8) : cellsF (a ++ b) = cellsF a ++ cellsF b := by simp [cellsF]
theorem own_sliceF {w : World} {base n size : Nat} {e : TypeId} {v : Value} {xs : List Value} (h : w.ownsRow base e size v n xs) : ∃ A c, v = .slice A n c ∧ n ≤ c := by
  rcases h.2 with ⟨rfl, rfl⟩ | ⟨g, cap, cur, rfl, _, _, hc, _⟩
  · exact ⟨none, 0, rfl, Nat.le_refl _⟩
  · exact ⟨_, cap, rfl, hc⟩
theorem ownsRow_butF {w w' : World} {base n size : Nat} {e : TypeId} {v : Value} {xs : List Value} {S : List Nat} (h : w.ownsRow base e size v n xs) (hw : But S w w') (hS : ∀ g, v.ownBlock = some g → g ∉ S) : w'.ownsRow base e size v n xs := by
  obtain ⟨h1, h2⟩ := h
  refine ⟨h1, ?_⟩
  rcases h2 with h2 | ⟨g, cap, cur, rfl, hg, hh, r⟩
  · exact .inl h2
  · have hlt : g < w.heap.size := (Array.getElem?_eq_some_iff.1 hh).1
    exact .inr ⟨g, cap, cur, rfl, hg, (hw.block g hlt (hS g rfl)).trans hh, r⟩
/-- Bytes in memory as a string. -/
theorem conv_atF {W : World} {g cap : Nat} {L : List UInt8} (h : ∀ j (hj : j < L.length), W.cell? ⟨g, j, none⟩ = some (.int .u8 (L[j].toNat : Int))) :
    (convert 26 9 (.slice (some ⟨g, 0, none⟩) L.length cap)).run Tryd.prog W = .ok (.string (strL L)) W := by
  refine run_convert_bytes_back W 26 9 5 ⟨g, 0, none⟩ cap L Tryd.underlying26 Tryd.underlying5 Tryd.underlying9 (fun j hj => ?_)
  have e2 : (⟨g, 0, none⟩ : Addr).add j = ⟨g, j, none⟩ := by unfold Addr.add; split <;> simp_all
  rw [e2]
  exact h j hj
theorem own_textF {w : World} {base n : Nat} {v : Value} {L : List UInt8} (h : w.ownsRow base 5 1 v n (cellsF L)) : (convert 26 9 v).run Tryd.prog w = .ok (.string (strL L)) w := by
  have hl : L.length = n := by have := h.1; rw [cellsF_length] at this; omega
  rcases h.2 with ⟨rfl, rfl⟩ | ⟨g, cap, cur, rfl, _⟩
  · have : L = [] := List.eq_nil_of_length_eq_zero hl
    subst this
    exact run_convert_bytes_nil w 26 5 Tryd.underlying26 Tryd.underlying5 _ _ 9 Tryd.underlying9
  · subst hl
    refine conv_atF fun i hi => ?_
    have hc := h.cells (g := g) rfl i (.int .u8 (L[i].toNat : Int)) (by simp [cellsF, hi])
    have e2 : (⟨g, 0, none⟩ : Addr).add i = ⟨g, i, none⟩ := by unfold Addr.add; split <;> simp_all
    rw [e2] at hc
    exact hc
/-- Bytes of the call's own. -/
def OwnF (w : World) (base : Nat) (v : Value) (L : List UInt8) : Prop := w.ownsRow base 5 1 v L.length (cellsF L)
theorem OwnF.nil (w : World) (base : Nat) : OwnF w base (.slice none 0 0) [] := World.ownsRow_nil _ _ _ _
theorem OwnF.but {w w' : World} {base : Nat} {v : Value} {L : List UInt8} (h : OwnF w base v L) (hw : But [] w w') : OwnF w' base v L := ownsRow_butF h hw (fun _ _ => by simp)
theorem OwnF.shape {w : World} {base : Nat} {v : Value} {L : List UInt8} (h : OwnF w base v L) : ∃ A c, v = .slice A L.length c := by
  obtain ⟨A, c, e, _⟩ := own_sliceF h
  exact ⟨A, c, e⟩
theorem OwnF.lt {w : World} {base : Nat} {v : Value} {L : List UInt8} (h : OwnF w base v L) : ∀ g, v.ownBlock = some g → base ≤ g := fun g e => (World.ownsRow.lt h g e).1
theorem OwnF.text {w : World} {base : Nat} {v : Value} {L : List UInt8} (h : OwnF w base v L) : (convert 26 9 v).run Tryd.prog w = .ok (.string (strL L)) w := own_textF h
theorem OwnF.byte {w : World} {base : Nat} {A : Option Addr} {n c : Nat} {L : List UInt8} (h : OwnF w base (.slice A n c) L) {i : Nat} (hi : i < L.length) :
    ∃ g, A = some ⟨g, 0, none⟩ ∧ w.cell? ⟨g, i, none⟩ = some (.int .u8 ((L.getD i 0).toNat : Int)) := by
  unfold OwnF at h
  obtain ⟨g, cap, e, h1, h2⟩ := h.form (by omega)
  injection e with e1 e2 e3
  subst e1 e3
  refine ⟨g, rfl, ?_⟩
  have hc := World.ownsRow.cells h (g := g) rfl i (.int .u8 (L[i].toNat : Int)) (by simp [cellsF, hi])
  have e2 : (⟨g, 0, none⟩ : Addr).add i = ⟨g, i, none⟩ := by unfold Addr.add; split <;> simp_all
  rw [e2] at hc
  rw [hc, getD_lt hi]
theorem news_is {w : World} {g : Nat} {x : Value} (h : Is w g 5 #[x]) : ∀ (j : Nat) u, [x][j]? = some u → w.cell? ((⟨g, 0, none⟩ : Addr).add j) = some u := by
  intro j u hj
  match j, hj with
  | 0, hj =>
    have e : x = u := by simpa using hj
    have := h.cell 0
    rw [← e]
    exact this
  | j + 1, hj => simp at hj
/-- One byte appended, at a step of a drawn region. -/
theorem step_append_f {w0 : World} (w : World) {ops : Array Oper} {o : Oper} {a : Act} {K : Act → World → Prop} {Q : Exit → Act → World → Prop} {E : Prop} (hgd : o.guard = none) (sl x : Operand)
    (ho : o.op = .call { callee := .builtin .append, args := #[sl, x], argTypes := #[26, 26] })
    {i : TypeInfo} (hi : Tryd.prog.info? 5 = some i) (hz : i.zero = some (.int .u8 0)) (hsize : i.size = 1) (hby : i.bytes = 1) (v : Value) (L : List UInt8) (hs : a.eval sl = v) (hO : OwnF w w0.heap.size v L) (hB : But [] w0 w) (y : UInt8) {g : Nat}
    (hx : a.eval x = .slice (some ⟨g, 0, none⟩) 1 1) (hI : Is w g 5 #[.int .u8 (y.toNat : Int)]) (hbound : L.length < 140737488355328)
    (h : ∀ A c w' M, M = L ++ [y] → OwnF w' w0.heap.size (.slice A M.length c) M → But [] w0 w' → K (a.put o.dst (.slice A M.length c)) w') : if Region.wanted o (yielded ops a.tmps) = true then Oper.wp Tryd.prog o a w K Q else E := by
  refine step_append_lies w hgd sl x 26 ho w0.heap.size 5 i (.int .u8 0) 1 1 Tryd.underlying26 hi hz hsize hby rfl (by omega) v L.length (cellsF L) hs hO ⟨g, 0, none⟩ 1 1 [.int .u8 (y.toNat : Int)] hx rfl (news_is hI) (by simp [Value.oneCell']) (by omega) (by unfold maxLen; omega) (by omega) hB.size w.heap.size rfl ?_
  intro g' cap w' hown hgrow _ _
  have hO2 : OwnF w' w0.heap.size (.slice (some ⟨g', 0, none⟩) (L ++ [y]).length cap) (L ++ [y]) := by
    unfold OwnF
    rw [List.length_append, cellsF_append]
    exact hown
  have key := h (some ⟨g', 0, none⟩) cap w' (L ++ [y]) rfl hO2 (hB.grown hgrow (fun k e => .inr (hO.lt k e)))
  rw [List.length_append] at key
  exact key
theorem info_u8F : (Tryd.prog.info? 5).map (fun i => (i.zero, i.size, i.bytes)) = some (some (.int .u8 0), 1, 1) := by kernel_rfl
theorem But.belowF {w w' : World} (h : But [] w w') : Below w.heap.size w w' := ⟨h.os, h.tape, h.output, h.size, fun k hk => h.block k hk (by simp)⟩
/-- A block reads as these bytes, and they may be written. -/
def RowF (w : World) (g : Nat) (l : List UInt8) : Prop := ∃ (cs : Array Value) (fr : Nat × Nat), w.heap[g]? = some (.cells cs 5 fr) ∧
  ∀ i, i < l.length → cs[i]? = some (.int .u8 ((l.getD i 0).toNat : Nat)) ∧ (decide (fr.1 ≤ i) && decide (i < fr.2)) = false
section
variable {w w' : World} {g : Nat} {l : List UInt8}
theorem RowF.lt (h : RowF w g l) : g < w.heap.size := by
  obtain ⟨cs, fr, h1, _⟩ := h
  exact (Array.getElem?_eq_some_iff.1 h1).1
theorem RowF.cell (h : RowF w g l) {i : Nat} (hi : i < l.length) : w.cell? ⟨g, i, none⟩ = some (.int .u8 ((l.getD i 0).toNat : Nat)) := by
  obtain ⟨cs, fr, h1, h2⟩ := h
  have := (h2 i hi).1
  simp [World.cell?, h1, this]
theorem RowF.free (h : RowF w g l) {i : Nat} (hi : i < l.length) : w.frozen? ⟨g, i, none⟩ = false := by
  obtain ⟨cs, fr, h1, h2⟩ := h
  have := (h2 i hi).2
  simp only [World.frozen?, h1]
  exact this
theorem RowF.but (h : RowF w g l) (k : But [] w w') : RowF w' g l := by
  have hl := h.lt
  obtain ⟨cs, fr, h1, h2⟩ := h
  exact ⟨cs, fr, (k.block g hl (by simp)).trans h1, h2⟩
theorem RowF.keep (h : RowF w g l) {g2 : Nat} (k : But [g2] w w') (hne : g ≠ g2) : RowF w' g l := by
  have hl := h.lt
  obtain ⟨cs, fr, h1, h2⟩ := h
  exact ⟨cs, fr, (k.block g hl (by simpa using hne)).trans h1, h2⟩
theorem RowF.put (h : RowF w g l) (i : Nat) (x : UInt8) (hi : i < l.length) : RowF (w.setCell ⟨g, i, none⟩ (.int .u8 (x.toNat : Nat))) g (l.set i x) := by
  obtain ⟨cs, fr, h1, h2⟩ := h
  refine ⟨cs.setIfInBounds i (.int .u8 (x.toNat : Nat)), fr, by simp [World.setCell, Array.getElem?_modify, h1], fun j hj => ?_⟩
  rw [List.length_set] at hj
  obtain ⟨c1, c2⟩ := h2 j hj
  refine ⟨?_, c2⟩
  by_cases e : i = j
  · subst e
    have hs : i < cs.size := (Array.getElem?_eq_some_iff.1 c1).1
    rw [Array.getElem?_setIfInBounds_self, if_pos hs]
    congr 3
    rw [getD_lt (by rw [List.length_set]; exact hi), List.getElem_set_self]
  · rw [Array.getElem?_setIfInBounds_ne e, c1]
    congr 3
    rw [List.getD_eq_getElem?_getD, List.getD_eq_getElem?_getD, List.getElem?_set_ne e]
theorem RowF.far (h : RowF w g l) {p : Addr} (hp : g ≠ p.block) (u : Value) : RowF (w.setCell p u) g l := by
  obtain ⟨cs, fr, h1, h2⟩ := h
  exact ⟨cs, fr, (Below.heap_setCell w p u g hp).trans h1, h2⟩
theorem RowF.text (h : RowF w g l) (cap : Nat) : (convert 26 9 (.slice (some ⟨g, 0, none⟩) l.length cap)).run Tryd.prog w = .ok (.string (strL l)) w :=
  conv_atF fun j hj => by rw [h.cell hj, getD_lt hj]
end
/-- A string's bytes, laid anew. -/
def rowOf (w : World) (s : ByteArray) : World := w.drew.alloc (.cells (bytesRow s (grownCap w s.size 0 5)) 5 ((bytesRow s (grownCap w s.size 0 5)).size, (bytesRow s (grownCap w s.size 0 5)).size + 1))
theorem run_rowOf (w : World) (s : ByteArray) : (convert 9 26 (.string s)).run Tryd.prog w = .ok (.slice (some ⟨w.heap.size, 0, none⟩) s.size (grownCap w s.size 0 5)) (rowOf w s) :=
  run_bytes_of_string w 9 26 5 s Tryd.underlying9 Tryd.underlying26 Tryd.underlying5
theorem rowOf_but (w : World) (s : ByteArray) : But [] w (rowOf w s) := ((But.refl [] w).drew).alloc _
theorem rowOf_row (w : World) (s : ByteArray) : RowF (rowOf w s) w.heap.size s.data.toList := by
  refine ⟨_, _, heap_alloc_new w.drew _, fun i hi => ?_⟩
  rw [Array.length_toList] at hi
  have hi2 : i < s.size := hi
  have hsz : i < (s.data.map (fun b => Value.int .u8 b.toNat)).size := by rw [Array.size_map]; exact hi
  have hb : i < (bytesRow s (grownCap w s.size 0 5)).size := by unfold bytesRow; rw [Array.size_append]; omega
  refine ⟨?_, by simp; omega⟩
  unfold bytesRow
  rw [Array.getElem?_append_left hsz, getD_byte s hi2]
  simp
  exact ⟨_, Array.getElem?_eq_getElem hi, rfl⟩
theorem grownCap_le' (w : World) (n : Nat) (e : TypeId) : n ≤ grownCap w n 0 e := grownCap_ge w n 0 e
/-- Noughts, laid anew. -/
def noughtsF (w : World) (n : Nat) : World := w.alloc (.cells (madeCells (Value.int .u8 0).cells n) 5)
theorem run_noughts (w : World) {n : Nat} (hn : n ≤ 140737488355328) : (Instr.makeSlice 26 (.int .i64 (n : Int)) (.int .i64 (n : Int))).run Tryd.prog w = .ok (.slice (some ⟨w.heap.size, 0, none⟩) n n) (noughtsF w n) := by
  obtain ⟨i0, hi0, hz0, hz1, hz2⟩ := info_parts info_u8F
  have h := run_make (P := Tryd.prog) w 26 5 i0 (.int .u8 0) Tryd.underlying26 hi0 hz0 .i64 .i64 (n : Int) (n : Int) (by omega) (by omega) (by rw [hz2]; omega) (by omega)
  rw [hz1] at h
  simpa [noughtsF] using h
theorem noughtsF_but (w : World) (n : Nat) : But [] w (noughtsF w n) := (But.refl [] w).alloc _
theorem noughtsF_row (w : World) (n : Nat) : RowF (noughtsF w n) w.heap.size (List.replicate n 0) := by
  refine ⟨_, _, heap_alloc_new w _, fun i hi => ?_⟩
  rw [List.length_replicate] at hi
  refine ⟨?_, by simp⟩
  rw [getD_zeros]
  have e : (Value.int .u8 0).cells = #[.int .u8 0] := rfl
  unfold madeCells
  rw [e]
  simp [hi, Nat.mod_one]
end Go.Proofs.YtgemmidkfeebfaaDoor
