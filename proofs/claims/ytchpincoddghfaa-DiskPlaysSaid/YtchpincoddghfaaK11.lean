/- Several texts in one: DkM, RegM, Mem, SbB, FiM, RwF, RegZ, DkA, DkB, DkC, DkD, RzK, DkE (what DiskPlays reach of them). -/
import Derived.Test.YtchpincoddghfaaK01
import Derived.Test.YtchpincoddghfaaK07
import Derived.Below
import Derived.BigQuiet
import Derived.BigRegion
import Derived.Deep.AppendLies
import Derived.Deep.Cut
import Derived.Deep.CutBlock
import Derived.Deep.CutRange
import Derived.Deep.DeepCutAuto
import Derived.Deep.Draws
import Derived.Deep.Onto
import Derived.Deep.QuietTactic
import Derived.Deep.RegionLaw
import Derived.Deep.RegionWith
import Derived.Handy
import Derived.Laws.BitsAllLaws
import Derived.Laws.BitsLemmas
import Derived.Laws.BytesArg
import Derived.Laws.IdiomStrings
import Derived.Laws.MakeOwn
import Derived.Laws.OwnMore
import Derived.Laws.Rows
import Derived.Lib.Hide
import Derived.Maps.AppendAt
import Derived.OrdersHeld
import Derived.OrdersIn
import Derived.Outline
import Derived.OwnWalk
import Derived.OwnWalkIn
import Derived.RangeFuncCalls
import Derived.RegionTactic
import Derived.TacticsInMore
import Derived.Test.YtchpincoddghfaaChecked
import Derived.WalkKit
set_option maxRecDepth 100000
set_option linter.unusedVariables false
set_option linter.unusedVariables false
namespace Go.Proofs.Ytchpincoddghfaa
set_option maxRecDepth 100000
open Go
theorem at16_le (l : List F16) (n : Nat) : at16 l n ≤ l.length := by
  unfold at16
  exact (List.takeWhile_sublist _).length_le
theorem ok16_step {σ : D16} (h : Ok16 σ) : Ok16 (step16 σ) := ⟨h.rise, h.syn, h.num, h.size, h.lim⟩
theorem ok16_append {σ : D16} {n : Int} {s : List UInt8} (h : Ok16 σ) : Ok16 (append16 σ n s).1 := by
  unfold append16
  split
  · exact h
  rename_i hw
  have hw := wrong16_ok (Classical.not_not.1 hw)
  split
  · exact h
  rename_i hz
  refine ⟨put16_rise h.rise, ?_, ?_, by show size16 (put16 σ.l n.toNat s) ≤ σ.limit; rw [size16_put h.rise]; omega, h.lim⟩
  · intro f hf
    have hf : f ∈ put16 σ.l n.toNat s := hf
    unfold put16 at hf
    split at hf
    · obtain ⟨g, hg, rfl⟩ := List.mem_map.1 hf
      have := h.syn g hg
      split
      · show g.syn ≤ (g.data ++ s).length
        rw [List.length_append]; omega
      · exact this
    · rcases List.mem_append.1 hf with hf | hf
      · exact h.syn f (List.mem_of_mem_take hf)
      · rcases List.mem_cons.1 hf with rfl | hf
        · exact Nat.zero_le _
        · exact h.syn f (List.mem_of_mem_drop hf)
  · intro f hf
    have hf : f ∈ put16 σ.l n.toNat s := hf
    unfold put16 at hf
    split at hf
    · obtain ⟨g, hg, rfl⟩ := List.mem_map.1 hf
      have := h.num g hg
      split <;> exact this
    · rcases List.mem_append.1 hf with hf | hf
      · exact h.num f (List.mem_of_mem_take hf)
      · rcases List.mem_cons.1 hf with rfl | hf
        · show n.toNat ≤ 65535; omega
        · exact h.num f (List.mem_of_mem_drop hf)
theorem ok16_sync {σ : D16} {n : Int} (h : Ok16 σ) : Ok16 (syncs16 σ n).1 := by
  unfold syncs16
  split
  · exact h
  split
  · exact ok16_step h
  · exact ok16_map (g := fun f => if f.num = n.toNat then { f with syn := f.data.length } else f) h rfl rfl (fun f => by split <;> rfl) (fun f _ => by split <;> exact Nat.le_refl _) (fun f hf => by split; exact Nat.le_refl _; exact h.syn f hf)
theorem ok16_cut {σ : D16} {n z : Int} (h : Ok16 σ) : Ok16 (cuts16 σ n z).1 := by
  unfold cuts16
  split
  · exact h
  split
  · exact h
  rename_i hw hz
  split
  · exact ok16_step h
  · refine ok16_map (g := fun f => if f.num = n.toNat then { f with data := f.data.take z.toNat, syn := z.toNat } else f) h rfl rfl (fun f => by split <;> rfl) (fun f _ => ?_) (fun f hf => ?_)
    · split
      · rw [List.length_take]; omega
      · exact Nat.le_refl _
    · split
      · rename_i hn
        have e : get16 σ.l n.toNat = f.data := by
          unfold get16
          rw [List.find?_eq_some_iff_append.2 ?_]
          · rfl
          · obtain ⟨ua, ub, e⟩ := List.append_of_mem hf
            refine ⟨by simpa using hn, ua, ub, e, fun a ha => ?_⟩
            have hr := h.rise
            rw [e, List.pairwise_append] at hr
            have := hr.2.2 a ha f (List.mem_cons_self ..)
            simp only [Bool.not_eq_true', beq_eq_false_iff_ne]
            omega
        rw [e] at hz
        rw [List.length_take]
        show z.toNat ≤ _
        omega
      · exact h.syn f hf
theorem ok16_drop {σ : D16} {n : Int} (h : Ok16 σ) : Ok16 (drops16 σ n).1 := by
  unfold drops16
  split
  · exact h
  split
  · exact ok16_step h
  · have hs : (drop16 σ.l n.toNat).Sublist σ.l := List.filter_sublist
    refine ⟨h.rise.sublist hs, fun f hf => h.syn f (hs.subset hf), fun f hf => h.num f (hs.subset hf), Nat.le_trans ?_ h.size, h.lim⟩
    exact size16_sub hs
end Go.Proofs.Ytchpincoddghfaa
set_option linter.unusedVariables false
namespace Go.Proofs.Ytchpincoddghfaa
set_option maxRecDepth 100000
open Go
section
variable {P : Program} {ops : Array Oper} {Q : Exit → Act → World → Prop} {md : Region.Mode} {S : World → Prop} {R : World → World → Prop}
/-- The only one that may come up. -/
theorem wpM_one {i : Nat} {oi : Oper} {f : Nat} {listed : Array Bool} {a : Act} {w : World} (hi : ops[i]? = some oi) (hr : Region.ready md ops listed = [i])
    (h : ∀ w1, R w w1 → S w1 → ∀ K' : Act → World → Prop, (∀ a' w', (S w' ∧ wpM P md ops Q S R f (listed.setIfInBounds i true) a' w') → K' a' w') →
      if Region.wanted oi (yielded ops a.tmps) = true then Oper.wp P oi a w1 K' Q else K' (a.put oi.dst undef) w1) : wpM P md ops Q S R (f + 1) listed a w := by
  intro w1 hR hS
  refine ⟨fun h0 => (by rw [hr] at h0; cases h0), fun j hj => ?_⟩
  rw [hr] at hj
  have hji : j = i := by simpa using hj
  subst hji
  exact wpOp_step hi (h w1 hR hS)
end
end Go.Proofs.Ytchpincoddghfaa
namespace Go.Proofs.Ytchpincoddghfaa
set_option maxRecDepth 100000
open Go Go.RowKit
section
variable {w w' w'' : World} {b : Nat} {t : TypeId} {cs : Array Value} {S T : List Nat}
variable {A : Option Addr} {n : Nat} {l : List UInt8}
/-- A cut from k on. -/
theorem ByteRow.cut (h : ByteRow w A n l) {k c : Nat} (hk : k ≤ n) (hc : n ≤ c) : ByteRow w (if c = k then A else A.map (·.add k)) (n - k) (l.drop k) := by
  refine ⟨by rw [List.length_drop, h.1], fun hn => ?_⟩
  obtain ⟨g, o, rfl, hcell⟩ := h.2 (by omega)
  rw [if_neg (by omega)]
  refine ⟨g, o + k, by simp [Addr.add], fun i hi => ?_⟩
  have hl := h.1
  rw [List.length_drop] at hi
  have := hcell (k + i) (by omega)
  rw [List.getElem_drop, Nat.add_assoc]
  exact this
theorem Off.cut {k c : Nat} (h : Off A b) : Off (if c = k then A else A.map (·.add k)) b := by
  split
  · exact h
  · intro a ha
    rcases A with _ | a0
    · simp at ha
    · simp only [Option.map_some, Option.some.injEq] at ha
      subst ha
      have := h a0 rfl
      unfold Addr.add
      split <;> exact this
end
end Go.Proofs.Ytchpincoddghfaa
set_option maxRecDepth 100000
set_option linter.unusedVariables false
namespace Go.Proofs.Ytchpincoddghfaa
set_option maxRecDepth 100000
open Go Go.RowKit
theorem nCells_append (L M : List Nat) : nCells (L ++ M) = nCells L ++ nCells M := by simp [nCells]
theorem info_intN : (Try.prog.info? 3).map (fun i => (i.zero, i.size, i.bytes)) = some (some (.int .i64 0), 1, 8) := by kernel_rfl
theorem news_n {w : World} {g : Nat} {cs : Array Value} (h : Is w g 3 cs) : ∀ (j : Nat) u, cs.toList[j]? = some u → w.cell? ((⟨g, 0, none⟩ : Addr).add j) = some u := by
  intro j u hj
  have e2 : (⟨g, 0, none⟩ : Addr).add j = ⟨g, j, none⟩ := by unfold Addr.add; split <;> simp_all
  rw [e2, h.cell, ← Array.getElem?_toList]
  exact hj
/-- One number appended. -/
theorem wpList_append_n {w0 : World} (w : World) {ops : Array Oper} {rest : List Oper} {o : Oper} {a : Act} {Q : Exit → Act → World → Prop} (hgd : o.guard = none) (sl x : Operand)
    (ho : o.op = .call { callee := .builtin .append, args := #[sl, x], argTypes := #[31, 31] })
    (v : Value) (L : List Nat) (hs : a.eval sl = v) (hO : OwnN w w0.heap.size v L) (hB : But [] w0 w) (p : Nat) {g : Nat} (hx : a.eval x = .slice (some ⟨g, 0, none⟩) 1 1) (hI : Is w g 3 #[.int .i64 (p : Nat)]) (hbound : L.length < 1000000000)
    (h : ∀ A c w', Hid (OwnN w' w0.heap.size (.slice A (L.length + 1) c) (L ++ [p])) → Hid (But [] w0 w') → wpList Try.prog ops Q rest (a.put o.dst (.slice A (L.length + 1) c)) w') : wpList Try.prog ops Q (o :: rest) a w := by
  obtain ⟨i0, hi0, hz0, hz1, hz2⟩ := info_parts info_intN
  refine wpList_append_own_at w hgd sl x 31 ho w0.heap.size 3 i0 _ 1 8 Try.underlying31 hi0 hz0 hz1 hz2 rfl (by decide) v L.length (nCells L) hs hO ⟨g, 0, none⟩ 1 1 [.int .i64 (p : Nat)] hx rfl (news_n hI) (by simp [Value.oneCell']) (by unfold maxLen; omega) (by omega) hB.size ?_
  intro v' w' hown hgrow _ hat
  have hO2 : OwnN w' w0.heap.size v' (L ++ [p]) := by
    unfold OwnN
    rw [List.length_append, nCells_append]
    exact hown
  obtain ⟨A, c, rfl, _⟩ := hO2.shape
  have key := h A c w'
  rw [List.length_append] at hO2 ⊢
  exact key (Lib.hid hO2) (Lib.hid (hB.grown hgrow (fun k e => .inr (hO.lt k e))))
end Go.Proofs.Ytchpincoddghfaa
set_option linter.unusedVariables false
namespace Go.Proofs.Ytchpincoddghfaa
set_option maxRecDepth 100000
open Go
theorem getD_zeros (n i : Nat) : (List.replicate n (0 : UInt8)).getD i 0 = 0 := by
  rw [List.getD_eq_getElem?_getD, List.getElem?_replicate]
  by_cases h : i < n
  · rw [if_pos h]; rfl
  · rw [if_neg h]; rfl
end Go.Proofs.Ytchpincoddghfaa
set_option maxRecDepth 100000
set_option linter.unusedVariables false
namespace Go.Proofs.Ytchpincoddghfaa
set_option maxRecDepth 100000
open Go Go.RowKit
theorem info_u8F : (Try.prog.info? 5).map (fun i => (i.zero, i.size, i.bytes)) = some (some (.int .u8 0), 1, 1) := by kernel_rfl
section
variable {w w' : World} {g : Nat} {l : List UInt8}
end
/-- Noughts, laid anew. -/
def noughtsF (w : World) (n : Nat) : World := w.alloc (.cells (madeCells (Value.int .u8 0).cells n) 5)
theorem run_noughts (w : World) {n : Nat} (hn : n ≤ 140737488355328) : (Instr.makeSlice 58 (.int .i64 (n : Int)) (.int .i64 (n : Int))).run Try.prog w = .ok (.slice (some ⟨w.heap.size, 0, none⟩) n n) (noughtsF w n) := by
  obtain ⟨i0, hi0, hz0, hz1, hz2⟩ := info_parts info_u8F
  have h := run_make (P := Try.prog) w 58 5 i0 (.int .u8 0) Try.underlying58 hi0 hz0 .i64 .i64 (n : Int) (n : Int) (by omega) (by omega) (by rw [hz2]; omega) (by omega)
  rw [hz1] at h
  simpa [noughtsF] using h
theorem noughtsF_but (w : World) (n : Nat) : But [] w (noughtsF w n) := (But.refl [] w).alloc _
theorem noughtsF_row (w : World) (n : Nat) : RowF (noughtsF w n) w.heap.size (List.replicate n 0) := by
  refine ⟨_, _, heap_alloc_new w _, fun i hi => ?_⟩
  rw [List.length_replicate] at hi
  refine ⟨?_, by simp⟩
  rw [getD_zeros]
  have e : (Value.int .u8 0).cells = #[.int .u8 0] := rfl
  unfold madeCells
  rw [e]
  simp [hi, Nat.mod_one]
end Go.Proofs.Ytchpincoddghfaa
set_option linter.unusedVariables false
namespace Go.Proofs.Ytchpincoddghfaa
set_option maxRecDepth 100000
open Go
section
variable {P : Program} {ops : Array Oper} {Q : Exit → Act → World → Prop} {md : Region.Mode} {S : World → Prop} {R : World → World → Prop} {z : Nat}
def wpZ (P : Program) (md : Region.Mode) (ops : Array Oper) (Q : Exit → Act → World → Prop) (S : World → Prop) (R : World → World → Prop) (z : Nat) : Nat → Array Bool → Act → World → Prop
  | 0, listed, a, w => Region.ready md ops listed = [] ∧ ∀ w1, R w w1 → S w1 → Q .normal a w1
  | f + 1, listed, a, w => ∀ w1, R w w1 → S w1 → (Region.ready md ops listed = [] → Q .normal a w1) ∧
      ∀ i ∈ Region.ready md ops listed, wpOp P ops Q i (fun a' w' => if i = z then wpAny P md ops Q f (listed.setIfInBounds i true) a' w' else S w' ∧ wpZ P md ops Q S R z f (listed.setIfInBounds i true) a' w') a w1
theorem wpZ_mono (htr : ∀ x y z, R x y → R y z → R x z) : ∀ {f : Nat} {listed : Array Bool} {a : Act} {w w' : World}, wpZ P md ops Q S R z f listed a w → R w w' → wpZ P md ops Q S R z f listed a w'
  | 0, _, _, _, _, h, hr => ⟨h.1, fun w1 h1 h2 => h.2 w1 (htr _ _ _ hr h1) h2⟩
  | _ + 1, _, _, _, _, h, hr => fun w1 h1 h2 => h w1 (htr _ _ _ hr h1) h2
theorem wpAny_of_z (hrefl : ∀ w, R w w) : ∀ (f : Nat) (listed : Array Bool) (a : Act) (w : World), S w → wpZ P md ops Q S R z f listed a w → wpAny P md ops Q f listed a w
  | 0, _, _, w, hS, h => ⟨h.1, h.2 w (hrefl w) hS⟩
  | f + 1, _, _, w, hS, h => ⟨(h w (hrefl w) hS).1, fun i hi => wpOp_mono (fun a' w' h' => by
      by_cases e : i = z
      · rw [if_pos e] at h'; exact h'
      · rw [if_neg e] at h'; exact wpAny_of_z hrefl f _ a' w' h'.1 h'.2) ((h w (hrefl w) hS).2 i hi)⟩
theorem wpZ_first (hrefl : ∀ w, R w w) (htr : ∀ x y z, R x y → R y z → R x z) {i : Nat} {oi oz : Oper} {v : Value} (hi : ops[i]? = some oi) (hz : ops[z]? = some oz) (haz : ∃ e ∈ oz.after, Region.binds md e = true ∧ e.on = i) (hiz : i ≠ z)
    (hsel : ∀ (j : Nat) (o : Oper) cs b, ops[j]? = some o → o.op ≠ .select cs b)
    (hQ : ∀ c a w, Q (.panic c) (a.put oi.dst v) w → Q (.panic c) a w) :
    ∀ (f : Nat) (listed : Array Bool) (a : Act) (w : World),
      (∀ j oj, ops[j]? = some oj → j ≠ i → listed.getD j true = false → (∀ e ∈ oj.after, Region.binds md e = true → e.on ≠ i) → oi.apart ops oj = true) →
      i ∈ Region.ready md ops listed → YieldsR P ops S R oi v a →
      wpZ P md ops Q S R z f (listed.setIfInBounds i true) (a.put oi.dst v) w → wpZ P md ops Q S R z (f + 1) listed a w := by
  intro f
  induction f with
  | zero =>
    intro listed a w _ hr hy H w1 hR hS
    refine ⟨fun h => (by rw [h] at hr; cases hr), fun j hj => ?_⟩
    by_cases hji : j = i
    · subst hji
      refine hy.wpOp hi hrefl hS fun w2 h1 h2 => ?_
      rw [if_neg hiz]
      exact ⟨h1, wpZ_mono htr H (htr _ _ _ hR h2)⟩
    · have := ready_mono hj hji
      rw [H.1] at this
      cases this
  | succ f ih =>
    intro listed a w hfree hr hy H w1 hR hS
    refine ⟨fun h => (by rw [h] at hr; cases hr), fun j hj => ?_⟩
    by_cases hji : j = i
    · subst hji
      refine hy.wpOp hi hrefl hS fun w2 h1 h2 => ?_
      rw [if_neg hiz]
      exact ⟨h1, wpZ_mono htr H (htr _ _ _ hR h2)⟩
    · have h1 := (H w1 hR hS).2 j (ready_mono hj hji)
      obtain ⟨hjun, oj, hoj, hall⟩ := mem_ready.1 hj
      have hnot : ∀ e ∈ oj.after, Region.binds md e = true → e.on ≠ i := fun e he hb heq => by
        have h2 := hall e he hb
        have h0 := (mem_ready.1 hr).1
        rw [heq] at h2
        rcases Nat.lt_or_ge i listed.size with h' | h'
        · simp [h'] at h0 h2; rw [h0] at h2; cases h2
        · simp [Array.getElem?_eq_none h'] at h2
      have hjz : j ≠ z := fun e => by
        rw [e, hz] at hoj
        cases hoj
        obtain ⟨x, hx, hb, hon⟩ := haz
        exact hnot x hx hb hon
      simp only [if_neg hjz] at h1
      have hap := hfree j oj hoj hji hjun hnot
      obtain ⟨_, _, h3⟩ := Oper.apart_spec hap
      have triv : YieldsIf P ops (fun _ => False) oi v a := by
        rcases hy with ⟨hw, _⟩ | ⟨hw, hv⟩
        · exact .inl ⟨hw, fun _ h => h.elim⟩
        · exact .inr ⟨hw, hv⟩
      have keep : ∀ (b : Act), YieldsR P ops S R oi v b → ∀ u, YieldsR P ops S R oi v (b.put oj.dst u) := fun b hb u =>
        hb.of_same (execOp_put oi (fun cs c => hsel i oi cs c hi) b oj.dst u h3) (wanted_put oi b oj.dst u h3)
      have h2 := wpOp_putIf hoj hap (fun cs b => hsel i oi cs b hi) (fun cs b => hsel j oj cs b hoj) hQ triv h1
      have h4 := wpOp_tag hoj (YieldsR P ops S R oi v) (fun u => keep a hy u) (fun d u => keep { a with defers := d :: a.defers } (hy.of_same rfl rfl) u) h2
      have hfree' : ∀ k ok, ops[k]? = some ok → k ≠ i → (listed.setIfInBounds j true).getD k true = false →
          (∀ e ∈ ok.after, Region.binds md e = true → e.on ≠ i) → oi.apart ops ok = true := fun k ok hk hki hun hno => by
        refine hfree k ok hk hki ?_ hno
        by_cases hjk : j = k
        · subst hjk; exact hjun
        · rw [getD_set_ne true hjk] at hun; exact hun
      refine wpOp_mono (fun a' w' h5 => ?_) h4
      rw [if_neg hjz]
      refine ⟨h5.2.2.1, ih (listed.setIfInBounds j true) a' w' hfree' (ready_mono hr (Ne.symm hji)) h5.1 ?_⟩
      rw [Array.setIfInBounds_comm _ _ hji]
      exact h5.2.2.2
/-- Whether an operation waits for another. -/
def waits (md : Region.Mode) (ops : Array Oper) (z i : Nat) : Bool := match ops[z]? with
  | some o => o.after.toList.any fun e => Region.binds md e && (e.on == i)
  | none => false
/-- One operation first. -/
theorem wpZ_take (hrefl : ∀ w, R w w) (htr : ∀ x y z, R x y → R y z → R x z) {i : Nat} {oi : Oper} {v : Value} {f : Nat} {listed : Array Bool} {a : Act} {w : World} (hi : ops[i]? = some oi)
    (hz : waits md ops z i = true) (hiz : i ≠ z) (hs : Region.noSelect ops = true) (hf : Region.free md ops listed i = true) (hr : (Region.ready md ops listed).contains i = true)
    (hQ : ∀ c a w, Q (.panic c) (a.put oi.dst v) w → Q (.panic c) a w) (hy : YieldsR P ops S R oi v a)
    (h : wpZ P md ops Q S R z f (listed.setIfInBounds i true) (a.put oi.dst v) w) : wpZ P md ops Q S R z (f + 1) listed a w := by
  unfold waits at hz
  cases ho : ops[z]? with
  | none => rw [ho] at hz; cases hz
  | some oz =>
    rw [ho] at hz
    obtain ⟨e, he, hb⟩ := List.any_eq_true.1 hz
    rw [Bool.and_eq_true] at hb
    exact wpZ_first hrefl htr hi ho ⟨e, by simpa using he, hb.1, by simpa using hb.2⟩ hiz (Region.noSelect_spec hs) hQ f listed a w (Region.free_spec hi hf) (by simpa using hr) hy h
/-- z, the only one that is left. -/
theorem wpZ_last {oz : Oper} {listed : Array Bool} {a : Act} {w : World} (hz : ops[z]? = some oz) (hr : Region.ready md ops listed = [z]) (hr2 : Region.ready md ops (listed.setIfInBounds z true) = [])
    (h : ∀ w1, R w w1 → S w1 → ∀ K' : Act → World → Prop, (∀ a' w', Q .normal a' w' → K' a' w') →
      if Region.wanted oz (yielded ops a.tmps) = true then Oper.wp P oz a w1 K' Q else K' (a.put oz.dst undef) w1) : wpZ P md ops Q S R z 1 listed a w := by
  intro w1 hR hS
  refine ⟨fun h0 => (by rw [hr] at h0; cases h0), fun j hj => ?_⟩
  rw [hr] at hj
  have hji : j = z := by simpa using hj
  subst hji
  exact wpOp_step hz (fun K' hK => h w1 hR hS K' fun a' w' hq => hK a' w' (by rw [if_pos rfl]; exact ⟨hr2, hq⟩))
/-- The region, by this law. -/
theorem wp_region_z (hrefl : ∀ w, R w w) {id : Nat} {a : Act} {w : World} (hm : P.follows .mixedOrders = true) (hS : S { w with drawn := w.drawn + 1 })
    (h : wpZ P .any ops Q S R z ops.size (Array.replicate ops.size false) a { w with drawn := w.drawn + 1 }) : (Code.region id ops true).wp P Q a w :=
  wp_region_any hm (wpAny_of_z hrefl _ _ _ _ hS h)
end
end Go.Proofs.Ytchpincoddghfaa
set_option maxRecDepth 100000
set_option linter.unusedVariables false
namespace Go.Proofs.Ytchpincoddghfaa
set_option maxRecDepth 100000
open Go Go.RowKit
theorem flCells_append (L M : List F16) : flCells (L ++ M) = flCells L ++ flCells M := by simp [flCells]
theorem info_file : (Try.prog.info? 65).map (fun i => (i.zero, i.size, i.bytes)) = some (some (.agg #[.int .i64 0, .string ByteArray.empty, .int .i64 0]), 3, 32) := by kernel_rfl
/-- The place of a number that was found. -/
theorem at16_here {l : List F16} {n i : Nat} {f : F16} (h : l.Pairwise fun a b => a.num < b.num) (hi : l[i]? = some f) (hb : ∀ g ∈ l.take i, g.num < n) (hf : n ≤ f.num) : at16 l n = i ∧ has16 l n = (f.num == n) := by
  have hl := (List.getElem?_eq_some_iff.1 hi).1
  have e : l = l.take i ++ f :: l.drop (i + 1) := by
    rw [← List.getElem?_eq_some_iff.1 hi |>.2, List.getElem_cons_drop, List.take_append_drop]
  constructor
  · unfold at16
    rw [e, List.takeWhile_append_of_pos (fun g hg => by simpa using hb g hg), List.takeWhile_cons, if_neg (by simp; omega), List.append_nil, List.length_take]
    omega
  · cases hfn : (f.num == n) with
    | true => exact has16_iff.2 ⟨f, List.mem_of_getElem? hi, by simpa using hfn⟩
    | false =>
      have hfn : f.num ≠ n := by simpa using hfn
      cases hh : has16 l n with
      | false => rfl
      | true =>
        obtain ⟨g, hg, hgn⟩ := has16_iff.1 hh
        rw [e] at hg h
        rw [List.pairwise_append] at h
        rcases List.mem_append.1 hg with hg | hg
        · have := hb g hg; omega
        · rcases List.mem_cons.1 hg with rfl | hg
          · exact absurd hgn hfn
          · have := (List.pairwise_cons.1 h.2.1).1 g hg; omega
theorem at16_end {l : List F16} {n : Nat} (hb : ∀ g ∈ l, g.num < n) : at16 l n = l.length ∧ has16 l n = false := by
  constructor
  · unfold at16
    have h := List.takeWhile_append_of_pos (p := fun f : F16 => decide (f.num < n)) (l₁ := l) (l₂ := []) (fun g hg => by simpa using hb g hg)
    rw [List.append_nil] at h
    rw [h]; simp
  · cases hh : has16 l n with
    | false => rfl
    | true =>
      obtain ⟨g, hg, hgn⟩ := has16_iff.1 hh
      have := hb g hg; omega
end Go.Proofs.Ytchpincoddghfaa
set_option maxRecDepth 100000
set_option linter.unusedVariables false
namespace Go.Proofs.Ytchpincoddghfaa
set_option maxRecDepth 100000
open Go Go.RowKit
theorem Is.cells5 {w : World} {b : Nat} {t : TypeId} {v : Value} {x y z : Int} {d : Bool} (h : Is w b t #[v, .int .i64 x, .int .i64 y, .bool d, .int .i64 z]) : w.cell? ⟨b, 0, none⟩ = some v ∧ w.cell? ⟨b, 1, none⟩ = some (.int .i64 x) ∧ w.cell? ⟨b, 2, none⟩ = some (.int .i64 y) ∧ w.cell? ⟨b, 3, none⟩ = some (.bool d) ∧ w.cell? ⟨b, 4, none⟩ = some (.int .i64 z) ∧ b < w.heap.size :=
  ⟨h.cell 0, h.cell 1, h.cell 2, h.cell 3, h.cell 4, h.lt⟩
set_option maxHeartbeats 1000000 in
theorem ewrong16_any (w : World) {b : Nat} {S : List Nat} {σ : D16} (h : RD w b S σ) (n : Int) :
    Calls Try.prog 36 #[.pointer (some ⟨b, 0, none⟩), .int .i64 n] w fun e w' => e = .returned (.int .i64 (wrong16 σ n)) ∧ w = w' := by
  obtain ⟨v, hI, hO, hg⟩ := h.row
  obtain ⟨c0, c1, c2, c3, c4, hb⟩ := hI.cells5
  obtain ⟨d, hd⟩ : ∃ d, d = σ.dead := ⟨_, rfl⟩
  have HW : Hid (wrong16 σ n = if d then 50 else if n < 0 ∨ 65535 < n then 1 else 0) := Lib.hid (by unfold wrong16; rw [hd])
  rw [← hd] at c3
  clear hI hO hg h hd
  cases d with
  | true =>
    go_enter Try.func36, Try.ntmps36
    go_wp2
    go_ret
    exact ⟨by rw [HW.out]; rfl, rfl⟩
  | false =>
    by_cases h1 : n < 0
    · have HX : Hid (wrong16 σ n = 1) := Lib.hid (by rw [HW.out]; simp [h1])
      go_enter Try.func36, Try.ntmps36
      go_wp2
      go_ret
      exact ⟨by rw [HX.out]; rfl, rfl⟩
    · by_cases h2 : 65535 < n
      · have HX : Hid (wrong16 σ n = 1) := Lib.hid (by rw [HW.out]; simp [h2])
        go_enter Try.func36, Try.ntmps36
        go_wp2
        go_ret
        exact ⟨by rw [HX.out]; rfl, rfl⟩
      · have HX : Hid (wrong16 σ n = 0) := Lib.hid (by rw [HW.out]; simp [h1, h2])
        go_enter Try.func36, Try.ntmps36
        go_wp2
        go_ret
        exact ⟨by rw [HX.out]; rfl, rfl⟩
set_option maxHeartbeats 1000000 in
theorem edead16_any (w : World) {b : Nat} {S : List Nat} {σ : D16} (h : RD w b S σ) :
    Calls Try.prog 31 #[.pointer (some ⟨b, 0, none⟩)] w fun e w' => e = .returned (.bool σ.dead) ∧ w = w' := by
  obtain ⟨v, hI, hO, hg⟩ := h.row
  obtain ⟨c0, c1, c2, c3, c4, hb⟩ := hI.cells5
  clear hI hO hg h
  go_enter Try.func31, Try.ntmps31
  go_wp2
  go_ret
  exact ⟨rfl, rfl⟩
set_option maxHeartbeats 1000000 in
theorem esteps16_any (w : World) {b : Nat} {S : List Nat} {σ : D16} (h : RD w b S σ) :
    Calls Try.prog 33 #[.pointer (some ⟨b, 0, none⟩)] w fun e w' => e = .returned (.int .i64 (σ.steps : Nat)) ∧ w = w' := by
  obtain ⟨v, hI, hO, hg⟩ := h.row
  obtain ⟨c0, c1, c2, c3, c4, hb⟩ := hI.cells5
  clear hI hO hg h
  go_enter Try.func33, Try.ntmps33
  go_wp2
  go_ret
  exact ⟨rfl, rfl⟩
set_option maxHeartbeats 1000000 in
theorem estep16_any (w : World) {b : Nat} {S : List Nat} {σ : D16} (h : RD w b S σ) (hd : σ.dead = false) (hs : σ.steps < 900000000000000) (ha : σ.armed ≤ 9223372036854775807) :
    Calls Try.prog 38 #[.pointer (some ⟨b, 0, none⟩)] w fun e w' => e = .returned (.bool (!(step16 σ).dead)) ∧ RD w' b S (step16 σ) ∧ But [b] w w' := by
  obtain ⟨v, hI, hO, hg⟩ := h.row
  obtain ⟨k, hk⟩ : ∃ d, d = σ.armed := ⟨_, rfl⟩
  obtain ⟨s, hss⟩ : ∃ d, d = σ.steps := ⟨_, rfl⟩
  obtain ⟨lm, hlm⟩ : ∃ d, d = σ.limit := ⟨_, rfl⟩
  have HST : Hid (step16 σ = ⟨σ.l, lm, k - 1, k == 1, s + 1⟩) := Lib.hid (by unfold step16; rw [hd, hk, hss, hlm]; simp)
  have HW : Hid (∀ w', But [b] w w' → (∀ v, Is w b 57 #[v, .int .i64 (lm : Nat), .int .i64 (k : Nat), .bool false, .int .i64 (s : Nat)] → Is w' b 57 #[v, .int .i64 (lm : Nat), .int .i64 ((k - 1 : Nat) : Int), .bool (k == 1), .int .i64 ((s + 1 : Nat) : Int)]) → RD w' b S (step16 σ)) := Lib.hid fun w' hB hi =>
    h.with rfl rfl hB fun v hv => by
      rw [hd, ← hk, ← hss, ← hlm] at hv
      have := hi v hv
      rw [HST.out]
      exact this
  rw [hd, ← hk, ← hss, ← hlm] at hI
  rw [← hss] at hs
  rw [← hk] at ha
  obtain ⟨c0, c1, c2, c3, c4, hb⟩ := hI.cells5
  have f2 := hI.free 2
  have f3 := hI.free 3
  have f4 := hI.free 4
  have e1 : (s : Int) + 1 = ((s + 1 : Nat) : Int) := by omega
  have v1 := wrapI_in (show s + 1 < 1000000000000000 by omega)
  have HR : Hid ((step16 σ).dead = (k == 1)) := Lib.hid (by rw [HST.out])
  rw [HR.out]
  obtain ⟨s1, hs1⟩ : ∃ x, x = s + 1 := ⟨_, rfl⟩
  rw [← hs1] at e1 v1 HW
  have H1 := Lib.hid hs1
  clear hI hO hg h hd hk hss hlm HST HR hs1
  by_cases h0 : k = 0
  · subst h0
    have HF : Hid (RD (w.setCell ⟨b, 4, none⟩ (.int .i64 (s1 : Nat))) b S (step16 σ) ∧ But [b] w (w.setCell ⟨b, 4, none⟩ (.int .i64 (s1 : Nat)))) := Lib.hid ⟨HW.out _ ((But.refl [b] w).setCell (.inl (by simp)) _) (fun v hv => hv.put 4 _), (But.refl [b] w).setCell (.inl (by simp)) _⟩
    go_enter Try.func38, Try.ntmps38
    go_wp2
    go_ret
    exact ⟨rfl, HF.out⟩
  · have c5 : (0 : Int) < (k : Int) := by omega
    obtain ⟨k1, hk1⟩ : ∃ x, x = k - 1 := ⟨_, rfl⟩
    have e2 : (k : Int) - 1 = (k1 : Int) := by omega
    have v2 : IntKind.i64.wrap (k1 : Int) = (k1 : Int) := by rw [IntKind.wrap_i64]; omega
    obtain ⟨r, hr⟩ : ∃ r : Bool, r = (k == 1) := ⟨_, rfl⟩
    have e3 : decide ((k1 : Int) = 0) = r := by
      rw [hr, Bool.eq_iff_iff, decide_eq_true_iff, beq_iff_eq]; omega
    have e4 : ((k1 : Int) == 0) = r := by
      rw [hr, Bool.eq_iff_iff, beq_iff_eq, beq_iff_eq]; omega
    rw [← hk1, ← hr] at HW
    rw [← hr]
    have HF : Hid (∀ V, V = ((w.setCell ⟨b, 4, none⟩ (.int .i64 (s1 : Nat))).setCell ⟨b, 2, none⟩ (.int .i64 (k1 : Nat))).setCell ⟨b, 3, none⟩ (.bool r) → RD V b S (step16 σ) ∧ But [b] w V) := Lib.hid fun V hV => by
      have hB : But [b] w V := by rw [hV]; exact (((But.refl [b] w).setCell (p := ⟨b, 4, none⟩) (.inl (by simp)) _).setCell (p := ⟨b, 2, none⟩) (.inl (by simp)) _).setCell (p := ⟨b, 3, none⟩) (.inl (by simp)) _
      exact ⟨HW.out _ hB fun v hv => by rw [hV]; exact ((hv.put 4 _).put 2 _).put 3 _, hB⟩
    clear hk1 hr
    go_enter Try.func38, Try.ntmps38
    go_wp2
    go_ret
    exact ⟨rfl, HF.out _ rfl⟩
set_option maxHeartbeats 1000000 in
theorem esize16_any (w : World) {b : Nat} {S : List Nat} {σ : D16} (h : RD w b S σ) :
    Calls Try.prog 29 #[.pointer (some ⟨b, 0, none⟩)] w fun e w' => e = .returned (.int .i64 (size16 σ.l : Nat)) ∧ But [] w w' := by
  obtain ⟨v, hI, hO, hg⟩ := h.row
  have hsz : size16 σ.l ≤ 16777216 := Nat.le_trans h.ok.size h.ok.lim
  have hfew := h.ok.few
  obtain ⟨L, hL⟩ : ∃ L, L = σ.l := ⟨_, rfl⟩
  rw [← hL] at hO hsz hfew ⊢
  have HT : Hid (∀ k f, L[k]? = some f → size16 (L.take (k + 1)) = size16 (L.take k) + f.data.length ∧ size16 (L.take (k + 1)) ≤ size16 L) := Lib.hid fun k f hf => by
    refine ⟨?_, size16_sub (List.take_sublist _ _)⟩
    rw [List.take_add_one, hf, size16_append]; simp [size16]
  have HE : Hid (size16 (L.take L.length) = size16 L) := Lib.hid (by rw [List.take_length])
  obtain ⟨T, hT⟩ : ∃ T, T = size16 L := ⟨_, rfl⟩
  rw [← hT] at HE HT hsz ⊢
  obtain ⟨n, hn⟩ : ∃ n, n = L.length := ⟨_, rfl⟩
  have HC : Hid (∀ v', But [] w v' → ∃ A c, v = .slice A n c ∧ v'.cell? ⟨b, 0, none⟩ = some v ∧ b < v'.heap.size ∧ ∀ (i : Nat) (f : F16), L[i]? = some f → ∃ g, A = some ⟨g, 0, none⟩ ∧ g < v'.heap.size ∧ v'.cell? ⟨g, i * 3 + 1, none⟩ = some (.string (strL f.data))) := Lib.hid fun v' hv => by
    obtain ⟨A, c, e, _, _, hx⟩ := (hO.but hv (fun _ _ => by simp)).view
    have hi := hI.but hv (by simp)
    refine ⟨A, c, by rw [e, hn], hi.cell 0, hi.lt, fun i f hf => ?_⟩
    obtain ⟨g, e, hl, _, h2, _⟩ := hx i f hf
    exact ⟨g, e, hl, h2⟩
  rw [← hn] at HE hfew
  have HN := Lib.hid hn
  clear hI hO hg h hL hT hn
  obtain ⟨A, c, rfl, c0, hb, _⟩ := HC.out _ (But.refl [] _)
  go_enter Try.func29, Try.ntmps29
  go_wp2
  clear c0 hb
  go_loopw [3, 4] (fun nv iv wr => ∃ k m : Nat, k ≤ n ∧ nv = .int .i64 m ∧ iv = .int .i64 k ∧ Hid (m = size16 (L.take k)) ∧ Hid (But [] w wr)) (fun _ iv _ => n - (intOf iv).toNat)
  case atStart => exact ⟨0, 0, Nat.zero_le _, rfl, rfl, Lib.hid rfl, Lib.hid (But.refl [] _)⟩
  case round =>
    obtain ⟨k, m, hk, rfl, rfl, HM, HB⟩ := hrel
    obtain ⟨A', c', e', c0, hb, hx⟩ := HC.out _ HB.out
    by_cases hlt : k < n
    · obtain ⟨f, hf⟩ : ∃ f, L[k]? = some f := ⟨_, List.getElem?_eq_getElem (by rw [← HN.out]; exact hlt)⟩
      obtain ⟨g, rfl, hgl, k1⟩ := hx k f hf
      injection e' with e1 e2 e3
      subst e1 e3
      obtain ⟨z, hz⟩ : ∃ z, z = strL f.data := ⟨_, rfl⟩
      have hzs : z.size = f.data.length := by rw [hz, strL_size]
      rw [← hz] at k1
      have ht := HT.out k f hf
      have hm := HM.out
      obtain ⟨m1, hm1⟩ : ∃ x, x = m + z.size := ⟨_, rfl⟩
      have HM1 : Hid (m1 = size16 (L.take (k + 1))) := Lib.hid (by omega)
      have a1 : (m : Int) + (z.size : Int) = (m1 : Int) := by omega
      have v1 := wrapI_in (show m1 < 1000000000000000 by omega)
      have i0 : (0 : Int) ≤ (k : Int) := by omega
      have i1 : (k : Int) < (n : Int) := by omega
      clear hf hz hzs ht hm hm1 hx
      go_wp2
      go_roundw
      case rel => exact ⟨k + 1, m1, by omega, rfl, by go_num, HM1, HB⟩
      case measure => simp [intOf] <;> omega
    · obtain rfl : n = k := by omega
      have i1 : ¬ (n : Int) < (n : Int) := by omega
      injection e' with e1 e2 e3
      subst e1 e3
      go_wp2
      go_ret
      exact ⟨by rw [HM.out, HE.out]; rfl, HB.out⟩
end Go.Proofs.Ytchpincoddghfaa
set_option maxRecDepth 100000
set_option linter.unusedVariables false
namespace Go.Proofs.Ytchpincoddghfaa
set_option maxRecDepth 100000
open Go Go.RowKit
set_option maxHeartbeats 1000000 in
theorem eat16_any (w : World) {b : Nat} {S : List Nat} {σ : D16} (h : RD w b S σ) (n : Nat) (hn : n ≤ 65535) :
    Calls Try.prog 37 #[.pointer (some ⟨b, 0, none⟩), .int .i64 (n : Nat)] w fun e w' => e = .returned (.tuple #[.int .i64 (at16 σ.l n : Nat), .bool (has16 σ.l n)]) ∧ But [] w w' := by
  obtain ⟨v, hI, hO, hg⟩ := h.row
  have hfew := h.ok.few
  have hrise := h.ok.rise
  obtain ⟨L, hL⟩ : ∃ L, L = σ.l := ⟨_, rfl⟩
  rw [← hL] at hO hfew hrise ⊢
  obtain ⟨m, hm⟩ : ∃ m, m = L.length := ⟨_, rfl⟩
  have HH : Hid (∀ (k : Nat) (f : F16), L[k]? = some f → (∀ g ∈ L.take k, g.num < n) → n ≤ f.num → at16 L n = k ∧ has16 L n = (f.num == n)) := Lib.hid fun k f hf hb hl => at16_here hrise hf hb hl
  have HEnd : Hid ((∀ g ∈ L.take m, g.num < n) → at16 L n = m ∧ has16 L n = false) := Lib.hid fun hb => by
    rw [hm, List.take_length] at hb
    rw [hm]
    exact at16_end hb
  have HNx : Hid (∀ (k : Nat) (f : F16), L[k]? = some f → (∀ g ∈ L.take k, g.num < n) → f.num < n → ∀ g ∈ L.take (k + 1), g.num < n) := Lib.hid fun k f hf hb hl g hg => by
    rw [List.take_add_one, hf] at hg
    rcases List.mem_append.1 hg with hg | hg
    · exact hb g hg
    · have : g = f := by simpa using hg
      rw [this]; exact hl
  have HC : Hid (∀ v', But [] w v' → ∃ A c, v = .slice A m c ∧ v'.cell? ⟨b, 0, none⟩ = some v ∧ b < v'.heap.size ∧ ∀ (i : Nat) (f : F16), L[i]? = some f → ∃ g, A = some ⟨g, 0, none⟩ ∧ g < v'.heap.size ∧ v'.cell? ⟨g, i * 3, none⟩ = some (.int .i64 (f.num : Nat))) := Lib.hid fun v' hv => by
    obtain ⟨A, c, e, _, _, hx⟩ := (hO.but hv (fun _ _ => by simp)).view
    have hi := hI.but hv (by simp)
    refine ⟨A, c, by rw [e, hm], hi.cell 0, hi.lt, fun i f hf => ?_⟩
    obtain ⟨g, e, hl, h1, _⟩ := hx i f hf
    exact ⟨g, e, hl, h1⟩
  rw [← hm] at hfew
  have HN := Lib.hid hm
  obtain ⟨R1, hR1⟩ : ∃ x, x = at16 L n := ⟨_, rfl⟩
  obtain ⟨R2, hR2⟩ : ∃ x, x = has16 L n := ⟨_, rfl⟩
  rw [← hR1, ← hR2] at HH HEnd ⊢
  clear hI hO hg h hL hm hrise hR1 hR2
  obtain ⟨A, c, rfl, c0, hb, _⟩ := HC.out _ (But.refl [] _)
  go_enter Try.func37, Try.ntmps37
  go_wp2
  clear c0 hb
  go_loopw [6] (fun iv wr => ∃ k : Nat, k ≤ m ∧ iv = .int .i64 k ∧ Hid (∀ g ∈ L.take k, g.num < n) ∧ Hid (But [] w wr)) (fun iv _ => m - (intOf iv).toNat)
  case atStart => exact ⟨0, Nat.zero_le _, rfl, Lib.hid (fun g hg => by simp at hg), Lib.hid (But.refl [] _)⟩
  case round =>
    obtain ⟨k, hk, rfl, HP, HB⟩ := hrel
    obtain ⟨A', c', e', c0, hb, hx⟩ := HC.out _ HB.out
    injection e' with e1 e2 e3
    subst e1 e3
    by_cases hlt : k < m
    · obtain ⟨f, hf⟩ : ∃ f, L[k]? = some f := ⟨_, List.getElem?_eq_getElem (by rw [← HN.out]; exact hlt)⟩
      obtain ⟨g, rfl, hgl, k1⟩ := hx k f hf
      have HF := Lib.hid hf
      obtain ⟨z, hz⟩ : ∃ z, z = f.num := ⟨_, rfl⟩
      rw [← hz] at k1
      have HZ := Lib.hid hz
      have i0 : (0 : Int) ≤ (k : Int) := by omega
      have i1 : (k : Int) < (m : Int) := by omega
      clear hf hz hx
      by_cases hge : n ≤ z
      · have q1 : decide ((n : Int) ≤ (z : Int)) = true := by simp; omega
        have q2 : ((n : Int) ≤ (z : Int)) := by omega
        have HR := Lib.hid (HH.out k f HF.out HP.out (by rw [← HZ.out]; exact hge))
        obtain ⟨r, hr⟩ : ∃ r : Bool, r = (z == n) := ⟨_, rfl⟩
        have e3 : decide ((z : Int) = (n : Int)) = r := by
          rw [hr, Bool.eq_iff_iff, decide_eq_true_iff, beq_iff_eq]; omega
        have e4 : ((z : Int) == (n : Int)) = r := by
          rw [hr, Bool.eq_iff_iff, beq_iff_eq, beq_iff_eq]; omega
        have HR2 : Hid (R2 = r) := Lib.hid (by rw [HR.out.2, hr, HZ.out])
        clear hr
        go_wp2
        go_quiet (fail)
        have HBn : Hid (But [] w (wr.drewN nq)) := Lib.hid (HB.out.trans ((But.refl [] wr).drewN nq))
        go_wp2
        go_ret2
        exact ⟨by rw [HR.out.1, HR2.out]; rfl, HBn.out⟩
      · have q1 : decide ((n : Int) ≤ (z : Int)) = false := by simp; omega
        have q2 : ¬ ((n : Int) ≤ (z : Int)) := by omega
        have HP2 := Lib.hid (HNx.out k f HF.out HP.out (by rw [← HZ.out]; omega))
        go_wp2
        go_roundw
        case rel => exact ⟨k + 1, by omega, by go_num, HP2, HB⟩
        case measure => simp [intOf] <;> omega
    · obtain rfl : m = k := by omega
      have i1 : ¬ (m : Int) < (m : Int) := by omega
      have HR := Lib.hid (HEnd.out HP.out)
      go_wp2
      go_ret2
      exact ⟨by rw [HR.out.1, HR.out.2]; rfl, HB.out⟩
theorem get16_at {l : List F16} {n : Nat} (h : l.Pairwise fun a b => a.num < b.num) (hh : has16 l n = true) : ∃ f, l[at16 l n]? = some f ∧ f.num = n ∧ get16 l n = f.data := by
  obtain ⟨f, hf, hfn⟩ := has16_iff.1 hh
  obtain ⟨i, hi⟩ := List.mem_iff_getElem?.1 hf
  have hl := (List.getElem?_eq_some_iff.1 hi).1
  have e : l = l.take i ++ f :: l.drop (i + 1) := by
    rw [← List.getElem?_eq_some_iff.1 hi |>.2, List.getElem_cons_drop, List.take_append_drop]
  have hb : ∀ g ∈ l.take i, g.num < n := fun g hg => by
    rw [e, List.pairwise_append] at h
    have := h.2.2 g hg f (List.mem_cons_self ..)
    omega
  obtain ⟨h1, _⟩ := at16_here h hi hb (by omega)
  refine ⟨f, by rw [h1]; exact hi, hfn, ?_⟩
  unfold get16
  rw [List.find?_eq_some_iff_append.2 ⟨by simpa using hfn, l.take i, l.drop (i + 1), e, fun a ha => by
    have := hb a ha
    simp only [Bool.not_eq_true', beq_eq_false_iff_ne]
    omega⟩]
  rfl
end Go.Proofs.Ytchpincoddghfaa
set_option maxRecDepth 100000
set_option linter.unusedVariables false
namespace Go.Proofs.Ytchpincoddghfaa
set_option maxRecDepth 100000
open Go Go.RowKit
theorem get16_not {l : List F16} {n : Nat} (hh : has16 l n = false) : get16 l n = [] := by
  unfold get16
  rw [List.find?_eq_none.2 (fun f hf => by simpa using has16_not hh f hf)]
  rfl
set_option maxHeartbeats 1000000 in
theorem eread16_any (w : World) {b : Nat} {S : List Nat} {σ : D16} (h : RD w b S σ) (n : Int) :
    Calls Try.prog 24 #[.pointer (some ⟨b, 0, none⟩), .int .i64 n] w fun e w' => e = .returned (.tuple #[.string (strL (read16 σ n).1), .int .i64 (read16 σ n).2]) ∧ But [] w w' := by
  have HW := Lib.hid (ewrong16_any w h n)
  by_cases h0 : wrong16 σ n = 0
  · obtain ⟨hd, hn0, hn1⟩ := wrong16_ok h0
    obtain ⟨k, rfl⟩ : ∃ k : Nat, n = (k : Int) := ⟨n.toNat, by omega⟩
    have HA := Lib.hid (eat16_any w h k (by omega))
    have hr : read16 σ (k : Int) = (get16 σ.l k, 0) := by unfold read16; rw [if_neg (fun e => e h0), Int.toNat_natCast]
    rw [hr]
    obtain ⟨i, hi⟩ : ∃ i, i = at16 σ.l k := ⟨_, rfl⟩
    rw [h0] at HW
    rw [← hi] at HA
    cases hh : has16 σ.l k with
    | false =>
      have HR : Hid (get16 σ.l k = []) := Lib.hid (get16_not hh)
      rw [hh] at HA
      rw [HR.out]
      clear hh hi hr h hd h0
      go_enter Try.func24, Try.ntmps24
      go_wp2_with fail
      refine HW.out.mono ?_
      rintro e wz ⟨rfl, rfl⟩
      go_wp2_with fail
      refine HA.out.mono ?_
      rintro e w1 ⟨rfl, hB1⟩
      have HB1 := Lib.hid hB1
      clear hB1
      go_wp2
      go_ret2
      exact ⟨rfl, HB1.out⟩
    | true =>
      obtain ⟨f, hf, hfn, hg⟩ := get16_at h.ok.rise hh
      rw [← hi] at hf
      rw [hh] at HA
      obtain ⟨v, hI, hO, hgg⟩ := h.row
      have HC : Hid (∀ v', But [] w v' → ∃ g c, v = .slice (some ⟨g, 0, none⟩) σ.l.length c ∧ v'.cell? ⟨b, 0, none⟩ = some v ∧ b < v'.heap.size ∧ g < v'.heap.size ∧ v'.cell? ⟨g, i * 3 + 1, none⟩ = some (.string (strL (get16 σ.l k)))) := Lib.hid fun v' hv => by
        obtain ⟨A, c, e, _, _, hx⟩ := (hO.but hv (fun _ _ => by simp)).view
        have hi := hI.but hv (by simp)
        obtain ⟨g, e', hl, _, h2, _⟩ := hx i f hf
        exact ⟨g, c, by rw [e, e'], hi.cell 0, hi.lt, hl, by rw [hg]; exact h2⟩
      have hlt : i < σ.l.length := (List.getElem?_eq_some_iff.1 hf).1
      have hfew := h.ok.few
      obtain ⟨m, hm⟩ : ∃ m, m = σ.l.length := ⟨_, rfl⟩
      rw [← hm] at HC hlt hfew
      obtain ⟨z, hz⟩ : ∃ z, z = strL (get16 σ.l k) := ⟨_, rfl⟩
      rw [← hz] at HC ⊢
      have i0 : (0 : Int) ≤ (i : Int) := by omega
      have i1 : (i : Int) < (m : Int) := by omega
      clear hh hi hr h hd h0 hI hO hgg hf hg hfn hm hz
      go_enter Try.func24, Try.ntmps24
      go_wp2_with fail
      refine HW.out.mono ?_
      rintro e wz ⟨rfl, rfl⟩
      go_wp2_with fail
      refine HA.out.mono ?_
      rintro e w1 ⟨rfl, hB1⟩
      have HB1 := Lib.hid hB1
      clear hB1
      obtain ⟨g, c, rfl, c0, hb, hgl, c1⟩ := HC.out _ HB1.out
      go_wp2
      go_ret2
      exact ⟨rfl, HB1.out⟩
  · have HR : Hid (read16 σ n = ([], wrong16 σ n)) := Lib.hid (by unfold read16; rw [if_pos h0])
    rw [HR.out]
    obtain ⟨r, hr⟩ : ∃ r, r = wrong16 σ n := ⟨_, rfl⟩
    rw [← hr] at HW h0 ⊢
    have q1 : (r != 0) = true := by simpa using h0
    have q2 : (r = 0) = False := by simpa using h0
    clear hr h h0 HR
    go_enter Try.func24, Try.ntmps24
    go_wp2_with fail
    refine HW.out.mono ?_
    rintro e wz ⟨rfl, rfl⟩
    go_wp2
    go_ret2
    exact ⟨rfl, But.refl [] _⟩
set_option maxHeartbeats 1000000 in
theorem earm16_any (w : World) {b : Nat} {S : List Nat} {σ : D16} (h : RD w b S σ) (k : Int) :
    Calls Try.prog 20 #[.pointer (some ⟨b, 0, none⟩), .int .i64 k] w fun e w' => e = .returned (.tuple #[]) ∧ RD w' b S (arm16 σ k) ∧ But [b] w w' := by
  obtain ⟨v, hI, hO, hg⟩ := h.row
  obtain ⟨a, ha⟩ : ∃ a, a = k.toNat := ⟨_, rfl⟩
  have HF : Hid (RD (w.setCell ⟨b, 2, none⟩ (.int .i64 (a : Nat))) b S (arm16 σ k) ∧ But [b] w (w.setCell ⟨b, 2, none⟩ (.int .i64 (a : Nat)))) := Lib.hid ⟨h.with rfl rfl ((But.refl [b] w).setCell (.inl (by simp)) _) (fun v hv => by rw [ha]; exact hv.put 2 _), (But.refl [b] w).setCell (.inl (by simp)) _⟩
  have km : ∀ v, (Builtin.max_ #[3, 3] 3 #[.int .i64 k, .int .i64 0]).run Try.prog v = .ok (.int .i64 (a : Int)) v := fun v => by
    have e4 : (if k < 0 then 0 else k) = (a : Int) := by rw [ha]; split <;> omega
    rw [← e4]
    simp [Builtin.max_, Builtin.max2]
  obtain ⟨c0, c1, c2, c3, c4, hb⟩ := hI.cells5
  have f2 := hI.free 2
  clear hI hO hg h ha
  go_enter Try.func20, Try.ntmps20
  go_wp2
  go_returns
  exact ⟨rfl, HF.out⟩
set_option maxHeartbeats 1000000 in
theorem enew16_ok (w : World) {n : Nat} (h1 : 1 ≤ n) (h2 : n ≤ 16777216) :
    Calls Try.prog 8 #[.int .i64 (n : Nat)] w fun e w' => ∃ b, e = .returned (.tuple #[.pointer (some ⟨b, 0, none⟩), .int .i64 0]) ∧ RD w' b [b] (new16 n) ∧ But [] w w' ∧ w.heap.size ≤ b := by
  have i1 : ¬ (n : Int) < 1 := by omega
  have i2 : ¬ (16777216 : Int) < (n : Int) := by omega
  have hI := Is.fresh w 57 #[.slice none 0 0, .int .i64 (n : Nat), .int .i64 0, .bool false, .int .i64 0]
  have HF : Hid (RD (w.alloc (.cells #[.slice none 0 0, .int .i64 (n : Nat), .int .i64 0, .bool false, .int .i64 0] 57)) w.heap.size [w.heap.size] (new16 n) ∧ But [] w (w.alloc (.cells #[.slice none 0 0, .int .i64 (n : Nat), .int .i64 0, .bool false, .int .i64 0] 57))) :=
    Lib.hid ⟨⟨ok16_new h2, ⟨_, hI, OwnFl.nil _ _, fun g e => by simp [Value.ownBlock] at e⟩, by simp, fun x hx => by simp at hx; rw [hx]; exact hI.lt⟩, (But.refl [] w).alloc _⟩
  clear hI
  go_enter Try.func8, Try.ntmps8
  go_wp2
  go_ret2
  exact ⟨_, rfl, HF.out.1, HF.out.2, Nat.le_refl _⟩
set_option maxHeartbeats 1000000 in
theorem enew16_bad (w : World) {n : Int} (h : n < 1 ∨ 16777216 < n) :
    Calls Try.prog 8 #[.int .i64 n] w fun e w' => e = .returned (.tuple #[.pointer none, .int .i64 1]) ∧ w = w' := by
  by_cases i1 : n < 1
  · go_enter Try.func8, Try.ntmps8
    go_wp2
    go_ret2
    exact ⟨rfl, rfl⟩
  · have i2 : (16777216 : Int) < n := by omega
    go_enter Try.func8, Try.ntmps8
    go_wp2
    go_ret2
    exact ⟨rfl, rfl⟩
end Go.Proofs.Ytchpincoddghfaa
set_option maxRecDepth 100000
set_option linter.unusedVariables false
namespace Go.Proofs.Ytchpincoddghfaa
set_option maxRecDepth 100000
open Go Go.RowKit
/-- One that reads, ahead of the last. -/
theorem rz_q {P : Program} {ops : Array Oper} {Q : Exit → Act → World → Prop} {md : Region.Mode} {S : World → Prop} {z : Nat} (i : Nat) (v : Value) {oi : Oper} {f : Nat} {listed : Array Bool} {a : Act} {w : World}
    (hv : ∀ w, S w → (execOp a.eval oi).run P w = .ok (.value v) w)
    (h : wpZ P md ops Q S (fun v v' => But [] v v') z f (listed.setIfInBounds i true) (a.put oi.dst v) w)
    (hi : ops[i]? = some oi := by rfl) (hz : waits md ops z i = true := by kernel_rfl) (hiz : i ≠ z := by decide) (hs : Region.noSelect ops = true := by kernel_rfl) (hf : Region.free md ops listed i = true := by kernel_rfl)
    (hr : (Region.ready md ops listed).contains i = true := by kernel_rfl) (hw : Region.wanted oi (yielded ops a.tmps) = true := by first | kernel_rfl | go_simp)
    (hQ : ∀ c a w, Q (.panic c) (a.put oi.dst v) w → Q (.panic c) a w := by exact fun _ _ _ h => h) : wpZ P md ops Q S (fun v v' => But [] v v') z (f + 1) listed a w :=
  wpZ_take (fun w => But.refl [] w) (fun x y z h k => h.trans k) hi hz hiz hs hf hr hQ (YieldsR.read (fun w => But.refl [] w) hw hv) h
theorem rz_k {P : Program} {ops : Array Oper} {Q : Exit → Act → World → Prop} {md : Region.Mode} {S : World → Prop} {z : Nat} (i : Nat) (v : Value) {oi : Oper} {f : Nat} {listed : Array Bool} {a : Act} {w : World}
    (h : wpZ P md ops Q S (fun v v' => But [] v v') z f (listed.setIfInBounds i true) (a.put oi.dst v) w)
    (hi : ops[i]? = some oi := by rfl) (hz : waits md ops z i = true := by kernel_rfl) (hiz : i ≠ z := by decide) (hs : Region.noSelect ops = true := by kernel_rfl) (hf : Region.free md ops listed i = true := by kernel_rfl)
    (hr : (Region.ready md ops listed).contains i = true := by kernel_rfl) (hw : Region.wanted oi (yielded ops a.tmps) = true := by first | kernel_rfl | go_simp)
    (hv : ∀ w, S w → (execOp a.eval oi).run P w = .ok (.value v) w := by intro w hS; go_simp)
    (hQ : ∀ c a w, Q (.panic c) (a.put oi.dst v) w → Q (.panic c) a w := by exact fun _ _ _ h => h) : wpZ P md ops Q S (fun v v' => But [] v v') z (f + 1) listed a w :=
  rz_q i v hv h hi hz hiz hs hf hr hw hQ
/-- The only one that may come up, ahead of the last; it reads. -/
theorem rz_o {P : Program} {ops : Array Oper} {Q : Exit → Act → World → Prop} {md : Region.Mode} {S : World → Prop} {z : Nat} (i : Nat) (v : Value) {oi : Oper} {f : Nat} {listed : Array Bool} {a : Act} {w : World}
    (h : wpZ P md ops Q S (fun v v' => But [] v v') z f (listed.setIfInBounds i true) (a.put oi.dst v) w)
    (hi : ops[i]? = some oi := by rfl) (hiz : i ≠ z := by decide)
    (hr : Region.ready md ops listed = [i] := by kernel_rfl) (hw : Region.wanted oi (yielded ops a.tmps) = true := by first | kernel_rfl | go_simp)
    (hv : ∀ w, S w → (execOp a.eval oi).run P w = .ok (.value v) w := by intro w hS; go_simp) : wpZ P md ops Q S (fun v v' => But [] v v') z (f + 1) listed a w := by
  intro w1 hR hS
  refine ⟨fun h0 => (by rw [hr] at h0; cases h0), fun j hj => ?_⟩
  rw [hr] at hj
  have hji : j = i := by simpa using hj
  subst hji
  refine (YieldsR.read (fun w => But.refl [] w) hw hv : YieldsR P ops S (fun v v' => But [] v v') oi v a).wpOp hi (fun w => But.refl [] w) hS fun w2 h1 h2 => ?_
  rw [if_neg hiz]
  exact ⟨h1, wpZ_mono (fun x y z h k => h.trans k) h (hR.trans h2)⟩
end Go.Proofs.Ytchpincoddghfaa
set_option maxRecDepth 100000
set_option linter.unusedVariables false
namespace Go.Proofs.Ytchpincoddghfaa
set_option maxRecDepth 100000
open Go Go.RowKit
theorem map_set16 {l : List F16} {n i : Nat} {f : F16} (g : F16 → F16) (h : l.Pairwise fun a b => a.num < b.num) (hi : l[i]? = some f) (hn : f.num = n) : (l.map fun x => if x.num = n then g x else x) = l.set i (g f) := by
  have hl := (List.getElem?_eq_some_iff.1 hi).1
  have e : l = l.take i ++ f :: l.drop (i + 1) := by
    rw [← List.getElem?_eq_some_iff.1 hi |>.2, List.getElem_cons_drop, List.take_append_drop]
  have h2 := h
  rw [e, List.pairwise_append] at h2
  have hp := List.pairwise_cons.1 h2.2.1
  have e1 : (l.take i).map (fun x => if x.num = n then g x else x) = l.take i := by
    have : (l.take i).map (fun x => if x.num = n then g x else x) = (l.take i).map id := List.map_congr_left fun x hx => by
      have := h2.2.2 x hx f (List.mem_cons_self ..)
      rw [if_neg (by omega)]; rfl
    rw [this, List.map_id]
  have e2 : (l.drop (i + 1)).map (fun x => if x.num = n then g x else x) = l.drop (i + 1) := by
    have : (l.drop (i + 1)).map (fun x => if x.num = n then g x else x) = (l.drop (i + 1)).map id := List.map_congr_left fun x hx => by
      have := hp.1 x hx
      rw [if_neg (by omega)]; rfl
    rw [this, List.map_id]
  rw [List.set_eq_take_append_cons_drop, if_pos hl]
  conv => lhs; rw [e]
  rw [List.map_append, List.map_cons, e1, e2, if_pos hn]
theorem But.wideD {w w' : World} {S : List Nat} (h : But [] w w') : But S w w' := ⟨h.os, h.tape, h.output, h.size, fun x hx _ => h.block x hx (by simp)⟩
theorem But.intoD {w w' : World} {b : Nat} {S : List Nat} (h : But [b] w w') (hb : b ∈ S) : But S w w' := ⟨h.os, h.tape, h.output, h.size, fun x hx hn => h.block x hx (by simp; intro e; rw [e] at hn; exact hn hb)⟩
set_option maxHeartbeats 1000000 in
theorem esync16_any (w : World) {b : Nat} {S : List Nat} {σ : D16} (h : RD w b S σ) (hs : σ.steps < 900000000000000) (ha : σ.armed ≤ 9223372036854775807) (n : Int) :
    Calls Try.prog 14 #[.pointer (some ⟨b, 0, none⟩), .int .i64 n] w fun e w' => e = .returned (.int .i64 (syncs16 σ n).2) ∧ RD w' b S (syncs16 σ n).1 ∧ But S w w' := by
  have HW := Lib.hid (ewrong16_any w h n)
  have HH := Lib.hid h
  by_cases h0 : wrong16 σ n = 0
  · obtain ⟨hd, hn0, hn1⟩ := wrong16_ok h0
    obtain ⟨k, rfl⟩ : ∃ k : Nat, n = (k : Int) := ⟨n.toNat, by omega⟩
    have HST := Lib.hid (estep16_any w h hd hs ha)
    rw [h0] at HW
    obtain ⟨d, hdd⟩ : ∃ d, d = (step16 σ).dead := ⟨_, rfl⟩
    rw [← hdd] at HST
    cases d with
    | true =>
      have HR : Hid (syncs16 σ (k : Int) = (step16 σ, 50)) := Lib.hid (by unfold syncs16; rw [if_neg (fun e => e h0), if_pos hdd.symm])
      rw [HR.out]
      have HbS : Hid (∀ v', But [b] w v' → But S w v') := Lib.hid fun v' hv => ⟨hv.os, hv.tape, hv.output, hv.size, fun x hx hn => hv.block x hx (by simp; intro e; rw [e] at hn; exact hn h.mem)⟩
      clear HR hdd h hd h0
      go_enter Try.func14, Try.ntmps14
      go_wp2_with fail
      refine HW.out.mono ?_
      rintro e wz ⟨rfl, rfl⟩
      go_wp2_with fail
      refine HST.out.mono ?_
      rintro e w1 ⟨rfl, hD1, hB1⟩
      have HF := Lib.hid (show RD w1 b S (step16 σ) ∧ But S w w1 from ⟨hD1, HbS.out _ hB1⟩)
      clear hD1 hB1
      go_wp2
      go_ret
      exact ⟨rfl, HF.out⟩
    | false =>
      have hR0 : syncs16 σ (k : Int) = ({ step16 σ with l := sync16 σ.l k }, 0) := by unfold syncs16; rw [if_neg (fun e => e h0), if_neg (by rw [← hdd]; decide), Int.toNat_natCast]
      have hok := ok16_sync (n := (k : Int)) h.ok
      rw [hR0] at hok ⊢
      have HbS : Hid (∀ v', But [b] w v' → But S w v') := Lib.hid fun v' hv => ⟨hv.os, hv.tape, hv.output, hv.size, fun x hx hn => hv.block x hx (by simp; intro e; rw [e] at hn; exact hn h.mem)⟩
      have HA : Hid (∀ v, RD v b S (step16 σ) → Calls Try.prog 37 #[.pointer (some ⟨b, 0, none⟩), .int .i64 (k : Nat)] v fun e w' => e = .returned (.tuple #[.int .i64 (at16 σ.l k : Nat), .bool (has16 σ.l k)]) ∧ But [] v w') := Lib.hid fun v hv => eat16_any v hv k (by omega)
      obtain ⟨i, hi⟩ : ∃ i, i = at16 σ.l k := ⟨_, rfl⟩
      rw [← hi] at HA
      cases hh : has16 σ.l k with
      | false =>
        have HR : Hid (sync16 σ.l k = σ.l) := Lib.hid (by
          unfold sync16
          have : (σ.l.map fun f => if f.num = k then { f with syn := f.data.length } else f) = σ.l.map id := List.map_congr_left fun f hf => by
            rw [if_neg (has16_not hh f hf)]; rfl
          rw [this, List.map_id])
        have HST2 : Hid ({ step16 σ with l := σ.l } = step16 σ) := Lib.hid rfl
        rw [HR.out, HST2.out]
        rw [hh] at HA
        clear hdd h hd h0 hR0 hok HR hh hi HST2
        go_enter Try.func14, Try.ntmps14
        go_wp2_with fail
        refine HW.out.mono ?_
        rintro e wz ⟨rfl, rfl⟩
        go_wp2_with fail
        refine HST.out.mono ?_
        rintro e w1 ⟨rfl, hD1, hB1⟩
        have HF := Lib.hid (show RD w1 b S (step16 σ) ∧ But S w w1 from ⟨hD1, HbS.out _ hB1⟩)
        clear hD1 hB1
        go_wp2_with fail
        refine (HA.out _ HF.out.1).mono ?_
        rintro e w2 ⟨rfl, hB2⟩
        have HF2 := Lib.hid (show RD w2 b S (step16 σ) ∧ But S w w2 from ⟨HF.out.1.but hB2 (fun _ _ => by simp), HF.out.2.trans ⟨hB2.os, hB2.tape, hB2.output, hB2.size, fun x hx _ => hB2.block x hx (by simp)⟩⟩)
        clear hB2
        go_wp2
        go_ret
        exact ⟨rfl, HF2.out⟩
      | true =>
        obtain ⟨f, hf, hfn, hg⟩ := get16_at h.ok.rise hh
        rw [← hi] at hf
        rw [hh] at HA
        have hfew := h.ok.few
        have hlt : i < σ.l.length := (List.getElem?_eq_some_iff.1 hf).1
        have HPUT : Hid (∀ v g n c, RD v b S (step16 σ) → Is v b 57 #[.slice (some ⟨g, 0, none⟩) n c, .int .i64 (σ.limit : Nat), .int .i64 ((step16 σ).armed : Nat), .bool (step16 σ).dead, .int .i64 ((step16 σ).steps : Nat)] → RD (v.setCell ⟨g, i * 3 + 2, none⟩ (.int .i64 (f.data.length : Nat))) b S { step16 σ with l := sync16 σ.l k } ∧ But S v (v.setCell ⟨g, i * 3 + 2, none⟩ (.int .i64 (f.data.length : Nat)))) := Lib.hid fun v g n c hv hI => by
          have e : sync16 σ.l k = σ.l.set i { f with syn := f.data.length } := map_set16 (fun f => { f with syn := f.data.length }) h.ok.rise hf hfn
          exact hv.put hI (by show (sync16 σ.l k).length = σ.l.length; rw [e, List.length_set]) (by show (flCells σ.l).set _ _ = flCells (sync16 σ.l k); rw [e]; exact flCells_syn _ _ _ _ hf) rfl rfl rfl rfl hok
        have HC : Hid (∀ v, RD v b S (step16 σ) → ∃ g c, Is v b 57 #[.slice (some ⟨g, 0, none⟩) σ.l.length c, .int .i64 (σ.limit : Nat), .int .i64 ((step16 σ).armed : Nat), .bool (step16 σ).dead, .int .i64 ((step16 σ).steps : Nat)] ∧ g < v.heap.size ∧ v.cell? ⟨g, i * 3 + 1, none⟩ = some (.string (strL f.data)) ∧ ∀ v', But [] v v' → v'.cell? ⟨g, i * 3 + 2, none⟩ = some (.int .i64 (f.syn : Nat)) ∧ v'.frozen? ⟨g, i * 3 + 2, none⟩ = false ∧ g < v'.heap.size) := Lib.hid fun v hv => by
          obtain ⟨u, hI, hO, _⟩ := hv.row
          obtain ⟨A, c, e, _, _, hx⟩ := hO.view
          obtain ⟨g, e', hl, _, h2, _⟩ := hx i f hf
          rw [e, e'] at hI hO
          exact ⟨g, c, hI, hl, h2, fun v' hv' => by
            have hO' := hO.but hv' (fun _ _ => by simp)
            exact ⟨(hO'.at hf).2.2.1, (hO'.at hf).2.2.2.2, Nat.lt_of_lt_of_le hl hv'.size⟩⟩
        obtain ⟨m, hm⟩ : ∃ m, m = σ.l.length := ⟨_, rfl⟩
        rw [← hm] at HC hlt hfew
        obtain ⟨z, hz⟩ : ∃ z, z = strL f.data := ⟨_, rfl⟩
        have hzl : z.size = f.data.length := by rw [hz, strL_size]
        rw [← hz] at HC
        rw [← hzl] at HPUT
        have i0 : (0 : Int) ≤ (i : Int) := by omega
        have i1 : (i : Int) < (m : Int) := by omega
        clear hdd h hd h0 hR0 hok hh hi hf hfn hg hm hz hzl
        go_enter Try.func14, Try.ntmps14
        go_wp2_with fail
        refine HW.out.mono ?_
        rintro e wz ⟨rfl, rfl⟩
        go_wp2_with fail
        refine HST.out.mono ?_
        rintro e w1 ⟨rfl, hD1, hB1⟩
        have HF := Lib.hid (show RD w1 b S (step16 σ) ∧ But S w w1 from ⟨hD1, HbS.out _ hB1⟩)
        clear hD1 hB1
        go_wp2_with fail
        refine (HA.out _ HF.out.1).mono ?_
        rintro e w2 ⟨rfl, hB2⟩
        have HF2 := Lib.hid (show RD w2 b S (step16 σ) ∧ But S w w2 from ⟨HF.out.1.but hB2 (fun _ _ => by simp), HF.out.2.trans ⟨hB2.os, hB2.tape, hB2.output, hB2.size, fun x hx _ => hB2.block x hx (by simp)⟩⟩)
        clear hB2
        go_upto_region 8 with (fail)
        obtain ⟨g, c, hI, hgl, k1, f2⟩ := HC.out _ HF2.out.1
        have HI := Lib.hid hI
        have HK1 := Lib.hid k1
        have HG := Lib.hid hgl
        have HF3 := Lib.hid f2
        clear hI k1 hgl f2
        refine wp_region_z (z := 16) (S := fun v => But [] w2 v) (R := fun v v' => But [] v v') (fun w => But.refl [] w) (by kernel_rfl) (But.refl [] w2).drew ?_
        refine rz_k 0 (.pointer (some ⟨b, 0, none⟩)) ?_
        refine rz_k 1 (.pointer (some ⟨b, 0, none⟩)) ?_
        refine rz_k 2 (.pointer (some ⟨b, 0, none⟩)) ?_
        refine rz_q 3 (.slice (some ⟨g, 0, none⟩) m c) (fun W hS => ?_) ?_
        · have y := (HI.out.but hS (by simp)).cell 0; go_simp
        refine rz_k 4 (.int .i64 (i : Int)) ?_
        refine rz_k 5 (.pointer (some ⟨b, 0, none⟩)) ?_
        refine rz_k 6 (.pointer (some ⟨b, 0, none⟩)) ?_
        refine rz_k 7 (.pointer (some ⟨b, 0, none⟩)) ?_
        refine rz_q 8 (.slice (some ⟨g, 0, none⟩) m c) (fun W hS => ?_) ?_
        · have y := (HI.out.but hS (by simp)).cell 0; go_simp
        refine rz_k 9 (.int .i64 (i : Int)) ?_
        refine rz_k 10 (.pointer (some ⟨g, i * 3, none⟩)) ?_
        refine rz_k 11 (.pointer (some ⟨g, i * 3 + 1, none⟩)) ?_
        refine rz_q 12 (.string z) (fun W hS => ?_) ?_
        · have y := hS.cell HK1.out (by simp); go_simp
        refine rz_k 13 (.int .i64 (z.size : Int)) ?_
        refine rz_o 14 (.pointer (some ⟨g, i * 3, none⟩)) ?_
        refine rz_o 15 (.pointer (some ⟨g, i * 3 + 2, none⟩)) ?_
        refine wpZ_last rfl (by kernel_rfl) (by kernel_rfl) fun w3 hR3 hS3 K' hK => ?_
        have y1 := (HF3.out w3 hS3).1
        have y2 := (HF3.out w3 hS3).2.1
        have y3 := (HF3.out w3 hS3).2.2
        have hF := HPUT.out w3 g m c (HF2.out.1.but hS3 (fun _ _ => by simp)) (HI.out.but hS3 (by simp))
        have HF4 := Lib.hid (show RD (w3.setCell ⟨g, i * 3 + 2, none⟩ (.int .i64 (z.size : Nat))) b S { step16 σ with l := sync16 σ.l k } ∧ But S w (w3.setCell ⟨g, i * 3 + 2, none⟩ (.int .i64 (z.size : Nat))) from ⟨hF.1, (HF2.out.2.trans ⟨hS3.os, hS3.tape, hS3.output, hS3.size, fun x hx _ => hS3.block x hx (by simp)⟩).trans hF.2⟩)
        clear hF hR3 hS3
        go_simp
        refine hK _ _ ?_
        clear hK
        go_simp
        go_wp2
        go_ret
        exact ⟨rfl, HF4.out⟩
  · have HR : Hid (syncs16 σ n = (σ, wrong16 σ n)) := Lib.hid (by unfold syncs16; rw [if_pos h0])
    rw [HR.out]
    obtain ⟨r, hr⟩ : ∃ r, r = wrong16 σ n := ⟨_, rfl⟩
    rw [← hr] at HW h0 ⊢
    have q1 : (r != 0) = true := by simpa using h0
    have q2 : (r = 0) = False := by simpa using h0
    clear hr h h0 HR
    go_enter Try.func14, Try.ntmps14
    go_wp2_with fail
    refine HW.out.mono ?_
    rintro e wz ⟨rfl, rfl⟩
    go_wp2
    go_ret
    exact ⟨rfl, HH.out, But.refl S _⟩
end Go.Proofs.Ytchpincoddghfaa
