/- Several texts in one: Range, Backward, Count, CountW, LimitW, AwakeH, LawD (what Unwraps, Wraps reach of them). -/
import Derived.Test.YtghegmbafbpnjaaGreatDoorPm01
import Derived.Test.YtghegmbafbpnjaaGreatDoorPm02
import Derived.Test.YtghegmbafbpnjaaGreatDoorPm03
import Derived.Test.YtghegmbafbpnjaaGreatDoorPm04
import Derived.Test.YtghegmbafbpnjaaGreatDoorPm05
import Derived.Test.YtghegmbafbpnjaaGreatDoorPm06
import Derived.Below
import Derived.BigQuiet
import Derived.BigRegion
import Derived.Deep.AppendLies
import Derived.Deep.CutRange
import Derived.Deep.DeepCutAuto
import Derived.Deep.Draws
import Derived.Deep.QuietTactic
import Derived.Deep.RegionLaw
import Derived.Deep.Slices
import Derived.Laws.BitsAllLaws
import Derived.Laws.BitsLemmas
import Derived.Laws.IdiomStrings
import Derived.Laws.OwnMore
import Derived.Laws.Rows
import Derived.Lib.AppendStr
import Derived.Lib.Hide
import Derived.Lib.Strings
import Derived.LoopIn
import Derived.LoopNIn
import Derived.OneCell
import Derived.OpenShut
import Derived.Outline
import Derived.OwnWalk
import Derived.OwnWalkIn
import Derived.ProofKit
import Derived.RangeFuncBound
import Derived.RangeFuncCalls
import Derived.RangeFuncLeaves
import Derived.RangeFuncNested
import Derived.RegionTactic
import Derived.Shelf.Abstract
import Derived.Shelf.RegionOpen
import Derived.Shelf.SlSortCmp.QuietGrown
import Derived.StillTailTactics
import Derived.TacticsInMore
import Derived.Test.YtghegmbafbpnjaaGreatDoorChecked
import Derived.WalkKit
import Derived.WalkLawsBesides
import Derived.WalkSpells
set_option maxRecDepth 100000
set_option linter.unusedVariables false
namespace Go.Proofs.YtghegmbafbpnjaaGreatDoor
set_option maxRecDepth 100000
open Go Go.RowKit Go.Shelf
/-- The function calls what it is handed for round 0, 1, .. up to N; between two calls it counts on nothing but Kp. -/
def Rounds (F : Fence) (m : Nat) (P : Program) (gf : Nat) (lb : Array Value) (encs : Nat → Array Value) (Kp : World → World → Prop) (N : Nat) (w : World) : Prop :=
  ∀ (l : Nat) (J : Nat → World → Prop) (W : World), Below w.heap.size w W →
    (∀ k W1, J k W1 → k < N → YieldAt F (m - 1) P l (encs k) W1 fun e W' => e = .returned (.bool true) ∧ J (k + 1) W' ∧ Kp W1 W') → J 0 W →
    CallsIn F m P gf (#[.func (.yield l) #[] #[]] ++ lb) W fun e W' => (∃ v, e = .returned v) ∧ J N W'
/-- The body of a round goes on. -/
def goesOn (Kp : World → World → Prop) (I : Nat → World → Prop) (k : Nat) (W : World) : Exit → Act → World → Prop
  | .normal, _, W' => KeepsOthers W W' ∧ Kp W W' ∧ I k W'
  | _, _, _ => False
theorem below_putObj {D : Nat} {W : World} {l : Nat} {o : Obj} (o' : Obj) (h : W.heap[l]? = some o) (hD : D ≤ l) : Below D W (W.putObj l o') :=
  (Below.refl D W).grown (grownBy_putObj' W l o') (by have := (Array.getElem?_eq_some_iff.1 h).1; omega) (fun k e => by cases e; exact hD)

theorem range_rounds {F : Fence} {n : Nat} {P : Program} {g : Operand} {ps : Array Tmp} {assign body : Code} {Q : Exit → Act → World → Prop} {a : Act} {w : World}
    (hro : F.round = none) (h1 : 1 ≤ n) {gf : Nat} {lb : Array Value} (hg : a.eval g = .func (.func gf) #[] lb) (hF : F.fn gf) (eg : ∀ args w, (callFunc gf args).run P w = .ok (.enter gf args) w)
    {encs : Nat → Array Value} {Kp : World → World → Prop} {N : Nat} (hseq : Rounds F (n - 1) P gf lb encs Kp N w)
    (hKt : ∀ {A B C : World}, Kp A B → Kp B C → Kp A C) (hKb : ∀ {A B : World}, Below w.heap.size A B → Kp A B) (hps : ∀ k, (encs k).size = ps.size)
    (I : Nat → World → Prop) (hI : ∀ k W W', I k W → Below w.heap.size W W' → I k W') (h0 : I 0 w) (a₁ : Nat → Act)
    (hassign : ∀ (l k : Nat) (W : World) (K : Act → World → Prop), K (a₁ k) W →
      assign.wpIn (F.inRound l) (n - 1 - 1) P (Exit.then K (fun _ _ _ => False)) { tmps := (ps.zip (encs k)).foldl (fun t (p, v) => t.setIfInBounds p v) a.tmps, defers := [] } W)
    (hbody : ∀ (l k : Nat) (W : World), I k W → k < N → body.wpIn (F.inRound l) (n - 1 - 1) P (goesOn Kp I (k + 1) W) (a₁ k) W)
    (hdone : ∀ W : World, I N W → w.heap.size < W.heap.size → W.heap[w.heap.size]? = some (.deferred (some [])) → Q .normal { a with defers := { target := .collected w.heap.size, args := #[] } :: a.defers } W) :
    (Code.rangeFunc g ps assign body).wpIn F n P Q a w := by
  refine wpIn_rangeFunc fun fn hfn => ?_
  rw [hro]
  obtain ⟨D, hD⟩ : ∃ D, D = w.heap.size := ⟨_, rfl⟩
  obtain ⟨rc, hrc⟩ : ∃ rc : _ → Loop, rc = fun st => { state := st, pending := none, fn, tmps := a.tmps, params := ps, assign, body, defers := D } := ⟨_, rfl⟩
  have hb1 : Below w.heap.size w ((w.alloc (.deferred (some []))).alloc (.loop (rc .ready))) := ((Below.refl _ w).alloc (Nat.le_refl _) _).alloc (by simp) _
  have hl1 : ((w.alloc (.deferred (some []))).alloc (.loop (rc .ready))).heap[D + 1]? = some (.loop (rc .ready)) := by
    have h := World.alloc_heap_new (w.alloc (.deferred (some []))) (.loop (rc .ready))
    rw [World.size_alloc, ← hD] at h
    exact h
  have hk1 : ((w.alloc (.deferred (some []))).alloc (.loop (rc .ready))).heap[D]? = some (.deferred (some [])) := by
    rw [Below.heap_alloc _ _ _ (by simp [hD]), hD]; exact World.alloc_heap_new w _
  have he : (Instr.enterLoop fn a.tmps ps assign body none).run P w = .ok (D + 1, [{ target := .collected D, args := #[] }]) ((w.alloc (.deferred (some []))).alloc (.loop (rc .ready))) := by
    rw [hrc, hD]; exact run_enterLoop_outer fn a.tmps ps assign body
  generalize (w.alloc (.deferred (some []))).alloc (.loop (rc .ready)) = W1 at *
  refine ⟨D + 1, _, W1, { target := .fn (.func gf) lb, args := #[.func (.yield (D + 1)) #[] #[]] }, W1, gf, #[.func (.yield (D + 1)) #[] #[]] ++ lb, W1, he, by simp only [resolve, hg]; simp [go_sem], fun f' hf' => ?_, by simp [invoke, go_sem, eg], fun _ => h1, ?_⟩
  · simp [Target.leads] at hf'; subst hf'; exact hF
  refine (hseq (D + 1) (fun k W => I k W ∧ W.heap[D + 1]? = some (.loop (rc .ready)) ∧ W.heap[D]? = some (.deferred (some []))) W1 hb1 ?_ ⟨hI 0 w W1 h0 hb1, hl1, hk1⟩).mono ?_
  · rintro k W ⟨hi, hl, hk⟩ hkN
    have hlt : D + 1 < W.heap.size := (Array.getElem?_eq_some_iff.1 hl).1
    have hy := run_yield (P := P) (args := encs k) hl (by rw [hrc]; exact hps k)
    rw [hrc] at hy
    refine ⟨fn, _, assign, body, hy, roundIn_of_wpIn hfn (hassign _ k W _ ⟨_, run_beginRound hl (by rw [hrc]), ?_⟩)⟩
    have hbb : Below w.heap.size W (W.putObj (D + 1) (.loop { rc .ready with state := .busy })) := below_putObj _ hl (by omega)
    have hl2 : (W.putObj (D + 1) (.loop { rc .ready with state := .busy })).heap[D + 1]? = some (.loop { rc .ready with state := .busy }) := World.putObj_heap_same hlt
    have hk2 : (W.putObj (D + 1) (.loop { rc .ready with state := .busy })).heap[D]? = some (.deferred (some [])) := (World.putObj_heap_other (by omega)).trans hk
    refine wpIn_mono (hbody _ k _ (hI _ _ _ hi hbb) hkN) ?_
    rintro e a3 W3 hp
    cases e with
    | normal =>
      obtain ⟨hk3, hkp3, hi3⟩ := hp
      have hl3 := hk3.same _ _ hl2 rfl
      have hk3' := hk3.same _ _ hk2 rfl
      have hbe : Below w.heap.size W3 (W3.putObj (D + 1) (.loop (rc .ready))) := below_putObj _ hl3 (by omega)
      refine ⟨.bool true, W3.putObj (D + 1) (.loop (rc .ready)), ?_, rfl, ⟨hI _ _ _ hi3 hbe, World.putObj_heap_same (Array.getElem?_eq_some_iff.1 hl3).1, (World.putObj_heap_other (by omega)).trans hk3'⟩, hKt (hKt (hKb hbb) hkp3) (hKb hbe)⟩
      have hr := run_endRound (P := P) none hl3
      rw [hrc] at hr ⊢
      exact hr
    | ret => exact hp.elim
    | exit id => exact hp.elim
    | goto t => exact hp.elim
    | panic ch => exact hp.elim
    | outgrown => exact hp.elim
  · rintro e W2 ⟨⟨v, rfl⟩, hi, hl, hk⟩
    have hlt : D + 1 < W2.heap.size := (Array.getElem?_eq_some_iff.1 hl).1
    have hr := run_endLoop (P := P) hl (by rw [hrc]; simp)
    rw [hrc] at hr
    refine ⟨none, _, hr, ?_⟩
    have := hdone _ (hI _ _ _ hi (below_putObj (.loop { rc .ready with state := .exhausted }) hl (by omega : w.heap.size ≤ D + 1))) (by simp; omega) (by rw [← hD]; exact (World.putObj_heap_other (by omega)).trans hk)
    rw [hrc, ← hD] at this
    exact this
end Go.Proofs.YtghegmbafbpnjaaGreatDoor
namespace Go.Proofs.YtghegmbafbpnjaaGreatDoor
set_option maxRecDepth 100000
open Go Go.RowKit Go.Shelf
attribute [local go_sem] Oper.semAt_some
/-- The blocks of R are as they were. -/
def Kept (R : Nat → Prop) (W W' : World) : Prop := ∀ b, R b → W'.heap[b]? = W.heap[b]?
theorem Kept.trans {R : Nat → Prop} {A B C : World} (h : Kept R A B) (k : Kept R B C) : Kept R A C := fun b hb => (k b hb).trans (h b hb)
theorem Kept.cell {R : Nat → Prop} {A B : World} (h : Kept R A B) {a : Addr} (ha : R a.block) : B.cell? a = A.cell? a := World.cell?_of_block (h a.block ha)

set_option maxRecDepth 100000 in
set_option maxHeartbeats 2000000 in
theorem backward_closure {F : Fence} {m : Nat} (hF : F.fn 129) (hro : F.round = none) (hm : 1 ≤ m) {Bs g c N : Nat} {heads : List Value} (hN : heads.length = N) (hN15 : N ≤ 15) {R : Nat → Prop} {w : World}
    (hBs : w.cell? ⟨Bs, 0, none⟩ = some (.slice (some ⟨g, 0, none⟩) N c)) (hBl : Bs < w.heap.size) (hgl : g < w.heap.size) (hc : ∀ i (h : i < heads.length), w.cell? ⟨g, i, none⟩ = some heads[i]) (hRB : R Bs) (hRg : R g) :
    Rounds F m Tryz.prog 129 #[.pointer (some ⟨Bs, 0, none⟩)] (fun k => #[.int .i64 ((N : Int) - k - 1), heads[N - k - 1]?.getD undef]) (Kept R) N w := by
  intro l J W hW hY h0
  have hBs' : W.cell? ⟨Bs, 0, none⟩ = some (.slice (some ⟨g, 0, none⟩) N c) := (hW.cell (p := ⟨Bs, 0, none⟩) hBl).trans hBs
  have hc' : ∀ i (h : i < heads.length), W.cell? ⟨g, i, none⟩ = some heads[i] := fun i h => (hW.cell (p := ⟨g, i, none⟩) hgl).trans (hc i h)
  clear hBs hc
  refine callsIn_of_wp Tryz.func129 rfl hF ?_ hro
  simp only [Tryz.ntmps129, List.size_toArray, List.length_cons, List.length_nil, Nat.reduceAdd, Nat.reduceSub, Array.replicate_succ, Array.replicate_zero, List.push_toArray, List.append_toArray, List.nil_append, List.cons_append]
  gi_wp2
  gi_loopw [3] (fun i wr => ∃ k : Nat, k ≤ N ∧ i = .int .i64 ((N : Int) - k - 1) ∧ J k wr ∧ Kept R W wr) (fun i _ => (intOf i + 1).toNat)
  case atStart => exact ⟨0, Nat.zero_le _, by go_num, h0, fun b _ => rfl⟩
  case round =>
    obtain ⟨k, hk, rfl, hJ, hK⟩ := hrel
    by_cases hlt : k < N
    · obtain ⟨fn, tmps, assign, body, hy, hR⟩ := hY k wr hJ hlt
      obtain ⟨j, hj⟩ : ∃ j, N - k - 1 = j := ⟨_, rfl⟩
      rw [hj] at hy
      have hji : (N : Int) - k - 1 = (j : Int) := by omega
      rw [hji] at hy
      have hjl : j < heads.length := by omega
      have hgd : heads[j]?.getD undef = heads[j] := by rw [List.getElem?_eq_getElem hjl]; rfl
      rw [hgd] at hy
      have c1 : wr.cell? ⟨Bs, 0, none⟩ = some (.slice (some ⟨g, 0, none⟩) N c) := (hK.cell hRB).trans hBs'
      have c2 : wr.cell? ⟨g, j, none⟩ = some heads[j] := (hK.cell hRg).trans (hc' j hjl)
      generalize heads[j] = v at *
      have j0 : 0 ≤ (j : Int) := by omega
      have jN : (j : Int) < (N : Int) := by omega
      clear hc' hY hgd
      gi_wp2
      refine hR.mono ?_
      rintro e W3 ⟨rfl, hJ3, hk3⟩
      gi_wp2
      go_roundw
      case rel => exact ⟨k + 1, by omega, by congr 1; omega, hJ3, hK.trans hk3⟩
      case measure => simp [intOf]; omega
    · obtain rfl : k = N := by omega
      gi_wp2
      go_end0
      exact ⟨⟨_, rfl⟩, hJ⟩
theorem backward_in {F : Fence} {m : Nat} (hF : F.fn 121) (hro : F.round = none) (v : Value) {A : Option Addr} {n c : Nat} (hv : v = .slice A n c) (w : World) :
    CallsIn F m Tryz.prog 121 #[v] w fun e w' => e = .returned (.func (.func 129) #[] #[.pointer (some ⟨w.heap.size, 0, none⟩)]) ∧ w' = w.alloc (.cells #[v] 150) := by
  subst hv
  refine callsIn_of_wp Tryz.func121 rfl hF ?_ hro
  simp only [Tryz.ntmps121, List.size_toArray, List.length_cons, List.length_nil, Nat.reduceAdd, Nat.reduceSub, Array.replicate_succ, Array.replicate_zero, List.push_toArray, List.append_toArray, List.nil_append, List.cons_append]
  gi_wp2
  go_ret
  exact ⟨rfl, rfl⟩
end Go.Proofs.YtghegmbafbpnjaaGreatDoor
namespace Go.Proofs.YtghegmbafbpnjaaGreatDoor
set_option maxRecDepth 100000
/-- How many items are looked at in round k, from the last row on. -/
def aAt (ws : List Nat) (K a : Nat) : Nat → Nat
  | 0 => a
  | k + 1 => 2 * (aAt ws K a k - tk (rowN ws (K - k)) (aAt ws K a k))
def tAt (ws : List Nat) (K a k : Nat) : Nat := tk (rowN ws (K - k)) (aAt ws K a k)
/-- One more for each of the first t coins. -/
def bump (cs : List (Nat × Nat)) (t : Nat) (l : List Int) : List Int := (cs.take t).foldl (fun l c => l.set c.1 (l.getD c.1 0 + 1)) l
def lFold (cs : List (Nat × Nat)) (ts : List Nat) (l : List Int) : List Int := ts.foldl (fun l t => bump cs t l) l

theorem aAt_shift (ws : List Nat) (K a : Nat) : ∀ k, aAt ws (K + 1) a (k + 1) = aAt ws K (2 * (a - tk (rowN ws (K + 1)) a)) k
  | 0 => rfl
  | k + 1 => by rw [aAt, aAt_shift ws K a k, aAt, Nat.add_sub_add_right]
theorem cc_range (ws : List Nat) : ∀ K a, cc ws K a = (List.range (K + 1)).map (tAt ws K a)
  | 0, a => rfl
  | K + 1, a => by
    rw [cc, cc_range ws K, List.range_succ_eq_map (n := K + 1), List.map_cons, List.map_map]
    congr 1
    apply List.map_congr_left
    intro k _
    simp only [tAt, Function.comp, Nat.succ_eq_add_one]
    rw [aAt_shift, Nat.add_sub_add_right]
theorem aAt_le (ws : List Nat) (K a : Nat) (h : a ≤ (rowN ws K).length) : ∀ k, k ≤ K → aAt ws K a k ≤ (rowN ws (K - k)).length
  | 0, _ => h
  | k + 1, hk => by
    have ih := aAt_le ws K a h k (by omega)
    have e : K - k = (K - (k + 1)) + 1 := by omega
    rw [aAt]
    rw [e] at ih ⊢
    exact pairs_enough ws _ _ ih
theorem length_bump (cs : List (Nat × Nat)) (t : Nat) (l : List Int) : (bump cs t l).length = l.length := by
  unfold bump
  have : ∀ (p : List (Nat × Nat)) (l : List Int), (p.foldl (fun l c => l.set c.1 (l.getD c.1 0 + 1)) l).length = l.length := by
    intro p
    induction p with
    | nil => intro l; rfl
    | cons c p ih => intro l; rw [List.foldl_cons, ih, List.length_set]
  exact this _ _
theorem bump_succ (cs : List (Nat × Nat)) (t : Nat) (l : List Int) (h : t < cs.length) : bump cs (t + 1) l = (bump cs t l).set cs[t].1 ((bump cs t l).getD cs[t].1 0 + 1) := by
  unfold bump; rw [List.take_succ_eq_append_getElem h, List.foldl_append]; rfl
theorem length_lFold (cs : List (Nat × Nat)) (ts : List Nat) (l : List Int) : (lFold cs ts l).length = l.length := by
  unfold lFold
  induction ts generalizing l with
  | nil => rfl
  | cons t ts ih => rw [List.foldl_cons, ih, length_bump]
theorem lFold_snoc (cs : List (Nat × Nat)) (ts : List Nat) (t : Nat) (l : List Int) : lFold cs (ts ++ [t]) l = bump cs t (lFold cs ts l) := by unfold lFold; rw [List.foldl_append]; rfl
/-- What may stand in a list of lengths. -/
def Small (B : Nat) (l : List Int) : Prop := ∀ x ∈ l, 0 ≤ x ∧ x ≤ (B : Int)
theorem Small.bumped {B : Nat} {l : List Int} (h : Small B l) (cs : List (Nat × Nat)) : ∀ t, Small (B + t) (bump cs t l) := by
  intro t
  induction t with
  | zero => simpa [bump] using h
  | succ t ih =>
    by_cases ht : t < cs.length
    · rw [bump_succ cs t l ht]
      intro x hx
      rcases List.mem_or_eq_of_mem_set hx with h1 | h1
      · have := ih x h1; omega
      · subst h1
        rcases Nat.lt_or_ge cs[t].1 (bump cs t l).length with h2 | h2
        · have := ih _ (List.getElem_mem h2)
          rw [List.getD_eq_getElem?_getD, List.getElem?_eq_getElem h2]
          simp only [Option.getD_some]; omega
        · rw [List.getD_eq_getElem?_getD, List.getElem?_eq_none h2]; simp; omega
    · have e : bump cs (t + 1) l = bump cs t l := by
        unfold bump; rw [List.take_of_length_le (by omega), List.take_of_length_le (by omega)]
      rw [e]; intro x hx; have := ih x hx; omega
theorem tk_succ (row : List (Nat × Bool)) (a : Nat) (h : a < row.length) : tk row (a + 1) = tk row a + (if row[a].2 then 0 else 1) := by
  unfold tk coinsIn
  rw [List.take_succ_eq_append_getElem h, List.filter_append, List.length_append]
  congr 1
  cases hb : row[a].2 <;> simp [hb]
end Go.Proofs.YtghegmbafbpnjaaGreatDoor
namespace Go.Proofs.YtghegmbafbpnjaaGreatDoor
set_option maxRecDepth 100000
open Go Go.RowKit Go.Shelf
attribute [local go_sem] Oper.semAt_some
theorem small_lFold (cs : List (Nat × Nat)) (l0 : List Int) (h : Small 0 l0) (B : Nat) (f : Nat → Nat) (hf : ∀ k, f k ≤ B) : ∀ k, Small (B * k) (lFold cs ((List.range k).map f) l0)
  | 0 => by simpa [lFold] using h
  | k + 1 => by
    rw [List.range_succ, List.map_append, List.map_cons, List.map_nil, lFold_snoc]
    intro x hx
    have h1 := (small_lFold cs l0 h B f hf k).bumped cs (f k) x hx
    have h2 := hf k
    rw [Nat.mul_succ]; omega
theorem lFold_succ (cs : List (Nat × Nat)) (f : Nat → Nat) (l0 : List Int) (k : Nat) : lFold cs ((List.range (k + 1)).map f) l0 = bump cs (f k) (lFold cs ((List.range k).map f) l0) := by
  rw [List.range_succ, List.map_append, List.map_cons, List.map_nil, lFold_snoc]

theorem But.widen {S : List Nat} {w W W' : World} (h : But S w W) (hb : Below w.heap.size W W') : But S w W' :=
  ⟨hb.os.trans h.os, hb.tape.trans h.tape, hb.output.trans h.output, Nat.le_trans h.size hb.size, fun k hk hS => (hb.block k hk).trans (h.block k hk hS)⟩
theorem OwnI.same {w w' : World} {base g n c : Nat} {l : List Int} (h : OwnI w base (.slice (some ⟨g, 0, none⟩) n c) l) (he : w'.heap[g]? = w.heap[g]?) : OwnI w' base (.slice (some ⟨g, 0, none⟩) n c) l := by
  refine ⟨h.1, ?_⟩
  rcases h.2 with ⟨e, _⟩ | ⟨g', cap, cur, e, hg, hh, r⟩
  · cases e
  · injection e with e1 e2 e3
    injection e1 with e1
    injection e1 with e1
    subst e1 e3
    exact .inr ⟨g, c, cur, by rw [e2], hg, he.trans hh, r⟩
/-- What holds between two rounds. -/
def Between (wL : World) (gl bf base m : Nat) (cs : List (Nat × Nat)) (ws : List Nat) (K a : Nat) (l0 : List Int) (k : Nat) (W : World) : Prop :=
  But [gl, bf] wL W ∧ Is W bf 3 #[.int .i64 (aAt ws K a k : Nat)] ∧ OwnI W base (.slice (some ⟨gl, 0, none⟩) m m) (lFold cs ((List.range k).map (tAt ws K a)) l0)

set_option maxRecDepth 100000 in
set_option maxHeartbeats 2000000 in
theorem countCoins_in (F : Fence) (N : Nat) (hF : F.fn 104) (hF2 : F.fn 121) (hF3 : F.fn 129) (hro : F.round = none) (hN : 3 ≤ N)
    {w : World} {base gl m : Nat} {A : Option Addr} {n cap g c K R1 : Nat} (hR1 : R1 = K + 1) {cs : List (Nat × Nat)} {ws : List Nat} {L : List Value} {l0 : List Int}
    (hws : ws = cs.map (·.2)) (hlen : OwnI w base (.slice (some ⟨gl, 0, none⟩) m m) l0) (hc : Coins w A n cs) (hoff : Off A gl) (hn : n ≤ 288) (hn2 : 2 ≤ n) (hK : K < 15) (hnK : n ≤ 2 ^ (K + 1))
    (hL : L.length = R1) (hS : OwnS w base (.slice (some ⟨g, 0, none⟩) R1 c) L) (hR : RowsAre w base ws L) (hsym : ∀ x ∈ cs, x.1 < m) (hsm : Small 0 l0) :
    CallsIn F N Tryz.prog 104 #[.slice (some ⟨gl, 0, none⟩) m m,   .slice A n cap, .slice (some ⟨g, 0, none⟩) R1 c] w fun e W' => e = .returned (.tuple #[]) ∧
      OwnI W' base (.slice (some ⟨gl, 0, none⟩) m m) (lFold cs (cc ws K (2 * n - 2)) l0) ∧ But [gl] w W' := by
  have h1 : 1 ≤ N := by omega
  have hwl : ws.length = n := by rw [hws, List.length_map, hc.1]
  have HWL := Lib.hid hwl
  have HWS := Lib.hid hws
  have HR1 := Lib.hid hR1
  have HLL := Lib.hid hL
  have hR15 : R1 ≤ 15 := by omega
  clear hR1 hL hws hwl
  refine callsIn_of_wp_marks Tryz.func104 rfl hF ?_ hro
  simp only [Tryz.ntmps104, List.size_toArray, List.length_cons, List.length_nil, Nat.reduceAdd, Nat.reduceSub, Array.replicate_succ, Array.replicate_zero, List.push_toArray, List.append_toArray, List.nil_append, List.cons_append]
  gi_wp2_with (gi_at_call 121; refine (backward_in hF2 hro _ rfl _).mono ?_; rintro e w' ⟨rfl, rfl⟩)
  obtain ⟨h0, hh0⟩ : ∃ h0, h0 = w.heap.size := ⟨_, rfl⟩
  rw [← hh0]
  have hbl : But [] w ((((w.alloc (.cells #[.slice (some ⟨gl, 0, none⟩) m m] 58)).alloc (.cells #[.slice A n cap] 145)).alloc (.cells #[.int .i64 (2 * (n : Int) - 2)] 3)).alloc (.cells #[.slice (some ⟨g, 0, none⟩) R1 c] 150)) := ((((But.refl [] w).alloc _).alloc _).alloc _).alloc _
  have i0 : Is ((((w.alloc (.cells #[.slice (some ⟨gl, 0, none⟩) m m] 58)).alloc (.cells #[.slice A n cap] 145)).alloc (.cells #[.int .i64 (2 * (n : Int) - 2)] 3)).alloc (.cells #[.slice (some ⟨g, 0, none⟩) R1 c] 150)) h0 58 #[.slice (some ⟨gl, 0, none⟩) m m] := by
    rw [hh0]; exact (((Is.fresh w _ _).alloc _).alloc _).alloc _
  have i1 : Is ((((w.alloc (.cells #[.slice (some ⟨gl, 0, none⟩) m m] 58)).alloc (.cells #[.slice A n cap] 145)).alloc (.cells #[.int .i64 (2 * (n : Int) - 2)] 3)).alloc (.cells #[.slice (some ⟨g, 0, none⟩) R1 c] 150)) (h0 + 1) 145 #[.slice A n cap] := by
    have := Is.fresh (w.alloc (.cells #[.slice (some ⟨gl, 0, none⟩) m m] 58)) 145 #[.slice A n cap]
    rw [World.size_alloc, ← hh0] at this
    exact (this.alloc _).alloc _
  have i2 : Is ((((w.alloc (.cells #[.slice (some ⟨gl, 0, none⟩) m m] 58)).alloc (.cells #[.slice A n cap] 145)).alloc (.cells #[.int .i64 (2 * (n : Int) - 2)] 3)).alloc (.cells #[.slice (some ⟨g, 0, none⟩) R1 c] 150)) (h0 + 1 + 1) 3 #[.int .i64 (2 * (n : Int) - 2)] := by
    have := Is.fresh ((w.alloc (.cells #[.slice (some ⟨gl, 0, none⟩) m m] 58)).alloc (.cells #[.slice A n cap] 145)) 3 #[.int .i64 (2 * (n : Int) - 2)]
    rw [World.size_alloc, World.size_alloc, ← hh0] at this
    exact this.alloc _
  have i3 : Is ((((w.alloc (.cells #[.slice (some ⟨gl, 0, none⟩) m m] 58)).alloc (.cells #[.slice A n cap] 145)).alloc (.cells #[.int .i64 (2 * (n : Int) - 2)] 3)).alloc (.cells #[.slice (some ⟨g, 0, none⟩) R1 c] 150)) (h0 + 1 + 1 + 1) 150 #[.slice (some ⟨g, 0, none⟩) R1 c] := by
    have := Is.fresh (((w.alloc (.cells #[.slice (some ⟨gl, 0, none⟩) m m] 58)).alloc (.cells #[.slice A n cap] 145)).alloc (.cells #[.int .i64 (2 * (n : Int) - 2)] 3)) 150 #[.slice (some ⟨g, 0, none⟩) R1 c]
    rw [World.size_alloc, World.size_alloc, World.size_alloc, ← hh0] at this
    exact this
  have isz : ((((w.alloc (.cells #[.slice (some ⟨gl, 0, none⟩) m m] 58)).alloc (.cells #[.slice A n cap] 145)).alloc (.cells #[.int .i64 (2 * (n : Int) - 2)] 3)).alloc (.cells #[.slice (some ⟨g, 0, none⟩) R1 c] 150)).heap.size = h0 + 1 + 1 + 1 + 1 := by simp [hh0]
  generalize ((((w.alloc (.cells #[.slice (some ⟨gl, 0, none⟩) m m] 58)).alloc (.cells #[.slice A n cap] 145)).alloc (.cells #[.int .i64 (2 * (n : Int) - 2)] 3)).alloc (.cells #[.slice (some ⟨g, 0, none⟩) R1 c] 150)) = wL at *
  have hgl := World.ownsRow.lt hlen gl rfl
  obtain ⟨gS, cS, eS, hgS, hcS⟩ := hS.open (by have := HLL.out; have := HR1.out; omega)
  obtain ⟨rfl, rfl⟩ : g = gS ∧ c = cS := by
    rw [HLL.out] at eS; injection eS with e1 e2 e3; injection e1 with e1; injection e1 with e1; exact ⟨e1, e3⟩
  have HH0 := Lib.hid hh0
  have hcl := backward_closure (m := N - 1) (R := fun b => b < wL.heap.size ∧ b ≠ gl ∧ b ≠ h0 + 1 + 1) hF3 hro (by omega) HLL.out (by omega) (i3.cell 0) (by omega) (by omega) (fun i hi => hbl.cell (hcS i hi) (by simp)) ⟨by omega, by omega, by omega⟩ ⟨by omega, ?gne, by omega⟩
  case gne => intro e; exact own_apart hS hlen (by decide) (g := g) rfl (by rw [e]; rfl)
  have ISZ := Lib.hid isz
  clear hh0 isz
  refine range_rounds (Kp := Kept fun b => b < wL.heap.size ∧ b ≠ gl ∧ b ≠ h0 + 1 + 1) hro h1 (gf := 129) (lb := #[.pointer (some ⟨h0 + 1 + 1 + 1, 0, none⟩)]) rfl hF3 (enters_of Tryz.func129 (by kernel_rfl) rfl)
    hcl
    (fun h k => Kept.trans h k) (fun h b hb => h.block b hb.1) (fun k => rfl)
    (Between wL gl (h0 + 1 + 1) base m cs ws K (2 * n - 2) l0) ?hI ?hstart
    (fun k => { tmps := #[.slice (some ⟨gl, 0, none⟩) m m, .slice A n cap, .slice (some ⟨g, 0, none⟩) R1 c, .pointer (some ⟨h0, 0, none⟩), .pointer (some ⟨h0 + 1, 0, none⟩), undef, .pointer (some ⟨h0 + 1 + 1, 0, none⟩), undef, L[R1 - k - 1]?.getD undef, undef, undef, undef,
      .slice A n cap, .int .i64 n, .int .i64 (2 * (n : Int)), .int .i64 (2 * (n : Int) - 2), .slice (some ⟨g, 0, none⟩) R1 c, .func (.func 129) #[] #[.pointer (some ⟨h0 + 1 + 1 + 1, 0, none⟩)], .int .i64 ((R1 : Int) - k - 1), L[R1 - k - 1]?.getD undef,
      undef, undef, undef, undef, undef, undef, undef, undef, undef, undef, undef, undef, undef, undef, undef, undef, undef, undef, undef, undef, undef, undef, undef, undef, undef, undef, undef, undef], defers := [] }) ?assign ?body ?done
  case hI =>
    rintro k W W' ⟨hB, hi, hO⟩ hb
    exact ⟨hB.widen hb, (hb.block _ (by have := ISZ.out; omega)).trans hi, hO.same (hb.block _ (by have := hbl.size; omega))⟩
  case hstart =>
    refine ⟨But.refl _ _, ?_, hlen.same (hbl.block _ hgl.2 (by simp))⟩
    have e : ((aAt ws K (2 * n - 2) 0 : Nat) : Int) = 2 * (n : Int) - 2 := by simp only [aAt]; omega
    rw [e]; exact i2
  case assign =>
    intro l k W K hK
    gi_wp2
    exact hK
  case body =>
    rintro l k W ⟨hB, hi, hO⟩ hk
    have hkK : k ≤ K := by have := HR1.out; omega
    have hro2 := aAt_le ws K (2 * n - 2) (by have := row_enough ws K (by rw [HWL.out]; exact hnK) (by rw [HWL.out]; exact hn2); rw [HWL.out] at this; exact this) k hkK
    obtain ⟨gr, er, hOr⟩ := hR (K - k) (by have := HLL.out; have := HR1.out; omega)
    have egd : L[R1 - k - 1]?.getD undef = .slice (some ⟨gr, 0, none⟩) (rowN ws (K - k)).length (rowN ws (K - k)).length := by
      rw [← er, List.getElem?_eq_getElem (by have := HLL.out; omega)]
      simp only [Option.getD_some]
      congr 1
      have := HR1.out; omega
    rw [er] at hOr
    have hgr := own_apart hOr hlen (by decide) (g := gr) rfl
    have hgrl := (World.ownsRow.lt hOr gr rfl).2
    obtain ⟨_, hIt⟩ := hOr.items
    have hbs := hbl.size
    have HHX := HH0.out
    have hbW : But [gl, h0 + 1 + 1] w W := ⟨hB.os.trans hbl.os, hB.tape.trans hbl.tape, hB.output.trans hbl.output, Nat.le_trans hbs hB.size, fun b hb hS => (hB.block b (by omega) hS).trans (hbl.block b hb (by simp))⟩
    have hIt2 := hIt.but hbW (fun b hb a e => by
      injection e with e; subst e
      simp only [List.mem_cons, List.not_mem_nil, or_false] at hb
      rcases hb with rfl | rfl
      · intro e2; exact hgr (by rw [show gr = b from e2]; rfl)
      · show gr ≠ h0 + 1 + 1; omega)
    have hcA : ∀ a, A = some a → 0 < n → a.block < w.heap.size := fun a e hp => by
      obtain ⟨g', o', e', hg', _⟩ := hc.2 hp
      rw [e] at e'; injection e' with e'; rw [e']; exact hg'
    have hc2 := hc.but hbW (fun b hb a e => by
      simp only [List.mem_cons, List.not_mem_nil, or_false] at hb
      rcases hb with rfl | rfl
      · exact hoff a e
      · have := hcA a e (by omega); omega)
    have c0 : W.cell? ⟨h0, 0, none⟩ = some (.slice (some ⟨gl, 0, none⟩) m m) := (i0.but hB (by simp; omega)).cell 0
    have c1 : W.cell? ⟨h0 + 1, 0, none⟩ = some (.slice A n cap) := (i1.but hB (by simp; omega)).cell 0
    have c2 : W.cell? ⟨h0 + 1 + 1, 0, none⟩ = some (.int .i64 (aAt ws K (2 * n - 2) k : Nat)) := hi.cell 0
    have f2 := hi.free 0
    rw [egd]
    have hrl := length_row ws (K - k)
    have HWL2 := HWL.out
    have hrl2 : (rowN ws (K - k)).length ≤ 576 := by omega
    have HT := Lib.hid (show tAt ws K (2 * n - 2) k = tk (rowN ws (K - k)) (aAt ws K (2 * n - 2) k) from rfl)
    have HA := Lib.hid (show aAt ws K (2 * n - 2) (k + 1) = 2 * (aAt ws K (2 * n - 2) k - tk (rowN ws (K - k)) (aAt ws K (2 * n - 2) k)) from rfl)
    have htn := fun b (hb : b ≤ (rowN ws (K - k)).length) => tk_first ws (K - k) b hb
    rw [HWL.out] at htn
    have hsmall := small_lFold cs l0 hsm 300 (fun k => if k ≤ K then tAt ws K (2 * n - 2) k else 0) (fun k => by
      split
      · have h := tk_first ws (K - k) (aAt ws K (2 * n - 2) k) (aAt_le ws K (2 * n - 2) (by have := row_enough ws K (by rw [HWL.out]; exact hnK) (by rw [HWL.out]; exact hn2); rw [HWL.out] at this; exact this) k (by omega))
        rw [HWL.out] at h; unfold tAt; omega
      · omega) k
    have hfe : (List.range k).map (fun k => if k ≤ K then tAt ws K (2 * n - 2) k else 0) = (List.range k).map (tAt ws K (2 * n - 2)) := List.map_congr_left (fun i hi => if_pos (by have := List.mem_range.1 hi; omega))
    rw [hfe] at hsmall
    have HLK := Lib.hid (lFold_succ cs (tAt ws K (2 * n - 2)) l0 k)
    generalize lFold cs ((List.range k).map (tAt ws K (2 * n - 2))) l0 = lk at *
    generalize hrow : rowN ws (K - k) = row at *
    generalize haa : aAt ws K (2 * n - 2) k = aa at *
    clear hfe hgr er egd hrl hIt hc i0 i1 i2 i3 hrow haa hbl hR hS hcS hcl
    have HOR := Lib.hid hOr
    have HLEN := Lib.hid hlen
    have HO := Lib.hid hO
    have HBW := Lib.hid hB
    have HIB := Lib.hid hi
    have a0 : (0 : Int) ≤ (aa : Int) := by omega
    have a1 : (aa : Int) ≤ (row.length : Int) := by omega
    have hg0 : gl < h0 ∧ gr < h0 := by omega
    clear hO hB hi HWL2 hOr HHX
    gi_wp2
    have hgrW : gr ≠ gl := by
      intro e; subst e
      exact own_apart HOR.out HLEN.out (by decide) (g := gr) rfl rfl
    gi_loopw [9, 24] (fun tv iv wr => ∃ j : Nat, j ≤ aa ∧ iv = .int .i64 j ∧ tv = .int .i64 (tk row j) ∧ But [gl] W wr ∧ KeepsOthers W wr ∧ OwnI wr base (.slice (some ⟨gl, 0, none⟩) m m) (bump cs (tk row j) lk)) (fun _ iv _ => aa - (intOf iv).toNat)
    case atStart => exact ⟨0, Nat.zero_le _, rfl, rfl, But.refl _ _, KeepsOthers.refl _, HO.out⟩
    case round =>
      obtain ⟨j, hj, rfl, rfl, hBj, hKj, hOj⟩ := hrel
      have c0j := hBj.cell c0 (by simp; omega)
      have c1j := hBj.cell c1 (by simp; omega)
      by_cases hlt : j < aa
      · have hjr : j < row.length := by omega
        obtain ⟨g', o', e', hg', hd0, hd1⟩ := hIt2.at hjr
        injection e' with e'
        injection e' with e1 e2
        subst e1 e2
        rw [Nat.zero_add] at hd0 hd1
        replace hd0 := hBj.cell hd0 (by simp; omega)
        replace hd1 := hBj.cell hd1 (by simp; omega)
        have htk := tk_succ row j hjr
        generalize row[j].1 = wt at *
        generalize row[j].2 = pb at *
        cases pb
        · have htk1 : tk row (j + 1) = tk row j + 1 := by simpa using htk
          have htn1 := htn (j + 1) (by omega)
          have htlt : tk row j < n := by omega
          obtain ⟨gc, oc, rfl, hgc, he0, _⟩ := hc2.at htlt
          have hcsl : tk row j < cs.length := by have := hc2.1; omega
          have hsy := hsym _ (List.getElem_mem hcsl)
          have hbs1 := bump_succ cs (tk row j) lk hcsl
          have hgcl : gc ≠ gl := fun e => hoff _ rfl e
          replace he0 := hBj.cell he0 (by simp; omega)
          generalize (cs[tk row j]'_).1 = sy at *
          have hml := hOj.len
          have hce := hOj.cell (show sy < (bump cs (tk row j) lk).length by omega)
          have hcf := hOj.free sy
          have hvs := (hsmall.bumped cs (tk row j)) _ (List.getElem_mem (show sy < (bump cs (tk row j) lk).length by omega))
          have hgd : (bump cs (tk row j) lk).getD sy 0 = (bump cs (tk row j) lk)[sy]'(by omega) := by rw [List.getD_eq_getElem?_getD, List.getElem?_eq_getElem (by omega)]; rfl
          rw [hgd] at hbs1
          generalize (bump cs (tk row j) lk)[sy]'_ = v at *
          have HBS := Lib.hid hbs1
          have HTK := Lib.hid htk1
          have HOJ := Lib.hid hOj
          have HBJ := Lib.hid hBj
          have HKJ := Lib.hid hKj
          clear hbs1 htk htk1 hgd hml hOj hBj hKj
          generalize hT : tk row j = t at *
          clear hT
          have t0 : (0 : Int) ≤ (t : Int) := by omega
          have t1 : (t : Int) < (n : Int) := by omega
          have s0 : (0 : Int) ≤ (sy : Int) := by omega
          have s1 : (sy : Int) < (m : Int) := by omega
          gi_wp2
          have hwa : But [] wr (wr.alloc (.cells #[.int .i64 wt, .bool false] 175)) := (But.refl [] wr).alloc _
          have hka : KeepsOthers wr (wr.alloc (.cells #[.int .i64 wt, .bool false] 175)) := KeepsOthers.alloc _ _
          replace c0j := hwa.cell c0j (by simp)
          replace c1j := hwa.cell c1j (by simp)
          replace he0 := hwa.cell he0 (by simp)
          replace hce := hwa.cell hce (by simp)
          have hcf2 : (wr.alloc (.cells #[.int .i64 wt, .bool false] 175)).frozen? ⟨gl, sy, none⟩ = false := (HOJ.out.but hwa (by simp)).free sy
          have HWA := Lib.hid hwa
          have HKA := Lib.hid hka
          clear hwa hka hcf
          generalize wr.alloc (.cells #[.int .i64 wt, .bool false] 175) = wa at *
          have hmix : Tryz.prog.follows .mixedOrders = true := by kernel_rfl
          gi_region_with_o (fail)
          all_goals (clear hmix)
          all_goals gi_wp2
          all_goals
            go_roundw
            case rel =>
              refine ⟨j + 1, by omega, by go_num, by rw [HTK.out]; go_num, ((HBJ.out.trans (HWA.out.more (by simp))).setCell (.inl (by simp)) _).drew, ((HKJ.out.trans HKA.out).trans (KeepsOthers.setCell _ _ _)).trans ⟨Nat.le_refl _, fun _ _ h _ => h⟩, ?_⟩
              rw [HTK.out, HBS.out]
              exact ((HOJ.out.but HWA.out (by simp)).set sy _).but ((But.refl [] _).drew) (by simp)
            case measure => simp [intOf]; omega
        · have HTK := Lib.hid (show tk row (j + 1) = tk row j by simpa using htk)
          clear htk
          gi_wp2
          go_roundw
          case rel => exact ⟨j + 1, by omega, by go_num, by rw [HTK.out], hBj.alloc _, hKj.trans (KeepsOthers.alloc _ _), by rw [HTK.out]; exact hOj.but ((But.refl [] _).alloc _) (by simp)⟩
          case measure => simp [intOf]; omega
      · obtain rfl : j = aa := by omega
        have d2 : wr.cell? ⟨h0 + 1 + 1, 0, none⟩ = some (.int .i64 (j : Nat)) := hBj.cell c2 (by simp; omega)
        have e2 : wr.frozen? ⟨h0 + 1 + 1, 0, none⟩ = false := (HIB.out.but hBj (by simp; omega)).free 0
        have htl := tk_le row j
        have hib := HIB.out.but hBj (by simp; omega)
        have hfin : Between wL gl (h0 + 1 + 1) base m cs ws K (2 * n - 2) l0 (k + 1) (wr.setCell ⟨h0 + 1 + 1, 0, none⟩ (.int .i64 (2 * ((j : Int) - (tk row j : Int))))) := by
          have ea : ((aAt ws K (2 * n - 2) (k + 1) : Nat) : Int) = 2 * ((j : Int) - (tk row j : Int)) := by rw [HA.out]; omega
          refine ⟨(HBW.out.trans (hBj.more (by simp))).setCell (.inl (by simp)) _, ?_, ?_⟩
          · rw [ea]
            simpa using hib.put 0 (.int .i64 (2 * ((j : Int) - (tk row j : Int))))
          · rw [HLK.out, HT.out]
            exact hOj.but ((But.refl [h0 + 1 + 1] wr).setCell (.inl (by simp)) _) (by simp [Value.ownBlock]; omega)
        have hkep : Kept (fun b => b < wL.heap.size ∧ b ≠ gl ∧ b ≠ h0 + 1 + 1) W (wr.setCell ⟨h0 + 1 + 1, 0, none⟩ (.int .i64 (2 * ((j : Int) - (tk row j : Int))))) := fun b hb => by
          have h1 := (hBj.more (T := [gl, h0 + 1 + 1]) (by simp)).setCell (p := ⟨h0 + 1 + 1, 0, none⟩) (.inl (by simp)) (.int .i64 (2 * ((j : Int) - (tk row j : Int))))
          exact h1.block b (Nat.lt_of_lt_of_le hb.1 HBW.out.size) (by simp; omega)
        have HFIN := Lib.hid hfin
        have HKEP := Lib.hid hkep
        have HKO := Lib.hid (hKj.trans (KeepsOthers.setCell wr ⟨h0 + 1 + 1, 0, none⟩ (.int .i64 (2 * ((j : Int) - (tk row j : Int))))))
        clear hfin hkep hib hOj
        gi_wp2
        exact ⟨HKO.out, HKEP.out, HFIN.out⟩
  case done =>
    intro W hW hlt hD
    obtain ⟨hB, hi, hO⟩ := hW
    rw [HR1.out, ← cc_range] at hO
    have hbs := hbl.size
    have hkk := below_putObj (D := wL.heap.size) (.deferred none) hD (Nat.le_refl _)
    have hfin : But [gl] w (W.putObj wL.heap.size (.deferred none)) := by
      have h2 := hB.widen hkk
      refine ⟨h2.os.trans hbl.os, h2.tape.trans hbl.tape, h2.output.trans hbl.output, Nat.le_trans hbs h2.size, fun k hk hS => ?_⟩
      rw [h2.block k (by omega) (by have := HH0.out; simp at hS ⊢; omega)]
      exact hbl.block k hk (by simp)
    have hO2 := hO.same (hkk.block gl (by omega))
    have HF := Lib.hid hfin
    have HO2 := Lib.hid hO2
    clear hfin hO2 hO hkk hB hi
    gi_wp2
    refine ⟨by simp, .inl ⟨_, _, rfl, run_takeDeferred hD, ?_⟩⟩
    exact ⟨_, results_none rfl _ _ _, rfl, HO2.out, HF.out⟩

theorem countCoins_any {w : World} {base gl m : Nat} {A : Option Addr} {n cap g c K R1 : Nat} (hR1 : R1 = K + 1) {cs : List (Nat × Nat)} {ws : List Nat} {L : List Value} {l0 : List Int}
    (hws : ws = cs.map (·.2)) (hlen : OwnI w base (.slice (some ⟨gl, 0, none⟩) m m) l0) (hc : Coins w A n cs) (hoff : Off A gl) (hn : n ≤ 288) (hn2 : 2 ≤ n) (hK : K < 15) (hnK : n ≤ 2 ^ (K + 1))
    (hL : L.length = R1) (hS : OwnS w base (.slice (some ⟨g, 0, none⟩) R1 c) L) (hR : RowsAre w base ws L) (hsym : ∀ x ∈ cs, x.1 < m) (hsm : Small 0 l0) :
    Calls Tryz.prog 104 #[.slice (some ⟨gl, 0, none⟩) m m, .slice A n cap, .slice (some ⟨g, 0, none⟩) R1 c] w fun e W' => e = .returned (.tuple #[]) ∧
      OwnI W' base (.slice (some ⟨gl, 0, none⟩) m m) (lFold cs (cc ws K (2 * n - 2)) l0) ∧ But [gl] w W' :=
  (callsIn_wide (n := 3)).1 (countCoins_in .wide 3 trivial trivial trivial rfl (Nat.le_refl _) hR1 hws hlen hc hoff hn hn2 hK hnK hL hS hR hsym hsm)
end Go.Proofs.YtghegmbafbpnjaaGreatDoor
namespace Go.Proofs.YtghegmbafbpnjaaGreatDoor
set_option maxRecDepth 100000
open Go Go.RowKit
def okCount (x : Int) : Bool := decide (0 ≤ x ∧ x ≤ 1000000000)
def okCounts (l : List Int) : Bool := l.all okCount
/-- The lengths that Limit tells. -/
def lims (M : Nat) (l : List Int) : List Int :=
  let cs := csOf l l.length
  if cs.length = 0 then List.replicate l.length 0 else
  if cs.length = 1 then (List.replicate l.length 0).set (cs.getD 0 (0, 0)).1 1 else
  lFold cs (cc (cs.map (·.2)) (M - 1) (2 * cs.length - 2)) (List.replicate l.length 0)
theorem length_lims (M : Nat) (l : List Int) : (lims M l).length = l.length := by
  unfold lims; dsimp only; split
  · simp
  · split
    · simp
    · rw [length_lFold]; simp
/-- An answer, in a slice of the call's own. -/
def GotList (w : World) (len : Nat) (r : List Int) (e : Ending) (w' : World) : Prop :=
  ∃ g, e = .returned (.tuple #[.slice (some ⟨g, 0, none⟩) len len, .int .i64 0]) ∧ OwnI w' w.heap.size (.slice (some ⟨g, 0, none⟩) len len) r ∧ But [] w w'
def GotNone (w : World) (e : Ending) (w' : World) : Prop := e = .returned (.tuple #[.slice none 0 0, .int .i64 1]) ∧ But [] w w'
theorem OwnI.base {w : World} {b1 b2 : Nat} {v : Value} {r : List Int} (h : OwnI w b1 v r) (hb : b2 ≤ b1) : OwnI w b2 v r := by
  refine ⟨h.1, ?_⟩
  rcases h.2 with h2 | ⟨g, cap, cur, hv, hg, r⟩
  · exact .inl h2
  · exact .inr ⟨g, cap, cur, hv, by omega, r⟩

theorem okCounts_snoc (l : List Int) (x : Int) : okCounts (l ++ [x]) = (okCounts l && okCount x) := by simp [okCounts]
theorem bad_of_mem {l : List Int} {x : Int} (h : x ∈ l) (hx : ¬ (0 ≤ x ∧ x ≤ 1000000000)) : okCounts l = false := by
  cases e : okCounts l with
  | false => rfl
  | true =>
    have := List.all_eq_true.1 e x h
    simp only [okCount, decide_eq_true_eq] at this
    exact absurd this hx
theorem coins_le {l : List Int} (h : okCounts l = true) {k : Nat} : ∀ x ∈ (csOf l k).map (·.2), x ≤ 1000000000 := by
  intro x hx
  obtain ⟨c, hc, rfl⟩ := List.mem_map.1 hx
  obtain ⟨_, h2, h3⟩ := mem_csOf.1 hc
  have hlt : c.1 < l.length := by
    apply Classical.byContradiction; intro hn
    rw [List.getD_eq_getElem?_getD, List.getElem?_eq_none (by omega)] at h2; simp at h2
  have := List.all_eq_true.1 h l[c.1] (List.getElem_mem hlt)
  have e : l.getD c.1 0 = l[c.1] := by rw [List.getD_eq_getElem?_getD, List.getElem?_eq_getElem hlt]; rfl
  rw [e] at h3
  simp only [okCount, decide_eq_true_eq] at this
  omega

/-- What Limit tells. -/
def LimitPost (w : World) (len M : Nat) (l : List Int) (e : Ending) (w' : World) : Prop :=
  (okCounts l = true ∧ (csOf l len).length ≤ 2 ^ M ∧ GotList w len (lims M l) e w') ∨ ((okCounts l = false ∨ 2 ^ M < (csOf l len).length) ∧ GotNone w e w')
theorem lims_zero {M k n : Nat} {l : List Int} (hk : l.length = k) (hn : n = (csOf l k).length) (h : n = 0) : lims M l = List.replicate k 0 := by
  subst hk; unfold lims; dsimp only; rw [← hn, if_pos h]
theorem lims_one {M k n : Nat} {l : List Int} (hk : l.length = k) (hn : n = (csOf l k).length) (h : n = 1) : lims M l = (List.replicate k 0).set ((csOf l k).getD 0 (0, 0)).1 1 := by
  subst hk; unfold lims; dsimp only; rw [← hn, if_neg (by omega), if_pos h]
theorem lims_more {M k n : Nat} {l : List Int} (hk : l.length = k) (hn : n = (csOf l k).length) (h : 2 ≤ n) : lims M l = lFold (csOf l k) (cc ((csOf l k).map (·.2)) (M - 1) (2 * n - 2)) (List.replicate k 0) := by
  subst hk; unfold lims; dsimp only; rw [← hn, if_neg (by omega), if_neg (by omega)]

set_option maxRecDepth 100000 in
set_option maxHeartbeats 2000000 in
theorem limit_late {N : Nat} (hN : SortsUpTo N) {w : World} {A : Option Addr} {len cap M : Nat} {l : List Int} (hl : Ints w A len l) (hM1 : 1 ≤ M) (hM2 : M ≤ 15) (h288 : len ≤ 288) (hcN : (coins0 l len).length ≤ N) :
    Calls Tryz.prog 80 #[.int .i64 (M : Int), .slice A len cap] w (LimitPost w len M l) := by
  obtain ⟨i0, hi0, hz0, hz1, hz2⟩ := info_parts info_int
  have hlen := hl.1
  have d1 : decide ((M : Int) < 1) = false := by simp; omega
  have d2 : decide ((15 : Int) < (M : Int)) = false := by simp; omega
  go_enter Tryz.func80, Tryz.ntmps80
  go_wp2
  go_loop [23] (fun i => ∃ k : Nat, k ≤ len ∧ okCounts (l.take k) = true ∧ i = .int .i64 k) (fun i => len - (intOf i).toNat)
  case atStart => exact ⟨0, Nat.zero_le _, rfl, rfl⟩
  case round =>
    obtain ⟨k, hk, hok, rfl⟩ := hrel
    by_cases hlt : k < len
    · obtain ⟨g, o, rfl, hg, hc⟩ := hl.at hlt
      have hts := lens_take (l := l) (k := k) (by omega)
      have HS := Lib.hid hts
      have HX := Lib.hid (show l[k]'(by omega) ∈ l from List.getElem_mem _)
      generalize l[k]'(by omega) = x at *
      clear hl hts
      by_cases hr : 0 ≤ x ∧ x ≤ 1000000000
      · have HO := Lib.hid (show okCounts (l.take (k + 1)) = true by rw [HS.out, okCounts_snoc, hok]; simp [okCount]; omega)
        have n0 : decide (x < 0) = false := by simp; omega
        have n1 : decide ((1000000000 : Int) < x) = false := by simp; omega
        clear hr HS hok HX
        go_wp2
        go_round
        case rel => exact ⟨k + 1, by omega, HO.out, by go_num⟩
        case measure => simp [intOf]; omega
      · have HF := Lib.hid (bad_of_mem HX.out hr)
        clear HS hok HX hlen
        by_cases hn : x < 0
        · go_wp2
          go_ret2
          exact .inr ⟨.inl HF.out, rfl, But.refl _ _⟩
        · have n0 : decide (x < 0) = false := by simp; omega
          have n1 : 1000000000 < x := by omega
          go_wp2
          go_ret2
          exact .inr ⟨.inl HF.out, rfl, But.refl _ _⟩
    · obtain rfl : k = len := by omega
      rw [List.take_of_length_le (by omega)] at hok
      have hcoins := coinsOf_any (cap := cap) hN hl h288 hcN
      have HC := Lib.hid hcoins
      clear hcoins
      go_wp2_with fail
      refine HC.out.mono ?_
      rintro e w1 ⟨A1, c1, rfl, hC1, hA1, hB1⟩
      obtain ⟨n, hn⟩ : ∃ n, n = (csOf l k).length := ⟨_, rfl⟩
      rw [← hn] at hC1 ⊢
      have hn288 : n ≤ 288 := by rw [hn, length_csOf]; have := length_coins0 l k; omega
      have h2M : 2 ^ M ≤ 2 ^ 15 := Nat.pow_le_pow_right (by decide) hM2
      obtain ⟨p, hp⟩ : ∃ p : Nat, p = 2 ^ M := ⟨_, rfl⟩
      have hp15 : p ≤ 32768 := by rw [hp]; exact h2M
      have hsh : (2 : Int) ^ M = (p : Int) := by rw [hp]; simp
      have HP := Lib.hid hp
      have HN1 := Lib.hid hn
      clear hp hn h2M HC hl
      by_cases hbig : p < n
      · have HF := Lib.hid (show 2 ^ M < (csOf l k).length by rw [← HN1.out, ← HP.out]; exact hbig)
        have hd : decide (p < n) = true := by simpa using hbig
        go_wp2
        go_ret2
        exact .inr ⟨.inr HF.out, rfl, hB1⟩
      · have hd : decide (p < n) = false := by simpa using hbig
        have HG := Lib.hid (show (csOf l k).length ≤ 2 ^ M by rw [← HN1.out, ← HP.out]; omega)
        have HOK := Lib.hid hok
        have HLEN := Lib.hid hlen
        have hbs1 := hB1.size
        have hbig2 : n ≤ p := by omega
        clear hok hlen hbig
        by_cases hn0 : n = 0
        · have HL0 := Lib.hid (lims_zero (M := M) HLEN.out HN1.out hn0)
          subst hn0
          go_wp2_with (at_make; refine wpList_make_full _ rfl _ _ 58 rfl w1.heap.size 3 i0 _ 1 Tryz.underlying58 hi0 hz0 hz1 _ _ _ _ k rfl rfl (by omega) (by omega) (by rw [hz2]; omega) (by unfold maxLen; omega) (by simp) ?_; intro w2 hown hgrow)
          have hO2 := OwnI.made hown
          have hB2 : But [] w1 w2 := (But.refl [] w1).grown hgrow (by simp)
          go_ret2
          exact .inl ⟨HOK.out, HG.out, w1.heap.size, rfl, by rw [HL0.out]; exact hO2.base hbs1, hB1.trans hB2⟩
        · by_cases hn1 : n = 1
          · have HL1 := Lib.hid (lims_one (M := M) HLEN.out HN1.out hn1)
            subst hn1
            obtain ⟨g, o, rfl, hg, hc0, hc1⟩ := hC1.at (show 0 < 1 by omega)
            have hcl := hC1.1
            have hsy := (mem_csOf.1 (List.getElem_mem (show 0 < (csOf l k).length by omega))).1
            have hgd : (csOf l k).getD 0 (0, 0) = (csOf l k)[0]'(by omega) := by rw [List.getD_eq_getElem?_getD, List.getElem?_eq_getElem (by omega)]; rfl
            rw [← hgd] at hc0 hc1 hsy
            generalize ((csOf l k).getD 0 (0, 0)).1 = sy at *
            rw [Nat.zero_mul, Nat.add_zero] at hc0 hc1
            have s0 : (0 : Int) ≤ (sy : Int) := by omega
            have s1 : (sy : Int) < (k : Int) := by omega
            have hp1 : decide ((p : Int) < 1) = false := by simp; omega
            clear hgd hcl hC1
            go_upto_region 13 with (at_make; refine wpList_make_full _ rfl _ _ 58 rfl w1.heap.size 3 i0 _ 1 Tryz.underlying58 hi0 hz0 hz1 _ _ _ _ k rfl rfl (by omega) (by omega) (by rw [hz2]; omega) (by unfold maxLen; omega) (by simp) ?_; intro w2 hown hgrow)
            have hO2 := OwnI.made hown
            have hB2 : But [] w1 w2 := (But.refl [] w1).grown hgrow (by simp)
            replace hc0 := hB2.cell hc0 (by simp)
            replace hc1 := hB2.cell hc1 (by simp)
            have hce := hO2.cell (show sy < (List.replicate k (0 : Int)).length by simp; omega)
            have hcf := hO2.free sy
            have HO2 := Lib.hid hO2
            have HB2 := Lib.hid hB2
            clear hown hgrow hO2 hB2
            go_wp2
            go_ret2
            exact .inl ⟨HOK.out, HG.out, w1.heap.size, rfl, by rw [HL1.out]; exact (HO2.out.set sy 1).base hbs1, (hB1.trans HB2.out).setCell (.inr hbs1) _⟩
          · have hn2 : 2 ≤ n := by omega
            have HLM := Lib.hid (lims_more (M := M) HLEN.out HN1.out hn2)
            obtain ⟨K, rfl⟩ : ∃ K, M = K + 1 := ⟨M - 1, by omega⟩
            have hws : (csOf l k).map (·.2) = (csOf l k).map (·.2) := rfl
            have hMb : ∀ x ∈ (csOf l k).map (·.2), x ≤ 1000000000 := coins_le HOK.out
            go_upto_region 13 with (at_make; refine wpList_make_full _ rfl _ _ 58 rfl w1.heap.size 3 i0 _ 1 Tryz.underlying58 hi0 hz0 hz1 _ _ _ _ k rfl rfl (by omega) (by omega) (by rw [hz2]; omega) (by unfold maxLen; omega) (by simp) ?_; intro w2 hown hgrow)
            have hO2 := OwnI.made hown
            have hB2 : But [] w1 w2 := (But.refl [] w1).grown hgrow (by simp)
            have hC2 := hC1.but hB2 (by simp)
            have hbs2 := hB2.size
            have hgl := World.ownsRow.lt hO2 w1.heap.size rfl
            have hoff : Off A1 w1.heap.size := fun a e => by
              obtain ⟨g', o', e', hg', _⟩ := hC1.2 (by omega)
              rw [e] at e'; injection e' with e'; rw [e']; show g' ≠ _; omega
            have hrows := rowsOf_any (cap := c1) (most := K + 1) rfl hC2 hn288 (by omega) hM2 hMb
            have HR := Lib.hid hrows
            have HO2 := Lib.hid hO2
            have HB2 := Lib.hid hB2
            clear hown hgrow hO2 hB2 hrows hws
            go_wp2_with fail
            refine HR.out.mono ?_
            rintro e w3 ⟨g3, c3, L, rfl, hL3, hS3, hRA3, hB3⟩
            have hO3 := HO2.out.but hB3 (by simp)
            have hC3 := hC2.but hB3 (by simp)
            have hsym : ∀ x ∈ csOf l k, x.1 < k := fun x hx => (mem_csOf.1 hx).1
            have hS4 : OwnS w3 w1.heap.size (.slice (some ⟨g3, 0, none⟩) (K + 1) c3) L := by
              refine ⟨hS3.1, ?_⟩
              rcases hS3.2 with ⟨e, _⟩ | ⟨g', cap', cur, e, hg', r⟩
              · cases e
              · exact .inr ⟨g', cap', cur, e, by omega, r⟩
            have hRA4 : RowsAre w3 w1.heap.size ((csOf l k).map (·.2)) L := fun q hq => by
              obtain ⟨g', e', ho'⟩ := hRA3 q hq
              exact ⟨g', e', ho'.base hbs2⟩
            have hcount := countCoins_any (cap := c1) (K := K) (R1 := K + 1) rfl rfl hO3 hC3 hoff hn288 hn2 (by omega) (by have := HG.out; have := HN1.out; omega) hL3 hS4 hRA4 hsym (fun x hx => by
              have := List.eq_of_mem_replicate hx; omega)
            have HCT := Lib.hid hcount
            have HB3 := Lib.hid hB3
            clear hcount hO3 hC3 hC2 hS3 hS4 hRA3 hRA4 hL3 hB3 hsym hoff hMb HR
            go_wp2_with fail
            refine HCT.out.mono ?_
            rintro e w4 ⟨rfl, hO4, hB4⟩
            have hfin : But [] w w4 := ((hB1.trans HB2.out).trans HB3.out).fresh hB4 (fun i hi => by
              obtain rfl : i = w1.heap.size := by simpa using hi
              exact hbs1)
            have HFIN := Lib.hid hfin
            have HO4 := Lib.hid hO4
            clear hfin hO4 hB4 HCT
            go_wp2
            go_ret2
            exact .inl ⟨HOK.out, HG.out, w1.heap.size, rfl, by rw [HLM.out]; exact HO4.out.base hbs1, HFIN.out⟩
end Go.Proofs.YtghegmbafbpnjaaGreatDoor
namespace Go.Proofs.YtghegmbafbpnjaaGreatDoor
set_option maxRecDepth 100000
open Go Go.RowKit
theorem Ints.of {w : World} {b n : Nat} {t : TypeId} {cs : Array Value} {l : List Int} (h : Is w b t cs) (hn : l.length = n) (hc : ∀ i (hi : i < l.length), cs[i]? = some (.int .i64 l[i])) : Ints w (some ⟨b, 0, none⟩) n l :=
  ⟨hn, fun _ => ⟨b, 0, rfl, h.lt, fun i hi => by rw [Nat.zero_add, h.cell]; exact hc i hi⟩⟩
/-- A list that was just written down. -/
theorem Ints.lit (w : World) (l : List Int) : Ints (w.alloc (.cells (l.map (Value.int .i64)).toArray 3)) (some ⟨w.heap.size, 0, none⟩) l.length l :=
  Ints.of (Is.fresh w _ _) rfl (fun i hi => by simp [hi])
end Go.Proofs.YtghegmbafbpnjaaGreatDoor
namespace Go.Proofs.YtghegmbafbpnjaaGreatDoor
set_option maxRecDepth 100000
open Go Go.RowKit
/-- Own copy of a list that was handed in. -/
theorem Ints.news {w : World} {g o n : Nat} {l : List Int} (h : Ints w (some ⟨g, o, none⟩) n l) (hn : 0 < n) : ∀ j u, (l.map (Value.int .i64))[j]? = some u → w.cell? ((⟨g, o, none⟩ : Addr).add j) = some u := by
  intro j u hu
  obtain ⟨g', o', e, _, hc⟩ := h.2 hn
  injection e with e
  injection e with e1 e2
  subst e1 e2
  have hj : j < l.length := by
    have := (List.getElem?_eq_some_iff.1 hu).1
    simpa using this
  rw [Go.WideShapes.add_plain, hc j hj]
  simpa [hj] using hu

theorem OwnI.ints_of {w : World} {base n c : Nat} {A : Option Addr} {l : List Int} (h : OwnI w base (.slice A n c) l) (hn : n = l.length) : Ints w A n l := by
  obtain ⟨A', c', e, hi, _⟩ := h.open
  injection e with e1 e2 e3
  subst e1 e2
  exact hi
end Go.Proofs.YtghegmbafbpnjaaGreatDoor
