/- Several texts in one: DpC, DpD, DpE (what DiskDies, DiskLasts, DiskNil, DiskPlays reach of them). -/
import Derived.Test.YtchpincoddghfaaK01
import Derived.Test.YtchpincoddghfaaK02
import Derived.Below
import Derived.BigQuiet
import Derived.BigRegion
import Derived.Deep.AppendLies
import Derived.Deep.Cut
import Derived.Deep.CutBlock
import Derived.Deep.CutRange
import Derived.Deep.DeepCutAuto
import Derived.Deep.Draws
import Derived.Deep.Onto
import Derived.Deep.QuietTactic
import Derived.Deep.RegionLaw
import Derived.Deep.RegionWith
import Derived.Handy
import Derived.Laws.BitsAllLaws
import Derived.Laws.BitsLemmas
import Derived.Laws.BytesArg
import Derived.Laws.IdiomStrings
import Derived.Laws.MakeOwn
import Derived.Laws.OwnMore
import Derived.Laws.Rows
import Derived.Lib.Hide
import Derived.MapViews
import Derived.Maps.AppendAt
import Derived.Maps.Ext
import Derived.Maps.OwnOps
import Derived.Maps.OwnSet
import Derived.OrdersHeld
import Derived.OrdersIn
import Derived.Outline
import Derived.OwnWalk
import Derived.OwnWalkIn
import Derived.RangeFuncCalls
import Derived.RegionTactic
import Derived.TacticsInMore
import Derived.Test.YtchpincoddghfaaChecked
import Derived.WalkKit
import Derived.WideKeyArgs2
set_option maxRecDepth 100000
set_option linter.unusedVariables false
set_option maxRecDepth 100000
set_option linter.unusedVariables false
namespace Go.Proofs.Ytchpincoddghfaa
set_option maxRecDepth 100000
open Go Go.RowKit Go.Maps
theorem mem_map16 {l : List F16} {f : F16} {n : Nat} {G : F16 → F16} (hr : l.Pairwise fun a b => a.num < b.num) (hf : f ∈ l) (hn : f.num = n) :
    ∀ y, y ∈ (l.map fun g => if g.num = n then G g else g) ↔ y = G f ∨ (y ∈ l ∧ y.num ≠ n) := by
  intro y
  rw [List.mem_map]
  constructor
  · rintro ⟨g, hg, rfl⟩
    by_cases e : g.num = n
    · rw [if_pos e, rise_inj hr hg hf (by rw [e, hn])]
      exact .inl rfl
    · rw [if_neg e]
      exact .inr ⟨hg, e⟩
  · rintro (rfl | ⟨hy, e⟩)
    · exact ⟨f, hf, if_pos hn⟩
    · exact ⟨y, hy, if_neg e⟩
theorem size_map16 {l : List F16} {f : F16} {n : Nat} {G : F16 → F16} (hr : l.Pairwise fun a b => a.num < b.num) (hf : f ∈ l) (hn : f.num = n) :
    size16 (l.map fun g => if g.num = n then G g else g) + f.data.length = size16 l + (G f).data.length := by
  induction l with
  | nil => cases hf
  | cons a l ih =>
    have hp := List.pairwise_cons.1 hr
    rw [List.map_cons, size16_cons, size16_cons]
    rcases List.mem_cons.1 hf with h1 | h1
    · subst h1
      have e : (l.map fun g => if g.num = n then G g else g) = l := by
        conv => rhs; rw [← List.map_id l]
        refine List.map_congr_left fun g hg => ?_
        have := hp.1 g hg
        rw [if_neg (by omega)]; rfl
      rw [e, if_pos hn]
      omega
    · have := hp.1 f h1
      have := ih hp.2 h1
      rw [if_neg (by omega)]
      omega
theorem mem_drop16 (l : List F16) (n : Nat) : ∀ y, y ∈ drop16 l n ↔ y ∈ l ∧ y.num ≠ n := by
  intro y
  unfold drop16
  rw [List.mem_filter]
  simp
theorem size_drop16 {l : List F16} {f : F16} {n : Nat} (hr : l.Pairwise fun a b => a.num < b.num) (hf : f ∈ l) (hn : f.num = n) : size16 (drop16 l n) + f.data.length = size16 l := by
  induction l with
  | nil => cases hf
  | cons a l ih =>
    have hp := List.pairwise_cons.1 hr
    unfold drop16 at ih ⊢
    rw [List.filter_cons, size16_cons]
    rcases List.mem_cons.1 hf with h1 | h1
    · subst h1
      have e : (l.filter fun g => !(g.num == n)) = l := List.filter_eq_self.2 fun g hg => by
        have := hp.1 g hg
        simp; omega
      rw [e, if_neg (by simp [hn])]
      omega
    · have := hp.1 f h1
      have := ih hp.2 h1
      rw [if_pos (by simp; omega), size16_cons]
      omega
theorem own_map_ne {w : World} {base : Nat} {v : Value} {L : List UInt8} {P : Program} {k : TypeId} {R : Value → Option (DataW Value × List MemPlace)} {m n : Nat} {D : DataW Value} (h : OwnF w base v L) (hm : w.ownsMap P k R m n D) : ∀ g, v.ownBlock = some g → g ≠ m := by
  rintro g e rfl
  obtain ⟨es, clock, hh, _⟩ := hm
  unfold OwnF at h
  rcases h.2 with ⟨e2, _⟩ | ⟨g', cap, cur, e2, _, hh2, _⟩
  · rw [e2] at e; cases e
  · rw [e2] at e
    obtain rfl : g' = g := by simpa [Value.ownBlock] using e
    rw [hh] at hh2
    cases hh2
def sl16 (sl : Nat → Value) (n : Nat) (v : Value) : Nat → Value := fun k => if k = n then v else sl k
theorem sl16_at (sl : Nat → Value) (n : Nat) (v : Value) : sl16 sl n v n = v := if_pos rfl
theorem sl16_ne {sl : Nat → Value} {n k : Nat} {v : Value} (h : k ≠ n) : sl16 sl n v k = sl k := if_neg h
/-- A file is stored; what it was before may have been written meanwhile. -/
theorem Fl.storeT {w0 w : World} {m : Nat} {sl : Nat → Value} {S S' T : List Nat} {l l' : List F16} {x : F16} {v : Value} (h : Fl w0 (some m) sl S l) (hT : But T w0 w) (hmT : m ∉ T) (hfT : ∀ f ∈ l, f.num ≠ x.num → ∀ g, (sl f.num).ownBlock = some g → g ∉ T)
    (hS : ∀ y ∈ S, y ∈ S') (hr : l.Pairwise fun a b => a.num < b.num) (hr' : l'.Pairwise fun a b => a.num < b.num) (hlen : l.length ≤ 65536)
    (hm : ∀ f, f ∈ l' ↔ f = x ∨ (f ∈ l ∧ f.num ≠ x.num)) (hx : x.num ≤ 65535) (hv : OwnF w 0 v x.data) (hg : ∀ g, v.ownBlock = some g → g ∈ S' ∧ ∀ f ∈ l, f.num ≠ x.num → (sl f.num).ownBlock ≠ some g) :
    ∃ w', (Instr.mapUpdate 52 (.map (some m)) (.int .i64 (x.num : Nat)) (.agg #[v, .int .i64 (x.syn : Nat)])).run Try.prog w = .ok () w' ∧ Fl w' (some m) (sl16 sl x.num v) S' l' ∧ But [m] w w' := by
  obtain ⟨hmS, hown0⟩ := h.hasmap m rfl
  have hown := owns_but hown0 hT hmT
  obtain ⟨w', hrun, h1, h2⟩ := hown.store keyed16 Try.underlying52 (by unfold maxLen; omega) (key16 (n := x.num) (by omega)) (val := .agg #[v, .int .i64 (x.syn : Nat)]) (d := .held (.agg #[v, .int .i64 (x.syn : Nat)])) (ps := []) rfl
  have hB : But [m] w w' := (But.refl [m] w).grown h2.grown fun g e => .inl (by cases e; simp)
  have hval : val16 (sl16 sl x.num v) x = .agg #[v, .int .i64 (x.syn : Nat)] := by unfold val16; rw [sl16_at]
  rw [← hval] at h1
  rw [DM_put hr hr' hm (fun f hf hn => sl16_ne hn) (h1.canon keyed16)] at h1
  have h3 := owns_tight h1
  rw [size_DM] at h3
  have hoff := h.offm rfl
  refine ⟨w', hrun, ⟨(fun e => by cases e), fun m' e => ?_, fun f hf => ?_, fun f hf f' hf' hne g e => ?_⟩, hB⟩
  · cases e
    exact ⟨hS _ hmS, h3⟩
  · rcases (hm f).1 hf with rfl | ⟨hf, hn⟩
    · rw [sl16_at]
      exact ⟨hv.butS hB fun g e => by simpa using own_map_ne hv hown g e, fun g e => (hg g e).1⟩
    · rw [sl16_ne hn]
      exact ⟨((h.own f hf).1.butS hT (hfT f hf hn)).butS hB fun g e => by simpa using hoff f hf g e, fun g e => hS g ((h.own f hf).2 g e)⟩
  · rcases (hm f).1 hf with rfl | ⟨hf, hn⟩
    · rw [sl16_at] at e
      rcases (hm f').1 hf' with rfl | ⟨hf', hn'⟩
      · exact absurd rfl hne
      · rw [sl16_ne hn']
        exact (hg g e).2 f' hf' hn'
    · rw [sl16_ne hn] at e
      rcases (hm f').1 hf' with rfl | ⟨hf', hn'⟩
      · rw [sl16_at]
        exact fun e2 => (hg g e2).2 f hf hn e
      · rw [sl16_ne hn']
        exact h.apart f hf f' hf' hne g e
/-- A file is stored. -/
theorem Fl.store {w : World} {m : Nat} {sl : Nat → Value} {S S' : List Nat} {l l' : List F16} {x : F16} {v : Value} (h : Fl w (some m) sl S l) (hS : ∀ y ∈ S, y ∈ S') (hr : l.Pairwise fun a b => a.num < b.num) (hr' : l'.Pairwise fun a b => a.num < b.num) (hlen : l.length ≤ 65536)
    (hm : ∀ f, f ∈ l' ↔ f = x ∨ (f ∈ l ∧ f.num ≠ x.num)) (hx : x.num ≤ 65535) (hv : OwnF w 0 v x.data) (hg : ∀ g, v.ownBlock = some g → g ∈ S' ∧ ∀ f ∈ l, f.num ≠ x.num → (sl f.num).ownBlock ≠ some g) :
    ∃ w', (Instr.mapUpdate 52 (.map (some m)) (.int .i64 (x.num : Nat)) (.agg #[v, .int .i64 (x.syn : Nat)])).run Try.prog w = .ok () w' ∧ Fl w' (some m) (sl16 sl x.num v) S' l' ∧ But [m] w w' :=
  h.storeT (But.refl [] w) (by simp) (fun _ _ _ _ _ => by simp) hS hr hr' hlen hm hx hv hg
/-- A file is taken out. -/
theorem Fl.erase {w : World} {m : Nat} {sl : Nat → Value} {S : List Nat} {l l' : List F16} {n : Nat} (h : Fl w (some m) sl S l) (hr : l.Pairwise fun a b => a.num < b.num) (hr' : l'.Pairwise fun a b => a.num < b.num)
    (hm : ∀ f, f ∈ l' ↔ f ∈ l ∧ f.num ≠ n) (hn : n ≤ 65535) (ty : TypeId) :
    ∃ w', (Builtin.delete_ #[52, 3] ty #[.map (some m), .int .i64 (n : Nat)]).run Try.prog w = .ok (.tuple #[]) w' ∧ Fl w' (some m) sl S l' ∧ But [m] w w' := by
  obtain ⟨hmS, hown⟩ := h.hasmap m rfl
  obtain ⟨w', hrun, h1, h2⟩ := hown.drop keyed16 Try.underlying52 (key16 (n := n) (by omega)) ty
  have hB : But [m] w w' := (But.refl [m] w).grown h2.grown fun g e => .inl (by cases e; simp)
  rw [DM_del hr hr' hm (h1.canon keyed16)] at h1
  have h3 := owns_tight h1
  rw [size_DM] at h3
  have hoff := h.offm rfl
  refine ⟨w', hrun, ⟨(fun e => by cases e), fun m' e => ?_, fun f hf => ?_, fun f hf f' hf' => h.apart f ((hm f).1 hf).1 f' ((hm f').1 hf').1⟩, hB⟩
  · cases e
    exact ⟨hmS, h3⟩
  · have hf2 := ((hm f).1 hf).1
    exact ⟨(h.own f hf2).1.butS hB fun g e => by simpa using hoff f hf2 g e, (h.own f hf2).2⟩
/-- The beginning of what is owned. -/
theorem OwnF.upto {w : World} {base z c : Nat} {A : Option Addr} {n : Nat} {L : List UInt8} (h : OwnF w base (.slice A n c) L) (hz : z ≤ L.length) : OwnF w base (.slice A z c) (L.take z) := by
  unfold OwnF at h ⊢
  obtain ⟨h1, h2⟩ := h
  have hl : (L.take z).length = z := by rw [List.length_take]; omega
  rw [hl]
  refine ⟨by rw [cellsF_length, hl]; omega, ?_⟩
  rcases h2 with ⟨e, e0⟩ | ⟨g, cap, cur, e, hb, hh, hc, hm, hs, ht⟩
  · injection e with e1 e2 e3
    subst e1 e3
    obtain rfl : z = 0 := by omega
    exact .inl ⟨rfl, rfl⟩
  · injection e with e1 e2 e3
    subst e1 e3
    refine .inr ⟨g, c, cur, rfl, hb, hh, by omega, hm, hs, ?_⟩
    have e4 : cellsF (L.take z) = (cellsF L).take z := by unfold cellsF; rw [List.map_take]
    rw [e4, ← ht, List.take_take]
    congr 1
    omega
end Go.Proofs.Ytchpincoddghfaa
set_option maxRecDepth 100000
set_option linter.unusedVariables false
namespace Go.Proofs.Ytchpincoddghfaa
set_option maxRecDepth 100000
open Go Go.RowKit Go.Maps
theorem PD.file {w : World} {b : Nat} {S : List Nat} {σ : D16} (h : PD w b S σ) {f : F16} (hf : f ∈ σ.l) : ∃ m, ∃ sl, Is w b 54 #[.int .i64 (σ.limit : Nat), .map (some m), .int .i64 (size16 σ.l : Nat), .int .i64 (σ.steps : Nat), .int .i64 (σ.armed : Nat), .bool σ.dead] ∧ Fl w (some m) sl S σ.l := by
  obtain ⟨mb, sl, hI, hF⟩ := h.row
  cases hm : mb with
  | none => rw [hF.nomap hm] at hf; cases hf
  | some m => rw [hm] at hI hF; exact ⟨m, sl, hI, hF⟩
set_option maxHeartbeats 2000000 in
theorem pkeep16_any (w : World) {b : Nat} {S : List Nat} {σ : D16} (h : PD w b S σ) {f : F16} (hf : f ∈ σ.l) {z : Nat} (hz : z ≤ f.data.length) :
    Calls Try.prog 41 #[.pointer (some ⟨b, 0, none⟩), .int .i64 (f.num : Nat), .int .i64 (z : Nat)] w fun e w' => e = .returned (.tuple #[]) ∧ PD w' b S (with16 σ (cut16 σ.l f.num z)) ∧ But S w w' := by
  obtain ⟨m, sl, hI, hF⟩ := h.file hf
  have hok := h.ok
  obtain ⟨v, s, hlk, hown, _, hfile, _⟩ := hF.got hok.rise f.num
  obtain ⟨rfl, rfl, hget⟩ := hfile f hf rfl
  rw [hget] at hown
  obtain ⟨A, c, hv, hc⟩ := own_sliceF hown
  have hzA : size16 σ.l ≤ 16777216 := Nat.le_trans hok.size hok.lim
  have hfd := size16_mem hf
  have hnum := hok.num f hf
  have hsz := size_map16 (G := fun g => { g with data := g.data.take z, syn := z }) hok.rise hf rfl
  have hmem := mem_map16 (G := fun g => { g with data := g.data.take z, syn := z }) hok.rise hf rfl
  have hok' : Ok16 (with16 σ (cut16 σ.l f.num z)) := ok16_map (σ := σ) (g := fun g => if g.num = f.num then { g with data := g.data.take z, syn := z } else g) hok rfl rfl (fun g => by split <;> rfl) (fun g hg => by
      by_cases e : g.num = f.num
      · rw [if_pos e]; show (g.data.take z).length ≤ _; rw [List.length_take]; omega
      · rw [if_neg e]; exact Nat.le_refl _)
    (fun g hg => by
      by_cases e : g.num = f.num
      · rw [if_pos e, rise_inj hok.rise hg hf e]; show z ≤ (f.data.take z).length; rw [List.length_take]; omega
      · rw [if_neg e]; exact hok.syn g hg)
  have hl1 : (f.data.take z).length = z := by rw [List.length_take]; omega
  rw [hl1] at hsz
  change size16 (cut16 σ.l f.num z) + f.data.length = size16 σ.l + z at hsz
  obtain ⟨sz, hsze⟩ : ∃ x, x = size16 σ.l := ⟨_, rfl⟩
  obtain ⟨sz', hsze'⟩ : ∃ x, x = size16 (cut16 σ.l f.num z) := ⟨_, rfl⟩
  obtain ⟨n, hn⟩ : ∃ x, x = f.data.length := ⟨_, rfl⟩
  obtain ⟨k, hk⟩ : ∃ x, x = f.num := ⟨_, rfl⟩
  obtain ⟨lim, hlim⟩ : ∃ x, x = σ.limit := ⟨_, rfl⟩
  obtain ⟨st, hst⟩ : ∃ x, x = σ.steps := ⟨_, rfl⟩
  obtain ⟨ar, har⟩ : ∃ x, x = σ.armed := ⟨_, rfl⟩
  obtain ⟨de, hde⟩ : ∃ x, x = σ.dead := ⟨_, rfl⟩
  obtain ⟨t, ht⟩ : ∃ x, x = f.syn := ⟨_, rfl⟩
  rw [← hsze, ← hlim, ← hst, ← har, ← hde] at hI
  rw [← hsze] at hsz hzA hfd
  rw [← hsze'] at hsz
  rw [← hn] at hsz hz hfd hv hc
  rw [← hk] at hnum hlk
  rw [← ht] at hlk
  rw [← hk] at hv
  rw [hv] at hlk
  -- the world behind the size's store
  obtain ⟨w1, hw1⟩ : ∃ x, x = w.setCell ⟨b, 2, none⟩ (.int .i64 (sz' : Nat)) := ⟨_, rfl⟩
  have hB1 : But [b] w w1 := by rw [hw1]; exact (But.refl [b] w).setCell (.inl (by simp)) _
  have hI1 : Is w1 b 54 #[.int .i64 (lim : Nat), .map (some m), .int .i64 (sz' : Nat), .int .i64 (st : Nat), .int .i64 (ar : Nat), .bool de] := by rw [hw1]; exact hI.put 2 _
  have hoff := hF.off hI (by decide)
  have hF1 : Fl w1.drew (some m) sl S σ.l := (hF.butX hB1 (fun m e => by simpa using hoff.1 m e) (fun f hf g e => by simpa using hoff.2 f hf g e)).butX ((But.refl [] w1).drew) (fun _ _ => by simp) (fun _ _ _ _ => by simp)
  have hownz := (hown.butS hB1 (fun g e => by simpa using hoff.2 f hf g e)).butS ((But.refl [] w1).drew) (fun _ _ => by simp)
  rw [← hk, hv] at hownz
  have hcut := hownz.upto (z := z) (by omega)
  obtain ⟨w2, hrun, hF2, hB2⟩ := hF1.store (x := { f with data := f.data.take z, syn := z }) (l' := cut16 σ.l f.num z) (v := .slice A z c) (S' := S) (fun _ h => h) hok.rise hok'.rise hok.few hmem (hok.num f hf) hcut fun g e => by
    have e2 : (sl f.num).ownBlock = some g := by
      rw [← hk, hv]
      cases A with
      | none => cases e
      | some a => exact e
    exact ⟨(hF.own f hf).2 g e2, fun f' hf' hne => hF.apart f hf f' hf' (Ne.symm hne) g e2⟩
  have hmb : m ≠ b := hoff.1 m rfl
  have hFin : Hid (PD w2 b S (with16 σ (cut16 σ.l f.num z)) ∧ But S w w2) := Lib.hid (by
    have hBB : But [b, m] w w2 := (hB1.more (by simp)).trans (((But.refl [] w1).drew.more (by simp)).trans (hB2.more (by simp)))
    refine ⟨⟨hok', h.mem, fun x hx => Nat.lt_of_lt_of_le (h.lt x hx) hBB.size, some m, _, ?_, hF2⟩, hBB.more fun x hx => ?_⟩
    · have := hI1.drew.but hB2 (by simpa using Ne.symm hmb)
      rw [hsze', hlim, hst, har, hde] at this
      exact this
    · rcases List.mem_cons.1 hx with rfl | hx
      · exact h.mem
      · rw [List.mem_singleton.1 hx]; exact (hF.hasmap m rfl).1)
  change (Instr.mapUpdate 52 (.map (some m)) (.int .i64 (f.num : Nat)) (.agg #[.slice A z c, .int .i64 (z : Nat)])).run Try.prog w1.drew = .ok () w2 at hrun
  rw [← hk] at hrun
  have hL := Lib.hid (hF.look hok.rise (n := k) (by omega))
  rw [hlk] at hL
  obtain ⟨c0, c1, c2, c3, c4, c5, hb⟩ := hI.cells6
  have f2 := hI.free 2
  have k1 := Lib.hid (hI1.cell 1)
  have hb1 := Lib.hid hI1.lt
  obtain ⟨d, hd⟩ : ∃ x, x = n - z := ⟨_, rfl⟩
  have e1 : (n : Int) - (z : Int) = (d : Int) := by omega
  have e2 : (sz : Int) - (d : Int) = (sz' : Int) := by omega
  have v1 := wrapI_in (show d < 1000000000000000 by omega)
  have v2 := wrapI_in (show sz' < 1000000000000000 by omega)
  have hl := hL.out
  have i0 : (0 : Int) ≤ (z : Int) := by omega
  have i1 : ¬ (c : Int) < (z : Int) := by omega
  have i2 : decide (c < z) = false := by simp; omega
  have i3 : z ≤ c := by omega
  have hfld : ∀ u v W, (Instr.field 60 (.agg #[u, v]) 0).run Try.prog W = .ok u W := by intros; kernel_rfl
  clear hF hok hown hfile hget hzA hfd hsz hmem hok' hl1 hn hst har hde ht hB1 hoff hF1 hownz hcut hF2 hB2 hmb hL hlk hI hsze hsze' hlim hv hc hd hz hI1
  rw [← hk]
  have HK := Lib.hid hk
  clear hk
  go_enter Try.func41, Try.ntmps41
  go_wp2
  rw [← hw1]
  clear hw1 c0 c1 c2 c3 c4 c5 hb f2 hl
  have k1 := k1.out
  have hb1 := hb1.out
  go_region
  go_end0
  exact ⟨rfl, by rw [HK.out]; exact hFin.out⟩
theorem sync_cut16 {l : List F16} (hr : l.Pairwise fun a b => a.num < b.num) {f : F16} (hf : f ∈ l) : cut16 l f.num f.data.length = sync16 l f.num := by
  unfold cut16 sync16
  refine List.map_congr_left fun g hg => ?_
  by_cases e : g.num = f.num
  · rw [if_pos e, if_pos e, rise_inj hr hg hf e, List.take_length]
  · rw [if_neg e, if_neg e]
set_option maxHeartbeats 1000000 in
/-- What Sync hands on. -/
theorem psync1_any (w : World) {b : Nat} {S : List Nat} {σ : D16} (h : PD w b S σ) {f : F16} (hf : f ∈ σ.l) {v : Value} (hv : OwnF w 0 v f.data) {bd bf : Nat} (hd : Is w bd 23 #[.pointer (some ⟨b, 0, none⟩)]) (hn : Is w bf 3 #[.int .i64 (f.num : Nat)]) (s : Nat) :
    Calls Try.prog 40 #[.agg #[v, .int .i64 (s : Nat)], .pointer (some ⟨bd, 0, none⟩), .pointer (some ⟨bf, 0, none⟩)] w fun e w' => e = .returned (.tuple #[]) ∧ Left PD w b S (with16 σ (sync16 σ.l f.num)) w' := by
  obtain ⟨A, c, rfl, _⟩ := own_sliceF hv
  have HK : Hid (∀ w1, But [] w w1 → Calls Try.prog 41 #[.pointer (some ⟨b, 0, none⟩), .int .i64 (f.num : Nat), .int .i64 (f.data.length : Nat)] w1 fun e w' => e = .returned (.tuple #[]) ∧ Left PD w b S (with16 σ (sync16 σ.l f.num)) w') := Lib.hid fun w1 hB =>
    (pkeep16_any w1 (h.but hB (fun _ _ => by simp)) hf (Nat.le_refl _)).mono fun e w' hh => by
      rw [sync_cut16 h.ok.rise hf] at hh
      exact ⟨hh.1, S, hh.2.1, (hB.more (fun _ e => by cases e)).trans hh.2.2, fun x hx => .inl hx⟩
  have c0 := hd.cell 0
  have c1 := hn.cell 0
  have l0 := hd.lt
  have l1 := hn.lt
  obtain ⟨n, hn2⟩ : ∃ x, x = f.data.length := ⟨_, rfl⟩
  obtain ⟨k, hk⟩ : ∃ x, x = f.num := ⟨_, rfl⟩
  rw [← hn2, ← hk] at HK
  rw [← hn2]
  rw [← hk] at c1 ⊢
  clear hd hn hv h hf hn2 hk
  go_enter Try.func40, Try.ntmps40
  go_wp2_with fail
  refine (HK.out _ ((But.refl [] w).alloc _)).mono ?_
  rintro e w' ⟨rfl, hL⟩
  have HL := Lib.hid hL
  clear hL
  go_wp2
  go_end0
  exact ⟨rfl, HL.out⟩
set_option maxHeartbeats 1000000 in
/-- What Cut hands on. -/
theorem pcut1_any (w : World) {b : Nat} {S : List Nat} {σ : D16} (h : PD w b S σ) {f : F16} (hf : f ∈ σ.l) {v : Value} {z : Nat} (hz : z ≤ f.data.length) {bd bf bz : Nat} (hd : Is w bd 23 #[.pointer (some ⟨b, 0, none⟩)]) (hn : Is w bf 3 #[.int .i64 (f.num : Nat)]) (hzz : Is w bz 3 #[.int .i64 (z : Nat)]) (s : Nat) :
    Calls Try.prog 42 #[.agg #[v, .int .i64 (s : Nat)], .pointer (some ⟨bd, 0, none⟩), .pointer (some ⟨bf, 0, none⟩), .pointer (some ⟨bz, 0, none⟩)] w fun e w' => e = .returned (.tuple #[]) ∧ Left PD w b S (with16 σ (cut16 σ.l f.num z)) w' := by
  have HK : Hid (∀ w1, But [] w w1 → Calls Try.prog 41 #[.pointer (some ⟨b, 0, none⟩), .int .i64 (f.num : Nat), .int .i64 (z : Nat)] w1 fun e w' => e = .returned (.tuple #[]) ∧ Left PD w b S (with16 σ (cut16 σ.l f.num z)) w') := Lib.hid fun w1 hB =>
    (pkeep16_any w1 (h.but hB (fun _ _ => by simp)) hf hz).mono fun e w' hh => ⟨hh.1, S, hh.2.1, (hB.more (fun _ e => by cases e)).trans hh.2.2, fun x hx => .inl hx⟩
  have c0 := hd.cell 0
  have c1 := hn.cell 0
  have c2 := hzz.cell 0
  have l0 := hd.lt
  have l1 := hn.lt
  have l2 := hzz.lt
  obtain ⟨k, hk⟩ : ∃ x, x = f.num := ⟨_, rfl⟩
  rw [← hk] at HK
  rw [← hk] at c1 ⊢
  clear hd hn hzz h hf hz hk
  go_enter Try.func42, Try.ntmps42
  go_wp2_with fail
  refine (HK.out _ ((But.refl [] w).alloc _)).mono ?_
  rintro e w' ⟨rfl, hL⟩
  have HL := Lib.hid hL
  clear hL
  go_wp2
  go_end0
  exact ⟨rfl, HL.out⟩
set_option maxHeartbeats 1000000 in
/-- What Drop hands on. -/
theorem pdrop1_any (w : World) {b : Nat} {S : List Nat} {σ : D16} (h : PD w b S σ) {f : F16} (hf : f ∈ σ.l) {v : Value} (hv : OwnF w 0 v f.data) {bd bf : Nat} (hd : Is w bd 23 #[.pointer (some ⟨b, 0, none⟩)]) (hn : Is w bf 3 #[.int .i64 (f.num : Nat)]) (s : Nat) :
    Calls Try.prog 43 #[.agg #[v, .int .i64 (s : Nat)], .pointer (some ⟨bd, 0, none⟩), .pointer (some ⟨bf, 0, none⟩)] w fun e w' => e = .returned (.tuple #[]) ∧ Left PD w b S (with16 σ (drop16 σ.l f.num)) w' := by
  obtain ⟨A, c, rfl, _⟩ := own_sliceF hv
  obtain ⟨w0, hw0⟩ : ∃ x, x = w.alloc (.cells #[.slice A f.data.length c, .int .i64 (s : Nat)] 60) := ⟨_, rfl⟩
  have hB0 : But [] w w0 := by rw [hw0]; exact (But.refl [] w).alloc _
  have hok := h.ok
  have h0 := h.but hB0 (fun _ _ => by simp)
  obtain ⟨m, sl, hI, hF⟩ := h0.file hf
  have hzA : size16 σ.l ≤ 16777216 := Nat.le_trans hok.size hok.lim
  have hfd := size16_mem hf
  have hnum := hok.num f hf
  have hsz := size_drop16 hok.rise hf rfl
  have hmem := mem_drop16 σ.l f.num
  have hsub : (drop16 σ.l f.num).Sublist σ.l := List.filter_sublist
  have hok' : Ok16 (with16 σ (drop16 σ.l f.num)) := ⟨hok.rise.sublist hsub, fun g hg => hok.syn g (hsub.subset hg), fun g hg => hok.num g (hsub.subset hg), Nat.le_trans (size16_sub hsub) hok.size, hok.lim⟩
  obtain ⟨sz, hsze⟩ : ∃ x, x = size16 σ.l := ⟨_, rfl⟩
  obtain ⟨sz', hsze'⟩ : ∃ x, x = size16 (drop16 σ.l f.num) := ⟨_, rfl⟩
  obtain ⟨n, hn'⟩ : ∃ x, x = f.data.length := ⟨_, rfl⟩
  obtain ⟨k, hk⟩ : ∃ x, x = f.num := ⟨_, rfl⟩
  rw [← hsze] at hI hsz hzA hfd
  rw [← hsze', ← hn'] at hsz
  rw [← hn'] at hfd hw0 ⊢
  -- behind the size's store
  obtain ⟨w1, hw1⟩ : ∃ x, x = (w0.setCell ⟨b, 2, none⟩ (.int .i64 (sz' : Nat))).drew := ⟨_, rfl⟩
  have hB1 : But [b] w0 w1 := by rw [hw1]; exact ((But.refl [b] w0).setCell (.inl (by simp)) _).drew
  have hI1 : Is w1 b 54 #[.int .i64 (σ.limit : Nat), .map (some m), .int .i64 (sz' : Nat), .int .i64 (σ.steps : Nat), .int .i64 (σ.armed : Nat), .bool σ.dead] := by rw [hw1]; exact (hI.put 2 _).drew
  have hoff := hF.off hI (by decide)
  have hF1 : Fl w1.drew (some m) sl S σ.l := (hF.butX hB1 (fun m e => by simpa using hoff.1 m e) (fun f hf g e => by simpa using hoff.2 f hf g e)).butX ((But.refl [] w1).drew) (fun _ _ => by simp) (fun _ _ _ _ => by simp)
  obtain ⟨w2, hrun, hF2, hB2⟩ := hF1.erase (l' := drop16 σ.l f.num) (n := f.num) hok.rise hok'.rise hmem hnum 0
  have hmb : m ≠ b := hoff.1 m rfl
  have hFin : Hid (Left PD w b S (with16 σ (drop16 σ.l k)) w2) := Lib.hid (by
    have hBB : But [b, m] w0 w2 := (hB1.more (by simp)).trans (((But.refl [] w1).drew.more (by simp)).trans (hB2.more (by simp)))
    have hS : But S w0 w2 := hBB.more fun x hx => by
      rcases List.mem_cons.1 hx with rfl | hx
      · exact h.mem
      · rw [List.mem_singleton.1 hx]; exact (hF.hasmap m rfl).1
    rw [hk]
    refine ⟨S, ⟨hok', h.mem, fun x hx => Nat.lt_of_lt_of_le (h0.lt x hx) hBB.size, some m, _, ?_, hF2⟩, (hB0.more (fun _ e => by cases e)).trans hS, fun x hx => .inl hx⟩
    have := hI1.drew.but hB2 (by simpa using Ne.symm hmb)
    rw [hsze'] at this
    exact this)
  rw [← hk] at hrun hn hnum ⊢
  obtain ⟨c0, c1, c2, c3, c4, c5, hb⟩ := hI.cells6
  have f2 := hI.free 2
  have hd0 := hd.but hB0 (by simp)
  have hn0 := hn.but hB0 (by simp)
  have hbx : Is w0 w.heap.size 60 #[.slice A n c, .int .i64 (s : Nat)] := by rw [hw0]; exact Is.fresh _ _ _
  have g0 := hd0.cell 0
  have g1 := hn0.cell 0
  have g2 := hbx.cell 0
  have l0 := hd0.lt
  have l1 := hn0.lt
  have l2 := hbx.lt
  have hdb : bd ≠ b := hd0.ne hI (by decide)
  have hnb : bf ≠ b := hn0.ne hI (by decide)
  have k0 := Lib.hid ((hd0.but hB1 (by simpa using hdb)).cell 0)
  have k1 := Lib.hid ((hn0.but hB1 (by simpa using hnb)).cell 0)
  have k2 := Lib.hid (hI1.cell 1)
  have k3 := Lib.hid hI1.lt
  have k4 := Lib.hid (hd0.but hB1 (by simpa using hdb)).lt
  have k5 := Lib.hid (hn0.but hB1 (by simpa using hnb)).lt
  have e2 : (sz : Int) - (n : Int) = (sz' : Int) := by omega
  have v2 := wrapI_in (show sz' < 1000000000000000 by omega)
  clear hF hok hzA hfd hsz hmem hsub hok' hn' hB1 hoff hF1 hF2 hB2 hmb hI hsze hsze' hI1 h h0 hf hv hd hn hd0 hn0 hbx hB0 hk c0 c3 c4 c5
  go_enter Try.func43, Try.ntmps43
  go_wp2
  rw [← hw0]
  clear hw0
  go_region
  rw [← hw1]
  clear hw1 c1 c2 f2 g0 g1 g2 l0 l1 l2 hb
  have k0 := k0.out
  have k1 := k1.out
  have k2 := k2.out
  have k3 := k3.out
  have k4 := k4.out
  have k5 := k5.out
  go_wp2
  go_region
  go_end0
  exact ⟨rfl, hFin.out⟩
end Go.Proofs.Ytchpincoddghfaa
set_option maxRecDepth 100000
set_option linter.unusedVariables false
namespace Go.Proofs.Ytchpincoddghfaa
set_option maxRecDepth 100000
open Go Go.RowKit Go.Maps
theorem step16_l (σ : D16) : (step16 σ).l = σ.l := rfl
theorem drop16_not {l : List F16} {n : Nat} (h : has16 l n = false) : drop16 l n = l := List.filter_eq_self.2 fun g hg => by simpa using has16_not h g hg
theorem sync16_not {l : List F16} {n : Nat} (h : has16 l n = false) : sync16 l n = l := by
  unfold sync16
  conv => rhs; rw [← List.map_id l]
  exact List.map_congr_left fun g hg => by rw [if_neg (has16_not h g hg)]; rfl
theorem cut16_not {l : List F16} {n z : Nat} (h : has16 l n = false) : cut16 l n z = l := by
  unfold cut16
  conv => rhs; rw [← List.map_id l]
  exact List.map_congr_left fun g hg => by rw [if_neg (has16_not h g hg)]; rfl
theorem PD.of_left {w w1 w2 : World} {b : Nat} {S : List Nat} {τ : D16} (hB : But S w w1) (h : Left PD w1 b S τ w2) : Left PD w b S τ w2 := by
  obtain ⟨S', h1, h2, h3⟩ := h
  exact ⟨S', h1, hB.trans h2, fun x hx => (h3 x hx).imp id fun e => Nat.le_trans hB.size e⟩
set_option maxHeartbeats 1000000 in
theorem pread16_any (w : World) {b : Nat} {S : List Nat} {σ : D16} (h : PD w b S σ) (n : Int) :
    Calls Try.prog 23 #[.pointer (some ⟨b, 0, none⟩), .int .i64 n] w fun e w' => e = .returned (.tuple #[.string (strL (read16 σ n).1), .int .i64 (read16 σ n).2]) ∧ w = w' := by
  have HW := Lib.hid (pcheck16_any w h n)
  by_cases h0 : wrong16 σ n = 0
  · obtain ⟨hd, hn0, hn1⟩ := wrong16_ok h0
    obtain ⟨k, rfl⟩ : ∃ k : Nat, n = (k : Int) := ⟨n.toNat, by omega⟩
    have hr : read16 σ (k : Int) = (get16 σ.l k, 0) := by unfold read16; rw [if_neg (fun e => e h0), Int.toNat_natCast]
    rw [hr]
    rw [h0] at HW
    obtain ⟨mb, sl, hI, hF⟩ := h.row
    obtain ⟨v, s, hlk, hown, _, _, _⟩ := hF.got h.ok.rise k
    have hl := hF.look h.ok.rise (n := k) (by omega)
    rw [hlk] at hl
    have ht := hown.text
    obtain ⟨L, hL⟩ : ∃ x, x = strL (get16 σ.l k) := ⟨_, rfl⟩
    rw [← hL] at ht ⊢
    have hfld : ∀ u v W, (Instr.field 60 (.agg #[u, v]) 0).run Try.prog W = .ok u W := by intros; kernel_rfl
    obtain ⟨c0, c1, c2, c3, c4, c5, hb⟩ := hI.cells6
    clear hF hI h hlk hown hd h0 hr hL c0 c2 c3 c4 c5
    go_enter Try.func23, Try.ntmps23
    go_wp2_with fail
    refine HW.out.mono ?_
    rintro e wz ⟨rfl, rfl⟩
    go_wp2
    go_ret2
    exact ⟨rfl, rfl⟩
  · have HR : Hid (read16 σ n = ([], wrong16 σ n)) := Lib.hid (by unfold read16; rw [if_pos h0])
    rw [HR.out]
    obtain ⟨r, hr⟩ : ∃ r, r = wrong16 σ n := ⟨_, rfl⟩
    rw [← hr] at HW h0 ⊢
    have q1 : (r != 0) = true := by simpa using h0
    have q2 : (r = 0) = False := by simpa using h0
    clear hr h h0 HR
    go_enter Try.func23, Try.ntmps23
    go_wp2_with fail
    refine HW.out.mono ?_
    rintro e wz ⟨rfl, rfl⟩
    go_wp2
    go_ret2
    exact ⟨rfl, rfl⟩
set_option maxHeartbeats 1000000 in
theorem pread16_nil (w : World) (n : Int) : Calls Try.prog 23 #[.pointer none, .int .i64 n] w fun e w' => e = .returned (.tuple #[.string ByteArray.empty, .int .i64 2]) ∧ But [] w w' := by
  have HW := Lib.hid (pcheck16_nil w n)
  go_enter Try.func23, Try.ntmps23
  go_wp2_with fail
  refine HW.out.mono ?_
  rintro e wz ⟨rfl, rfl⟩
  go_wp2
  go_ret2
  exact ⟨rfl, But.refl [] _⟩
set_option maxHeartbeats 1000000 in
theorem pchange_any_nil (w : World) (n : Int) (fv : Value) : Calls Try.prog 39 #[.pointer none, .int .i64 n, fv] w fun e w' => e = .returned (.int .i64 2) ∧ w = w' := by
  have HW := Lib.hid (pcheck16_nil w n)
  go_enter Try.func39, Try.ntmps39
  go_wp2_with fail
  refine HW.out.mono ?_
  rintro e wz ⟨rfl, rfl⟩
  go_wp2
  go_ret
  exact ⟨rfl, rfl⟩
set_option maxHeartbeats 1000000 in
theorem pchange_sync (w : World) {b : Nat} {S : List Nat} {σ : D16} (h : PD w b S σ) (hs : σ.steps < 900000000000000) (ha : σ.armed ≤ 9223372036854775807) (n : Int) (φ : List F16 → List F16) (R : D16 × Int)
    (r1 : wrong16 σ n ≠ 0 → R = (σ, wrong16 σ n)) (r2 : wrong16 σ n = 0 → (step16 σ).dead = true → R = (step16 σ, 50)) (r3 : wrong16 σ n = 0 → (step16 σ).dead = false → R = (with16 (step16 σ) (φ σ.l), 0)) (r4 : ∀ k : Nat, n = (k : Int) → has16 σ.l k = false → φ σ.l = σ.l)
    (bd bf : Nat) (hdo : ∀ (w1 : World) (f : F16) (v : Value), But S w w1 → PD w1 b S (step16 σ) → f ∈ σ.l → n = (f.num : Int) → OwnF w1 0 v f.data → Calls Try.prog 40 #[.agg #[v, .int .i64 (f.syn : Nat)], .pointer (some ⟨bd, 0, none⟩), .pointer (some ⟨bf, 0, none⟩)] w1 fun e w2 => e = .returned (.tuple #[]) ∧ Left PD w1 b S (with16 (step16 σ) (φ σ.l)) w2) :
    Calls Try.prog 39 #[.pointer (some ⟨b, 0, none⟩), .int .i64 n, .func (.func 40) #[] #[.pointer (some ⟨bd, 0, none⟩), .pointer (some ⟨bf, 0, none⟩)]] w fun e w' => e = .returned (.int .i64 R.2) ∧ Left PD w b S R.1 w' := by
  have HW := Lib.hid (pcheck16_any w h n)
  by_cases h0 : wrong16 σ n = 0
  · obtain ⟨hd, hn0, hn1⟩ := wrong16_ok h0
    obtain ⟨k, rfl⟩ : ∃ k : Nat, n = (k : Int) := ⟨n.toNat, by omega⟩
    rw [h0] at HW
    have HS := Lib.hid (pstep16_any w h hd hs ha)
    cases hde : (step16 σ).dead with
    | true =>
      have HR := Lib.hid (r2 h0 hde)
      rw [HR.out]
      rw [hde] at HS
      simp only [if_true] at HS
      have HB : Hid (∀ w1, PD w1 b S (step16 σ) → But [b] w w1 → Left PD w b S (step16 σ) w1) := Lib.hid fun w1 h1 h2 => h.left1 h1 h2
      clear r1 r2 r3 r4 hdo h h0 hd hde HR
      go_enter Try.func39, Try.ntmps39
      go_wp2_with fail
      refine HW.out.mono ?_
      rintro e wz ⟨rfl, rfl⟩
      go_wp2_with fail
      refine HS.out.mono ?_
      rintro e w1 ⟨rfl, h1, h2⟩
      have HL := Lib.hid (HB.out _ h1 h2)
      clear h1 h2
      go_wp2
      go_ret
      exact ⟨rfl, HL.out⟩
    | false =>
      have HR := Lib.hid (r3 h0 hde)
      rw [HR.out]
      rw [hde] at HS
      simp only [Bool.false_eq_true, if_false] at HS
      cases hh : has16 σ.l k with
      | false =>
        have H4 := Lib.hid (r4 k rfl hh)
        rw [H4.out]
        have HB : Hid (∀ w1 w2, PD w1 b S (step16 σ) → But [b] w w1 → But [] w1 w2 → Left PD w b S (with16 (step16 σ) σ.l) w2) := Lib.hid fun w1 w2 h1 h2 h3 => PD.of_left (h2.more fun x hx => by rw [List.mem_singleton.1 hx]; exact h.mem) (h1.left h3)
        have HK : Hid (∀ w1, PD w1 b S (step16 σ) → ∃ mb, w1.cell? ⟨b, 1, none⟩ = some (.map mb) ∧ b < w1.heap.size ∧ (Instr.lookup 52 (.map mb) (.int .i64 (k : Nat)) true).run Try.prog w1 = .ok (.tuple #[.agg #[.slice none 0 0, .int .i64 0], .bool false]) w1) := Lib.hid fun w1 h1 => by
          obtain ⟨mb, sl, hI, hF⟩ := h1.row
          have hl := hF.look_ok h1.ok.rise (n := k) (by omega)
          rw [step16_l, (lk16_not hh).1, hh] at hl
          exact ⟨mb, hI.cell 1, hI.lt, hl⟩
        clear r1 r2 r3 r4 hdo h h0 hd hde HR hh H4
        go_enter Try.func39, Try.ntmps39
        go_wp2_with fail
        refine HW.out.mono ?_
        rintro e wz ⟨rfl, rfl⟩
        go_wp2_with fail
        refine HS.out.mono ?_
        rintro e w1 ⟨rfl, h1, h2⟩
        have HL : Hid (∀ w2, But [] w1 w2 → Left PD w b S (with16 (step16 σ) σ.l) w2) := Lib.hid fun w2 h3 => HB.out _ _ h1 h2 h3
        obtain ⟨mb, c1, hb, hl⟩ := HK.out _ h1
        clear h1 h2
        go_wp2
        go_ret
        exact ⟨rfl, HL.out _ ((But.refl [] w1).alloc _)⟩
      | true =>
        obtain ⟨f, hf, hfn⟩ := has16_iff.1 hh
        have HB : Hid (∀ w1 w2, PD w1 b S (step16 σ) → But [b] w w1 → Left PD w1 b S (with16 (step16 σ) (φ σ.l)) w2 → Left PD w b S (with16 (step16 σ) (φ σ.l)) w2) := Lib.hid fun w1 w2 h1 h2 h3 => PD.of_left (h2.more fun x hx => by rw [List.mem_singleton.1 hx]; exact h.mem) h3
        have HK : Hid (∀ w1, PD w1 b S (step16 σ) → But [b] w w1 → ∃ mb A c, w1.cell? ⟨b, 1, none⟩ = some (.map mb) ∧ b < w1.heap.size ∧ (Instr.lookup 52 (.map mb) (.int .i64 (k : Nat)) true).run Try.prog w1 = .ok (.tuple #[.agg #[.slice A f.data.length c, .int .i64 (f.syn : Nat)], .bool true]) w1 ∧
            ∀ w2, But [] w1 w2 → Calls Try.prog 40 #[.agg #[.slice A f.data.length c, .int .i64 (f.syn : Nat)], .pointer (some ⟨bd, 0, none⟩), .pointer (some ⟨bf, 0, none⟩)] w2 fun e w3 => e = .returned (.tuple #[]) ∧ Left PD w b S (with16 (step16 σ) (φ σ.l)) w3) := Lib.hid fun w1 h1 h2 => by
          obtain ⟨mb, sl, hI, hF⟩ := h1.row
          have hl := hF.look_ok h1.ok.rise (n := k) (by omega)
          obtain ⟨v, s, hlk, hown, _, hfile, _⟩ := hF.got h1.ok.rise k
          obtain ⟨rfl, rfl, hget⟩ := hfile f hf hfn
          rw [hget] at hown
          obtain ⟨A, c, hv, _⟩ := own_sliceF hown
          rw [hlk, step16_l, hh, hv] at hl
          rw [hv] at hown
          refine ⟨mb, A, c, hI.cell 1, hI.lt, hl, fun w2 h3 => (hdo w2 f _ ?_ (h1.but h3 (fun _ _ => by simp)) hf (by rw [hfn]) (hown.but h3)).mono fun e w3 hh2 => ⟨hh2.1, ?_⟩⟩
          · exact (h2.more fun x hx => by rw [List.mem_singleton.1 hx]; exact h.mem).trans (h3.more (fun _ e => by cases e))
          · exact PD.of_left ((h2.more fun x hx => by rw [List.mem_singleton.1 hx]; exact h.mem).trans (h3.more (fun _ e => by cases e))) hh2.2
        obtain ⟨n, hn⟩ : ∃ x, x = f.data.length := ⟨_, rfl⟩
        obtain ⟨s, hsy⟩ : ∃ x, x = f.syn := ⟨_, rfl⟩
        rw [← hn, ← hsy] at HK
        clear r1 r2 r3 r4 hdo h h0 hd hde HR hh hf hfn hn hsy
        go_enter Try.func39, Try.ntmps39
        go_wp2_with fail
        refine HW.out.mono ?_
        rintro e wz ⟨rfl, rfl⟩
        go_wp2_with fail
        refine HS.out.mono ?_
        rintro e w1 ⟨rfl, h1, h2⟩
        obtain ⟨mb, A, c, c1, hb, hl, hC⟩ := HK.out _ h1 h2
        have HC := Lib.hid hC
        clear h1 h2 hC
        go_wp2_with fail
        refine (HC.out _ ((But.refl [] w1).alloc _)).mono ?_
        rintro e w3 ⟨rfl, hL⟩
        have HL := Lib.hid hL
        clear hL
        go_wp2
        go_ret
        exact ⟨rfl, HL.out⟩
  · have HR := Lib.hid (r1 h0)
    rw [HR.out]
    obtain ⟨r, hr⟩ : ∃ r, r = wrong16 σ n := ⟨_, rfl⟩
    rw [← hr] at HW h0 ⊢
    have q1 : (r != 0) = true := by simpa using h0
    have q2 : (r = 0) = False := by simpa using h0
    have HL : Hid (Left PD w b S σ w) := Lib.hid (h.left (But.refl [] _))
    clear r1 r2 r3 r4 hdo hr h h0 HR
    go_enter Try.func39, Try.ntmps39
    go_wp2_with fail
    refine HW.out.mono ?_
    rintro e wz ⟨rfl, rfl⟩
    go_wp2
    go_ret
    exact ⟨rfl, HL.out⟩
set_option maxHeartbeats 1000000 in
theorem pchange_cut (w : World) {b : Nat} {S : List Nat} {σ : D16} (h : PD w b S σ) (hs : σ.steps < 900000000000000) (ha : σ.armed ≤ 9223372036854775807) (n : Int) (φ : List F16 → List F16) (R : D16 × Int)
    (r1 : wrong16 σ n ≠ 0 → R = (σ, wrong16 σ n)) (r2 : wrong16 σ n = 0 → (step16 σ).dead = true → R = (step16 σ, 50)) (r3 : wrong16 σ n = 0 → (step16 σ).dead = false → R = (with16 (step16 σ) (φ σ.l), 0)) (r4 : ∀ k : Nat, n = (k : Int) → has16 σ.l k = false → φ σ.l = σ.l)
    (bd bf bz : Nat) (hdo : ∀ (w1 : World) (f : F16) (v : Value), But S w w1 → PD w1 b S (step16 σ) → f ∈ σ.l → n = (f.num : Int) → OwnF w1 0 v f.data → Calls Try.prog 42 #[.agg #[v, .int .i64 (f.syn : Nat)], .pointer (some ⟨bd, 0, none⟩), .pointer (some ⟨bf, 0, none⟩), .pointer (some ⟨bz, 0, none⟩)] w1 fun e w2 => e = .returned (.tuple #[]) ∧ Left PD w1 b S (with16 (step16 σ) (φ σ.l)) w2) :
    Calls Try.prog 39 #[.pointer (some ⟨b, 0, none⟩), .int .i64 n, .func (.func 42) #[] #[.pointer (some ⟨bd, 0, none⟩), .pointer (some ⟨bf, 0, none⟩), .pointer (some ⟨bz, 0, none⟩)]] w fun e w' => e = .returned (.int .i64 R.2) ∧ Left PD w b S R.1 w' := by
  have HW := Lib.hid (pcheck16_any w h n)
  by_cases h0 : wrong16 σ n = 0
  · obtain ⟨hd, hn0, hn1⟩ := wrong16_ok h0
    obtain ⟨k, rfl⟩ : ∃ k : Nat, n = (k : Int) := ⟨n.toNat, by omega⟩
    rw [h0] at HW
    have HS := Lib.hid (pstep16_any w h hd hs ha)
    cases hde : (step16 σ).dead with
    | true =>
      have HR := Lib.hid (r2 h0 hde)
      rw [HR.out]
      rw [hde] at HS
      simp only [if_true] at HS
      have HB : Hid (∀ w1, PD w1 b S (step16 σ) → But [b] w w1 → Left PD w b S (step16 σ) w1) := Lib.hid fun w1 h1 h2 => h.left1 h1 h2
      clear r1 r2 r3 r4 hdo h h0 hd hde HR
      go_enter Try.func39, Try.ntmps39
      go_wp2_with fail
      refine HW.out.mono ?_
      rintro e wz ⟨rfl, rfl⟩
      go_wp2_with fail
      refine HS.out.mono ?_
      rintro e w1 ⟨rfl, h1, h2⟩
      have HL := Lib.hid (HB.out _ h1 h2)
      clear h1 h2
      go_wp2
      go_ret
      exact ⟨rfl, HL.out⟩
    | false =>
      have HR := Lib.hid (r3 h0 hde)
      rw [HR.out]
      rw [hde] at HS
      simp only [Bool.false_eq_true, if_false] at HS
      cases hh : has16 σ.l k with
      | false =>
        have H4 := Lib.hid (r4 k rfl hh)
        rw [H4.out]
        have HB : Hid (∀ w1 w2, PD w1 b S (step16 σ) → But [b] w w1 → But [] w1 w2 → Left PD w b S (with16 (step16 σ) σ.l) w2) := Lib.hid fun w1 w2 h1 h2 h3 => PD.of_left (h2.more fun x hx => by rw [List.mem_singleton.1 hx]; exact h.mem) (h1.left h3)
        have HK : Hid (∀ w1, PD w1 b S (step16 σ) → ∃ mb, w1.cell? ⟨b, 1, none⟩ = some (.map mb) ∧ b < w1.heap.size ∧ (Instr.lookup 52 (.map mb) (.int .i64 (k : Nat)) true).run Try.prog w1 = .ok (.tuple #[.agg #[.slice none 0 0, .int .i64 0], .bool false]) w1) := Lib.hid fun w1 h1 => by
          obtain ⟨mb, sl, hI, hF⟩ := h1.row
          have hl := hF.look_ok h1.ok.rise (n := k) (by omega)
          rw [step16_l, (lk16_not hh).1, hh] at hl
          exact ⟨mb, hI.cell 1, hI.lt, hl⟩
        clear r1 r2 r3 r4 hdo h h0 hd hde HR hh H4
        go_enter Try.func39, Try.ntmps39
        go_wp2_with fail
        refine HW.out.mono ?_
        rintro e wz ⟨rfl, rfl⟩
        go_wp2_with fail
        refine HS.out.mono ?_
        rintro e w1 ⟨rfl, h1, h2⟩
        have HL : Hid (∀ w2, But [] w1 w2 → Left PD w b S (with16 (step16 σ) σ.l) w2) := Lib.hid fun w2 h3 => HB.out _ _ h1 h2 h3
        obtain ⟨mb, c1, hb, hl⟩ := HK.out _ h1
        clear h1 h2
        go_wp2
        go_ret
        exact ⟨rfl, HL.out _ ((But.refl [] w1).alloc _)⟩
      | true =>
        obtain ⟨f, hf, hfn⟩ := has16_iff.1 hh
        have HB : Hid (∀ w1 w2, PD w1 b S (step16 σ) → But [b] w w1 → Left PD w1 b S (with16 (step16 σ) (φ σ.l)) w2 → Left PD w b S (with16 (step16 σ) (φ σ.l)) w2) := Lib.hid fun w1 w2 h1 h2 h3 => PD.of_left (h2.more fun x hx => by rw [List.mem_singleton.1 hx]; exact h.mem) h3
        have HK : Hid (∀ w1, PD w1 b S (step16 σ) → But [b] w w1 → ∃ mb A c, w1.cell? ⟨b, 1, none⟩ = some (.map mb) ∧ b < w1.heap.size ∧ (Instr.lookup 52 (.map mb) (.int .i64 (k : Nat)) true).run Try.prog w1 = .ok (.tuple #[.agg #[.slice A f.data.length c, .int .i64 (f.syn : Nat)], .bool true]) w1 ∧
            ∀ w2, But [] w1 w2 → Calls Try.prog 42 #[.agg #[.slice A f.data.length c, .int .i64 (f.syn : Nat)], .pointer (some ⟨bd, 0, none⟩), .pointer (some ⟨bf, 0, none⟩), .pointer (some ⟨bz, 0, none⟩)] w2 fun e w3 => e = .returned (.tuple #[]) ∧ Left PD w b S (with16 (step16 σ) (φ σ.l)) w3) := Lib.hid fun w1 h1 h2 => by
          obtain ⟨mb, sl, hI, hF⟩ := h1.row
          have hl := hF.look_ok h1.ok.rise (n := k) (by omega)
          obtain ⟨v, s, hlk, hown, _, hfile, _⟩ := hF.got h1.ok.rise k
          obtain ⟨rfl, rfl, hget⟩ := hfile f hf hfn
          rw [hget] at hown
          obtain ⟨A, c, hv, _⟩ := own_sliceF hown
          rw [hlk, step16_l, hh, hv] at hl
          rw [hv] at hown
          refine ⟨mb, A, c, hI.cell 1, hI.lt, hl, fun w2 h3 => (hdo w2 f _ ?_ (h1.but h3 (fun _ _ => by simp)) hf (by rw [hfn]) (hown.but h3)).mono fun e w3 hh2 => ⟨hh2.1, ?_⟩⟩
          · exact (h2.more fun x hx => by rw [List.mem_singleton.1 hx]; exact h.mem).trans (h3.more (fun _ e => by cases e))
          · exact PD.of_left ((h2.more fun x hx => by rw [List.mem_singleton.1 hx]; exact h.mem).trans (h3.more (fun _ e => by cases e))) hh2.2
        obtain ⟨n, hn⟩ : ∃ x, x = f.data.length := ⟨_, rfl⟩
        obtain ⟨s, hsy⟩ : ∃ x, x = f.syn := ⟨_, rfl⟩
        rw [← hn, ← hsy] at HK
        clear r1 r2 r3 r4 hdo h h0 hd hde HR hh hf hfn hn hsy
        go_enter Try.func39, Try.ntmps39
        go_wp2_with fail
        refine HW.out.mono ?_
        rintro e wz ⟨rfl, rfl⟩
        go_wp2_with fail
        refine HS.out.mono ?_
        rintro e w1 ⟨rfl, h1, h2⟩
        obtain ⟨mb, A, c, c1, hb, hl, hC⟩ := HK.out _ h1 h2
        have HC := Lib.hid hC
        clear h1 h2 hC
        go_wp2_with fail
        refine (HC.out _ ((But.refl [] w1).alloc _)).mono ?_
        rintro e w3 ⟨rfl, hL⟩
        have HL := Lib.hid hL
        clear hL
        go_wp2
        go_ret
        exact ⟨rfl, HL.out⟩
  · have HR := Lib.hid (r1 h0)
    rw [HR.out]
    obtain ⟨r, hr⟩ : ∃ r, r = wrong16 σ n := ⟨_, rfl⟩
    rw [← hr] at HW h0 ⊢
    have q1 : (r != 0) = true := by simpa using h0
    have q2 : (r = 0) = False := by simpa using h0
    have HL : Hid (Left PD w b S σ w) := Lib.hid (h.left (But.refl [] _))
    clear r1 r2 r3 r4 hdo hr h h0 HR
    go_enter Try.func39, Try.ntmps39
    go_wp2_with fail
    refine HW.out.mono ?_
    rintro e wz ⟨rfl, rfl⟩
    go_wp2
    go_ret
    exact ⟨rfl, HL.out⟩
set_option maxHeartbeats 1000000 in
theorem pchange_drop (w : World) {b : Nat} {S : List Nat} {σ : D16} (h : PD w b S σ) (hs : σ.steps < 900000000000000) (ha : σ.armed ≤ 9223372036854775807) (n : Int) (φ : List F16 → List F16) (R : D16 × Int)
    (r1 : wrong16 σ n ≠ 0 → R = (σ, wrong16 σ n)) (r2 : wrong16 σ n = 0 → (step16 σ).dead = true → R = (step16 σ, 50)) (r3 : wrong16 σ n = 0 → (step16 σ).dead = false → R = (with16 (step16 σ) (φ σ.l), 0)) (r4 : ∀ k : Nat, n = (k : Int) → has16 σ.l k = false → φ σ.l = σ.l)
    (bd bf : Nat) (hdo : ∀ (w1 : World) (f : F16) (v : Value), But S w w1 → PD w1 b S (step16 σ) → f ∈ σ.l → n = (f.num : Int) → OwnF w1 0 v f.data → Calls Try.prog 43 #[.agg #[v, .int .i64 (f.syn : Nat)], .pointer (some ⟨bd, 0, none⟩), .pointer (some ⟨bf, 0, none⟩)] w1 fun e w2 => e = .returned (.tuple #[]) ∧ Left PD w1 b S (with16 (step16 σ) (φ σ.l)) w2) :
    Calls Try.prog 39 #[.pointer (some ⟨b, 0, none⟩), .int .i64 n, .func (.func 43) #[] #[.pointer (some ⟨bd, 0, none⟩), .pointer (some ⟨bf, 0, none⟩)]] w fun e w' => e = .returned (.int .i64 R.2) ∧ Left PD w b S R.1 w' := by
  have HW := Lib.hid (pcheck16_any w h n)
  by_cases h0 : wrong16 σ n = 0
  · obtain ⟨hd, hn0, hn1⟩ := wrong16_ok h0
    obtain ⟨k, rfl⟩ : ∃ k : Nat, n = (k : Int) := ⟨n.toNat, by omega⟩
    rw [h0] at HW
    have HS := Lib.hid (pstep16_any w h hd hs ha)
    cases hde : (step16 σ).dead with
    | true =>
      have HR := Lib.hid (r2 h0 hde)
      rw [HR.out]
      rw [hde] at HS
      simp only [if_true] at HS
      have HB : Hid (∀ w1, PD w1 b S (step16 σ) → But [b] w w1 → Left PD w b S (step16 σ) w1) := Lib.hid fun w1 h1 h2 => h.left1 h1 h2
      clear r1 r2 r3 r4 hdo h h0 hd hde HR
      go_enter Try.func39, Try.ntmps39
      go_wp2_with fail
      refine HW.out.mono ?_
      rintro e wz ⟨rfl, rfl⟩
      go_wp2_with fail
      refine HS.out.mono ?_
      rintro e w1 ⟨rfl, h1, h2⟩
      have HL := Lib.hid (HB.out _ h1 h2)
      clear h1 h2
      go_wp2
      go_ret
      exact ⟨rfl, HL.out⟩
    | false =>
      have HR := Lib.hid (r3 h0 hde)
      rw [HR.out]
      rw [hde] at HS
      simp only [Bool.false_eq_true, if_false] at HS
      cases hh : has16 σ.l k with
      | false =>
        have H4 := Lib.hid (r4 k rfl hh)
        rw [H4.out]
        have HB : Hid (∀ w1 w2, PD w1 b S (step16 σ) → But [b] w w1 → But [] w1 w2 → Left PD w b S (with16 (step16 σ) σ.l) w2) := Lib.hid fun w1 w2 h1 h2 h3 => PD.of_left (h2.more fun x hx => by rw [List.mem_singleton.1 hx]; exact h.mem) (h1.left h3)
        have HK : Hid (∀ w1, PD w1 b S (step16 σ) → ∃ mb, w1.cell? ⟨b, 1, none⟩ = some (.map mb) ∧ b < w1.heap.size ∧ (Instr.lookup 52 (.map mb) (.int .i64 (k : Nat)) true).run Try.prog w1 = .ok (.tuple #[.agg #[.slice none 0 0, .int .i64 0], .bool false]) w1) := Lib.hid fun w1 h1 => by
          obtain ⟨mb, sl, hI, hF⟩ := h1.row
          have hl := hF.look_ok h1.ok.rise (n := k) (by omega)
          rw [step16_l, (lk16_not hh).1, hh] at hl
          exact ⟨mb, hI.cell 1, hI.lt, hl⟩
        clear r1 r2 r3 r4 hdo h h0 hd hde HR hh H4
        go_enter Try.func39, Try.ntmps39
        go_wp2_with fail
        refine HW.out.mono ?_
        rintro e wz ⟨rfl, rfl⟩
        go_wp2_with fail
        refine HS.out.mono ?_
        rintro e w1 ⟨rfl, h1, h2⟩
        have HL : Hid (∀ w2, But [] w1 w2 → Left PD w b S (with16 (step16 σ) σ.l) w2) := Lib.hid fun w2 h3 => HB.out _ _ h1 h2 h3
        obtain ⟨mb, c1, hb, hl⟩ := HK.out _ h1
        clear h1 h2
        go_wp2
        go_ret
        exact ⟨rfl, HL.out _ ((But.refl [] w1).alloc _)⟩
      | true =>
        obtain ⟨f, hf, hfn⟩ := has16_iff.1 hh
        have HB : Hid (∀ w1 w2, PD w1 b S (step16 σ) → But [b] w w1 → Left PD w1 b S (with16 (step16 σ) (φ σ.l)) w2 → Left PD w b S (with16 (step16 σ) (φ σ.l)) w2) := Lib.hid fun w1 w2 h1 h2 h3 => PD.of_left (h2.more fun x hx => by rw [List.mem_singleton.1 hx]; exact h.mem) h3
        have HK : Hid (∀ w1, PD w1 b S (step16 σ) → But [b] w w1 → ∃ mb A c, w1.cell? ⟨b, 1, none⟩ = some (.map mb) ∧ b < w1.heap.size ∧ (Instr.lookup 52 (.map mb) (.int .i64 (k : Nat)) true).run Try.prog w1 = .ok (.tuple #[.agg #[.slice A f.data.length c, .int .i64 (f.syn : Nat)], .bool true]) w1 ∧
            ∀ w2, But [] w1 w2 → Calls Try.prog 43 #[.agg #[.slice A f.data.length c, .int .i64 (f.syn : Nat)], .pointer (some ⟨bd, 0, none⟩), .pointer (some ⟨bf, 0, none⟩)] w2 fun e w3 => e = .returned (.tuple #[]) ∧ Left PD w b S (with16 (step16 σ) (φ σ.l)) w3) := Lib.hid fun w1 h1 h2 => by
          obtain ⟨mb, sl, hI, hF⟩ := h1.row
          have hl := hF.look_ok h1.ok.rise (n := k) (by omega)
          obtain ⟨v, s, hlk, hown, _, hfile, _⟩ := hF.got h1.ok.rise k
          obtain ⟨rfl, rfl, hget⟩ := hfile f hf hfn
          rw [hget] at hown
          obtain ⟨A, c, hv, _⟩ := own_sliceF hown
          rw [hlk, step16_l, hh, hv] at hl
          rw [hv] at hown
          refine ⟨mb, A, c, hI.cell 1, hI.lt, hl, fun w2 h3 => (hdo w2 f _ ?_ (h1.but h3 (fun _ _ => by simp)) hf (by rw [hfn]) (hown.but h3)).mono fun e w3 hh2 => ⟨hh2.1, ?_⟩⟩
          · exact (h2.more fun x hx => by rw [List.mem_singleton.1 hx]; exact h.mem).trans (h3.more (fun _ e => by cases e))
          · exact PD.of_left ((h2.more fun x hx => by rw [List.mem_singleton.1 hx]; exact h.mem).trans (h3.more (fun _ e => by cases e))) hh2.2
        obtain ⟨n, hn⟩ : ∃ x, x = f.data.length := ⟨_, rfl⟩
        obtain ⟨s, hsy⟩ : ∃ x, x = f.syn := ⟨_, rfl⟩
        rw [← hn, ← hsy] at HK
        clear r1 r2 r3 r4 hdo h h0 hd hde HR hh hf hfn hn hsy
        go_enter Try.func39, Try.ntmps39
        go_wp2_with fail
        refine HW.out.mono ?_
        rintro e wz ⟨rfl, rfl⟩
        go_wp2_with fail
        refine HS.out.mono ?_
        rintro e w1 ⟨rfl, h1, h2⟩
        obtain ⟨mb, A, c, c1, hb, hl, hC⟩ := HK.out _ h1 h2
        have HC := Lib.hid hC
        clear h1 h2 hC
        go_wp2_with fail
        refine (HC.out _ ((But.refl [] w1).alloc _)).mono ?_
        rintro e w3 ⟨rfl, hL⟩
        have HL := Lib.hid hL
        clear hL
        go_wp2
        go_ret
        exact ⟨rfl, HL.out⟩
  · have HR := Lib.hid (r1 h0)
    rw [HR.out]
    obtain ⟨r, hr⟩ : ∃ r, r = wrong16 σ n := ⟨_, rfl⟩
    rw [← hr] at HW h0 ⊢
    have q1 : (r != 0) = true := by simpa using h0
    have q2 : (r = 0) = False := by simpa using h0
    have HL : Hid (Left PD w b S σ w) := Lib.hid (h.left (But.refl [] _))
    clear r1 r2 r3 r4 hdo hr h h0 HR
    go_enter Try.func39, Try.ntmps39
    go_wp2_with fail
    refine HW.out.mono ?_
    rintro e wz ⟨rfl, rfl⟩
    go_wp2
    go_ret
    exact ⟨rfl, HL.out⟩
end Go.Proofs.Ytchpincoddghfaa
