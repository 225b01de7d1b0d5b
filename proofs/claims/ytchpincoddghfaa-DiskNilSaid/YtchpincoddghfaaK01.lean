/- Several texts in one: DkM, Four, RegM, Mem, HeM, SbB, FiM, RwF, SbD, DkA, DkB, DkE, DkG, DkI, DkJ, DkP (what DiskDies, DiskLasts, DiskNil, DiskPlays reach of them). -/
import Derived.Below
import Derived.BigQuiet
import Derived.BigRegion
import Derived.Deep.AppendLies
import Derived.Deep.Cut
import Derived.Deep.CutBlock
import Derived.Deep.CutRange
import Derived.Deep.DeepCutAuto
import Derived.Deep.Draws
import Derived.Deep.Onto
import Derived.Deep.QuietTactic
import Derived.Deep.RegionLaw
import Derived.Deep.RegionWith
import Derived.Handy
import Derived.Laws.BitsAllLaws
import Derived.Laws.BitsLemmas
import Derived.Laws.BytesArg
import Derived.Laws.IdiomStrings
import Derived.Laws.MakeOwn
import Derived.Laws.OwnMore
import Derived.Laws.Rows
import Derived.Lib.Hide
import Derived.Maps.AppendAt
import Derived.OrdersHeld
import Derived.OrdersIn
import Derived.Outline
import Derived.OwnWalk
import Derived.OwnWalkIn
import Derived.RangeFuncCalls
import Derived.RegionTactic
import Derived.TacticsInMore
import Derived.Test.YtchpincoddghfaaChecked
import Derived.WalkKit
set_option maxRecDepth 100000
set_option linter.unusedVariables false
set_option linter.unusedVariables false
namespace Go.Proofs.Ytchpincoddghfaa
set_option maxRecDepth 100000
open Go
/-- A file: its number, its bytes, how many of them last. -/
structure F16 where
  num : Nat
  data : List UInt8
  syn : Nat
/-- A disk: its files, rising, and what else it knows. -/
structure D16 where
  l : List F16
  limit : Nat
  armed : Nat
  dead : Bool
  steps : Nat
def at16 (l : List F16) (n : Nat) : Nat := (l.takeWhile fun f => decide (f.num < n)).length
def has16 (l : List F16) (n : Nat) : Bool := l.any fun f => f.num == n
def get16 (l : List F16) (n : Nat) : List UInt8 := ((l.find? fun f => f.num == n).map (·.data)).getD []
def size16 (l : List F16) : Nat := (l.map fun f => f.data.length).sum
def put16 (l : List F16) (n : Nat) (s : List UInt8) : List F16 :=
  if has16 l n then l.map fun f => if f.num = n then { f with data := f.data ++ s } else f
  else l.take (at16 l n) ++ ⟨n, s, 0⟩ :: l.drop (at16 l n)
def sync16 (l : List F16) (n : Nat) : List F16 := l.map fun f => if f.num = n then { f with syn := f.data.length } else f
def cut16 (l : List F16) (n z : Nat) : List F16 := l.map fun f => if f.num = n then { f with data := f.data.take z, syn := z } else f
def drop16 (l : List F16) (n : Nat) : List F16 := l.filter fun f => !(f.num == n)
/-- One step more; the disk may die at it. -/
def step16 (σ : D16) : D16 := { σ with steps := σ.steps + 1, armed := σ.armed - 1, dead := σ.dead || σ.armed == 1 }
def wrong16 (σ : D16) (n : Int) : Int := if σ.dead then 50 else if n < 0 ∨ 65535 < n then 1 else 0
def append16 (σ : D16) (n : Int) (s : List UInt8) : D16 × Int :=
  if wrong16 σ n ≠ 0 then (σ, wrong16 σ n) else
  if σ.limit < size16 σ.l + s.length then (σ, 51) else
  ({ step16 σ with l := put16 σ.l n.toNat s }, if (step16 σ).dead then 50 else 0)
def syncs16 (σ : D16) (n : Int) : D16 × Int :=
  if wrong16 σ n ≠ 0 then (σ, wrong16 σ n) else
  if (step16 σ).dead then (step16 σ, 50) else ({ step16 σ with l := sync16 σ.l n.toNat }, 0)
def cuts16 (σ : D16) (n z : Int) : D16 × Int :=
  if wrong16 σ n ≠ 0 then (σ, wrong16 σ n) else
  if z < 0 ∨ (get16 σ.l n.toNat).length < z then (σ, 1) else
  if (step16 σ).dead then (step16 σ, 50) else ({ step16 σ with l := cut16 σ.l n.toNat z.toNat }, 0)
def drops16 (σ : D16) (n : Int) : D16 × Int :=
  if wrong16 σ n ≠ 0 then (σ, wrong16 σ n) else
  if (step16 σ).dead then (step16 σ, 50) else ({ step16 σ with l := drop16 σ.l n.toNat }, 0)
def read16 (σ : D16) (n : Int) : List UInt8 × Int := if wrong16 σ n ≠ 0 then ([], wrong16 σ n) else (get16 σ.l n.toNat, 0)
def arm16 (σ : D16) (k : Int) : D16 := { σ with armed := k.toNat }
/-- How many of n bytes a keep leaves. -/
def keep16 (k : Int) (n : Nat) : Nat := (if k < 0 then -(k + 1) else k).toNat % (n + 1)
def lose16 (f : F16) (k : Int) : F16 :=
  ⟨f.num, f.data.take (f.syn + keep16 k (f.data.length - f.syn)), (f.data.take (f.syn + keep16 k (f.data.length - f.syn))).length⟩
def crash16 : List F16 → List Int → List F16
  | [], _ => []
  | f :: l, ks => if f.data.length = f.syn then f :: crash16 l ks else lose16 f (ks.headD 0) :: crash16 l ks.tail
def crashs16 (σ : D16) (ks : List Int) : D16 := { σ with l := crash16 σ.l ks, dead := false, armed := 0 }
def new16 (limit : Nat) : D16 := ⟨[], limit, 0, false, 0⟩
/-- What is true of each disk: its files rise, no more is synced than is there, and all of it is no more than may be. -/
structure Ok16 (σ : D16) : Prop where
  rise : σ.l.Pairwise fun a b => a.num < b.num
  syn : ∀ f ∈ σ.l, f.syn ≤ f.data.length
  num : ∀ f ∈ σ.l, f.num ≤ 65535
  size : size16 σ.l ≤ σ.limit
  lim : σ.limit ≤ 16777216
theorem wrong16_ok {σ : D16} {n : Int} (h : wrong16 σ n = 0) : σ.dead = false ∧ 0 ≤ n ∧ n ≤ 65535 := by
  unfold wrong16 at h
  split at h
  · cases h
  · rename_i hd
    split at h
    · cases h
    · exact ⟨by simpa using hd, by omega, by omega⟩
theorem size16_cons (f : F16) (l : List F16) : size16 (f :: l) = f.data.length + size16 l := by simp [size16]
theorem size16_append (a b : List F16) : size16 (a ++ b) = size16 a + size16 b := by simp [size16]
theorem size16_mem {l : List F16} {f : F16} (h : f ∈ l) : f.data.length ≤ size16 l := by
  induction l with
  | nil => cases h
  | cons a l ih =>
    rw [size16_cons]
    rcases List.mem_cons.1 h with rfl | h
    · omega
    · have := ih h; omega
theorem size16_map {l : List F16} {g : F16 → F16} (h : ∀ f ∈ l, (g f).data.length ≤ f.data.length) : size16 (l.map g) ≤ size16 l := by
  induction l with
  | nil => exact Nat.le_refl _
  | cons a l ih =>
    rw [List.map_cons, size16_cons, size16_cons]
    have h1 := h a (List.mem_cons_self ..)
    have h2 := ih fun f hf => h f (List.mem_cons_of_mem _ hf)
    omega
theorem rise_map {l : List F16} {g : F16 → F16} (hg : ∀ f, (g f).num = f.num) (h : l.Pairwise fun a b => a.num < b.num) : (l.map g).Pairwise fun a b => a.num < b.num := by
  rw [List.pairwise_map]
  exact h.imp fun {a b} hab => by rw [hg, hg]; exact hab
/-- Below the place of a number the numbers are less; from it on they are not. -/
theorem at16_split {l : List F16} (n : Nat) (h : l.Pairwise fun a b => a.num < b.num) : (∀ f ∈ l.take (at16 l n), f.num < n) ∧ (∀ f ∈ l.drop (at16 l n), n ≤ f.num) := by
  induction l with
  | nil => exact ⟨fun f hf => by simp at hf, fun f hf => by simp at hf⟩
  | cons a l ih =>
    have hp := List.pairwise_cons.1 h
    by_cases ha : a.num < n
    · have e : at16 (a :: l) n = at16 l n + 1 := by unfold at16; rw [List.takeWhile_cons, if_pos (by simpa using ha)]; rfl
      rw [e]
      refine ⟨fun f hf => ?_, fun f hf => (ih hp.2).2 f (by simpa using hf)⟩
      rw [List.take_succ_cons] at hf
      rcases List.mem_cons.1 hf with rfl | hf
      · exact ha
      · exact (ih hp.2).1 f hf
    · have e : at16 (a :: l) n = 0 := by unfold at16; rw [List.takeWhile_cons, if_neg (by simpa using ha)]; rfl
      rw [e]
      refine ⟨fun f hf => by simp at hf, fun f hf => ?_⟩
      rw [List.drop_zero] at hf
      rcases List.mem_cons.1 hf with rfl | hf
      · omega
      · have := hp.1 f hf; omega
theorem has16_iff {l : List F16} {n : Nat} : has16 l n = true ↔ ∃ f ∈ l, f.num = n := by
  unfold has16
  rw [List.any_eq_true]
  simp
theorem has16_not {l : List F16} {n : Nat} (h : has16 l n = false) : ∀ f ∈ l, f.num ≠ n := fun f hf e => by
  have : has16 l n = true := has16_iff.2 ⟨f, hf, e⟩
  rw [h] at this; cases this
theorem put16_rise {l : List F16} {n : Nat} {s : List UInt8} (h : l.Pairwise fun a b => a.num < b.num) : (put16 l n s).Pairwise fun a b => a.num < b.num := by
  unfold put16
  split
  · exact rise_map (fun f => by split <;> rfl) h
  · rename_i hn
    have hs := at16_split n h
    have hne := has16_not (by simpa using hn)
    rw [List.pairwise_append]
    refine ⟨h.sublist (List.take_sublist _ _), ?_, ?_⟩
    · rw [List.pairwise_cons]
      refine ⟨fun f hf => ?_, h.sublist (List.drop_sublist _ _)⟩
      have h1 := hs.2 f hf
      have h2 := hne f (List.mem_of_mem_drop hf)
      show n < f.num
      omega
    · intro a ha b hb
      have h1 := hs.1 a ha
      rcases List.mem_cons.1 hb with rfl | hb
      · exact h1
      · have h2 := hs.2 b hb
        omega
theorem size16_put {l : List F16} {n : Nat} {s : List UInt8} (h : l.Pairwise fun a b => a.num < b.num) : size16 (put16 l n s) = size16 l + s.length := by
  unfold put16
  by_cases hh : has16 l n = true
  · rw [if_pos hh]
    obtain ⟨f, hf, hfn⟩ := has16_iff.1 hh
    clear hh
    induction l with
    | nil => cases hf
    | cons a l ih =>
      have hp := List.pairwise_cons.1 h
      rw [List.map_cons, size16_cons, size16_cons]
      rcases List.mem_cons.1 hf with rfl | hf
      · rw [if_pos hfn]
        have e : l.map (fun f => if f.num = n then { f with data := f.data ++ s } else f) = l := by
          have : l.map (fun f => if f.num = n then { f with data := f.data ++ s } else f) = l.map id := List.map_congr_left fun g hg => by
            have := hp.1 g hg
            rw [if_neg (by omega)]; rfl
          rw [this, List.map_id]
        rw [e, List.length_append]; omega
      · have := hp.1 f hf
        rw [if_neg (by omega), ih hp.2 hf]; omega
  · rw [if_neg hh, size16_append, size16_cons, ← Nat.add_assoc, Nat.add_right_comm, ← size16_append, List.take_append_drop]
theorem ok16_map {σ τ : D16} {g : F16 → F16} (h : Ok16 σ) (hl : τ.l = σ.l.map g) (hlim : τ.limit = σ.limit) (hn : ∀ f, (g f).num = f.num) (hd : ∀ f ∈ σ.l, (g f).data.length ≤ f.data.length) (hs : ∀ f ∈ σ.l, (g f).syn ≤ (g f).data.length) : Ok16 τ := by
  refine ⟨by rw [hl]; exact rise_map hn h.rise, ?_, ?_, by rw [hl, hlim]; exact Nat.le_trans (size16_map hd) h.size, by rw [hlim]; exact h.lim⟩
  · rw [hl]; intro f hf
    obtain ⟨x, hx, rfl⟩ := List.mem_map.1 hf
    exact hs x hx
  · rw [hl]; intro f hf
    obtain ⟨x, hx, rfl⟩ := List.mem_map.1 hf
    rw [hn]; exact h.num x hx
theorem size16_sub {a b : List F16} (h : a.Sublist b) : size16 a ≤ size16 b := by
  induction h with
  | slnil => exact Nat.le_refl _
  | cons x _ ih => rw [size16_cons]; omega
  | cons_cons x _ ih => rw [size16_cons, size16_cons]; omega
theorem lose16_len {f : F16} (k : Int) : (lose16 f k).data.length ≤ f.data.length := by
  show (f.data.take _).length ≤ _
  rw [List.length_take]; exact Nat.min_le_right _ _
theorem crash16_num : ∀ (l : List F16) (ks : List Int), (crash16 l ks).map (·.num) = l.map (·.num)
  | [], _ => rfl
  | f :: l, ks => by
    unfold crash16
    split
    · rw [List.map_cons, List.map_cons, crash16_num l ks]
    · rw [List.map_cons, List.map_cons, crash16_num l ks.tail]; rfl
theorem crash16_size : ∀ (l : List F16) (ks : List Int), size16 (crash16 l ks) ≤ size16 l
  | [], _ => Nat.le_refl _
  | f :: l, ks => by
    unfold crash16
    split
    · rw [size16_cons, size16_cons]; have := crash16_size l ks; omega
    · rw [size16_cons, size16_cons]; have := crash16_size l ks.tail; have := lose16_len (f := f) (ks.headD 0); omega
theorem crash16_syn : ∀ (l : List F16) (ks : List Int), (∀ f ∈ l, f.syn ≤ f.data.length) → ∀ f ∈ crash16 l ks, f.syn = f.data.length
  | [], _, _, f, hf => by cases hf
  | a :: l, ks, h, f, hf => by
    unfold crash16 at hf
    split at hf
    · rename_i hs
      rcases List.mem_cons.1 hf with rfl | hf
      · omega
      · exact crash16_syn l ks (fun f hf => h f (List.mem_cons_of_mem _ hf)) f hf
    · rcases List.mem_cons.1 hf with rfl | hf
      · rfl
      · exact crash16_syn l ks.tail (fun f hf => h f (List.mem_cons_of_mem _ hf)) f hf
theorem ok16_crash {σ : D16} {ks : List Int} (h : Ok16 σ) : Ok16 (crashs16 σ ks) := by
  have hn : (crash16 σ.l ks).map (·.num) = σ.l.map (·.num) := crash16_num σ.l ks
  refine ⟨?_, fun f hf => Nat.le_of_eq (crash16_syn σ.l ks h.syn f hf), ?_, Nat.le_trans (crash16_size σ.l ks) h.size, h.lim⟩
  · have h1 : (σ.l.map (·.num)).Pairwise (· < ·) := List.pairwise_map.2 h.rise
    rw [← hn, List.pairwise_map] at h1
    exact h1
  · intro f hf
    have h2 : f.num ∈ (crash16 σ.l ks).map (·.num) := List.mem_map.2 ⟨f, hf, rfl⟩
    rw [hn] at h2
    obtain ⟨g, hg, e⟩ := List.mem_map.1 h2
    rw [← e]; exact h.num g hg
theorem ok16_new {n : Nat} (h : n ≤ 16777216) : Ok16 (new16 n) := ⟨List.Pairwise.nil, fun f hf => absurd hf List.not_mem_nil, fun f hf => absurd hf List.not_mem_nil, Nat.zero_le _, h⟩
end Go.Proofs.Ytchpincoddghfaa
set_option linter.unusedVariables false
namespace Go.Proofs.Ytchpincoddghfaa
set_option maxRecDepth 100000
open Go
/-- Bytes as a string. -/
def strL (l : List UInt8) : ByteArray := ⟨l.toArray⟩
end Go.Proofs.Ytchpincoddghfaa
set_option linter.unusedVariables false
namespace Go.Proofs.Ytchpincoddghfaa
set_option maxRecDepth 100000
open Go
section
variable {P : Program} {ops : Array Oper} {Q : Exit → Act → World → Prop} {md : Region.Mode} {S : World → Prop} {R : World → World → Prop}
/-- In every world that meets S the operation gives v, and leaves a world that meets S and is no more than R away. -/
def YieldsR (P : Program) (ops : Array Oper) (S : World → Prop) (R : World → World → Prop) (o : Oper) (v : Value) (a : Act) : Prop :=
  (Region.wanted o (yielded ops a.tmps) = true ∧ ∀ w, S w → ((∃ w1, (execOp a.eval o).run P w = .ok (.value v) w1 ∧ S w1 ∧ R w w1) ∨
    ∃ f args, (execOp a.eval o).run P w = .ok (.enter f args) w ∧ Calls P f args w fun e w1 => e = .returned v ∧ S w1 ∧ R w w1)) ∨
  (Region.wanted o (yielded ops a.tmps) = false ∧ v = undef)
/-- One that reads, or less. -/
theorem YieldsR.read (hrefl : ∀ w, R w w) {o : Oper} {v : Value} {a : Act} (hw : Region.wanted o (yielded ops a.tmps) = true) (h : ∀ w, S w → (execOp a.eval o).run P w = .ok (.value v) w) : YieldsR P ops S R o v a :=
  .inl ⟨hw, fun w hS => .inl ⟨w, h w hS, hS, hrefl w⟩⟩
end
end Go.Proofs.Ytchpincoddghfaa
namespace Go.Proofs.Ytchpincoddghfaa
set_option maxRecDepth 100000
open Go Go.RowKit
/-- Block b is just these cells; none is frozen. -/
def Is (w : World) (b : Nat) (t : TypeId) (cs : Array Value) : Prop := w.heap[b]? = some (.cells cs t (0, 0))
/-- Whatever is no block of S is as it was. -/
structure But (S : List Nat) (w w' : World) : Prop where
  os : w'.os = w.os
  tape : w'.tape = w.tape
  output : w'.output = w.output
  size : w.heap.size ≤ w'.heap.size
  block : ∀ k, k < w.heap.size → k ∉ S → w'.heap[k]? = w.heap[k]?
/-- A slice's address and length: it reads as these bytes. -/
def ByteRow (w : World) (A : Option Addr) (n : Nat) (l : List UInt8) : Prop :=
  l.length = n ∧ (0 < n → ∃ g o, A = some ⟨g, o, none⟩ ∧ ∀ (i : Nat) (h : i < l.length), w.cell? ⟨g, o + i, none⟩ = some (.int .u8 l[i].toNat))
/-- No cell of the slice lies in block b. -/
def Off (A : Option Addr) (b : Nat) : Prop := ∀ a, A = some a → a.block ≠ b

section
variable {w w' w'' : World} {b : Nat} {t : TypeId} {cs : Array Value} {S T : List Nat}
theorem Is.lt (h : Is w b t cs) : b < w.heap.size := (Array.getElem?_eq_some_iff.1 h).1
theorem Is.cell (h : Is w b t cs) (i : Nat) : w.cell? ⟨b, i, none⟩ = cs[i]? := by unfold Is at h; simp [World.cell?, h]
theorem Is.free (h : Is w b t cs) (i : Nat) : w.frozen? ⟨b, i, none⟩ = false := by unfold Is at h; simp [World.frozen?, h]
theorem Is.fresh (w : World) (t : TypeId) (cs : Array Value) : Is (w.alloc (.cells cs t)) w.heap.size t cs := by unfold Is World.alloc; simp
theorem Is.drew (h : Is w b t cs) : Is w.drew b t cs := h
theorem Is.drewN (h : Is w b t cs) (n : Nat) : Is (w.drewN n) b t cs := h
theorem Is.alloc (h : Is w b t cs) (o : Obj) : Is (w.alloc o) b t cs := (Below.heap_alloc w o b h.lt).trans h
theorem Is.put (h : Is w b t cs) (i : Nat) (u : Value) : Is (w.setCell ⟨b, i, none⟩ u) b t (cs.setIfInBounds i u) := by
  unfold Is at h ⊢; simp [World.setCell, Array.getElem?_modify, h]
theorem Is.far (h : Is w b t cs) {p : Addr} (hp : b ≠ p.block) (u : Value) : Is (w.setCell p u) b t cs := (Below.heap_setCell w p u b hp).trans h
theorem Is.but (h : Is w b t cs) (hw : But S w w') (hb : b ∉ S) : Is w' b t cs := (hw.block b h.lt hb).trans h
theorem Is.grown (h : Is w b t cs) {row : Option Nat} (hw : w.grownBy w' row) (hb : some b ≠ row) : Is w' b t cs := (hw.block b h.lt hb).trans h
theorem Is.ne (h : Is w b t cs) {b' : Nat} {t' : TypeId} {cs' : Array Value} (h' : Is w b' t' cs') (hne : t ≠ t') : b ≠ b' := by
  rintro rfl
  exact hne (Obj.cells.inj (Option.some.inj (h.symm.trans h'))).2.1

theorem But.refl (S : List Nat) (w : World) : But S w w := ⟨rfl, rfl, rfl, Nat.le_refl _, fun _ _ _ => rfl⟩
theorem But.trans (h : But S w w') (k : But S w' w'') : But S w w'' :=
  ⟨k.os.trans h.os, k.tape.trans h.tape, k.output.trans h.output, Nat.le_trans h.size k.size, fun i hi hS => (k.block i (Nat.lt_of_lt_of_le hi h.size) hS).trans (h.block i hi hS)⟩
theorem But.more (h : But S w w') (hS : ∀ k ∈ S, k ∈ T) : But T w w' := ⟨h.os, h.tape, h.output, h.size, fun k hk hT => h.block k hk (fun e => hT (hS k e))⟩
theorem But.drew (h : But S w w') : But S w w'.drew := ⟨h.os, h.tape, h.output, h.size, h.block⟩
theorem But.drewN (h : But S w w') (n : Nat) : But S w (w'.drewN n) := ⟨h.os, h.tape, h.output, h.size, h.block⟩
theorem But.alloc (h : But S w w') (o : Obj) : But S w (w'.alloc o) :=
  h.trans ⟨rfl, rfl, rfl, by simp, fun k hk _ => Below.heap_alloc _ _ _ hk⟩
theorem But.setCell (h : But S w w') {p : Addr} (hp : p.block ∈ S ∨ w.heap.size ≤ p.block) (u : Value) : But S w (w'.setCell p u) :=
  ⟨h.os, h.tape, h.output, by have := h.size; simpa using this, fun k hk hS => (Below.heap_setCell w' p u k (by
    rcases hp with e | e
    · intro e'; subst e'; exact hS e
    · omega)).trans (h.block k hk hS)⟩
theorem But.grown (h : But S w w') {row : Option Nat} (hw : w'.grownBy w'' row) (hr : ∀ g, row = some g → g ∈ S ∨ w.heap.size ≤ g) : But S w w'' :=
  ⟨hw.os.trans h.os, hw.tape.trans h.tape, hw.output.trans h.output, Nat.le_trans h.size hw.size, fun k hk hS => (hw.block k (Nat.lt_of_lt_of_le hk h.size) (fun e => by
    rcases hr k e.symm with g | g
    · exact hS g
    · omega)).trans (h.block k hk hS)⟩
theorem But.cell (h : But S w w') {a : Addr} {v : Value} (hc : w.cell? a = some v) (ha : a.block ∉ S) : w'.cell? a = some v :=
  (World.cell?_of_block (h.block a.block (World.block_lt_of_cell? w a hc) ha)).trans hc

variable {A : Option Addr} {n : Nat} {l : List UInt8}
theorem ByteRow.but (h : ByteRow w A n l) (hw : But S w w') (hA : ∀ k ∈ S, Off A k) : ByteRow w' A n l :=
  ⟨h.1, fun hn => by
    obtain ⟨g, o, e, hc⟩ := h.2 hn
    exact ⟨g, o, e, fun i hi => hw.cell (hc i hi) (fun hS => hA g hS _ e rfl)⟩⟩
theorem ByteRow.drew (h : ByteRow w A n l) : ByteRow w.drew A n l := h
theorem ByteRow.at (h : ByteRow w A n l) {i : Nat} (hi : i < n) : ∃ g o, A = some ⟨g, o, none⟩ ∧ w.cell? ⟨g, o + i, none⟩ = some (.int .u8 (l[i]'(by have := h.1; omega)).toNat) := by
  obtain ⟨g, o, e, hc⟩ := h.2 (by omega)
  exact ⟨g, o, e, hc i (by have := h.1; omega)⟩
end
end Go.Proofs.Ytchpincoddghfaa
set_option linter.unusedVariables false
namespace Go.Proofs.Ytchpincoddghfaa
set_option maxRecDepth 100000
open Go
/-- What stands of an image while its chunks are gone through. -/
structure HS where
  pal : Bool
  trans : Bool
  idat : Bool
  gap : Bool
  P : List UInt8
  T : List UInt8
  D : List UInt8
end Go.Proofs.Ytchpincoddghfaa
set_option maxRecDepth 100000
set_option linter.unusedVariables false
namespace Go.Proofs.Ytchpincoddghfaa
set_option maxRecDepth 100000
open Go Go.RowKit
def nCells (L : List Nat) : List Value := L.map fun x => .int .i64 (x : Nat)
/-- A slice reads as these numbers. -/
def Nums (w : World) (A : Option Addr) (n : Nat) (L : List Nat) : Prop :=
  L.length = n ∧ (0 < n → ∃ g o, A = some ⟨g, o, none⟩ ∧ g < w.heap.size ∧ ∀ (i : Nat) (h : i < L.length), w.cell? ⟨g, o + i, none⟩ = some (.int .i64 (L[i] : Nat)))
theorem Nums.nil (w : World) (A : Option Addr) : Nums w A 0 [] := ⟨rfl, fun h => absurd h (by omega)⟩
theorem Nums.but {w w' : World} {A : Option Addr} {n : Nat} {L : List Nat} (h : Nums w A n L) (hw : But [] w w') : Nums w' A n L :=
  ⟨h.1, fun hn => by
    obtain ⟨g, o, e, hg, hc⟩ := h.2 hn
    exact ⟨g, o, e, Nat.lt_of_lt_of_le hg hw.size, fun i hi => hw.cell (hc i hi) (by simp)⟩⟩
theorem Nums.at {w : World} {A : Option Addr} {n : Nat} {L : List Nat} (h : Nums w A n L) {i : Nat} (hi : i < n) : ∃ g o x, A = some ⟨g, o, none⟩ ∧ g < w.heap.size ∧ L[i]? = some x ∧ w.cell? ⟨g, o + i, none⟩ = some (.int .i64 (x : Nat)) := by
  obtain ⟨g, o, e, hg, hc⟩ := h.2 (by omega)
  have hl : i < L.length := by have := h.1; omega
  exact ⟨g, o, L[i], e, hg, List.getElem?_eq_getElem hl, hc i hl⟩
/-- Numbers of the call's own. -/
def OwnN (w : World) (base : Nat) (v : Value) (L : List Nat) : Prop := w.ownsRow base 3 1 v L.length (nCells L)
theorem OwnN.nil (w : World) (base : Nat) : OwnN w base (.slice none 0 0) [] := World.ownsRow_nil _ _ _ _
theorem OwnN.but {w w' : World} {base : Nat} {v : Value} {L : List Nat} (h : OwnN w base v L) (hw : But [] w w') : OwnN w' base v L := by
  obtain ⟨h1, h2⟩ := h
  refine ⟨h1, ?_⟩
  rcases h2 with h2 | ⟨g, cap, cur, rfl, hg, hh, r⟩
  · exact .inl h2
  · have hlt : g < w.heap.size := (Array.getElem?_eq_some_iff.1 hh).1
    exact .inr ⟨g, cap, cur, rfl, hg, (hw.block g hlt (by simp)).trans hh, r⟩
theorem OwnN.shape {w : World} {base : Nat} {v : Value} {L : List Nat} (h : OwnN w base v L) : ∃ A c, v = .slice A L.length c ∧ L.length ≤ c := by
  rcases h.2 with ⟨rfl, e⟩ | ⟨g, cap, cur, rfl, _, _, hc, _⟩
  · have : L = [] := List.eq_nil_of_length_eq_zero e
    subst this
    exact ⟨none, 0, rfl, Nat.le_refl _⟩
  · exact ⟨_, cap, rfl, hc⟩
theorem OwnN.lt {w : World} {base : Nat} {v : Value} {L : List Nat} (h : OwnN w base v L) : ∀ g, v.ownBlock = some g → base ≤ g := fun g e => (World.ownsRow.lt h g e).1
theorem OwnN.nums {w : World} {base n c : Nat} {A : Option Addr} {L : List Nat} (h : OwnN w base (.slice A n c) L) : Nums w A L.length L := by
  refine ⟨rfl, fun hn => ?_⟩
  obtain ⟨g, cap, e, h1, h2⟩ := World.ownsRow.form h hn
  injection e with e1 e2 e3
  subst e1 e3
  refine ⟨g, 0, rfl, h2, fun i hi => ?_⟩
  have hc := World.ownsRow.cells h (g := g) rfl i (.int .i64 (L[i] : Nat)) (by simp [nCells, hi])
  have e2 : (⟨g, 0, none⟩ : Addr).add i = ⟨g, 0 + i, none⟩ := by unfold Addr.add; split <;> simp_all
  rw [e2] at hc
  exact hc
end Go.Proofs.Ytchpincoddghfaa
set_option linter.unusedVariables false
namespace Go.Proofs.Ytchpincoddghfaa
set_option maxRecDepth 100000
open Go
theorem getD_lt {s : List UInt8} {i : Nat} (h : i < s.length) : s.getD i 0 = s[i] := by
  rw [List.getD_eq_getElem?_getD, List.getElem?_eq_getElem h]; rfl
end Go.Proofs.Ytchpincoddghfaa
set_option maxRecDepth 100000
set_option linter.unusedVariables false
namespace Go.Proofs.Ytchpincoddghfaa
set_option maxRecDepth 100000
open Go Go.RowKit
def cellsF (l : List UInt8) : List Value := l.map fun x => .int .u8 (x.toNat : Int)
theorem cellsF_length (l : List UInt8) : (cellsF l).length = l.length := by simp [cellsF]
theorem cellsF_append (a b : List UInt8) : cellsF (a ++ b) = cellsF a ++ cellsF b := by simp [cellsF]
theorem own_sliceF {w : World} {base n size : Nat} {e : TypeId} {v : Value} {xs : List Value} (h : w.ownsRow base e size v n xs) : ∃ A c, v = .slice A n c ∧ n ≤ c := by
  rcases h.2 with ⟨rfl, rfl⟩ | ⟨g, cap, cur, rfl, _, _, hc, _⟩
  · exact ⟨none, 0, rfl, Nat.le_refl _⟩
  · exact ⟨_, cap, rfl, hc⟩
theorem ownsRow_butF {w w' : World} {base n size : Nat} {e : TypeId} {v : Value} {xs : List Value} {S : List Nat} (h : w.ownsRow base e size v n xs) (hw : But S w w') (hS : ∀ g, v.ownBlock = some g → g ∉ S) : w'.ownsRow base e size v n xs := by
  obtain ⟨h1, h2⟩ := h
  refine ⟨h1, ?_⟩
  rcases h2 with h2 | ⟨g, cap, cur, rfl, hg, hh, r⟩
  · exact .inl h2
  · have hlt : g < w.heap.size := (Array.getElem?_eq_some_iff.1 hh).1
    exact .inr ⟨g, cap, cur, rfl, hg, (hw.block g hlt (hS g rfl)).trans hh, r⟩
/-- Bytes in memory as a string. -/
theorem conv_atF {W : World} {g cap : Nat} {L : List UInt8} (h : ∀ j (hj : j < L.length), W.cell? ⟨g, j, none⟩ = some (.int .u8 (L[j].toNat : Int))) :
    (convert 58 9 (.slice (some ⟨g, 0, none⟩) L.length cap)).run Try.prog W = .ok (.string (strL L)) W := by
  refine run_convert_bytes_back W 58 9 5 ⟨g, 0, none⟩ cap L Try.underlying58 Try.underlying5 Try.underlying9 (fun j hj => ?_)
  have e2 : (⟨g, 0, none⟩ : Addr).add j = ⟨g, j, none⟩ := by unfold Addr.add; split <;> simp_all
  rw [e2]
  exact h j hj
theorem own_textF {w : World} {base n : Nat} {v : Value} {L : List UInt8} (h : w.ownsRow base 5 1 v n (cellsF L)) : (convert 58 9 v).run Try.prog w = .ok (.string (strL L)) w := by
  have hl : L.length = n := by have := h.1; rw [cellsF_length] at this; omega
  rcases h.2 with ⟨rfl, rfl⟩ | ⟨g, cap, cur, rfl, _⟩
  · have : L = [] := List.eq_nil_of_length_eq_zero hl
    subst this
    exact run_convert_bytes_nil w 58 5 Try.underlying58 Try.underlying5 _ _ 9 Try.underlying9
  · subst hl
    refine conv_atF fun i hi => ?_
    have hc := h.cells (g := g) rfl i (.int .u8 (L[i].toNat : Int)) (by simp [cellsF, hi])
    have e2 : (⟨g, 0, none⟩ : Addr).add i = ⟨g, i, none⟩ := by unfold Addr.add; split <;> simp_all
    rw [e2] at hc
    exact hc
/-- Bytes of the call's own. -/
def OwnF (w : World) (base : Nat) (v : Value) (L : List UInt8) : Prop := w.ownsRow base 5 1 v L.length (cellsF L)
theorem OwnF.nil (w : World) (base : Nat) : OwnF w base (.slice none 0 0) [] := World.ownsRow_nil _ _ _ _
theorem OwnF.but {w w' : World} {base : Nat} {v : Value} {L : List UInt8} (h : OwnF w base v L) (hw : But [] w w') : OwnF w' base v L := ownsRow_butF h hw (fun _ _ => by simp)
theorem OwnF.shape {w : World} {base : Nat} {v : Value} {L : List UInt8} (h : OwnF w base v L) : ∃ A c, v = .slice A L.length c := by
  obtain ⟨A, c, e, _⟩ := own_sliceF h
  exact ⟨A, c, e⟩
theorem OwnF.lt {w : World} {base : Nat} {v : Value} {L : List UInt8} (h : OwnF w base v L) : ∀ g, v.ownBlock = some g → base ≤ g := fun g e => (World.ownsRow.lt h g e).1
theorem OwnF.text {w : World} {base : Nat} {v : Value} {L : List UInt8} (h : OwnF w base v L) : (convert 58 9 v).run Try.prog w = .ok (.string (strL L)) w := own_textF h
theorem OwnF.byte {w : World} {base : Nat} {A : Option Addr} {n c : Nat} {L : List UInt8} (h : OwnF w base (.slice A n c) L) {i : Nat} (hi : i < L.length) :
    ∃ g, A = some ⟨g, 0, none⟩ ∧ w.cell? ⟨g, i, none⟩ = some (.int .u8 ((L.getD i 0).toNat : Int)) := by
  unfold OwnF at h
  obtain ⟨g, cap, e, h1, h2⟩ := h.form (by omega)
  injection e with e1 e2 e3
  subst e1 e3
  refine ⟨g, rfl, ?_⟩
  have hc := World.ownsRow.cells h (g := g) rfl i (.int .u8 (L[i].toNat : Int)) (by simp [cellsF, hi])
  have e2 : (⟨g, 0, none⟩ : Addr).add i = ⟨g, i, none⟩ := by unfold Addr.add; split <;> simp_all
  rw [e2] at hc
  rw [hc, getD_lt hi]
/-- A block reads as these bytes, and they may be written. -/
def RowF (w : World) (g : Nat) (l : List UInt8) : Prop := ∃ (cs : Array Value) (fr : Nat × Nat), w.heap[g]? = some (.cells cs 5 fr) ∧
  ∀ i, i < l.length → cs[i]? = some (.int .u8 ((l.getD i 0).toNat : Nat)) ∧ (decide (fr.1 ≤ i) && decide (i < fr.2)) = false
section
variable {w w' : World} {g : Nat} {l : List UInt8}
theorem RowF.lt (h : RowF w g l) : g < w.heap.size := by
  obtain ⟨cs, fr, h1, _⟩ := h
  exact (Array.getElem?_eq_some_iff.1 h1).1
theorem RowF.cell (h : RowF w g l) {i : Nat} (hi : i < l.length) : w.cell? ⟨g, i, none⟩ = some (.int .u8 ((l.getD i 0).toNat : Nat)) := by
  obtain ⟨cs, fr, h1, h2⟩ := h
  have := (h2 i hi).1
  simp [World.cell?, h1, this]
theorem RowF.free (h : RowF w g l) {i : Nat} (hi : i < l.length) : w.frozen? ⟨g, i, none⟩ = false := by
  obtain ⟨cs, fr, h1, h2⟩ := h
  have := (h2 i hi).2
  simp only [World.frozen?, h1]
  exact this
theorem RowF.but (h : RowF w g l) (k : But [] w w') : RowF w' g l := by
  have hl := h.lt
  obtain ⟨cs, fr, h1, h2⟩ := h
  exact ⟨cs, fr, (k.block g hl (by simp)).trans h1, h2⟩
theorem RowF.put (h : RowF w g l) (i : Nat) (x : UInt8) (hi : i < l.length) : RowF (w.setCell ⟨g, i, none⟩ (.int .u8 (x.toNat : Nat))) g (l.set i x) := by
  obtain ⟨cs, fr, h1, h2⟩ := h
  refine ⟨cs.setIfInBounds i (.int .u8 (x.toNat : Nat)), fr, by simp [World.setCell, Array.getElem?_modify, h1], fun j hj => ?_⟩
  rw [List.length_set] at hj
  obtain ⟨c1, c2⟩ := h2 j hj
  refine ⟨?_, c2⟩
  by_cases e : i = j
  · subst e
    have hs : i < cs.size := (Array.getElem?_eq_some_iff.1 c1).1
    rw [Array.getElem?_setIfInBounds_self, if_pos hs]
    congr 3
    rw [getD_lt (by rw [List.length_set]; exact hi), List.getElem_set_self]
  · rw [Array.getElem?_setIfInBounds_ne e, c1]
    congr 3
    rw [List.getD_eq_getElem?_getD, List.getD_eq_getElem?_getD, List.getElem?_set_ne e]
theorem RowF.far (h : RowF w g l) {p : Addr} (hp : g ≠ p.block) (u : Value) : RowF (w.setCell p u) g l := by
  obtain ⟨cs, fr, h1, h2⟩ := h
  exact ⟨cs, fr, (Below.heap_setCell w p u g hp).trans h1, h2⟩
theorem RowF.text (h : RowF w g l) (cap : Nat) : (convert 58 9 (.slice (some ⟨g, 0, none⟩) l.length cap)).run Try.prog w = .ok (.string (strL l)) w :=
  conv_atF fun j hj => by rw [h.cell hj, getD_lt hj]
end
end Go.Proofs.Ytchpincoddghfaa
set_option maxRecDepth 100000
set_option linter.unusedVariables false
namespace Go.Proofs.Ytchpincoddghfaa
set_option maxRecDepth 100000
open Go Go.RowKit
/-- A slice reads as these numbers, which may be below nought. -/
def Zs (w : World) (A : Option Addr) (n : Nat) (l : List Int) : Prop :=
  l.length = n ∧ (0 < n → ∃ g o, A = some ⟨g, o, none⟩ ∧ g < w.heap.size ∧ ∀ (i : Nat) (h : i < l.length), w.cell? ⟨g, o + i, none⟩ = some (.int .i64 l[i]))
theorem Zs.but {w w' : World} {A : Option Addr} {n : Nat} {l : List Int} (h : Zs w A n l) (hw : But [] w w') : Zs w' A n l :=
  ⟨h.1, fun hn => by
    obtain ⟨g, o, e, hg, hc⟩ := h.2 hn
    exact ⟨g, o, e, Nat.lt_of_lt_of_le hg hw.size, fun i hi => hw.cell (hc i hi) (by simp)⟩⟩
theorem Zs.at {w : World} {A : Option Addr} {n : Nat} {l : List Int} (h : Zs w A n l) {i : Nat} (hi : i < n) : ∃ g o x, A = some ⟨g, o, none⟩ ∧ g < w.heap.size ∧ l[i]? = some x ∧ w.cell? ⟨g, o + i, none⟩ = some (.int .i64 x) := by
  obtain ⟨g, o, e, hg, hc⟩ := h.2 (by omega)
  have hl : i < l.length := by have := h.1; omega
  exact ⟨g, o, l[i], e, hg, List.getElem?_eq_getElem hl, hc i hl⟩
/-- The numbers fit. -/
def ZFit (l : List Int) : Prop := ∀ x, x ∈ l → -9223372036854775808 ≤ x ∧ x ≤ 9223372036854775807
/-- A row of the call's own. -/
def OneS (w v : World) (g : Nat) (l : List UInt8) : Prop := RowF v g l ∧ w.heap.size ≤ g ∧ But [] w v
theorem OneS.but {w v v' : World} {g : Nat} {l : List UInt8} (h : OneS w v g l) (k : But [] v v') : OneS w v' g l := ⟨h.1.but k, h.2.1, h.2.2.trans k⟩
theorem OneS.put {w v : World} {g : Nat} {l : List UInt8} (h : OneS w v g l) {i : Nat} (x : UInt8) (hi : i < l.length) : OneS w (v.setCell ⟨g, i, none⟩ (.int .u8 (x.toNat : Nat))) g (l.set i x) :=
  ⟨h.1.put i x hi, h.2.1, h.2.2.setCell (p := ⟨g, i, none⟩) (.inr h.2.1) _⟩
theorem wrapI_in {q : Nat} (h : q < 1000000000000000) : IntKind.i64.wrap (q : Int) = (q : Int) := by rw [IntKind.wrap_i64]; omega
end Go.Proofs.Ytchpincoddghfaa
set_option maxRecDepth 100000
set_option linter.unusedVariables false
namespace Go.Proofs.Ytchpincoddghfaa
set_option maxRecDepth 100000
open Go Go.RowKit
def flCells (L : List F16) : List Value := L.flatMap fun f => [.int .i64 (f.num : Nat), .string (strL f.data), .int .i64 (f.syn : Nat)]
theorem flCells_cons (x : F16) (L : List F16) : flCells (x :: L) = .int .i64 (x.num : Nat) :: .string (strL x.data) :: .int .i64 (x.syn : Nat) :: flCells L := by simp [flCells]
theorem flCells_at : ∀ (L : List F16) (i : Nat) (f : F16), L[i]? = some f → (flCells L)[i * 3]? = some (.int .i64 (f.num : Nat)) ∧ (flCells L)[i * 3 + 1]? = some (.string (strL f.data)) ∧ (flCells L)[i * 3 + 2]? = some (.int .i64 (f.syn : Nat))
  | x :: L, 0, f, h => by
    obtain rfl : x = f := by simpa using h
    simp [flCells]
  | x :: L, i + 1, f, h => by
    have := flCells_at L i f (by simpa using h)
    rw [flCells_cons, show (i + 1) * 3 = i * 3 + 1 + 1 + 1 from by omega, show i * 3 + 1 + 1 + 1 + 1 = i * 3 + 1 + 1 + 1 + 1 from rfl]
    simpa using this
theorem length_flCells (L : List F16) : (flCells L).length = L.length * 3 := by
  induction L with
  | nil => rfl
  | cons x L ih => rw [flCells_cons, List.length_cons, List.length_cons, List.length_cons, ih, List.length_cons]; omega
theorem flCells_data : ∀ (L : List F16) (i : Nat) (f : F16) (s : List UInt8), L[i]? = some f → (flCells L).set (i * 3 + 1) (.string (strL s)) = flCells (L.set i { f with data := s })
  | x :: L, 0, f, s, h => by
    obtain rfl : x = f := by simpa using h
    simp [flCells]
  | x :: L, i + 1, f, s, h => by
    have := flCells_data L i f s (by simpa using h)
    rw [flCells_cons, show (i + 1) * 3 + 1 = i * 3 + 1 + 1 + 1 + 1 from by omega, List.set_cons_succ, List.set_cons_succ, List.set_cons_succ, this, List.set_cons_succ, flCells_cons]
theorem flCells_syn : ∀ (L : List F16) (i : Nat) (f : F16) (m : Nat), L[i]? = some f → (flCells L).set (i * 3 + 2) (.int .i64 (m : Nat)) = flCells (L.set i { f with syn := m })
  | x :: L, 0, f, s, h => by
    obtain rfl : x = f := by simpa using h
    simp [flCells]
  | x :: L, i + 1, f, s, h => by
    have := flCells_syn L i f s (by simpa using h)
    rw [flCells_cons, show (i + 1) * 3 + 2 = i * 3 + 2 + 1 + 1 + 1 from by omega, List.set_cons_succ, List.set_cons_succ, List.set_cons_succ, this, List.set_cons_succ, flCells_cons]
/-- A row of files of the disk's own. -/
def OwnFl (w : World) (base : Nat) (v : Value) (L : List F16) : Prop := w.ownsRow base 65 3 v L.length (flCells L)
theorem OwnFl.nil (w : World) (base : Nat) : OwnFl w base (.slice none 0 0) [] := World.ownsRow_nil _ _ _ _
theorem OwnFl.but {w w' : World} {base : Nat} {v : Value} {L : List F16} {S : List Nat} (h : OwnFl w base v L) (hw : But S w w') (hS : ∀ g, v.ownBlock = some g → g ∉ S) : OwnFl w' base v L := by
  unfold OwnFl at h ⊢
  refine ⟨h.1, ?_⟩
  rcases h.2 with h2 | ⟨g, cap, cur, hv, hg, hh, r⟩
  · exact .inl h2
  · refine .inr ⟨g, cap, cur, hv, hg, ?_, r⟩
    have hlt : g < w.heap.size := (h.lt g (by rw [hv]; rfl)).2
    rw [hw.block g hlt (hS g (by rw [hv]; rfl))]
    exact hh
theorem OwnFl.open {w : World} {base : Nat} {v : Value} {L : List F16} (h : OwnFl w base v L) : (v = .slice none 0 0 ∧ L = []) ∨ ∃ g c, v = .slice (some ⟨g, 0, none⟩) L.length c ∧ g < w.heap.size ∧ base ≤ g ∧ L.length ≤ c := by
  unfold OwnFl at h
  rcases h.2 with ⟨rfl, e⟩ | ⟨g, cap, cur, rfl, hg, hh, hc, r⟩
  · exact .inl ⟨rfl, List.eq_nil_of_length_eq_zero e⟩
  · exact .inr ⟨g, cap, rfl, (h.lt g rfl).2, (h.lt g rfl).1, hc⟩
theorem OwnFl.at {w : World} {base g n c : Nat} {L : List F16} (h : OwnFl w base (.slice (some ⟨g, 0, none⟩) n c) L) {i : Nat} {f : F16} (hi : L[i]? = some f) :
    w.cell? ⟨g, i * 3, none⟩ = some (.int .i64 (f.num : Nat)) ∧ w.cell? ⟨g, i * 3 + 1, none⟩ = some (.string (strL f.data)) ∧ w.cell? ⟨g, i * 3 + 2, none⟩ = some (.int .i64 (f.syn : Nat)) ∧ w.frozen? ⟨g, i * 3 + 1, none⟩ = false ∧ w.frozen? ⟨g, i * 3 + 2, none⟩ = false := by
  unfold OwnFl at h
  have hn : n = L.length := by
    rcases h.2 with ⟨e, e2⟩ | ⟨g, cap, cur, e, _⟩
    · injection e with e1 e3 e4; cases e1
    · injection e
  subst hn
  obtain ⟨h0, h1, h2⟩ := flCells_at L i f hi
  have hl := (List.getElem?_eq_some_iff.1 hi).1
  refine ⟨?_, ?_, ?_, h.frozenAt _, h.frozenAt _⟩
  · rw [h.cellAt _ (by omega), h0]
  · rw [h.cellAt _ (by omega), h1]
  · rw [h.cellAt _ (by omega), h2]
theorem OwnFl.view {w : World} {base : Nat} {v : Value} {L : List F16} (h : OwnFl w base v L) : ∃ A c, v = .slice A L.length c ∧ L.length ≤ c ∧ (A = none → c = 0) ∧ ∀ (i : Nat) (f : F16), L[i]? = some f → ∃ g, A = some ⟨g, 0, none⟩ ∧ g < w.heap.size ∧
    w.cell? ⟨g, i * 3, none⟩ = some (.int .i64 (f.num : Nat)) ∧ w.cell? ⟨g, i * 3 + 1, none⟩ = some (.string (strL f.data)) ∧ w.cell? ⟨g, i * 3 + 2, none⟩ = some (.int .i64 (f.syn : Nat)) := by
  rcases h.open with ⟨rfl, rfl⟩ | ⟨g, c, rfl, hg, _, hc⟩
  · exact ⟨none, 0, rfl, Nat.le_refl _, fun _ => rfl, fun i f hf => by simp at hf⟩
  · exact ⟨some ⟨g, 0, none⟩, c, rfl, hc, fun e => by (cases e), fun i f hf => ⟨g, rfl, hg, (h.at hf).1, (h.at hf).2.1, (h.at hf).2.2.1⟩⟩
/-- The document's disk in memory: its block, its row. -/
structure RD (w : World) (b : Nat) (S : List Nat) (σ : D16) : Prop where
  ok : Ok16 σ
  row : ∃ v, Is w b 57 #[v, .int .i64 (σ.limit : Nat), .int .i64 (σ.armed : Nat), .bool σ.dead, .int .i64 (σ.steps : Nat)] ∧ OwnFl w 0 v σ.l ∧ ∀ g, v.ownBlock = some g → g ≠ b ∧ g ∈ S
  mem : b ∈ S
  lt : ∀ x ∈ S, x < w.heap.size
theorem RD.but {w w' : World} {b : Nat} {S T : List Nat} {σ : D16} (h : RD w b S σ) (hw : But T w w') (hS : ∀ x ∈ S, x ∉ T) : RD w' b S σ := by
  obtain ⟨v, hI, hO, hg⟩ := h.row
  exact ⟨h.ok, ⟨v, hI.but hw (hS b h.mem), hO.but hw fun g e => hS g (hg g e).2, hg⟩, h.mem, fun x hx => Nat.lt_of_lt_of_le (h.lt x hx) hw.size⟩
/-- What a call leaves: the disk as it is to be, and all else. -/
def Left (D : World → Nat → List Nat → D16 → Prop) (w : World) (b : Nat) (S : List Nat) (σ : D16) (w' : World) : Prop := ∃ S', D w' b S' σ ∧ But S w w' ∧ ∀ x ∈ S', x ∈ S ∨ w.heap.size ≤ x
theorem RD.left {w w' : World} {b : Nat} {S : List Nat} {σ : D16} (h : RD w b S σ) (hw : But [] w w') : Left RD w b S σ w' :=
  ⟨S, h.but hw (fun _ _ => by simp), ⟨hw.os, hw.tape, hw.output, hw.size, fun k hk _ => hw.block k hk (by simp)⟩, fun x hx => .inl hx⟩
theorem few16 : ∀ {l : List F16} {lo : Nat}, l.Pairwise (fun a b => a.num < b.num) → (∀ f ∈ l, lo ≤ f.num ∧ f.num ≤ 65535) → l.length + lo ≤ 65536 ∨ l = []
  | [], _, _, _ => .inr rfl
  | a :: l, lo, h, hb => by
    have hp := List.pairwise_cons.1 h
    have ha := hb a (List.mem_cons_self ..)
    rcases few16 (lo := a.num + 1) hp.2 (fun f hf => ⟨hp.1 f hf, (hb f (List.mem_cons_of_mem _ hf)).2⟩) with h1 | h1
    · left; rw [List.length_cons]; omega
    · left; rw [h1]; show 1 + lo ≤ 65536; omega
theorem Ok16.few {σ : D16} (h : Ok16 σ) : σ.l.length ≤ 65536 := by
  rcases few16 (lo := 0) h.rise (fun f hf => ⟨Nat.zero_le _, h.num f hf⟩) with h1 | h1
  · omega
  · rw [h1]; exact Nat.zero_le _
end Go.Proofs.Ytchpincoddghfaa
set_option maxRecDepth 100000
set_option linter.unusedVariables false
namespace Go.Proofs.Ytchpincoddghfaa
set_option maxRecDepth 100000
open Go Go.RowKit
/-- One cell of the disk's block is written. -/
theorem RD.with {w w' : World} {b : Nat} {S : List Nat} {σ τ : D16} (h : RD w b S σ) (hl : τ.l = σ.l) (hm : τ.limit = σ.limit) (hw : But [b] w w')
    (hI : ∀ v, Is w b 57 #[v, .int .i64 (σ.limit : Nat), .int .i64 (σ.armed : Nat), .bool σ.dead, .int .i64 (σ.steps : Nat)] → Is w' b 57 #[v, .int .i64 (τ.limit : Nat), .int .i64 (τ.armed : Nat), .bool τ.dead, .int .i64 (τ.steps : Nat)]) : RD w' b S τ := by
  obtain ⟨v, hI0, hO, hg⟩ := h.row
  refine ⟨⟨by rw [hl]; exact h.ok.rise, by rw [hl]; exact h.ok.syn, by rw [hl]; exact h.ok.num, by rw [hl, hm]; exact h.ok.size, by rw [hm]; exact h.ok.lim⟩, ⟨v, hI v hI0, ?_, hg⟩, h.mem, fun x hx => Nat.lt_of_lt_of_le (h.lt x hx) hw.size⟩
  rw [hl]
  exact hO.but hw fun g e => by simpa using (hg g e).1
end Go.Proofs.Ytchpincoddghfaa
set_option maxRecDepth 100000
set_option linter.unusedVariables false
namespace Go.Proofs.Ytchpincoddghfaa
set_option maxRecDepth 100000
open Go Go.RowKit
/-- As RD, but for what is true of each disk. -/
structure RW (w : World) (b : Nat) (S : List Nat) (σ : D16) : Prop where
  row : ∃ v, Is w b 57 #[v, .int .i64 (σ.limit : Nat), .int .i64 (σ.armed : Nat), .bool σ.dead, .int .i64 (σ.steps : Nat)] ∧ OwnFl w 0 v σ.l ∧ ∀ g, v.ownBlock = some g → g ≠ b ∧ g ∈ S
  mem : b ∈ S
  lt : ∀ x ∈ S, x < w.heap.size
theorem RD.rw {w : World} {b : Nat} {S : List Nat} {σ : D16} (h : RD w b S σ) : RW w b S σ := ⟨h.row, h.mem, h.lt⟩
theorem RW.rd {w : World} {b : Nat} {S : List Nat} {σ : D16} (h : RW w b S σ) (k : Ok16 σ) : RD w b S σ := ⟨k, h.row, h.mem, h.lt⟩
theorem RW.but {w w' : World} {b : Nat} {S : List Nat} {σ : D16} (h : RW w b S σ) (hw : But [] w w') : RW w' b S σ := by
  obtain ⟨v, hI, hO, hg⟩ := h.row
  exact ⟨⟨v, hI.but hw (by simp), hO.but hw fun g e => by simp, hg⟩, h.mem, fun x hx => Nat.lt_of_lt_of_le (h.lt x hx) hw.size⟩
/-- One cell of the disk's row is written. -/
theorem RW.put {w : World} {b : Nat} {S : List Nat} {σ τ : D16} (h : RW w b S σ) {g n c : Nat} (hI : Is w b 57 #[.slice (some ⟨g, 0, none⟩) n c, .int .i64 (σ.limit : Nat), .int .i64 (σ.armed : Nat), .bool σ.dead, .int .i64 (σ.steps : Nat)])
    {j : Nat} {u : Value} (hl : τ.l.length = σ.l.length) (hc : (flCells σ.l).set j u = flCells τ.l) (hlim : τ.limit = σ.limit) (ha : τ.armed = σ.armed) (hd : τ.dead = σ.dead) (hs : τ.steps = σ.steps) :
    RW (w.setCell ⟨g, j, none⟩ u) b S τ ∧ But S w (w.setCell ⟨g, j, none⟩ u) := by
  obtain ⟨v, hI2, hO, hg⟩ := h.row
  obtain rfl : v = .slice (some ⟨g, 0, none⟩) n c := by
    have h1 := hI.cell 0
    have h2 := hI2.cell 0
    rw [h1] at h2
    exact (Option.some.inj h2).symm
  obtain ⟨hgb, hgS⟩ := hg g rfl
  have hn : n = σ.l.length := by
    obtain ⟨A, c', e, _⟩ := hO.view
    injection e
  have hB : But S w (w.setCell ⟨g, j, none⟩ u) := (But.refl S w).setCell (.inl hgS) _
  unfold OwnFl at hO
  rw [← hn] at hO
  refine ⟨⟨⟨_, ?_, ?_, hg⟩, h.mem, fun x hx => Nat.lt_of_lt_of_le (h.lt x hx) hB.size⟩, hB⟩
  · rw [hlim, ha, hd, hs]
    exact hI2.far (p := ⟨g, j, none⟩) (fun e => hgb e.symm) u
  · unfold OwnFl
    rw [hl, ← hn, ← hc]
    exact (hO.stored j u).1
theorem RD.put {w : World} {b : Nat} {S : List Nat} {σ τ : D16} (h : RD w b S σ) {g n c : Nat} (hI : Is w b 57 #[.slice (some ⟨g, 0, none⟩) n c, .int .i64 (σ.limit : Nat), .int .i64 (σ.armed : Nat), .bool σ.dead, .int .i64 (σ.steps : Nat)])
    {j : Nat} {u : Value} (hl : τ.l.length = σ.l.length) (hc : (flCells σ.l).set j u = flCells τ.l) (hlim : τ.limit = σ.limit) (ha : τ.armed = σ.armed) (hd : τ.dead = σ.dead) (hs : τ.steps = σ.steps) (hok : Ok16 τ) :
    RD (w.setCell ⟨g, j, none⟩ u) b S τ ∧ But S w (w.setCell ⟨g, j, none⟩ u) :=
  ⟨(h.rw.put hI hl hc hlim ha hd hs).1.rd hok, (h.rw.put hI hl hc hlim ha hd hs).2⟩
/-- The disk's row, and a file's cells in it, seen from a world. -/
theorem RW.view {w : World} {b : Nat} {S : List Nat} {σ : D16} (h : RW w b S σ) {i : Nat} {f : F16} (hf : σ.l[i]? = some f) : ∃ g c, Is w b 57 #[.slice (some ⟨g, 0, none⟩) σ.l.length c, .int .i64 (σ.limit : Nat), .int .i64 (σ.armed : Nat), .bool σ.dead, .int .i64 (σ.steps : Nat)] ∧ g < w.heap.size ∧
    ∀ v', But [] w v' → v'.cell? ⟨g, i * 3 + 1, none⟩ = some (.string (strL f.data)) ∧ v'.frozen? ⟨g, i * 3 + 1, none⟩ = false ∧ v'.cell? ⟨g, i * 3 + 2, none⟩ = some (.int .i64 (f.syn : Nat)) ∧ v'.frozen? ⟨g, i * 3 + 2, none⟩ = false ∧ g < v'.heap.size := by
  obtain ⟨u, hI, hO, _⟩ := h.row
  obtain ⟨A, c, e, _, _, hx⟩ := hO.view
  obtain ⟨g, e', hl, _, h2, _⟩ := hx i f hf
  rw [e, e'] at hI hO
  refine ⟨g, c, hI, hl, fun v' hv' => ?_⟩
  have hO' := hO.but hv' (fun _ _ => by simp)
  exact ⟨(hO'.at hf).2.1, (hO'.at hf).2.2.2.1, (hO'.at hf).2.2.1, (hO'.at hf).2.2.2.2, Nat.lt_of_lt_of_le hl hv'.size⟩
end Go.Proofs.Ytchpincoddghfaa
set_option maxRecDepth 100000
set_option linter.unusedVariables false
namespace Go.Proofs.Ytchpincoddghfaa
set_option maxRecDepth 100000
open Go Go.RowKit
/-- The cells of a row, seen from any place of it. -/
theorem OwnFl.cells {w : World} {base g n c : Nat} {L : List F16} (h : OwnFl w base (.slice (some ⟨g, 0, none⟩) n c) L) : ∀ (j : Nat) (u : Value), (flCells L)[j]? = some u → w.cell? ⟨g, j, none⟩ = some u := by
  intro j u hu
  unfold OwnFl at h
  have hn : n = L.length := by
    rcases h.2 with ⟨e, e2⟩ | ⟨g, cap, cur, e, _⟩
    · injection e with e1 e3 e4; cases e1
    · injection e
  subst hn
  have hl := (List.getElem?_eq_some_iff.1 hu).1
  rw [length_flCells] at hl
  rw [h.cellAt _ hl, hu]
end Go.Proofs.Ytchpincoddghfaa
set_option maxRecDepth 100000
set_option linter.unusedVariables false
namespace Go.Proofs.Ytchpincoddghfaa
set_option maxRecDepth 100000
open Go Go.RowKit
theorem But.over16 {w w1 w2 : World} {S S' : List Nat} (h : But S w w1) (k : But S' w1 w2) (hS : ∀ x ∈ S', x ∈ S ∨ w.heap.size ≤ x) : But S w w2 :=
  ⟨k.os.trans h.os, k.tape.trans h.tape, k.output.trans h.output, Nat.le_trans h.size k.size, fun i hi hn => (k.block i (Nat.lt_of_lt_of_le hi h.size) (fun e => by
    rcases hS i e with h1 | h1
    · exact hn h1
    · omega)).trans (h.block i hi hn)⟩
end Go.Proofs.Ytchpincoddghfaa
set_option maxRecDepth 100000
set_option linter.unusedVariables false
namespace Go.Proofs.Ytchpincoddghfaa
set_option maxRecDepth 100000
open Go Go.RowKit
theorem Zs.butS {w w' : World} {A : Option Addr} {n : Nat} {l : List Int} {S : List Nat} (h : Zs w A n l) (hw : But S w w') (hS : 0 < n → ∀ g o, A = some ⟨g, o, none⟩ → g ∉ S) : Zs w' A n l :=
  ⟨h.1, fun hn => by
    obtain ⟨g, o, e, hg, hc⟩ := h.2 hn
    exact ⟨g, o, e, Nat.lt_of_lt_of_le hg hw.size, fun i hi => hw.cell (hc i hi) (hS hn g o e)⟩⟩
theorem crash_keep {f : F16} {l pre : List F16} {ks all : List Int} {L : List F16} {i : Nat} (hp : pre.length = i) (hd : L.drop i = f :: l) (hc : crash16 L all = pre ++ crash16 (L.drop i) ks) (hs : f.data.length = f.syn) : crash16 L all = (pre ++ [f]) ++ crash16 (L.drop (i + 1)) ks ∧ (pre ++ [f]).length = i + 1 := by
  have e : L.drop (i + 1) = l := by rw [← List.drop_drop, hd]; rfl
  refine ⟨?_, by rw [List.length_append, hp]; rfl⟩
  rw [hc, hd, e, List.append_assoc]
  congr 1
  conv => lhs; unfold crash16
  rw [if_pos hs]
  rfl
theorem crash_lose {f : F16} {l pre : List F16} {ks all : List Int} {L : List F16} {i : Nat} (hp : pre.length = i) (hd : L.drop i = f :: l) (hc : crash16 L all = pre ++ crash16 (L.drop i) ks) (hs : f.data.length ≠ f.syn) : crash16 L all = (pre ++ [lose16 f (ks.headD 0)]) ++ crash16 (L.drop (i + 1)) ks.tail ∧ (pre ++ [lose16 f (ks.headD 0)]).length = i + 1 := by
  have e : L.drop (i + 1) = l := by rw [← List.drop_drop, hd]; rfl
  refine ⟨?_, by rw [List.length_append, hp]; rfl⟩
  rw [hc, hd, e, List.append_assoc]
  congr 1
  conv => lhs; unfold crash16
  rw [if_neg hs]
  rfl
theorem set_mid16 {pre l : List F16} {f g : F16} {i : Nat} (hp : pre.length = i) : (pre ++ f :: l).set i g = pre ++ g :: l ∧ (pre ++ f :: l)[i]? = some f := by
  constructor
  · rw [List.set_append_right _ _ (by omega), hp, Nat.sub_self, List.set_cons_zero]
  · rw [List.getElem?_append_right (by omega), hp, Nat.sub_self]; rfl
/-- The disk with its files so. -/
def with16 (σ : D16) (l : List F16) : D16 := ⟨l, σ.limit, σ.armed, σ.dead, σ.steps⟩
/-- Both stores of a round. -/
theorem RW.file {w : World} {b : Nat} {S : List Nat} {σ : D16} {pre l : List F16} {f : F16} {i : Nat} (hp : pre.length = i) (h : RW w b S (with16 σ (pre ++ f :: l))) :
    ∃ g c, Is w b 57 #[.slice (some ⟨g, 0, none⟩) (pre.length + l.length + 1) c, .int .i64 (σ.limit : Nat), .int .i64 (σ.armed : Nat), .bool σ.dead, .int .i64 (σ.steps : Nat)] ∧ g < w.heap.size ∧
    (∀ v', But [] w v' → v'.cell? ⟨g, i * 3 + 1, none⟩ = some (.string (strL f.data)) ∧ v'.frozen? ⟨g, i * 3 + 1, none⟩ = false ∧ v'.cell? ⟨g, i * 3 + 2, none⟩ = some (.int .i64 (f.syn : Nat)) ∧ v'.frozen? ⟨g, i * 3 + 2, none⟩ = false ∧ g < v'.heap.size) ∧
    (∀ v' s, But [] w v' → RW (v'.setCell ⟨g, i * 3 + 1, none⟩ (.string (strL s))) b S (with16 σ (pre ++ { f with data := s } :: l)) ∧ But S v' (v'.setCell ⟨g, i * 3 + 1, none⟩ (.string (strL s)))) ∧
    (∀ v' m, But [] w v' → RW (v'.setCell ⟨g, i * 3 + 2, none⟩ (.int .i64 (m : Nat))) b S (with16 σ (pre ++ { f with syn := m } :: l)) ∧ But S v' (v'.setCell ⟨g, i * 3 + 2, none⟩ (.int .i64 (m : Nat)))) := by
  have hm := set_mid16 (l := l) (f := f) (g := f) hp
  obtain ⟨g, c, h1, h2, h3⟩ := h.view (i := i) (f := f) hm.2
  have hl : (pre ++ f :: l).length = pre.length + l.length + 1 := by rw [List.length_append, List.length_cons]; omega
  refine ⟨g, c, ?_, h2, h3, fun v' s hv => ?_, fun v' m hv => ?_⟩
  · rw [← hl]; exact h1
  · refine (h.but hv).put (τ := with16 σ (pre ++ { f with data := s } :: l)) (h1.but hv (by simp)) ?_ ?_ rfl rfl rfl rfl
    · show (pre ++ _ :: l).length = (pre ++ _ :: l).length; simp
    · show (flCells (pre ++ f :: l)).set _ _ = flCells (pre ++ _ :: l)
      rw [flCells_data _ i f s hm.2, (set_mid16 (l := l) (f := f) (g := { f with data := s }) hp).1]
  · refine (h.but hv).put (τ := with16 σ (pre ++ { f with syn := m } :: l)) (h1.but hv (by simp)) ?_ ?_ rfl rfl rfl rfl
    · show (pre ++ _ :: l).length = (pre ++ _ :: l).length; simp
    · show (flCells (pre ++ f :: l)).set _ _ = flCells (pre ++ _ :: l)
      rw [flCells_syn _ i f m hm.2, (set_mid16 (l := l) (f := f) (g := { f with syn := m }) hp).1]
end Go.Proofs.Ytchpincoddghfaa
set_option maxRecDepth 100000
set_option linter.unusedVariables false
namespace Go.Proofs.Ytchpincoddghfaa
set_option maxRecDepth 100000
open Go Go.RowKit
/-- What is asked of the program's disk; PD: the disk in memory, its block, all its blocks, what it is. -/
structure DkC (PD : World → Nat → List Nat → D16 → Prop) : Prop where
  ok : ∀ {w b S σ}, PD w b S σ → Ok16 σ
  but : ∀ {w w' : World} {b : Nat} {S T : List Nat} {σ : D16}, PD w b S σ → But T w w' → (∀ x ∈ S, x ∉ T) → PD w' b S σ
  lt : ∀ {w b S σ}, PD w b S σ → ∀ x ∈ S, x < w.heap.size
  new_ok : ∀ (w : World) (n : Nat), 1 ≤ n → n ≤ 16777216 → Calls Try.prog 7 #[.int .i64 (n : Nat)] w fun e w' => ∃ b S, e = .returned (.tuple #[.pointer (some ⟨b, 0, none⟩), .int .i64 0]) ∧ PD w' b S (new16 n) ∧ But [] w w' ∧ ∀ x ∈ S, w.heap.size ≤ x
  new_bad : ∀ (w : World) (n : Int), (n < 1 ∨ 16777216 < n) → Calls Try.prog 7 #[.int .i64 n] w fun e w' => e = .returned (.tuple #[.pointer none, .int .i64 1]) ∧ But [] w w'
  append : ∀ (w : World) {b S σ} (n : Int) (s : ByteArray), PD w b S σ → σ.steps < 900000000000000 → σ.armed ≤ 9223372036854775807 → s.size ≤ 140737488355328 → Calls Try.prog 10 #[.pointer (some ⟨b, 0, none⟩), .int .i64 n, .string s] w fun e w' => e = .returned (.int .i64 (append16 σ n s.data.toList).2) ∧ Left PD w b S (append16 σ n s.data.toList).1 w'
  sync : ∀ (w : World) {b S σ} (n : Int), PD w b S σ → σ.steps < 900000000000000 → σ.armed ≤ 9223372036854775807 → Calls Try.prog 13 #[.pointer (some ⟨b, 0, none⟩), .int .i64 n] w fun e w' => e = .returned (.int .i64 (syncs16 σ n).2) ∧ Left PD w b S (syncs16 σ n).1 w'
  cut : ∀ (w : World) {b S σ} (n z : Int), PD w b S σ → σ.steps < 900000000000000 → σ.armed ≤ 9223372036854775807 → Calls Try.prog 15 #[.pointer (some ⟨b, 0, none⟩), .int .i64 n, .int .i64 z] w fun e w' => e = .returned (.int .i64 (cuts16 σ n z).2) ∧ Left PD w b S (cuts16 σ n z).1 w'
  drop : ∀ (w : World) {b S σ} (n : Int), PD w b S σ → σ.steps < 900000000000000 → σ.armed ≤ 9223372036854775807 → Calls Try.prog 17 #[.pointer (some ⟨b, 0, none⟩), .int .i64 n] w fun e w' => e = .returned (.int .i64 (drops16 σ n).2) ∧ Left PD w b S (drops16 σ n).1 w'
  read : ∀ (w : World) {b S σ} (n : Int), PD w b S σ → Calls Try.prog 23 #[.pointer (some ⟨b, 0, none⟩), .int .i64 n] w fun e w' => e = .returned (.tuple #[.string (strL (read16 σ n).1), .int .i64 (read16 σ n).2]) ∧ Left PD w b S σ w'
  files : ∀ (w : World) {b S σ}, PD w b S σ → Calls Try.prog 26 #[.pointer (some ⟨b, 0, none⟩)] w fun e w' => ∃ A c S', e = .returned (.slice A σ.l.length c) ∧ Nums w' A σ.l.length (σ.l.map (·.num)) ∧ (∀ g o, A = some ⟨g, o, none⟩ → w.heap.size ≤ g ∧ g ∉ S') ∧ PD w' b S' σ ∧ But S w w' ∧ ∀ x ∈ S', x ∈ S ∨ w.heap.size ≤ x
  size : ∀ (w : World) {b S σ}, PD w b S σ → Calls Try.prog 28 #[.pointer (some ⟨b, 0, none⟩)] w fun e w' => e = .returned (.int .i64 (size16 σ.l : Nat)) ∧ Left PD w b S σ w'
  dead : ∀ (w : World) {b S σ}, PD w b S σ → Calls Try.prog 30 #[.pointer (some ⟨b, 0, none⟩)] w fun e w' => e = .returned (.bool σ.dead) ∧ Left PD w b S σ w'
  steps : ∀ (w : World) {b S σ}, PD w b S σ → Calls Try.prog 32 #[.pointer (some ⟨b, 0, none⟩)] w fun e w' => e = .returned (.int .i64 (σ.steps : Nat)) ∧ Left PD w b S σ w'
  arm : ∀ (w : World) {b S σ} (k : Int), PD w b S σ → Calls Try.prog 19 #[.pointer (some ⟨b, 0, none⟩), .int .i64 k] w fun e w' => e = .returned (.tuple #[]) ∧ Left PD w b S (arm16 σ k) w'
  crash : ∀ (w : World) {b S σ} {A : Option Addr} {nk ck : Nat} {all : List Int}, PD w b S σ → Zs w A nk all → ZFit all → nk ≤ ck → (0 < nk → ∀ g o, A = some ⟨g, o, none⟩ → g ∉ S) → Calls Try.prog 21 #[.pointer (some ⟨b, 0, none⟩), .slice A nk ck] w fun e w' => e = .returned (.tuple #[]) ∧ Left PD w b S (crashs16 σ all) w'
  append_nil : ∀ (w : World) (n : Int) (s : ByteArray), Calls Try.prog 10 #[.pointer none, .int .i64 n, .string s] w fun e w' => e = .returned (.int .i64 2) ∧ But [] w w'
  sync_nil : ∀ (w : World) (n : Int), Calls Try.prog 13 #[.pointer none, .int .i64 n] w fun e w' => e = .returned (.int .i64 2) ∧ But [] w w'
  cut_nil : ∀ (w : World) (n z : Int), Calls Try.prog 15 #[.pointer none, .int .i64 n, .int .i64 z] w fun e w' => e = .returned (.int .i64 2) ∧ But [] w w'
  drop_nil : ∀ (w : World) (n : Int), Calls Try.prog 17 #[.pointer none, .int .i64 n] w fun e w' => e = .returned (.int .i64 2) ∧ But [] w w'
  read_nil : ∀ (w : World) (n : Int), Calls Try.prog 23 #[.pointer none, .int .i64 n] w fun e w' => e = .returned (.tuple #[.string ByteArray.empty, .int .i64 2]) ∧ But [] w w'
  files_nil : ∀ (w : World), Calls Try.prog 26 #[.pointer none] w fun e w' => ∃ A c, e = .returned (.slice A 0 c) ∧ But [] w w'
  size_nil : ∀ (w : World), Calls Try.prog 28 #[.pointer none] w fun e w' => e = .returned (.int .i64 0) ∧ But [] w w'
  dead_nil : ∀ (w : World), Calls Try.prog 30 #[.pointer none] w fun e w' => e = .returned (.bool false) ∧ But [] w w'
  steps_nil : ∀ (w : World), Calls Try.prog 32 #[.pointer none] w fun e w' => e = .returned (.int .i64 0) ∧ But [] w w'
  arm_nil : ∀ (w : World) (k : Int), Calls Try.prog 19 #[.pointer none, .int .i64 k] w fun e w' => e = .returned (.tuple #[]) ∧ But [] w w'
  crash_nil : ∀ (w : World) (A : Option Addr) (n c : Nat), Calls Try.prog 21 #[.pointer none, .slice A n c] w fun e w' => e = .returned (.tuple #[]) ∧ But [] w w'
set_option maxHeartbeats 1000000 in
theorem ints16_any (w : World) {A B : Option Addr} {n c d : Nat} {L : List Nat} (hA : Nums w A n L) (hB : Nums w B n L) (hn : n ≤ 17592186044416) :
    Calls Try.prog 25 #[.slice A n c, .slice B n d] w fun e w' => e = .returned (.bool true) ∧ But [] w w' := by
  have HA : Hid (∀ v, But [] w v → Nums v A n L) := Lib.hid fun v hv => hA.but hv
  have HB : Hid (∀ v, But [] w v → Nums v B n L) := Lib.hid fun v hv => hB.but hv
  clear hA hB
  go_enter Try.func25, Try.ntmps25
  go_wp2
  go_loopw [5] (fun kv wr => ∃ k : Nat, k ≤ n ∧ kv = .int .i64 k ∧ Hid (But [] w wr)) (fun kv _ => n - (intOf kv).toNat)
  case atStart => exact ⟨0, Nat.zero_le _, rfl, Lib.hid (But.refl [] _)⟩
  case round =>
    obtain ⟨k, hk, rfl, HBk⟩ := hrel
    by_cases hlt : k < n
    · obtain ⟨g, o, x, rfl, hg, hx, k0⟩ := (HA.out _ HBk.out).at hlt
      obtain ⟨g1, o1, x1, rfl, hg1, hx1, k1⟩ := (HB.out _ HBk.out).at hlt
      obtain rfl : x = x1 := by rw [hx] at hx1; exact Option.some.inj hx1
      have i0 : (0 : Int) ≤ (k : Int) := by omega
      have i1 : (k : Int) < (n : Int) := by omega
      clear hx hx1
      go_wp2
      go_quiet (fail)
      have HBn : Hid (But [] w (wr.drewN nq)) := Lib.hid (HBk.out.trans ((But.refl [] wr).drewN nq))
      go_wp2
      go_roundw
      case rel => exact ⟨k + 1, by omega, by go_num, HBn⟩
      case measure => simp [intOf] <;> omega
    · obtain rfl : n = k := by omega
      have i1 : ¬ (n : Int) < (n : Int) := by omega
      go_wp2
      go_ret
      exact ⟨rfl, HBk.out⟩
end Go.Proofs.Ytchpincoddghfaa
