/- Several texts in one: Mem, HdA, SbA, SbB, RegM, RegN (what PixelImages, PixelRows, PixelSame reach of them). -/
import Derived.Test.YtfiedoejdikcgaaDoorQ01
import Derived.Below
import Derived.BigQuiet
import Derived.BigRegion
import Derived.Deep.AppendLies
import Derived.Deep.CutBlock
import Derived.Deep.CutRange
import Derived.Deep.DeepCutAuto
import Derived.Deep.Draws
import Derived.Deep.QuietTactic
import Derived.Deep.RegionWith
import Derived.Handy
import Derived.Laws.BitsAllLaws
import Derived.Laws.BitsLemmas
import Derived.Laws.OwnMore
import Derived.Laws.Rows
import Derived.Lib.Hide
import Derived.Maps.AppendAt
import Derived.OrdersHeld
import Derived.Outline
import Derived.OwnWalk
import Derived.RegionTactic
import Derived.Test.YtfiedoejdikcgaaDoorChecked
import Derived.WalkKit
set_option maxRecDepth 100000
set_option linter.unusedVariables false
namespace Go.Proofs.YtfiedoejdikcgaaDoor
set_option maxRecDepth 100000
open Go Go.RowKit
/-- Block b is just these cells; none is frozen. -/
def Is (w : World) (b : Nat) (t : TypeId) (cs : Array Value) : Prop := w.heap[b]? = some (.cells cs t (0, 0))
/-- Whatever is no block of S is as it was. -/
structure But (S : List Nat) (w w' : World) : Prop where
  os : w'.os = w.os
  tape : w'.tape = w.tape
  output : w'.output = w.output
  size : w.heap.size ≤ w'.heap.size
  block : ∀ k, k < w.heap.size → k ∉ S → w'.heap[k]? = w.heap[k]?
/-- A slice's address and length: it reads as these bytes. -/
def ByteRow (w : World) (A : Option Addr) (n : Nat) (l : List UInt8) : Prop :=
  l.length = n ∧ (0 < n → ∃ g o, A = some ⟨g, o, none⟩ ∧ ∀ (i : Nat) (h : i < l.length), w.cell? ⟨g, o + i, none⟩ = some (.int .u8 l[i].toNat))
/-- No cell of the slice lies in block b. -/
def Off (A : Option Addr) (b : Nat) : Prop := ∀ a, A = some a → a.block ≠ b

section
variable {w w' w'' : World} {b : Nat} {t : TypeId} {cs : Array Value} {S T : List Nat}
theorem Is.lt (h : Is w b t cs) : b < w.heap.size := (Array.getElem?_eq_some_iff.1 h).1
theorem Is.cell (h : Is w b t cs) (i : Nat) : w.cell? ⟨b, i, none⟩ = cs[i]? := by unfold Is at h; simp [World.cell?, h]
theorem Is.free (h : Is w b t cs) (i : Nat) : w.frozen? ⟨b, i, none⟩ = false := by unfold Is at h; simp [World.frozen?, h]
theorem Is.fresh (w : World) (t : TypeId) (cs : Array Value) : Is (w.alloc (.cells cs t)) w.heap.size t cs := by unfold Is World.alloc; simp
theorem Is.drew (h : Is w b t cs) : Is w.drew b t cs := h
theorem Is.drewN (h : Is w b t cs) (n : Nat) : Is (w.drewN n) b t cs := h
theorem Is.alloc (h : Is w b t cs) (o : Obj) : Is (w.alloc o) b t cs := (Below.heap_alloc w o b h.lt).trans h
theorem Is.put (h : Is w b t cs) (i : Nat) (u : Value) : Is (w.setCell ⟨b, i, none⟩ u) b t (cs.setIfInBounds i u) := by
  unfold Is at h ⊢; simp [World.setCell, Array.getElem?_modify, h]
theorem Is.far (h : Is w b t cs) {p : Addr} (hp : b ≠ p.block) (u : Value) : Is (w.setCell p u) b t cs := (Below.heap_setCell w p u b hp).trans h
theorem Is.but (h : Is w b t cs) (hw : But S w w') (hb : b ∉ S) : Is w' b t cs := (hw.block b h.lt hb).trans h
theorem Is.below (h : Is w b t cs) {B : Nat} (hw : Below B w w') (hb : b < B) : Is w' b t cs := (hw.block b hb).trans h
theorem Is.grown (h : Is w b t cs) {row : Option Nat} (hw : w.grownBy w' row) (hb : some b ≠ row) : Is w' b t cs := (hw.block b h.lt hb).trans h
theorem But.refl (S : List Nat) (w : World) : But S w w := ⟨rfl, rfl, rfl, Nat.le_refl _, fun _ _ _ => rfl⟩
theorem But.trans (h : But S w w') (k : But S w' w'') : But S w w'' :=
  ⟨k.os.trans h.os, k.tape.trans h.tape, k.output.trans h.output, Nat.le_trans h.size k.size, fun i hi hS => (k.block i (Nat.lt_of_lt_of_le hi h.size) hS).trans (h.block i hi hS)⟩
theorem But.more (h : But S w w') (hS : ∀ k ∈ S, k ∈ T) : But T w w' := ⟨h.os, h.tape, h.output, h.size, fun k hk hT => h.block k hk (fun e => hT (hS k e))⟩
theorem But.drew (h : But S w w') : But S w w'.drew := ⟨h.os, h.tape, h.output, h.size, h.block⟩
theorem But.drewN (h : But S w w') (n : Nat) : But S w (w'.drewN n) := ⟨h.os, h.tape, h.output, h.size, h.block⟩
theorem But.alloc (h : But S w w') (o : Obj) : But S w (w'.alloc o) :=
  h.trans ⟨rfl, rfl, rfl, by simp, fun k hk _ => Below.heap_alloc _ _ _ hk⟩
theorem But.setCell (h : But S w w') {p : Addr} (hp : p.block ∈ S ∨ w.heap.size ≤ p.block) (u : Value) : But S w (w'.setCell p u) :=
  ⟨h.os, h.tape, h.output, by have := h.size; simpa using this, fun k hk hS => (Below.heap_setCell w' p u k (by
    rcases hp with e | e
    · intro e'; subst e'; exact hS e
    · omega)).trans (h.block k hk hS)⟩
theorem But.grown (h : But S w w') {row : Option Nat} (hw : w'.grownBy w'' row) (hr : ∀ g, row = some g → g ∈ S ∨ w.heap.size ≤ g) : But S w w'' :=
  ⟨hw.os.trans h.os, hw.tape.trans h.tape, hw.output.trans h.output, Nat.le_trans h.size hw.size, fun k hk hS => (hw.block k (Nat.lt_of_lt_of_le hk h.size) (fun e => by
    rcases hr k e.symm with g | g
    · exact hS g
    · omega)).trans (h.block k hk hS)⟩
/-- What may have been written lies from B on: below B all is as it was. -/
theorem But.below (h : But S w w') {B : Nat} {w0 : World} (h0 : Below B w0 w) (hB : B ≤ w.heap.size) (hS : ∀ k ∈ S, B ≤ k) : Below B w0 w' :=
  h0.trans ⟨h.os, h.tape, h.output, h.size, fun k hk => h.block k (Nat.lt_of_lt_of_le hk hB) (fun e => by have := hS k e; omega)⟩
theorem But.cell (h : But S w w') {a : Addr} {v : Value} (hc : w.cell? a = some v) (ha : a.block ∉ S) : w'.cell? a = some v :=
  (World.cell?_of_block (h.block a.block (World.block_lt_of_cell? w a hc) ha)).trans hc

variable {A : Option Addr} {n : Nat} {l : List UInt8}
theorem ByteRow.but (h : ByteRow w A n l) (hw : But S w w') (hA : ∀ k ∈ S, Off A k) : ByteRow w' A n l :=
  ⟨h.1, fun hn => by
    obtain ⟨g, o, e, hc⟩ := h.2 hn
    exact ⟨g, o, e, fun i hi => hw.cell (hc i hi) (fun hS => hA g hS _ e rfl)⟩⟩
theorem ByteRow.drew (h : ByteRow w A n l) : ByteRow w.drew A n l := h
theorem ByteRow.at (h : ByteRow w A n l) {i : Nat} (hi : i < n) : ∃ g o, A = some ⟨g, o, none⟩ ∧ w.cell? ⟨g, o + i, none⟩ = some (.int .u8 (l[i]'(by have := h.1; omega)).toNat) := by
  obtain ⟨g, o, e, hc⟩ := h.2 (by omega)
  exact ⟨g, o, e, hc i (by have := h.1; omega)⟩
end
end Go.Proofs.YtfiedoejdikcgaaDoor
set_option maxRecDepth 100000
set_option linter.unusedVariables false
namespace Go.Proofs.YtfiedoejdikcgaaDoor
set_option maxRecDepth 100000
open Go Go.RowKit
/-- How many samples a pixel of a colour has, of whatever number. -/
def samplesI (c : Int) : Int := if c = 0 ∨ c = 3 then 1 else if c = 4 then 2 else if c = 2 then 3 else if c = 6 then 4 else 0
set_option maxHeartbeats 1000000 in
theorem esamples_any (w : World) (c : Int) : Calls Tryd.prog 16 #[.int .i64 c] w fun e w' => e = .returned (.int .i64 (samplesI c)) ∧ w = w' := by
  obtain ⟨r, hr⟩ : ∃ r, r = samplesI c := ⟨_, rfl⟩
  rw [← hr]
  have HR := Lib.hid hr
  clear hr
  go_enter Tryd.func16, Tryd.ntmps16
  go_wp2
  all_goals
    go_ret
    refine ⟨?_, rfl⟩
    rw [HR.out]
    unfold samplesI
    clear HR
    simp at *
    try simp [*]
set_option maxHeartbeats 4000000 in
theorem eright_h (w : World) (a b d c l : Int) : Calls Tryd.prog 15 #[.agg #[.int .i64 a, .int .i64 b, .int .i64 d, .int .i64 c, .int .i64 l]] w fun e w' => e = .returned (.int .i64 (rightH a b d c l)) ∧ But [] w w' := by
  obtain ⟨r, hr⟩ : ∃ r, r = rightH a b d c l := ⟨_, rfl⟩
  rw [← hr]
  have HR := Lib.hid hr
  have hI := Is.fresh w 29 #[.int .i64 a, .int .i64 b, .int .i64 d, .int .i64 c, .int .i64 l]
  have HB := Lib.hid ((But.refl [] w).alloc (.cells #[.int .i64 a, .int .i64 b, .int .i64 d, .int .i64 c, .int .i64 l] 29))
  have HI := Lib.hid hI
  clear hr hI
  go_enter Tryd.func15, Tryd.ntmps15
  go_upto_region 2 with (fail)
  go_cut [4] (fun v wx => v = .bool (decide (d = 1 ∨ d = 2 ∨ d = 4)) ∧ Hid (But [] w wx) ∧ Hid (Is wx w.heap.size 29 #[.int .i64 a, .int .i64 b, .int .i64 d, .int .i64 c, .int .i64 l]))
  case first =>
    have p1 : (d = 1) = True ∨ (d = 1) = False := by by_cases h : d = 1 <;> simp [h]
    have p2 : (d = 2) = True ∨ (d = 2) = False := by by_cases h : d = 2 <;> simp [h]
    have p4 : (d = 4) = True ∨ (d = 4) = False := by by_cases h : d = 4 <;> simp [h]
    rcases p1 with p1 | p1
    · go_wp2
      go_meet
      exact ⟨by simp [p1], HB, HI⟩
    rcases p2 with p2 | p2
    · go_wp2
      go_meet
      exact ⟨by simp [p2], HB, HI⟩
    rcases p4 with p4 | p4
    · go_wp2
      go_meet
      exact ⟨by simp [p4], HB, HI⟩
    · go_wp2
      go_meet
      exact ⟨by simp [p1, p2, p4], HB, HI⟩
  case rest =>
  obtain ⟨hv, HB1, HI⟩ := hcut
  obtain ⟨sm, hs⟩ : ∃ q, q = decide (d = 1 ∨ d = 2 ∨ d = 4) := ⟨_, rfl⟩
  rw [← hs] at hv
  subst hv
  have HS := Lib.hid hs
  clear hs HB
  obtain ⟨w1, rfl⟩ : ∃ w1 : World, w1 = wc := ⟨_, rfl⟩
  have q0 : w1.cell? ⟨w.heap.size, 0, none⟩ = some (.int .i64 a) := HI.out.cell 0
  have q1 : w1.cell? ⟨w.heap.size, 1, none⟩ = some (.int .i64 b) := HI.out.cell 1
  have q3 : w1.cell? ⟨w.heap.size, 3, none⟩ = some (.int .i64 c) := HI.out.cell 3
  have q4 : w1.cell? ⟨w.heap.size, 4, none⟩ = some (.int .i64 l) := HI.out.cell 4
  go_upto_block 0 with (fail)
  go_cut [5] (fun v wx => v = .bool (depthOk d c) ∧ wx = w1)
  case first =>
    have P : ∀ x y : Int, ((x = y) = True ∧ (x == y) = true) ∨ ((x = y) = False ∧ (x == y) = false) := fun x y => by by_cases h : x = y <;> simp [h]
    have PP := Lib.hid P
    have p8 := P d 8
    have p16 := P d 16
    clear P
    have hg : depthOk d c = decide (c = 0 ∧ (decide (d = 1 ∨ d = 2 ∨ d = 4) = true ∨ d = 8 ∨ d = 16) ∨ c = 3 ∧ (decide (d = 1 ∨ d = 2 ∨ d = 4) = true ∨ d = 8) ∨ (c = 2 ∨ c = 4 ∨ c = 6) ∧ (d = 8 ∨ d = 16)) := by
      unfold depthOk
      simp only [decide_eq_true_eq]
      exact decide_eq_decide.mpr (by simp only [or_assoc])
    rw [← HS.out] at hg
    have HG := Lib.hid hg
    clear hg
    rcases PP.out c 0 with ⟨p0, r0⟩ | ⟨p0, r0⟩
    · rcases p8 with ⟨p8, r8⟩ | ⟨p8, r8⟩ <;> rcases p16 with ⟨p16, r16⟩ | ⟨p16, r16⟩ <;> cases sm
      all_goals
        go_wp2
        go_meet
        refine ⟨?_, rfl⟩
        rw [HG.out]
        simp [p0, p8, p16]
    rcases PP.out c 3 with ⟨p3, r3⟩ | ⟨p3, r3⟩
    · rcases p8 with ⟨p8, r8⟩ | ⟨p8, r8⟩ <;> cases sm
      all_goals
        go_wp2
        go_meet
        refine ⟨?_, rfl⟩
        rw [HG.out]
        simp [p0, p3, p8]
        try (have e3 : c = 3 := of_eq_true p3; omega)
    rcases PP.out c 2 with ⟨p2, r2⟩ | ⟨p2, r2⟩
    · rcases p8 with ⟨p8, r8⟩ | ⟨p8, r8⟩ <;> rcases p16 with ⟨p16, r16⟩ | ⟨p16, r16⟩
      all_goals
        go_wp2
        go_meet
        refine ⟨?_, rfl⟩
        rw [HG.out]
        simp [p0, p3, p2, p8, p16]
    rcases PP.out c 4 with ⟨p4, r4⟩ | ⟨p4, r4⟩
    · rcases p8 with ⟨p8, r8⟩ | ⟨p8, r8⟩ <;> rcases p16 with ⟨p16, r16⟩ | ⟨p16, r16⟩
      all_goals
        go_wp2
        go_meet
        refine ⟨?_, rfl⟩
        rw [HG.out]
        simp [p0, p3, p2, p4, p8, p16]
    rcases PP.out c 6 with ⟨p6, r6⟩ | ⟨p6, r6⟩
    · rcases p8 with ⟨p8, r8⟩ | ⟨p8, r8⟩ <;> rcases p16 with ⟨p16, r16⟩ | ⟨p16, r16⟩
      all_goals
        go_wp2
        go_meet
        refine ⟨?_, rfl⟩
        rw [HG.out]
        simp [p0, p3, p2, p4, p6, p8, p16]
    · go_wp2
      go_meet
      refine ⟨?_, rfl⟩
      rw [HG.out]
      simp [p0, p3, p2, p4, p6]
  case rest =>
  obtain ⟨hv, rfl⟩ := hcut
  obtain ⟨g, hg⟩ : ∃ q, q = depthOk d c := ⟨_, rfl⟩
  rw [← hg] at hv
  subst hv
  have HG := Lib.hid hg
  clear hg
  go_upto_region 13 with (fail)
  go_cut [79] (fun v wx => v = .bool (decide (a < 1 ∨ 2147483647 < a ∨ b < 1 ∨ 2147483647 < b ∨ g = false ∨ (l ≠ 0 ∧ l ≠ 1))) ∧ wx = wc)
  case first =>
    have p0 : (l = 0) = True ∨ (l = 0) = False := by by_cases h : l = 0 <;> simp [h]
    have p1 : (l = 1) = True ∨ (l = 1) = False := by by_cases h : l = 1 <;> simp [h]
    by_cases h1 : a < 1
    · go_wp2
      go_meet
      exact ⟨by simp [h1], rfl⟩
    by_cases h2 : 2147483647 < a
    · go_wp2
      go_meet
      exact ⟨by simp [h2], rfl⟩
    by_cases h3 : b < 1
    · go_wp2
      go_meet
      exact ⟨by simp [h3], rfl⟩
    by_cases h4 : 2147483647 < b
    · go_wp2
      go_meet
      exact ⟨by simp [h4], rfl⟩
    cases g
    · go_wp2
      go_meet
      exact ⟨by simp, rfl⟩
    rcases p0 with p0 | p0
    · go_wp2
      go_meet
      exact ⟨congrArg Value.bool (decide_eq_false (by have e0 : l = 0 := of_eq_true p0; simp; omega)).symm, rfl⟩
    rcases p1 with p1 | p1
    · go_wp2
      go_meet
      exact ⟨congrArg Value.bool (Eq.trans (show (l != 0 && l != 1) = false by have e1 : l = 1 := of_eq_true p1; rw [e1]; rfl) (decide_eq_false (by have e1 : l = 1 := of_eq_true p1; intro h; rcases h with h | h | h | h | h | h; all_goals first | omega | cases h)).symm), rfl⟩
    · go_wp2
      go_meet
      exact ⟨by simp [p0, p1], rfl⟩
  case rest =>
  obtain ⟨hv, rfl⟩ := hcut
  by_cases hb : a < 1 ∨ 2147483647 < a ∨ b < 1 ∨ 2147483647 < b ∨ g = false ∨ (l ≠ 0 ∧ l ≠ 1)
  · rw [decide_eq_true hb] at hv
    subst hv
    have HBAD := Lib.hid hb
    clear hb
    go_wp2
    go_ret
    refine ⟨?_, HB1.out⟩
    rw [HR.out]
    unfold rightH
    rw [if_pos (by rw [← HG.out]; exact HBAD.out)]
    rfl
  · rw [decide_eq_false hb] at hv
    subst hv
    have HBAD := Lib.hid hb
    have a1 : 1 ≤ a := by omega
    have b1 : 1 ≤ b := by omega
    have HRE : Hid (r = if 1024 < a ∨ 1024 < b ∨ 4096 < a * b then 5 else 0) := Lib.hid (by
      rw [HR.out]
      unfold rightH
      rw [if_neg (by rw [← HG.out]; exact HBAD.out)])
    clear hb HR
    by_cases h1 : 1024 < a
    · go_wp2
      go_ret
      exact ⟨by rw [HRE.out, if_pos (Or.inl h1)]; rfl, HB1.out⟩
    by_cases h2 : 1024 < b
    · go_wp2
      go_ret
      exact ⟨by rw [HRE.out, if_pos (Or.inr (Or.inl h2))]; rfl, HB1.out⟩
    obtain ⟨m, hm⟩ : ∃ m, m = a * b := ⟨_, rfl⟩
    have m1 : 0 ≤ m := by rw [hm]; exact Int.mul_nonneg (by omega) (by omega)
    have m2 : m ≤ 1048576 := by rw [hm]; exact Int.le_trans (Int.mul_le_mul (by omega : a ≤ 1024) (by omega : b ≤ 1024) (by omega) (by omega)) (by omega)
    have hm' := hm.symm
    have HM := Lib.hid hm
    clear hm
    by_cases h3 : 4096 < m
    · go_wp2
      go_ret
      exact ⟨by rw [HRE.out, if_pos (Or.inr (Or.inr (by rw [← HM.out]; exact h3)))]; rfl, HB1.out⟩
    · go_wp2
      go_ret
      exact ⟨by rw [HRE.out, if_neg (by rw [← HM.out]; omega)]; rfl, HB1.out⟩
end Go.Proofs.YtfiedoejdikcgaaDoor
set_option maxRecDepth 100000
set_option linter.unusedVariables false
namespace Go.Proofs.YtfiedoejdikcgaaDoor
set_option maxRecDepth 100000
open Go Go.RowKit
/-- Whether a number is a depth. -/
def depB (d : Int) : Bool := decide (d = 1 ∨ d = 2 ∨ d = 4 ∨ d = 8 ∨ d = 16)
theorem depB_nat {d : Int} (h : depB d = true) : ∃ D : Nat, d = (D : Int) ∧ isDepth D ∧ 1 ≤ D ∧ D ≤ 16 := by
  have h2 := of_decide_eq_true h
  refine ⟨d.toNat, by omega, ?_, by omega, by omega⟩
  unfold isDepth
  omega
set_option maxHeartbeats 1000000 in
theorem edepth_any (w : World) (d : Int) : Calls Tryd.prog 49 #[.int .i64 d] w fun e w' => e = .returned (.bool (depB d)) ∧ w = w' := by
  obtain ⟨r, hr⟩ : ∃ r, r = depB d := ⟨_, rfl⟩
  rw [← hr]
  have HR := Lib.hid hr
  clear hr
  go_enter Tryd.func49, Tryd.ntmps49
  go_wp2
  all_goals
    go_ret
    refine ⟨?_, rfl⟩
    rw [HR.out]
    unfold depB
    clear HR
    by_cases h16 : d = 16 <;> simp_all
/-- A sample of a depth with 16 bits, of whatever numbers. -/
def wideA (v d : Int) : Nat := if depB d = true then wideN (v % 2 ^ d.toNat).toNat d.toNat else 0
theorem wideA_no {v d : Int} (h : depB d = false) : wideA v d = 0 := by unfold wideA; rw [if_neg (by rw [h]; decide)]
end Go.Proofs.YtfiedoejdikcgaaDoor
set_option maxRecDepth 100000
set_option linter.unusedVariables false
namespace Go.Proofs.YtfiedoejdikcgaaDoor
set_option maxRecDepth 100000
open Go Go.RowKit
def nCells (L : List Nat) : List Value := L.map fun x => .int .i64 (x : Nat)
theorem nCells_append (L M : List Nat) : nCells (L ++ M) = nCells L ++ nCells M := by simp [nCells]
/-- A slice reads as these numbers. -/
def Nums (w : World) (A : Option Addr) (n : Nat) (L : List Nat) : Prop :=
  L.length = n ∧ (0 < n → ∃ g o, A = some ⟨g, o, none⟩ ∧ g < w.heap.size ∧ ∀ (i : Nat) (h : i < L.length), w.cell? ⟨g, o + i, none⟩ = some (.int .i64 (L[i] : Nat)))
theorem Nums.nil (w : World) (A : Option Addr) : Nums w A 0 [] := ⟨rfl, fun h => absurd h (by omega)⟩
theorem Nums.but {w w' : World} {A : Option Addr} {n : Nat} {L : List Nat} (h : Nums w A n L) (hw : But [] w w') : Nums w' A n L :=
  ⟨h.1, fun hn => by
    obtain ⟨g, o, e, hg, hc⟩ := h.2 hn
    exact ⟨g, o, e, Nat.lt_of_lt_of_le hg hw.size, fun i hi => hw.cell (hc i hi) (by simp)⟩⟩
theorem Nums.at {w : World} {A : Option Addr} {n : Nat} {L : List Nat} (h : Nums w A n L) {i : Nat} (hi : i < n) : ∃ g o x, A = some ⟨g, o, none⟩ ∧ g < w.heap.size ∧ L[i]? = some x ∧ w.cell? ⟨g, o + i, none⟩ = some (.int .i64 (x : Nat)) := by
  obtain ⟨g, o, e, hg, hc⟩ := h.2 (by omega)
  have hl : i < L.length := by have := h.1; omega
  exact ⟨g, o, L[i], e, hg, List.getElem?_eq_getElem hl, hc i hl⟩
/-- Numbers of the call's own. -/
def OwnN (w : World) (base : Nat) (v : Value) (L : List Nat) : Prop := w.ownsRow base 3 1 v L.length (nCells L)
theorem OwnN.nil (w : World) (base : Nat) : OwnN w base (.slice none 0 0) [] := World.ownsRow_nil _ _ _ _
theorem OwnN.but {w w' : World} {base : Nat} {v : Value} {L : List Nat} (h : OwnN w base v L) (hw : But [] w w') : OwnN w' base v L := by
  obtain ⟨h1, h2⟩ := h
  refine ⟨h1, ?_⟩
  rcases h2 with h2 | ⟨g, cap, cur, rfl, hg, hh, r⟩
  · exact .inl h2
  · have hlt : g < w.heap.size := (Array.getElem?_eq_some_iff.1 hh).1
    exact .inr ⟨g, cap, cur, rfl, hg, (hw.block g hlt (by simp)).trans hh, r⟩
theorem OwnN.shape {w : World} {base : Nat} {v : Value} {L : List Nat} (h : OwnN w base v L) : ∃ A c, v = .slice A L.length c ∧ L.length ≤ c := by
  rcases h.2 with ⟨rfl, e⟩ | ⟨g, cap, cur, rfl, _, _, hc, _⟩
  · have : L = [] := List.eq_nil_of_length_eq_zero e
    subst this
    exact ⟨none, 0, rfl, Nat.le_refl _⟩
  · exact ⟨_, cap, rfl, hc⟩
theorem OwnN.lt {w : World} {base : Nat} {v : Value} {L : List Nat} (h : OwnN w base v L) : ∀ g, v.ownBlock = some g → base ≤ g := fun g e => (World.ownsRow.lt h g e).1
theorem OwnN.nums {w : World} {base n c : Nat} {A : Option Addr} {L : List Nat} (h : OwnN w base (.slice A n c) L) : Nums w A L.length L := by
  refine ⟨rfl, fun hn => ?_⟩
  obtain ⟨g, cap, e, h1, h2⟩ := World.ownsRow.form h hn
  injection e with e1 e2 e3
  subst e1 e3
  refine ⟨g, 0, rfl, h2, fun i hi => ?_⟩
  have hc := World.ownsRow.cells h (g := g) rfl i (.int .i64 (L[i] : Nat)) (by simp [nCells, hi])
  have e2 : (⟨g, 0, none⟩ : Addr).add i = ⟨g, 0 + i, none⟩ := by unfold Addr.add; split <;> simp_all
  rw [e2] at hc
  exact hc
theorem info_intN : (Tryd.prog.info? 3).map (fun i => (i.zero, i.size, i.bytes)) = some (some (.int .i64 0), 1, 8) := by kernel_rfl
theorem news_n {w : World} {g : Nat} {cs : Array Value} (h : Is w g 3 cs) : ∀ (j : Nat) u, cs.toList[j]? = some u → w.cell? ((⟨g, 0, none⟩ : Addr).add j) = some u := by
  intro j u hj
  have e2 : (⟨g, 0, none⟩ : Addr).add j = ⟨g, j, none⟩ := by unfold Addr.add; split <;> simp_all
  rw [e2, h.cell, ← Array.getElem?_toList]
  exact hj
end Go.Proofs.YtfiedoejdikcgaaDoor
set_option linter.unusedVariables false
namespace Go.Proofs.YtfiedoejdikcgaaDoor
set_option maxRecDepth 100000
open Go
section
variable {P : Program} {ops : Array Oper} {Q : Exit → Act → World → Prop} {md : Region.Mode} {S : World → Prop} {R : World → World → Prop}
/-- An operation's outcome, with a word on the state that it leaves. -/
theorem wpOp_tag {j : Nat} {oj : Oper} (hj : ops[j]? = some oj) {K : Act → World → Prop} {a : Act} {w : World} (C : Act → Prop)
    (hput : ∀ u, C (a.put oj.dst u)) (hdef : ∀ d u, C (({ a with defers := d :: a.defers } : Act).put oj.dst u)) (h : wpOp P ops Q j K a w) :
    wpOp P ops Q j (fun b w1 => C b ∧ K b w1) a w := by
  unfold wpOp at *
  simp only [hj] at *
  by_cases hw : Region.wanted oj (yielded ops a.tmps) = true
  · rw [if_pos hw] at h ⊢
    rcases h with h | h
    · left
      unfold Oper.wp at *
      cases hr : (execOp a.eval oj).run P w with
      | ok n w1 =>
        rw [hr] at h
        cases n with
        | value u => exact ⟨hput u, h⟩
        | skip => exact ⟨hput _, h⟩
        | defer d => exact ⟨hdef d _, h⟩
        | enter f args =>
          refine Calls.mono h fun e w2 he => ?_
          cases e with
          | returned u => exact ⟨hput u, he⟩
          | panicked c => exact he
          | outgrown => exact he
        | row r args => exact Rows.mono h fun u w2 he => ⟨hput u, he⟩
        | _ => exact h
      | halt x w1 =>
        rw [hr] at h
        cases x <;> exact h
    · exact .inr h
  · rw [if_neg hw] at h ⊢
    exact ⟨hput _, h⟩
/-- In every world that meets S the operation gives v, and leaves a world that meets S and is no more than R away. -/
def YieldsR (P : Program) (ops : Array Oper) (S : World → Prop) (R : World → World → Prop) (o : Oper) (v : Value) (a : Act) : Prop :=
  (Region.wanted o (yielded ops a.tmps) = true ∧ ∀ w, S w → ((∃ w1, (execOp a.eval o).run P w = .ok (.value v) w1 ∧ S w1 ∧ R w w1) ∨
    ∃ f args, (execOp a.eval o).run P w = .ok (.enter f args) w ∧ Calls P f args w fun e w1 => e = .returned v ∧ S w1 ∧ R w w1)) ∨
  (Region.wanted o (yielded ops a.tmps) = false ∧ v = undef)
theorem YieldsR.of_same {o : Oper} {v : Value} {a a' : Act} (hy : YieldsR P ops S R o v a) (he : execOp a'.eval o = execOp a.eval o)
    (hw : Region.wanted o (yielded ops a'.tmps) = Region.wanted o (yielded ops a.tmps)) : YieldsR P ops S R o v a' := by
  unfold YieldsR at *
  rw [he, hw]
  exact hy
theorem YieldsR.wpOp {i : Nat} {o : Oper} {v : Value} {a : Act} (hi : ops[i]? = some o) (hy : YieldsR P ops S R o v a) (hrefl : ∀ w, R w w)
    {K : Act → World → Prop} {w : World} (hS : S w) (h : ∀ w1, S w1 → R w w1 → K (a.put o.dst v) w1) : wpOp P ops Q i K a w := by
  unfold Go.wpOp
  simp only [hi]
  rcases hy with ⟨hw, hv⟩ | ⟨hw, rfl⟩
  · rw [if_pos hw]
    left
    unfold Oper.wp
    rcases hv w hS with ⟨w1, hr, h1, h2⟩ | ⟨f, args, hr, hc⟩
    · rw [hr]; exact h w1 h1 h2
    · rw [hr]
      refine Calls.mono hc fun e w1 he => ?_
      obtain ⟨rfl, h1, h2⟩ := he
      exact h w1 h1 h2
  · rw [if_neg (by simp [hw])]
    exact h w hS (hrefl w)
/-- Whatever order is picked from here on, and whatever is made anew meanwhile. -/
def wpM (P : Program) (md : Region.Mode) (ops : Array Oper) (Q : Exit → Act → World → Prop) (S : World → Prop) (R : World → World → Prop) : Nat → Array Bool → Act → World → Prop
  | 0, listed, a, w => Region.ready md ops listed = [] ∧ ∀ w1, R w w1 → S w1 → Q .normal a w1
  | f + 1, listed, a, w => ∀ w1, R w w1 → S w1 → (Region.ready md ops listed = [] → Q .normal a w1) ∧
      ∀ i ∈ Region.ready md ops listed, wpOp P ops Q i (fun a' w' => S w' ∧ wpM P md ops Q S R f (listed.setIfInBounds i true) a' w') a w1
theorem wpM_mono (htr : ∀ x y z, R x y → R y z → R x z) : ∀ {f : Nat} {listed : Array Bool} {a : Act} {w w' : World}, wpM P md ops Q S R f listed a w → R w w' → wpM P md ops Q S R f listed a w'
  | 0, _, _, _, _, h, hr => ⟨h.1, fun w1 h1 h2 => h.2 w1 (htr _ _ _ hr h1) h2⟩
  | _ + 1, _, _, _, _, h, hr => fun w1 h1 h2 => h w1 (htr _ _ _ hr h1) h2
theorem wpAny_of_m (hrefl : ∀ w, R w w) : ∀ (f : Nat) (listed : Array Bool) (a : Act) (w : World), S w → wpM P md ops Q S R f listed a w → wpAny P md ops Q f listed a w
  | 0, _, _, w, hS, h => ⟨h.1, h.2 w (hrefl w) hS⟩
  | f + 1, _, _, w, hS, h => ⟨(h w (hrefl w) hS).1, fun i hi => wpOp_mono (fun a' w' h' => wpAny_of_m hrefl f _ a' w' h'.1 h'.2) ((h w (hrefl w) hS).2 i hi)⟩
theorem wpM_first (hrefl : ∀ w, R w w) (htr : ∀ x y z, R x y → R y z → R x z) {i : Nat} {oi : Oper} {v : Value} (hi : ops[i]? = some oi)
    (hsel : ∀ (j : Nat) (o : Oper) cs b, ops[j]? = some o → o.op ≠ .select cs b)
    (hQ : ∀ c a w, Q (.panic c) (a.put oi.dst v) w → Q (.panic c) a w) :
    ∀ (f : Nat) (listed : Array Bool) (a : Act) (w : World),
      (∀ j oj, ops[j]? = some oj → j ≠ i → listed.getD j true = false → (∀ e ∈ oj.after, Region.binds md e = true → e.on ≠ i) → oi.apart ops oj = true) →
      i ∈ Region.ready md ops listed → YieldsR P ops S R oi v a →
      wpM P md ops Q S R f (listed.setIfInBounds i true) (a.put oi.dst v) w → wpM P md ops Q S R (f + 1) listed a w := by
  intro f
  induction f with
  | zero =>
    intro listed a w _ hr hy H w1 hR hS
    refine ⟨fun h => (by rw [h] at hr; cases hr), fun j hj => ?_⟩
    by_cases hji : j = i
    · subst hji
      exact hy.wpOp hi hrefl hS fun w2 h1 h2 => ⟨h1, wpM_mono htr H (htr _ _ _ hR h2)⟩
    · have := ready_mono hj hji
      rw [H.1] at this
      cases this
  | succ f ih =>
    intro listed a w hfree hr hy H w1 hR hS
    refine ⟨fun h => (by rw [h] at hr; cases hr), fun j hj => ?_⟩
    by_cases hji : j = i
    · subst hji
      exact hy.wpOp hi hrefl hS fun w2 h1 h2 => ⟨h1, wpM_mono htr H (htr _ _ _ hR h2)⟩
    · have h1 := (H w1 hR hS).2 j (ready_mono hj hji)
      obtain ⟨hjun, oj, hoj, hall⟩ := mem_ready.1 hj
      have hnot : ∀ e ∈ oj.after, Region.binds md e = true → e.on ≠ i := fun e he hb heq => by
        have h2 := hall e he hb
        have h0 := (mem_ready.1 hr).1
        rw [heq] at h2
        rcases Nat.lt_or_ge i listed.size with h' | h'
        · simp [h'] at h0 h2; rw [h0] at h2; cases h2
        · simp [Array.getElem?_eq_none h'] at h2
      have hap := hfree j oj hoj hji hjun hnot
      obtain ⟨_, _, h3⟩ := Oper.apart_spec hap
      have triv : YieldsIf P ops (fun _ => False) oi v a := by
        rcases hy with ⟨hw, _⟩ | ⟨hw, hv⟩
        · exact .inl ⟨hw, fun _ h => h.elim⟩
        · exact .inr ⟨hw, hv⟩
      have keep : ∀ (b : Act), YieldsR P ops S R oi v b → ∀ u, YieldsR P ops S R oi v (b.put oj.dst u) := fun b hb u =>
        hb.of_same (execOp_put oi (fun cs c => hsel i oi cs c hi) b oj.dst u h3) (wanted_put oi b oj.dst u h3)
      have h2 := wpOp_putIf hoj hap (fun cs b => hsel i oi cs b hi) (fun cs b => hsel j oj cs b hoj) hQ triv h1
      have h4 := wpOp_tag hoj (YieldsR P ops S R oi v) (fun u => keep a hy u) (fun d u => keep { a with defers := d :: a.defers } (hy.of_same rfl rfl) u) h2
      have hfree' : ∀ k ok, ops[k]? = some ok → k ≠ i → (listed.setIfInBounds j true).getD k true = false →
          (∀ e ∈ ok.after, Region.binds md e = true → e.on ≠ i) → oi.apart ops ok = true := fun k ok hk hki hun hno => by
        refine hfree k ok hk hki ?_ hno
        by_cases hjk : j = k
        · subst hjk; exact hjun
        · rw [getD_set_ne true hjk] at hun; exact hun
      refine wpOp_mono (fun a' w' h5 => ⟨h5.2.2.1, ih (listed.setIfInBounds j true) a' w' hfree' (ready_mono hr (Ne.symm hji)) h5.1 ?_⟩) h4
      rw [Array.setIfInBounds_comm _ _ hji]
      exact h5.2.2.2
/-- The beginning. -/
theorem wp_region_m (hrefl : ∀ w, R w w) {id : Nat} {a : Act} {w : World} (hm : P.follows .mixedOrders = true) (hS : S { w with drawn := w.drawn + 1 })
    (h : wpM P .any ops Q S R ops.size (Array.replicate ops.size false) a { w with drawn := w.drawn + 1 }) : (Code.region id ops true).wp P Q a w :=
  wp_region_any hm (wpAny_of_m hrefl _ _ _ _ hS h)
/-- One operation first. -/
theorem wpM_take (hrefl : ∀ w, R w w) (htr : ∀ x y z, R x y → R y z → R x z) {i : Nat} {oi : Oper} {v : Value} {f : Nat} {listed : Array Bool} {a : Act} {w : World} (hi : ops[i]? = some oi)
    (hs : Region.noSelect ops = true) (hf : Region.free md ops listed i = true) (hr : (Region.ready md ops listed).contains i = true)
    (hQ : ∀ c a w, Q (.panic c) (a.put oi.dst v) w → Q (.panic c) a w) (hy : YieldsR P ops S R oi v a)
    (h : wpM P md ops Q S R f (listed.setIfInBounds i true) (a.put oi.dst v) w) : wpM P md ops Q S R (f + 1) listed a w :=
  wpM_first hrefl htr hi (Region.noSelect_spec hs) hQ f listed a w (Region.free_spec hi hf) (by simpa using hr) hy h
/-- One that reads, or less. -/
theorem YieldsR.read (hrefl : ∀ w, R w w) {o : Oper} {v : Value} {a : Act} (hw : Region.wanted o (yielded ops a.tmps) = true) (h : ∀ w, S w → (execOp a.eval o).run P w = .ok (.value v) w) : YieldsR P ops S R o v a :=
  .inl ⟨hw, fun w hS => .inl ⟨w, h w hS, hS, hrefl w⟩⟩
/-- The only one that may come up. -/
theorem wpM_one {i : Nat} {oi : Oper} {f : Nat} {listed : Array Bool} {a : Act} {w : World} (hi : ops[i]? = some oi) (hr : Region.ready md ops listed = [i])
    (h : ∀ w1, R w w1 → S w1 → ∀ K' : Act → World → Prop, (∀ a' w', (S w' ∧ wpM P md ops Q S R f (listed.setIfInBounds i true) a' w') → K' a' w') →
      if Region.wanted oi (yielded ops a.tmps) = true then Oper.wp P oi a w1 K' Q else K' (a.put oi.dst undef) w1) : wpM P md ops Q S R (f + 1) listed a w := by
  intro w1 hR hS
  refine ⟨fun h0 => (by rw [hr] at h0; cases h0), fun j hj => ?_⟩
  rw [hr] at hj
  have hji : j = i := by simpa using hj
  subst hji
  exact wpOp_step hi (h w1 hR hS)
end
end Go.Proofs.YtfiedoejdikcgaaDoor
set_option linter.unusedVariables false
namespace Go.Proofs.YtfiedoejdikcgaaDoor
set_option maxRecDepth 100000
open Go
section
variable {P : Program} {ops : Array Oper} {Q : Exit → Act → World → Prop} {md : Region.Mode} {S : World → Prop} {R : World → World → Prop}
/-- Two that may come up. -/
theorem wpM_two {i j : Nat} {oi oj : Oper} {f : Nat} {listed : Array Bool} {a : Act} {w : World} (hi : ops[i]? = some oi) (hj : ops[j]? = some oj) (hr : Region.ready md ops listed = [i, j])
    (h1 : ∀ w1, R w w1 → S w1 → ∀ K' : Act → World → Prop, (∀ a' w', (S w' ∧ wpM P md ops Q S R f (listed.setIfInBounds i true) a' w') → K' a' w') →
      if Region.wanted oi (yielded ops a.tmps) = true then Oper.wp P oi a w1 K' Q else K' (a.put oi.dst undef) w1)
    (h2 : ∀ w1, R w w1 → S w1 → ∀ K' : Act → World → Prop, (∀ a' w', (S w' ∧ wpM P md ops Q S R f (listed.setIfInBounds j true) a' w') → K' a' w') →
      if Region.wanted oj (yielded ops a.tmps) = true then Oper.wp P oj a w1 K' Q else K' (a.put oj.dst undef) w1) : wpM P md ops Q S R (f + 1) listed a w := by
  intro w1 hR hS
  refine ⟨fun h0 => (by rw [hr] at h0; cases h0), fun k hk => ?_⟩
  rw [hr] at hk
  rcases List.mem_cons.1 hk with rfl | hk
  · exact wpOp_step hi (h1 w1 hR hS)
  · have hkj : k = j := by simpa using hk
    subst hkj
    exact wpOp_step hj (h2 w1 hR hS)
end
end Go.Proofs.YtfiedoejdikcgaaDoor
