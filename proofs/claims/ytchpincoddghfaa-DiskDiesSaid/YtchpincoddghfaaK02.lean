/- Several texts in one: DkQ, DkR, SbG, StM, DkT, DkU, DkV, DpA, DpB (what DiskDies, DiskLasts, DiskNil, DiskPlays reach of them). -/
import Derived.Test.YtchpincoddghfaaK01
import Derived.Below
import Derived.BigQuiet
import Derived.BigRegion
import Derived.Deep.AppendLies
import Derived.Deep.Cut
import Derived.Deep.CutBlock
import Derived.Deep.CutRange
import Derived.Deep.DeepCutAuto
import Derived.Deep.Draws
import Derived.Deep.Onto
import Derived.Deep.QuietTactic
import Derived.Deep.RegionLaw
import Derived.Deep.RegionWith
import Derived.Handy
import Derived.Laws.BitsAllLaws
import Derived.Laws.BitsLemmas
import Derived.Laws.BytesArg
import Derived.Laws.IdiomStrings
import Derived.Laws.MakeOwn
import Derived.Laws.OwnMore
import Derived.Laws.Rows
import Derived.Lib.Hide
import Derived.MapViews
import Derived.Maps.AppendAt
import Derived.Maps.Ext
import Derived.Maps.OwnOps
import Derived.Maps.OwnSet
import Derived.OrdersHeld
import Derived.OrdersIn
import Derived.Outline
import Derived.OwnWalk
import Derived.OwnWalkIn
import Derived.RangeFuncCalls
import Derived.RegionTactic
import Derived.TacticsInMore
import Derived.Test.YtchpincoddghfaaChecked
import Derived.WalkKit
import Derived.WideKeyArgs2
set_option maxRecDepth 100000
set_option linter.unusedVariables false
set_option maxRecDepth 100000
set_option linter.unusedVariables false
namespace Go.Proofs.Ytchpincoddghfaa
set_option maxRecDepth 100000
open Go Go.RowKit
/-- A disk all of whose blocks are younger than w, and nothing older was written. -/
def Inv (PD : World → Nat → List Nat → D16 → Prop) (w wi : World) (b : Nat) (σ : D16) : Prop := ∃ S, PD wi b S σ ∧ But [] w wi ∧ ∀ x ∈ S, w.heap.size ≤ x
section
variable {PD : World → Nat → List Nat → D16 → Prop}
theorem Inv.but (C : DkC PD) {w wi wj : World} {b : Nat} {σ : D16} (h : Inv PD w wi b σ) (hB : But [] wi wj) : Inv PD w wj b σ := by
  obtain ⟨S, h1, h2, h3⟩ := h
  exact ⟨S, C.but h1 hB (fun _ _ => by simp), h2.trans hB, h3⟩
theorem inv_left {w wi w' : World} {b : Nat} {S : List Nat} {σ τ : D16} (h2 : But [] w wi) (h3 : ∀ x ∈ S, w.heap.size ≤ x) (k : Left PD wi b S τ w') : Inv PD w w' b τ := by
  obtain ⟨S', k1, k2, k3⟩ := k
  refine ⟨S', k1, h2.over16 k2 (fun x hx => .inr (h3 x hx)), fun x hx => ?_⟩
  rcases k3 x hx with h | h
  · exact h3 x h
  · exact Nat.le_trans h2.size h
theorem inew (C : DkC PD) (w : World) (n : Nat) (h1 : 1 ≤ n) (h2 : n ≤ 16777216) : Calls Try.prog 7 #[.int .i64 (n : Nat)] w fun e w' => ∃ b, e = .returned (.tuple #[.pointer (some ⟨b, 0, none⟩), .int .i64 0]) ∧ Inv PD w w' b (new16 n) :=
  (C.new_ok w n h1 h2).mono fun e w' ⟨b, S, he, hp, hb, hs⟩ => ⟨b, he, S, hp, hb, hs⟩
theorem iappend (C : DkC PD) {w wi : World} {b : Nat} {σ : D16} (h : Inv PD w wi b σ) (n : Int) (s : ByteArray) (hs : σ.steps < 900000000000000) (ha : σ.armed ≤ 9223372036854775807) (hl : s.size ≤ 140737488355328) :
    Calls Try.prog 10 #[.pointer (some ⟨b, 0, none⟩), .int .i64 n, .string s] wi fun e w' => e = .returned (.int .i64 (append16 σ n s.data.toList).2) ∧ Inv PD w w' b (append16 σ n s.data.toList).1 := by
  obtain ⟨S, h1, h2, h3⟩ := h
  exact (C.append wi n s h1 hs ha hl).mono fun e w' ⟨he, hl⟩ => ⟨he, inv_left (σ := σ) h2 h3 hl⟩
theorem isync (C : DkC PD) {w wi : World} {b : Nat} {σ : D16} (h : Inv PD w wi b σ) (n : Int) (hs : σ.steps < 900000000000000) (ha : σ.armed ≤ 9223372036854775807) :
    Calls Try.prog 13 #[.pointer (some ⟨b, 0, none⟩), .int .i64 n] wi fun e w' => e = .returned (.int .i64 (syncs16 σ n).2) ∧ Inv PD w w' b (syncs16 σ n).1 := by
  obtain ⟨S, h1, h2, h3⟩ := h
  exact (C.sync wi n h1 hs ha).mono fun e w' ⟨he, hl⟩ => ⟨he, inv_left (σ := σ) h2 h3 hl⟩
theorem iread (C : DkC PD) {w wi : World} {b : Nat} {σ : D16} (h : Inv PD w wi b σ) (n : Int) :
    Calls Try.prog 23 #[.pointer (some ⟨b, 0, none⟩), .int .i64 n] wi fun e w' => e = .returned (.tuple #[.string (strL (read16 σ n).1), .int .i64 (read16 σ n).2]) ∧ Inv PD w w' b σ := by
  obtain ⟨S, h1, h2, h3⟩ := h
  exact (C.read wi n h1).mono fun e w' ⟨he, hl⟩ => ⟨he, inv_left (σ := σ) h2 h3 hl⟩
theorem iarm (C : DkC PD) {w wi : World} {b : Nat} {σ : D16} (h : Inv PD w wi b σ) (k : Int) :
    Calls Try.prog 19 #[.pointer (some ⟨b, 0, none⟩), .int .i64 k] wi fun e w' => e = .returned (.tuple #[]) ∧ Inv PD w w' b (arm16 σ k) := by
  obtain ⟨S, h1, h2, h3⟩ := h
  exact (C.arm wi k h1).mono fun e w' ⟨he, hl⟩ => ⟨he, inv_left (σ := σ) h2 h3 hl⟩
/-- A crash whose keeps are one number, laid just ahead of it. -/
theorem icrash1 (C : DkC PD) {w wi : World} {b : Nat} {σ : D16} (h : Inv PD w wi b σ) (k : Int) (hk : -9223372036854775808 ≤ k ∧ k ≤ 9223372036854775807) :
    Calls Try.prog 21 #[.pointer (some ⟨b, 0, none⟩), .slice (some ⟨wi.heap.size, 0, none⟩) 1 1] (wi.alloc (.cells #[.int .i64 k] 3)) fun e w' => e = .returned (.tuple #[]) ∧ Inv PD w w' b (crashs16 σ [k]) := by
  obtain ⟨S, h1, h2, h3⟩ := h
  have hB : But [] wi (wi.alloc (.cells #[.int .i64 k] 3)) := (But.refl [] wi).alloc _
  have hI := Is.fresh wi 3 #[.int .i64 k]
  refine (C.crash (wi.alloc (.cells #[.int .i64 k] 3)) (A := some ⟨wi.heap.size, 0, none⟩) (nk := 1) (ck := 1) (all := [k]) (C.but h1 hB (fun _ _ => by simp)) ⟨rfl, fun _ => ⟨_, _, rfl, hI.lt, fun i hi => ?_⟩⟩ (fun x hx => ?_) (Nat.le_refl _) (fun _ g o e hg => ?_)).mono fun e w' ⟨he, hl⟩ => ⟨he, inv_left (σ := σ) (h2.trans hB) h3 hl⟩
  · have hi0 : i = 0 := by simpa using hi
    subst hi0
    exact hI.cell 0
  · have : x = k := by simpa using hx
    rw [this]; exact hk
  · injection e with e
    injection e with e1 e2
    have := C.lt h1 g hg
    omega
set_option maxHeartbeats 1000000 in
theorem awake16_of (C : DkC PD) (w : World) : Calls Try.prog 9 #[] w fun e w' => e = .returned (.bool true) ∧ But [] w w' := by
  obtain ⟨σ1, h1⟩ : ∃ σ, σ = (append16 (new16 10) 0 [97, 98, 99]).1 := ⟨_, rfl⟩
  obtain ⟨σ2, h2⟩ : ∃ σ, σ = (syncs16 σ1 0).1 := ⟨_, rfl⟩
  obtain ⟨σ3, h3⟩ : ∃ σ, σ = (append16 σ2 0 [100, 101, 102]).1 := ⟨_, rfl⟩
  obtain ⟨σ4, h4⟩ : ∃ σ, σ = crashs16 σ3 [2] := ⟨_, rfl⟩
  obtain ⟨σ5, h5⟩ : ∃ σ, σ = (append16 σ4 0 [49, 50, 51, 52, 53, 54]).1 := ⟨_, rfl⟩
  obtain ⟨σ6, h6⟩ : ∃ σ, σ = arm16 σ5 1 := ⟨_, rfl⟩
  obtain ⟨σ7, h7⟩ : ∃ σ, σ = (append16 σ6 1 [120]).1 := ⟨_, rfl⟩
  obtain ⟨σ8, h8⟩ : ∃ σ, σ = crashs16 σ7 [1] := ⟨_, rfl⟩
  have e1 : (append16 (new16 10) 0 [97, 98, 99]).2 = 0 := rfl
  have s1 : σ1 = ⟨[⟨0, [97, 98, 99], 0⟩], 10, 0, false, 1⟩ := h1
  have e2 : (syncs16 σ1 0).2 = 0 := by rw [s1]; rfl
  have s2 : σ2 = ⟨[⟨0, [97, 98, 99], 3⟩], 10, 0, false, 2⟩ := by rw [h2, s1]; rfl
  have e3 : (append16 σ2 0 [100, 101, 102]).2 = 0 := by rw [s2]; rfl
  have s3 : σ3 = ⟨[⟨0, [97, 98, 99, 100, 101, 102], 3⟩], 10, 0, false, 3⟩ := by rw [h3, s2]; rfl
  have s4 : σ4 = ⟨[⟨0, [97, 98, 99, 100, 101], 5⟩], 10, 0, false, 3⟩ := by rw [h4, s3]; rfl
  have r4 : read16 σ4 0 = ([97, 98, 99, 100, 101], 0) := by rw [s4]; rfl
  have e5 : (append16 σ4 0 [49, 50, 51, 52, 53, 54]).2 = 51 := by rw [s4]; rfl
  have s5 : σ5 = ⟨[⟨0, [97, 98, 99, 100, 101], 5⟩], 10, 0, false, 3⟩ := by rw [h5, s4]; rfl
  have s6 : σ6 = ⟨[⟨0, [97, 98, 99, 100, 101], 5⟩], 10, 1, false, 3⟩ := by rw [h6, s5]; rfl
  have e7 : (append16 σ6 1 [120]).2 = 50 := by rw [s6]; rfl
  have s7 : σ7 = ⟨[⟨0, [97, 98, 99, 100, 101], 5⟩, ⟨1, [120], 0⟩], 10, 0, true, 4⟩ := by rw [h7, s6]; rfl
  have s8 : σ8 = ⟨[⟨0, [97, 98, 99, 100, 101], 5⟩, ⟨1, [120], 1⟩], 10, 0, false, 4⟩ := by rw [h8, s7]; rfl
  have r8 : read16 σ8 1 = ([120], 0) := by rw [s8]; rfl
  have H1 : Hid (∀ wi b, Inv PD w wi b (new16 10) → Calls Try.prog 10 #[.pointer (some ⟨b, 0, none⟩), .int .i64 0, .string { data := #[97, 98, 99] }] wi fun e w' => e = .returned (.int .i64 0) ∧ Inv PD w w' b σ1) := Lib.hid fun wi b h => by
    refine (iappend C h 0 { data := #[97, 98, 99] } (by decide) (by decide) (by decide)).mono ?_
    rintro e w' ⟨he, hi⟩
    refine ⟨he.trans (congrArg (fun z => Ending.returned (.int .i64 z)) e1), ?_⟩
    rw [h1]; exact hi
  have H2 : Hid (∀ wi b, Inv PD w wi b σ1 → Calls Try.prog 13 #[.pointer (some ⟨b, 0, none⟩), .int .i64 0] wi fun e w' => e = .returned (.int .i64 0) ∧ Inv PD w w' b σ2) := Lib.hid fun wi b h => by
    refine (isync C h 0 (by rw [s1]; decide) (by rw [s1]; decide)).mono ?_
    rintro e w' ⟨he, hi⟩
    refine ⟨he.trans (congrArg (fun z => Ending.returned (.int .i64 z)) e2), ?_⟩
    rw [h2]; exact hi
  have H3 : Hid (∀ wi b, Inv PD w wi b σ2 → Calls Try.prog 10 #[.pointer (some ⟨b, 0, none⟩), .int .i64 0, .string { data := #[100, 101, 102] }] wi fun e w' => e = .returned (.int .i64 0) ∧ Inv PD w w' b σ3) := Lib.hid fun wi b h => by
    refine (iappend C h 0 { data := #[100, 101, 102] } (by rw [s2]; decide) (by rw [s2]; decide) (by decide)).mono ?_
    rintro e w' ⟨he, hi⟩
    refine ⟨he.trans (congrArg (fun z => Ending.returned (.int .i64 z)) e3), ?_⟩
    rw [h3]; exact hi
  have H4 : Hid (∀ wi b, Inv PD w wi b σ3 → Calls Try.prog 21 #[.pointer (some ⟨b, 0, none⟩), .slice (some ⟨wi.heap.size, 0, none⟩) 1 1] (wi.alloc (.cells #[.int .i64 2] 3)) fun e w' => e = .returned (.tuple #[]) ∧ Inv PD w w' b σ4) := Lib.hid fun wi b h => by
    rw [h4]; exact icrash1 C h 2 (by decide)
  have H5 : Hid (∀ wi b, Inv PD w wi b σ4 → Calls Try.prog 23 #[.pointer (some ⟨b, 0, none⟩), .int .i64 0] wi fun e w' => e = .returned (.tuple #[.string { data := #[97, 98, 99, 100, 101] }, .int .i64 0]) ∧ Inv PD w w' b σ4) := Lib.hid fun wi b h => by
    have := iread C h 0
    rw [r4] at this
    exact this
  have H6 : Hid (∀ wi b, Inv PD w wi b σ4 → Calls Try.prog 10 #[.pointer (some ⟨b, 0, none⟩), .int .i64 0, .string { data := #[49, 50, 51, 52, 53, 54] }] wi fun e w' => e = .returned (.int .i64 51) ∧ Inv PD w w' b σ5) := Lib.hid fun wi b h => by
    refine (iappend C h 0 { data := #[49, 50, 51, 52, 53, 54] } (by rw [s4]; decide) (by rw [s4]; decide) (by decide)).mono ?_
    rintro e w' ⟨he, hi⟩
    refine ⟨he.trans (congrArg (fun z => Ending.returned (.int .i64 z)) e5), ?_⟩
    rw [h5]; exact hi
  have H7 : Hid (∀ wi b, Inv PD w wi b σ5 → Calls Try.prog 19 #[.pointer (some ⟨b, 0, none⟩), .int .i64 1] wi fun e w' => e = .returned (.tuple #[]) ∧ Inv PD w w' b σ6) := Lib.hid fun wi b h => by
    rw [h6]; exact iarm C h 1
  have H8 : Hid (∀ wi b, Inv PD w wi b σ6 → Calls Try.prog 10 #[.pointer (some ⟨b, 0, none⟩), .int .i64 1, .string { data := #[120] }] wi fun e w' => e = .returned (.int .i64 50) ∧ Inv PD w w' b σ7) := Lib.hid fun wi b h => by
    refine (iappend C h 1 { data := #[120] } (by rw [s6]; decide) (by rw [s6]; decide) (by decide)).mono ?_
    rintro e w' ⟨he, hi⟩
    refine ⟨he.trans (congrArg (fun z => Ending.returned (.int .i64 z)) e7), ?_⟩
    rw [h7]; exact hi
  have H9 : Hid (∀ wi b, Inv PD w wi b σ7 → Calls Try.prog 21 #[.pointer (some ⟨b, 0, none⟩), .slice (some ⟨wi.heap.size, 0, none⟩) 1 1] (wi.alloc (.cells #[.int .i64 1] 3)) fun e w' => e = .returned (.tuple #[]) ∧ Inv PD w w' b σ8) := Lib.hid fun wi b h => by
    rw [h8]; exact icrash1 C h 1 (by decide)
  have H10 : Hid (∀ wi b, Inv PD w wi b σ8 → Calls Try.prog 23 #[.pointer (some ⟨b, 0, none⟩), .int .i64 1] wi fun e w' => e = .returned (.tuple #[.string { data := #[120] }, .int .i64 0]) ∧ Inv PD w w' b σ8) := Lib.hid fun wi b h => by
    have := iread C h 1
    rw [r8] at this
    exact this
  have H11 : Hid (∀ wi b, Inv PD w wi b σ8 → Calls Try.prog 26 #[.pointer (some ⟨b, 0, none⟩)] wi fun e w' => ∃ A c, e = .returned (.slice A 2 c) ∧ Nums w' A 2 [0, 1] ∧ But [] w w') := Lib.hid fun wi b ⟨S, i1, i2, i3⟩ => by
    refine (C.files wi i1).mono ?_
    rintro e w' ⟨A, c, S', he, hn, _, _, hb, _⟩
    rw [s8] at he hn
    exact ⟨A, c, he, hn, i2.over16 hb (fun x hx => .inr (i3 x hx))⟩
  have H0 : Hid (Calls Try.prog 7 #[.int .i64 10] w fun e w' => ∃ b, e = .returned (.tuple #[.pointer (some ⟨b, 0, none⟩), .int .i64 0]) ∧ Inv PD w w' b (new16 10)) := Lib.hid (inew C w 10 (by decide) (by decide))
  have HINV : Hid (∀ (wi wj : World) (b : Nat) (σ : D16), Inv PD w wi b σ → But [] wi wj → Inv PD w wj b σ) := Lib.hid fun _ _ _ _ h hB => h.but C hB
  clear h1 h2 h3 h4 h5 h6 h7 h8 e1 s1 e2 s2 e3 s3 s4 r4 e5 s5 s6 e7 s7 s8 r8
  go_enter Try.func9, Try.ntmps9
  go_wp2_with fail
  refine H0.out.mono ?_
  rintro e w1 ⟨b, rfl, hI⟩
  have HI := Lib.hid hI
  clear hI
  go_wp2_with fail
  refine (H1.out _ _ HI.out).mono ?_
  rintro e w2 ⟨rfl, hI⟩
  have HI := Lib.hid hI
  clear hI
  go_wp2_with fail
  refine (H2.out _ _ HI.out).mono ?_
  rintro e w3 ⟨rfl, hI⟩
  have HI := Lib.hid hI
  clear hI
  go_wp2_with fail
  refine (H3.out _ _ HI.out).mono ?_
  rintro e w4 ⟨rfl, hI⟩
  have HI := Lib.hid hI
  clear hI
  go_wp2_with fail
  refine (H4.out _ _ HI.out).mono ?_
  rintro e w5 ⟨rfl, hI⟩
  have HI := Lib.hid hI
  clear hI
  go_wp2_with fail
  refine (H5.out _ _ HI.out).mono ?_
  rintro e w6 ⟨rfl, hI⟩
  have HI := Lib.hid hI
  clear hI
  go_wp2_with fail
  refine (H6.out _ _ HI.out).mono ?_
  rintro e w7 ⟨rfl, hI⟩
  have HI := Lib.hid hI
  clear hI
  go_wp2_with fail
  refine (H7.out _ _ HI.out).mono ?_
  rintro e w8 ⟨rfl, hI⟩
  have HI := Lib.hid hI
  clear hI
  go_wp2_with fail
  refine (H8.out _ _ HI.out).mono ?_
  rintro e w9 ⟨rfl, hI⟩
  have HI := Lib.hid hI
  clear hI
  go_wp2_with fail
  refine (H9.out _ _ HI.out).mono ?_
  rintro e w10 ⟨rfl, hI⟩
  have HI := Lib.hid hI
  clear hI
  go_wp2_with fail
  refine (H10.out _ _ HI.out).mono ?_
  rintro e w11 ⟨rfl, hI⟩
  have HI := Lib.hid hI
  clear hI
  go_wp2_with fail
  refine (H11.out _ _ HI.out).mono ?_
  rintro e w12 ⟨A, c, rfl, hN, hB⟩
  have HN := Lib.hid (hN.but ((But.refl [] w12).alloc (.cells #[.int .i64 0, .int .i64 1] 3)))
  have HB := Lib.hid (hB.alloc (.cells #[.int .i64 0, .int .i64 1] 3))
  have HJ : Hid (Nums (w12.alloc (.cells #[.int .i64 0, .int .i64 1] 3)) (some ⟨w12.heap.size, 0, none⟩) 2 [0, 1]) := Lib.hid ⟨rfl, fun _ => ⟨_, _, rfl, (Is.fresh w12 3 _).lt, fun i hi => by
    have hI := Is.fresh w12 3 #[.int .i64 0, .int .i64 1]
    have hi2 : i = 0 ∨ i = 1 := by simp at hi; omega
    rcases hi2 with rfl | rfl
    · exact hI.cell 0
    · exact hI.cell 1⟩⟩
  clear hN hB
  go_wp2_with fail
  refine (ints16_any _ HN.out HJ.out (by decide)).mono ?_
  rintro e w13 ⟨rfl, hB⟩
  have HB13 := Lib.hid (HB.out.trans hB)
  clear hB
  go_wp2
  go_ret
  exact ⟨rfl, HB13.out⟩
end
end Go.Proofs.Ytchpincoddghfaa
set_option maxRecDepth 100000
set_option linter.unusedVariables false
namespace Go.Proofs.Ytchpincoddghfaa
set_option maxRecDepth 100000
open Go Go.RowKit
theorem But.belowD {w w' : World} (h : But [] w w') : Below w.heap.size w w' := ⟨h.os, h.tape, h.output, h.size, fun k hk => h.block k hk (by simp)⟩
end Go.Proofs.Ytchpincoddghfaa
set_option maxRecDepth 100000
set_option linter.unusedVariables false
namespace Go.Proofs.Ytchpincoddghfaa
set_option maxRecDepth 100000
open Go Go.RowKit
def stCells (L : List ByteArray) : List Value := L.map fun x => .string x
/-- Strings of the call's own. -/
def OwnSt (w : World) (base : Nat) (v : Value) (L : List ByteArray) : Prop := w.ownsRow base 9 1 v L.length (stCells L)
theorem OwnSt.nil (w : World) (base : Nat) : OwnSt w base (.slice none 0 0) [] := World.ownsRow_nil _ _ _ _
theorem OwnSt.but {w w' : World} {base : Nat} {v : Value} {L : List ByteArray} (h : OwnSt w base v L) (hw : But [] w w') : OwnSt w' base v L := by
  obtain ⟨h1, h2⟩ := h
  refine ⟨h1, ?_⟩
  rcases h2 with h2 | ⟨g, cap, cur, rfl, hg, hh, r⟩
  · exact .inl h2
  · have hlt : g < w.heap.size := (Array.getElem?_eq_some_iff.1 hh).1
    exact .inr ⟨g, cap, cur, rfl, hg, (hw.block g hlt (by simp)).trans hh, r⟩
theorem OwnSt.shape {w : World} {base : Nat} {v : Value} {L : List ByteArray} (h : OwnSt w base v L) : ∃ A c, v = .slice A L.length c ∧ L.length ≤ c := by
  rcases h.2 with ⟨rfl, e⟩ | ⟨g, cap, cur, rfl, _, _, hc, _⟩
  · have : L = [] := List.eq_nil_of_length_eq_zero e
    subst this
    exact ⟨none, 0, rfl, Nat.le_refl _⟩
  · exact ⟨_, cap, rfl, hc⟩
theorem OwnSt.lt {w : World} {base : Nat} {v : Value} {L : List ByteArray} (h : OwnSt w base v L) : ∀ g, v.ownBlock = some g → base ≤ g := fun g e => (World.ownsRow.lt h g e).1
theorem OwnSt.at {w : World} {base n c : Nat} {A : Option Addr} {L : List ByteArray} (h : OwnSt w base (.slice A n c) L) {i : Nat} {x : ByteArray} (hi : L[i]? = some x) :
    ∃ g, A = some ⟨g, 0, none⟩ ∧ g < w.heap.size ∧ w.cell? ⟨g, i, none⟩ = some (.string x) := by
  have hl := (List.getElem?_eq_some_iff.1 hi).1
  obtain ⟨g, cap, e, h1, h2⟩ := World.ownsRow.form h (by omega)
  injection e with e1 e2 e3
  subst e1 e3
  refine ⟨g, rfl, h2, ?_⟩
  have hc := World.ownsRow.cells h (g := g) rfl i (.string x) (by simp [stCells, hi])
  have e2 : (⟨g, 0, none⟩ : Addr).add i = ⟨g, i, none⟩ := by unfold Addr.add; split <;> simp_all
  rw [e2] at hc
  exact hc
end Go.Proofs.Ytchpincoddghfaa
set_option maxRecDepth 100000
set_option linter.unusedVariables false
namespace Go.Proofs.Ytchpincoddghfaa
set_option maxRecDepth 100000
open Go Go.RowKit
/-- The strings that a slice holds. -/
def Sr (w : World) (A : Option Addr) (n : Nat) (L : List ByteArray) : Prop := L.length = n ∧ (0 < n → ∃ g o, A = some ⟨g, o, none⟩ ∧ g < w.heap.size ∧ ∀ i (hi : i < L.length), w.cell? ⟨g, o + i, none⟩ = some (.string L[i]))
theorem Sr.at {w : World} {A : Option Addr} {n : Nat} {L : List ByteArray} (h : Sr w A n L) {i : Nat} {c : ByteArray} (hi : L[i]? = some c) :
    ∃ g o, A = some ⟨g, o, none⟩ ∧ g < w.heap.size ∧ w.cell? ⟨g, o + i, none⟩ = some (.string c) := by
  obtain ⟨hl, hx⟩ := List.getElem?_eq_some_iff.1 hi
  obtain ⟨g, o, e, hg, hc⟩ := h.2 (by have := h.1; omega)
  exact ⟨g, o, e, hg, by rw [← hx]; exact hc i hl⟩
theorem Sr.but {w w' : World} {A : Option Addr} {n : Nat} {L : List ByteArray} (h : Sr w A n L) (hw : But [] w w') : Sr w' A n L := by
  refine ⟨h.1, fun hp => ?_⟩
  obtain ⟨g, o, e, hg, hc⟩ := h.2 hp
  exact ⟨g, o, e, Nat.lt_of_lt_of_le hg hw.size, fun i hi => hw.cell (hc i hi) (by simp)⟩
end Go.Proofs.Ytchpincoddghfaa
set_option maxRecDepth 100000
set_option linter.unusedVariables false
namespace Go.Proofs.Ytchpincoddghfaa
set_option maxRecDepth 100000
open Go Go.RowKit
/-- The bools that a slice holds. -/
def Bo (w : World) (A : Option Addr) (n : Nat) (L : List Bool) : Prop := L.length = n ∧ (0 < n → ∃ g o, A = some ⟨g, o, none⟩ ∧ g < w.heap.size ∧ ∀ i (hi : i < L.length), w.cell? ⟨g, o + i, none⟩ = some (.bool L[i]))
theorem Bo.at {w : World} {A : Option Addr} {n : Nat} {L : List Bool} (h : Bo w A n L) {i : Nat} {c : Bool} (hi : L[i]? = some c) :
    ∃ g o, A = some ⟨g, o, none⟩ ∧ g < w.heap.size ∧ w.cell? ⟨g, o + i, none⟩ = some (.bool c) := by
  obtain ⟨hl, hx⟩ := List.getElem?_eq_some_iff.1 hi
  obtain ⟨g, o, e, hg, hc⟩ := h.2 (by have := h.1; omega)
  exact ⟨g, o, e, hg, by rw [← hx]; exact hc i hl⟩
theorem Bo.but {w w' : World} {A : Option Addr} {n : Nat} {L : List Bool} (h : Bo w A n L) (hw : But [] w w') : Bo w' A n L := by
  refine ⟨h.1, fun hp => ?_⟩
  obtain ⟨g, o, e, hg, hc⟩ := h.2 hp
  exact ⟨g, o, e, Nat.lt_of_lt_of_le hg hw.size, fun i hi => hw.cell (hc i hi) (by simp)⟩
end Go.Proofs.Ytchpincoddghfaa
set_option maxRecDepth 100000
set_option linter.unusedVariables false
namespace Go.Proofs.Ytchpincoddghfaa
set_option maxRecDepth 100000
open Go Go.RowKit
/-- Two disks, of blocks younger than w's and apart from one another; nothing older was written. -/
def In2 (PD : World → Nat → List Nat → D16 → Prop) (w wi : World) (b1 b2 : Nat) (σ1 σ2 : D16) : Prop := ∃ S1 S2, PD wi b1 S1 σ1 ∧ RD wi b2 S2 σ2 ∧ But [] w wi ∧ (∀ x ∈ S1, w.heap.size ≤ x) ∧ (∀ x ∈ S2, w.heap.size ≤ x) ∧ ∀ x ∈ S1, x ∉ S2
section
variable {PD : World → Nat → List Nat → D16 → Prop}
theorem In2.but (C : DkC PD) {w wi wj : World} {b1 b2 : Nat} {σ1 σ2 : D16} (h : In2 PD w wi b1 b2 σ1 σ2) (hB : But [] wi wj) : In2 PD w wj b1 b2 σ1 σ2 := by
  obtain ⟨S1, S2, h1, h2, h3, h4, h5, h6⟩ := h
  exact ⟨S1, S2, C.but h1 hB (fun _ _ => by simp), h2.but hB (fun _ _ => by simp), h3.trans hB, h4, h5, h6⟩
end
end Go.Proofs.Ytchpincoddghfaa
set_option maxRecDepth 100000
set_option linter.unusedVariables false
namespace Go.Proofs.Ytchpincoddghfaa
set_option maxRecDepth 100000
open Go Go.RowKit
/-- A call that is asked: what, of which file, how much, which byte; the keeps. -/
structure O16 where
  ask : Int
  file : Int
  n : Int
  byte : Int
  ka : Option Addr
  kn : Nat
  kc : Nat
  ks : List Int
def O16.cells (x : O16) : Array Value := #[.int .i64 x.ask, .int .i64 x.file, .int .i64 x.n, .int .i64 x.byte, .slice x.ka x.kn x.kc]
/-- The calls that a slice holds. -/
structure Ops16 (w : World) (A : Option Addr) (n : Nat) (L : List O16) : Prop where
  len : L.length = n
  row : ∀ i x, L[i]? = some x → ∃ g o, A = some ⟨g, o, none⟩ ∧ g < w.heap.size ∧ w.cell? ⟨g, o + i * 5, none⟩ = some (.int .i64 x.ask) ∧ w.cell? ⟨g, o + i * 5 + 1, none⟩ = some (.int .i64 x.file) ∧ w.cell? ⟨g, o + i * 5 + 2, none⟩ = some (.int .i64 x.n) ∧ w.cell? ⟨g, o + i * 5 + 3, none⟩ = some (.int .i64 x.byte) ∧ w.cell? ⟨g, o + i * 5 + 4, none⟩ = some (.slice x.ka x.kn x.kc)
  keeps : ∀ x ∈ L, Zs w x.ka x.kn x.ks ∧ ZFit x.ks ∧ x.kn ≤ x.kc ∧ ∀ g o, 0 < x.kn → x.ka = some ⟨g, o, none⟩ → g < w.heap.size
  fit : ∀ x ∈ L, x.n ≤ 9223372036854775807
theorem Ops16.but {w w' : World} {A : Option Addr} {n : Nat} {L : List O16} (h : Ops16 w A n L) (hB : But [] w w') : Ops16 w' A n L :=
  ⟨h.len, fun i x hx => by
    obtain ⟨g, o, e, hg, c0, c1, c2, c3, c4⟩ := h.row i x hx
    exact ⟨g, o, e, Nat.lt_of_lt_of_le hg hB.size, hB.cell c0 (by simp), hB.cell c1 (by simp), hB.cell c2 (by simp), hB.cell c3 (by simp), hB.cell c4 (by simp)⟩,
   fun x hx => ⟨(h.keeps x hx).1.but hB, (h.keeps x hx).2.1, (h.keeps x hx).2.2.1, fun g o h0 e => Nat.lt_of_lt_of_le ((h.keeps x hx).2.2.2 g o h0 e) hB.size⟩, h.fit⟩
/-- Two disks, and a call's box beside them. -/
def In3 (PD : World → Nat → List Nat → D16 → Prop) (w wi : World) (b1 b2 : Nat) (σ1 σ2 : D16) (bx : Nat) (cs : Array Value) : Prop := ∃ S1 S2, PD wi b1 S1 σ1 ∧ RD wi b2 S2 σ2 ∧ But [] w wi ∧ (∀ x ∈ S1, w.heap.size ≤ x) ∧ (∀ x ∈ S2, w.heap.size ≤ x) ∧ (∀ x ∈ S1, x ∉ S2) ∧ Is wi bx 33 cs ∧ bx ∉ S1 ∧ bx ∉ S2
section
variable {PD : World → Nat → List Nat → D16 → Prop}
theorem In3.but (C : DkC PD) {w wi wj : World} {b1 b2 bx : Nat} {σ1 σ2 : D16} {cs : Array Value} (h : In3 PD w wi b1 b2 σ1 σ2 bx cs) (hB : But [] wi wj) : In3 PD w wj b1 b2 σ1 σ2 bx cs := by
  obtain ⟨S1, S2, h1, h2, h3, h4, h5, h6, h7, h8, h9⟩ := h
  exact ⟨S1, S2, C.but h1 hB (fun _ _ => by simp), h2.but hB (fun _ _ => by simp), h3.trans hB, h4, h5, h6, h7.but hB (by simp), h8, h9⟩
end
end Go.Proofs.Ytchpincoddghfaa
set_option maxRecDepth 100000
set_option linter.unusedVariables false
namespace Go.Proofs.Ytchpincoddghfaa
set_option maxRecDepth 100000
open Go Go.RowKit Go.Maps
def kI (n : Nat) : Lit := .int .i64 (n : Nat)
def R16 (v : Value) : Option (DataW Value × List MemPlace) := some (.held v, [])
def val16 (sl : Nat → Value) (f : F16) : Value := .agg #[sl f.num, .int .i64 (f.syn : Nat)]
def es16 (sl : Nat → Value) (l : List F16) : List (Lit × DataW Value) := l.map fun f => (kI f.num, .held (val16 sl f))
/-- What the map reads as. -/
def DM (sl : Nat → Value) (l : List F16) : DataW Value := .map (es16 sl l)
theorem keyed16 : Keyed Try.prog 3 := int_keyed Try.underlying3
theorem key16 {n : Nat} (h : n ≤ 9000000000000000000) : keyOf Try.prog 3 (.int .i64 (n : Nat)) = some (kI n) := keyOf_int_mk Try.underlying3 (WalkArith.wf_i64 (by omega))
theorem isKey_kI (n : Nat) : WideAt.IsKeyLit (kI n) := trivial
theorem kI_inj {m n : Nat} (h : kI m = kI n) : m = n := by
  unfold kI at h
  injection h with _ h
  omega
theorem rise_DM {sl : Nat → Value} {l : List F16} (h : l.Pairwise fun a b => a.num < b.num) : (es16 sl l).Pairwise (fun p q => p.1.before q.1 = true) := by
  unfold es16
  rw [List.pairwise_map]
  exact h.imp fun {a b} hab => by simpa [kI, Lit.before] using hab
theorem canon_DM {sl : Nat → Value} {l : List F16} (h : l.Pairwise fun a b => a.num < b.num) : Canon (DM sl l) :=
  ⟨_, rfl, rise_DM h, fun p hp => by obtain ⟨f, _, rfl⟩ := List.mem_map.1 hp; exact isKey_kI _⟩
theorem isMap_DM (sl : Nat → Value) (l : List F16) : IsMap (DM sl l) := ⟨_, rfl⟩
theorem has_DM {sl : Nat → Value} {l : List F16} {k : Lit} : has (DM sl l) k = true ↔ ∃ f ∈ l, kI f.num = k := by
  unfold DM
  rw [has_eq, List.any_eq_true]
  constructor
  · rintro ⟨p, hp, hs⟩
    obtain ⟨f, hf, rfl⟩ := List.mem_map.1 hp
    exact ⟨f, hf, WideAt.sameKey_eq hs⟩
  · rintro ⟨f, hf, rfl⟩
    exact ⟨_, List.mem_map.2 ⟨f, hf, rfl⟩, WideAt.sameKey_self (isKey_kI _)⟩
theorem has_DM16 {sl : Nat → Value} {l : List F16} (n : Nat) : has (DM sl l) (kI n) = has16 l n := by
  rw [Bool.eq_iff_iff, has_DM, has16_iff]
  exact ⟨fun ⟨f, hf, e⟩ => ⟨f, hf, kI_inj e⟩, fun ⟨f, hf, e⟩ => ⟨f, hf, by rw [e]⟩⟩
theorem at_DM {sl : Nat → Value} {l : List F16} {f : F16} (h : l.Pairwise fun a b => a.num < b.num) (hf : f ∈ l) (z : DataW Value) : (DM sl l).atKey (kI f.num) z = .held (val16 sl f) :=
  WideAt.atKey_mem (k := kI f.num) (d := .held (val16 sl f)) z (isKey_kI _) (apart_of_rising (rise_DM h)) (List.mem_map.2 ⟨f, hf, rfl⟩)
/-- A file more, or one that is another. -/
theorem DM_put {sl sl' : Nat → Value} {l l' : List F16} {x : F16} (h : l.Pairwise fun a b => a.num < b.num) (h' : l'.Pairwise fun a b => a.num < b.num) (hm : ∀ f, f ∈ l' ↔ f = x ∨ (f ∈ l ∧ f.num ≠ x.num))
    (hs : ∀ f ∈ l, f.num ≠ x.num → sl' f.num = sl f.num) (hc : Canon ((DM sl l).put (kI x.num) (.held (val16 sl' x)))) : (DM sl l).put (kI x.num) (.held (val16 sl' x)) = DM sl' l' := by
  have hx := (hm x).2 (.inl rfl)
  refine Maps.ext hc (canon_DM h') (fun k => ?_) fun k z hk => ?_
  · by_cases e : k = kI x.num
    · rw [e, has_put_same (isMap_DM sl l) (isKey_kI _), has_DM.2 ⟨x, hx, rfl⟩]
    · rw [has_put_other e, Bool.eq_iff_iff, has_DM, has_DM]
      constructor
      · rintro ⟨f, hf, rfl⟩
        exact ⟨f, (hm f).2 (.inr ⟨hf, fun e2 => e (by rw [e2])⟩), rfl⟩
      · rintro ⟨f, hf, rfl⟩
        rcases (hm f).1 hf with rfl | ⟨hf, _⟩
        · exact absurd rfl e
        · exact ⟨f, hf, rfl⟩
  · by_cases e : k = kI x.num
    · rw [e, atKey_put_same (isMap_DM sl l) (isKey_kI _), at_DM h' hx]
    · rw [has_put_other e] at hk
      obtain ⟨f, hf, rfl⟩ := has_DM.1 hk
      have hn : f.num ≠ x.num := fun e2 => e (by rw [e2])
      rw [atKey_put_other e, at_DM h hf, at_DM h' ((hm f).2 (.inr ⟨hf, hn⟩))]
      unfold val16
      rw [hs f hf hn]
/-- A file less. -/
theorem DM_del {sl : Nat → Value} {l l' : List F16} {n : Nat} (h : l.Pairwise fun a b => a.num < b.num) (h' : l'.Pairwise fun a b => a.num < b.num) (hm : ∀ f, f ∈ l' ↔ f ∈ l ∧ f.num ≠ n)
    (hc : Canon ((DM sl l).del (kI n))) : (DM sl l).del (kI n) = DM sl l' := by
  refine Maps.ext hc (canon_DM h') (fun k => ?_) fun k z hk => ?_
  · by_cases e : k = kI n
    · rw [e, has_del_same, eq_comm, Bool.eq_false_iff]
      intro hh
      obtain ⟨f, hf, e2⟩ := has_DM.1 hh
      exact ((hm f).1 hf).2 (kI_inj e2)
    · rw [has_del_other e, Bool.eq_iff_iff, has_DM, has_DM]
      constructor
      · rintro ⟨f, hf, rfl⟩
        exact ⟨f, (hm f).2 ⟨hf, fun e2 => e (by rw [e2])⟩, rfl⟩
      · rintro ⟨f, hf, rfl⟩
        exact ⟨f, ((hm f).1 hf).1, rfl⟩
  · by_cases e : k = kI n
    · rw [e, has_del_same] at hk
      cases hk
    · rw [has_del_other e] at hk
      obtain ⟨f, hf, rfl⟩ := has_DM.1 hk
      rw [atKey_del_other e, at_DM h hf, at_DM h' ((hm f).2 ⟨hf, fun e2 => e (by rw [e2])⟩)]
theorem size_DM (sl : Nat → Value) (l : List F16) : Maps.size (DM sl l) = l.length := by unfold DM; rw [size_eq]; unfold es16; rw [List.length_map]
theorem owns_tight {w : World} {P : Program} {k : TypeId} {R : Value → Option (DataW Value × List MemPlace)} {b n : Nat} {D : DataW Value} (h : w.ownsMap P k R b n D) : w.ownsMap P k R b (Maps.size D) D := by
  obtain ⟨es, clock, hb, F, hs, rfl⟩ := h
  refine ⟨es, clock, hb, F, ?_, rfl⟩
  show es.size ≤ ((es.toList.map _).foldr DataW.insert []).length
  rw [length_read]
  exact Nat.le_refl _
/-- The files in memory: the map, each one's bytes; all of it in blocks of S. -/
structure Fl (w : World) (mb : Option Nat) (sl : Nat → Value) (S : List Nat) (l : List F16) : Prop where
  nomap : mb = none → l = []
  hasmap : ∀ m, mb = some m → m ∈ S ∧ w.ownsMap (H := Value) Try.prog 3 R16 m l.length (DM sl l)
  own : ∀ f ∈ l, OwnF w 0 (sl f.num) f.data ∧ ∀ g, (sl f.num).ownBlock = some g → g ∈ S
  apart : ∀ f ∈ l, ∀ f' ∈ l, f.num ≠ f'.num → ∀ g, (sl f.num).ownBlock = some g → (sl f'.num).ownBlock ≠ some g
theorem OwnF.butS {w w' : World} {base : Nat} {v : Value} {L : List UInt8} {T : List Nat} (h : OwnF w base v L) (hw : But T w w') (hT : ∀ g, v.ownBlock = some g → g ∉ T) : OwnF w' base v L := ownsRow_butF h hw hT
theorem owns_but {w w' : World} {P : Program} {k : TypeId} {R : Value → Option (DataW Value × List MemPlace)} {b n : Nat} {D : DataW Value} {T : List Nat} (h : w.ownsMap P k R b n D) (hw : But T w w') (hb : b ∉ T) : w'.ownsMap P k R b n D := by
  obtain ⟨es, clock, hh, r⟩ := h
  exact ⟨es, clock, (hw.block b (Array.getElem?_eq_some_iff.1 hh).1 hb).trans hh, r⟩
theorem Fl.butX {w w' : World} {mb : Option Nat} {sl : Nat → Value} {S T : List Nat} {l : List F16} (h : Fl w mb sl S l) (hw : But T w w') (hm : ∀ m, mb = some m → m ∉ T) (hg : ∀ f ∈ l, ∀ g, (sl f.num).ownBlock = some g → g ∉ T) : Fl w' mb sl S l :=
  ⟨h.nomap, fun m e => ⟨(h.hasmap m e).1, owns_but (h.hasmap m e).2 hw (hm m e)⟩, fun f hf => ⟨(h.own f hf).1.butS hw (hg f hf), (h.own f hf).2⟩, h.apart⟩
theorem Fl.but {w w' : World} {mb : Option Nat} {sl : Nat → Value} {S T : List Nat} {l : List F16} (h : Fl w mb sl S l) (hw : But T w w') (hS : ∀ x ∈ S, x ∉ T) : Fl w' mb sl S l :=
  h.butX hw (fun m e => hS m (h.hasmap m e).1) fun f hf g e => hS g ((h.own f hf).2 g e)
theorem Fl.more {w : World} {mb : Option Nat} {sl : Nat → Value} {S T : List Nat} {l : List F16} (h : Fl w mb sl S l) (hS : ∀ x ∈ S, x ∈ T) : Fl w mb sl T l :=
  ⟨h.nomap, fun m e => ⟨hS m (h.hasmap m e).1, (h.hasmap m e).2⟩, fun f hf => ⟨(h.own f hf).1, fun g e => hS g ((h.own f hf).2 g e)⟩, h.apart⟩
/-- No file lies in a block of cells of another type; the map lies in no such block. -/
theorem Fl.off {w : World} {mb : Option Nat} {sl : Nat → Value} {S : List Nat} {l : List F16} {b : Nat} {t : TypeId} {cs : Array Value} (h : Fl w mb sl S l) (hI : Is w b t cs) (ht : t ≠ 5) : (∀ m, mb = some m → m ≠ b) ∧ ∀ f ∈ l, ∀ g, (sl f.num).ownBlock = some g → g ≠ b := by
  constructor
  · rintro m e rfl
    obtain ⟨es, clock, hh, _⟩ := (h.hasmap m e).2
    unfold Is at hI
    rw [hI] at hh
    cases hh
  · rintro f hf g e rfl
    have ho := (h.own f hf).1
    unfold OwnF at ho
    rcases ho.2 with ⟨e2, _⟩ | ⟨g', cap, cur, e2, _, hh, _⟩
    · rw [e2] at e; cases e
    · rw [e2] at e
      obtain rfl : g' = g := by simpa [Value.ownBlock] using e
      unfold Is at hI
      rw [hI] at hh
      injection hh with hh
      injection hh with _ hh _
      exact ht hh
/-- No file lies in the map's block. -/
theorem Fl.offm {w : World} {mb : Option Nat} {sl : Nat → Value} {S : List Nat} {l : List F16} {m : Nat} (h : Fl w mb sl S l) (e : mb = some m) : ∀ f ∈ l, ∀ g, (sl f.num).ownBlock = some g → g ≠ m := by
  rintro f hf g e1 rfl
  obtain ⟨es, clock, hh, _⟩ := (h.hasmap g e).2
  have ho := (h.own f hf).1
  unfold OwnF at ho
  rcases ho.2 with ⟨e2, _⟩ | ⟨g', cap, cur, e2, _, hh2, _⟩
  · rw [e2] at e1; cases e1
  · rw [e2] at e1
    obtain rfl : g' = g := by simpa [Value.ownBlock] using e1
    rw [hh] at hh2
    cases hh2
/-- What the map answers. -/
def lk16 (sl : Nat → Value) (l : List F16) (n : Nat) : Value := ((l.find? fun f => f.num == n).map (val16 sl)).getD (.agg #[.slice none 0 0, .int .i64 0])
theorem lk16_has {sl : Nat → Value} {l : List F16} {f : F16} (h : l.Pairwise fun a b => a.num < b.num) (hf : f ∈ l) : lk16 sl l f.num = val16 sl f ∧ get16 l f.num = f.data := by
  have e : (l.find? fun g => g.num == f.num) = some f := by
    induction l with
    | nil => cases hf
    | cons a l ih =>
      have hp := List.pairwise_cons.1 h
      rcases List.mem_cons.1 hf with rfl | hf
      · rw [List.find?_cons_of_pos (by simp)]
      · have := hp.1 f hf
        rw [List.find?_cons_of_neg (by simp; omega), ih hp.2 hf]
  unfold lk16 get16
  rw [e]
  exact ⟨rfl, rfl⟩
theorem lk16_not {sl : Nat → Value} {l : List F16} {n : Nat} (h : has16 l n = false) : lk16 sl l n = .agg #[.slice none 0 0, .int .i64 0] ∧ get16 l n = [] := by
  have e : (l.find? fun g => g.num == n) = none := List.find?_eq_none.2 fun f hf => by simpa using has16_not h f hf
  unfold lk16 get16
  rw [e]
  exact ⟨rfl, rfl⟩
theorem zero16 (w : World) : (zeroValue 60).run Try.prog w = .ok (.agg #[.slice none 0 0, .int .i64 0]) w := by kernel_rfl
theorem Fl.val {w : World} {mb : Option Nat} {sl : Nat → Value} {S : List Nat} {l : List F16} (hr : l.Pairwise fun a b => a.num < b.num) {n : Nat} {v : Value} {ps : List MemPlace} (h : R16 v = some ((DM sl l).atKey (kI n) (.held (.agg #[.slice none 0 0, .int .i64 0])), ps)) : v = lk16 sl l n := by
  have h1 : DataW.held v = (DM sl l).atKey (kI n) (.held (.agg #[.slice none 0 0, .int .i64 0])) := (Prod.mk.inj (Option.some.inj h)).1
  cases hh : has16 l n with
  | true =>
    obtain ⟨f, hf, rfl⟩ := has16_iff.1 hh
    rw [at_DM hr hf] at h1
    rw [(lk16_has hr hf).1]
    exact DataW.held.inj h1
  | false =>
    rw [atKey_of_not_has (by rw [has_DM16, hh])] at h1
    rw [(lk16_not hh).1]
    exact DataW.held.inj h1
theorem Fl.look {w : World} {mb : Option Nat} {sl : Nat → Value} {S : List Nat} {l : List F16} (h : Fl w mb sl S l) (hr : l.Pairwise fun a b => a.num < b.num) {n : Nat} (hn : n ≤ 65535) :
    (Instr.lookup 52 (.map mb) (.int .i64 (n : Nat)) false).run Try.prog w = .ok (lk16 sl l n) w := by
  cases hm : mb with
  | none =>
    rw [h.nomap hm, Maps.look_nil false keyed16 Try.underlying52 (zero16 w) (key16 (by omega))]
    rfl
  | some m =>
    obtain ⟨v, ps, hrun, hv⟩ := (h.hasmap m hm).2.lookup keyed16 Try.underlying52 (zero16 w) (zd := .held (.agg #[.slice none 0 0, .int .i64 0])) (zp := []) rfl (key16 (n := n) (by omega))
    rw [hrun, Fl.val (w := w) (mb := mb) (S := S) hr hv]
theorem Fl.look_ok {w : World} {mb : Option Nat} {sl : Nat → Value} {S : List Nat} {l : List F16} (h : Fl w mb sl S l) (hr : l.Pairwise fun a b => a.num < b.num) {n : Nat} (hn : n ≤ 65535) :
    (Instr.lookup 52 (.map mb) (.int .i64 (n : Nat)) true).run Try.prog w = .ok (.tuple #[lk16 sl l n, .bool (has16 l n)]) w := by
  cases hm : mb with
  | none =>
    rw [h.nomap hm, Maps.look_nil true keyed16 Try.underlying52 (zero16 w) (key16 (by omega))]
    rfl
  | some m =>
    obtain ⟨v, ps, hrun, hv⟩ := (h.hasmap m hm).2.look_ok keyed16 Try.underlying52 (zero16 w) (zd := .held (.agg #[.slice none 0 0, .int .i64 0])) (zp := []) rfl (key16 (n := n) (by omega))
    rw [hrun, Fl.val (w := w) (mb := mb) (S := S) hr hv, has_DM16]
theorem rise_inj : ∀ {l : List F16}, (l.Pairwise fun a b => a.num < b.num) → ∀ {f g : F16}, f ∈ l → g ∈ l → f.num = g.num → f = g
  | [], _, _, _, hf, _, _ => by cases hf
  | a :: l, h, f, g, hf, hg, e => by
    have hp := List.pairwise_cons.1 h
    rcases List.mem_cons.1 hf with h1 | h1
    · rcases List.mem_cons.1 hg with h2 | h2
      · rw [h1, h2]
      · have := hp.1 g h2; rw [h1] at e; omega
    · rcases List.mem_cons.1 hg with h2 | h2
      · have := hp.1 f h1; rw [h2] at e; omega
      · exact rise_inj hp.2 h1 h2 e
/-- A file's bytes and how many last, there or not. -/
theorem Fl.got {w : World} {mb : Option Nat} {sl : Nat → Value} {S : List Nat} {l : List F16} (h : Fl w mb sl S l) (hr : l.Pairwise fun a b => a.num < b.num) (n : Nat) :
    ∃ (v : Value) (s : Nat), lk16 sl l n = .agg #[v, .int .i64 (s : Nat)] ∧ OwnF w 0 v (get16 l n) ∧ (∀ g, v.ownBlock = some g → g ∈ S) ∧ (∀ f ∈ l, f.num = n → v = sl n ∧ s = f.syn ∧ get16 l n = f.data) ∧ (has16 l n = false → v = .slice none 0 0 ∧ s = 0 ∧ get16 l n = []) := by
  cases hh : has16 l n with
  | true =>
    obtain ⟨f, hf, rfl⟩ := has16_iff.1 hh
    obtain ⟨e1, e2⟩ := lk16_has (sl := sl) hr hf
    refine ⟨sl f.num, f.syn, e1, by rw [e2]; exact (h.own f hf).1, (h.own f hf).2, fun f' hf' e => ?_, fun e => by cases e⟩
    obtain rfl : f' = f := rise_inj hr hf' hf e
    exact ⟨rfl, rfl, e2⟩
  | false =>
    obtain ⟨e1, e2⟩ := lk16_not (sl := sl) hh
    exact ⟨.slice none 0 0, 0, e1, by rw [e2]; exact OwnF.nil _ _, (fun g e => by cases e), (fun f hf e => absurd e (has16_not hh f hf)), fun _ => ⟨rfl, rfl, e2⟩⟩
end Go.Proofs.Ytchpincoddghfaa
set_option maxRecDepth 100000
set_option linter.unusedVariables false
namespace Go.Proofs.Ytchpincoddghfaa
set_option maxRecDepth 100000
open Go Go.RowKit Go.Maps
/-- The program's disk in memory: its block, all its blocks. -/
structure PD (w : World) (b : Nat) (S : List Nat) (σ : D16) : Prop where
  ok : Ok16 σ
  mem : b ∈ S
  lt : ∀ x ∈ S, x < w.heap.size
  row : ∃ (mb : Option Nat) (sl : Nat → Value), Is w b 54 #[.int .i64 (σ.limit : Nat), .map mb, .int .i64 (size16 σ.l : Nat), .int .i64 (σ.steps : Nat), .int .i64 (σ.armed : Nat), .bool σ.dead] ∧ Fl w mb sl S σ.l
theorem PD.but {w w' : World} {b : Nat} {S T : List Nat} {σ : D16} (h : PD w b S σ) (hw : But T w w') (hS : ∀ x ∈ S, x ∉ T) : PD w' b S σ := by
  obtain ⟨mb, sl, hI, hF⟩ := h.row
  exact ⟨h.ok, h.mem, fun x hx => Nat.lt_of_lt_of_le (h.lt x hx) hw.size, mb, sl, hI.but hw (hS b h.mem), hF.but hw hS⟩
theorem PD.left {w w' : World} {b : Nat} {S : List Nat} {σ : D16} (h : PD w b S σ) (hw : But [] w w') : Left PD w b S σ w' :=
  ⟨S, h.but hw (fun _ _ => by simp), hw.more (fun _ e => by cases e), fun x hx => .inl hx⟩
/-- Cells of the disk's block are written. -/
theorem PD.with {w w' : World} {b : Nat} {S : List Nat} {σ τ : D16} (h : PD w b S σ) (hl : τ.l = σ.l) (hm : τ.limit = σ.limit) (hw : But [b] w w')
    (hI : ∀ mb, Is w b 54 #[.int .i64 (σ.limit : Nat), .map mb, .int .i64 (size16 σ.l : Nat), .int .i64 (σ.steps : Nat), .int .i64 (σ.armed : Nat), .bool σ.dead] → Is w' b 54 #[.int .i64 (τ.limit : Nat), .map mb, .int .i64 (size16 τ.l : Nat), .int .i64 (τ.steps : Nat), .int .i64 (τ.armed : Nat), .bool τ.dead]) : PD w' b S τ := by
  obtain ⟨mb, sl, hI0, hF⟩ := h.row
  have ho := hF.off hI0 (by decide)
  refine ⟨⟨by rw [hl]; exact h.ok.rise, by rw [hl]; exact h.ok.syn, by rw [hl]; exact h.ok.num, by rw [hl, hm]; exact h.ok.size, by rw [hm]; exact h.ok.lim⟩, h.mem, fun x hx => Nat.lt_of_lt_of_le (h.lt x hx) hw.size, mb, sl, hI mb hI0, ?_⟩
  rw [hl]
  exact hF.butX hw (fun m e => by simpa using ho.1 m e) fun f hf g e => by simpa using ho.2 f hf g e
theorem PD.left1 {w w' : World} {b : Nat} {S : List Nat} {σ τ : D16} (h : PD w b S σ) (h' : PD w' b S τ) (hw : But [b] w w') : Left PD w b S τ w' :=
  ⟨S, h', hw.more (fun k e => by rw [List.mem_singleton.1 e]; exact h.mem), fun x hx => .inl hx⟩
theorem Is.cells6 {w : World} {b : Nat} {t : TypeId} {v : Value} {x y z a : Int} {d : Bool} (h : Is w b t #[.int .i64 x, v, .int .i64 y, .int .i64 z, .int .i64 a, .bool d]) : w.cell? ⟨b, 0, none⟩ = some (.int .i64 x) ∧ w.cell? ⟨b, 1, none⟩ = some v ∧ w.cell? ⟨b, 2, none⟩ = some (.int .i64 y) ∧ w.cell? ⟨b, 3, none⟩ = some (.int .i64 z) ∧ w.cell? ⟨b, 4, none⟩ = some (.int .i64 a) ∧ w.cell? ⟨b, 5, none⟩ = some (.bool d) ∧ b < w.heap.size :=
  ⟨h.cell 0, h.cell 1, h.cell 2, h.cell 3, h.cell 4, h.cell 5, h.lt⟩
set_option maxHeartbeats 1000000 in
theorem pcheck16_any (w : World) {b : Nat} {S : List Nat} {σ : D16} (h : PD w b S σ) (n : Int) :
    Calls Try.prog 34 #[.pointer (some ⟨b, 0, none⟩), .int .i64 n] w fun e w' => e = .returned (.int .i64 (wrong16 σ n)) ∧ w = w' := by
  obtain ⟨mb, sl, hI, hF⟩ := h.row
  obtain ⟨c0, c1, c2, c3, c4, c5, hb⟩ := hI.cells6
  obtain ⟨d, hd⟩ : ∃ d, d = σ.dead := ⟨_, rfl⟩
  have HW : Hid (wrong16 σ n = if d then 50 else if n < 0 ∨ 65535 < n then 1 else 0) := Lib.hid (by unfold wrong16; rw [hd])
  rw [← hd] at c5
  clear hI hF h hd c0 c1 c2 c3 c4
  cases d with
  | true =>
    go_enter Try.func34, Try.ntmps34
    go_wp2
    go_ret
    exact ⟨by rw [HW.out]; rfl, rfl⟩
  | false =>
    by_cases h1 : n < 0
    · have HX : Hid (wrong16 σ n = 1) := Lib.hid (by rw [HW.out]; simp [h1])
      go_enter Try.func34, Try.ntmps34
      go_wp2
      go_ret
      exact ⟨by rw [HX.out]; rfl, rfl⟩
    · by_cases h2 : 65535 < n
      · have HX : Hid (wrong16 σ n = 1) := Lib.hid (by rw [HW.out]; simp [h2])
        go_enter Try.func34, Try.ntmps34
        go_wp2
        go_ret
        exact ⟨by rw [HX.out]; rfl, rfl⟩
      · have HX : Hid (wrong16 σ n = 0) := Lib.hid (by rw [HW.out]; simp [h1, h2])
        go_enter Try.func34, Try.ntmps34
        go_wp2
        go_ret
        exact ⟨by rw [HX.out]; rfl, rfl⟩
set_option maxHeartbeats 1000000 in
theorem pcheck16_nil (w : World) (n : Int) :
    Calls Try.prog 34 #[.pointer none, .int .i64 n] w fun e w' => e = .returned (.int .i64 2) ∧ w = w' := by
  go_enter Try.func34, Try.ntmps34
  go_wp2
  go_ret
  exact ⟨rfl, rfl⟩
set_option maxHeartbeats 1000000 in
theorem pstep16_any (w : World) {b : Nat} {S : List Nat} {σ : D16} (h : PD w b S σ) (hd : σ.dead = false) (hs : σ.steps < 900000000000000) (ha : σ.armed ≤ 9223372036854775807) :
    Calls Try.prog 35 #[.pointer (some ⟨b, 0, none⟩)] w fun e w' => e = .returned (.int .i64 (if (step16 σ).dead then 50 else 0)) ∧ PD w' b S (step16 σ) ∧ But [b] w w' := by
  obtain ⟨mb, sl, hI, hF⟩ := h.row
  obtain ⟨k, hk⟩ : ∃ d, d = σ.armed := ⟨_, rfl⟩
  obtain ⟨s, hss⟩ : ∃ d, d = σ.steps := ⟨_, rfl⟩
  obtain ⟨lm, hlm⟩ : ∃ d, d = σ.limit := ⟨_, rfl⟩
  obtain ⟨sz, hsz⟩ : ∃ d, d = size16 σ.l := ⟨_, rfl⟩
  have HST : Hid (step16 σ = ⟨σ.l, lm, k - 1, k == 1, s + 1⟩) := Lib.hid (by unfold step16; rw [hd, hk, hss, hlm]; simp)
  have HW : Hid (∀ w', But [b] w w' → (∀ v, Is w b 54 #[.int .i64 (lm : Nat), v, .int .i64 (sz : Nat), .int .i64 (s : Nat), .int .i64 (k : Nat), .bool false] → Is w' b 54 #[.int .i64 (lm : Nat), v, .int .i64 (sz : Nat), .int .i64 ((s + 1 : Nat) : Int), .int .i64 ((k - 1 : Nat) : Int), .bool (k == 1)]) → PD w' b S (step16 σ)) := Lib.hid fun w' hB hi =>
    h.with rfl rfl hB fun v hv => by
      rw [hd, ← hk, ← hss, ← hlm, ← hsz] at hv
      have := hi _ hv
      rw [HST.out]
      rw [hsz] at this
      exact this
  rw [hd, ← hk, ← hss, ← hlm, ← hsz] at hI
  rw [← hss] at hs
  rw [← hk] at ha
  obtain ⟨c0, c1, c2, c3, c4, c5, hb⟩ := hI.cells6
  have f3 := hI.free 3
  have f4 := hI.free 4
  have f5 := hI.free 5
  have e1 : (s : Int) + 1 = ((s + 1 : Nat) : Int) := by omega
  have v1 := wrapI_in (show s + 1 < 1000000000000000 by omega)
  have HR : Hid ((step16 σ).dead = (k == 1)) := Lib.hid (by rw [HST.out])
  rw [HR.out]
  obtain ⟨s1, hs1⟩ : ∃ x, x = s + 1 := ⟨_, rfl⟩
  rw [← hs1] at e1 v1 HW
  have H1 := Lib.hid hs1
  clear hI hF h hd hk hss hlm hsz HST HR hs1
  by_cases h0 : k = 0
  · subst h0
    have HF : Hid (PD (w.setCell ⟨b, 3, none⟩ (.int .i64 (s1 : Nat))) b S (step16 σ) ∧ But [b] w (w.setCell ⟨b, 3, none⟩ (.int .i64 (s1 : Nat)))) := Lib.hid ⟨HW.out _ ((But.refl [b] w).setCell (.inl (by simp)) _) (fun v hv => hv.put 3 _), (But.refl [b] w).setCell (.inl (by simp)) _⟩
    go_enter Try.func35, Try.ntmps35
    go_wp2
    go_ret
    exact ⟨rfl, HF.out⟩
  · have c6 : ((k : Int) = 0) = False := by simpa using h0
    have c7 : ((k : Int) == 0) = false := by simpa using h0
    obtain ⟨k1, hk1⟩ : ∃ x, x = k - 1 := ⟨_, rfl⟩
    have e2 : (k : Int) - 1 = (k1 : Int) := by omega
    have v2 : IntKind.i64.wrap (k1 : Int) = (k1 : Int) := by rw [IntKind.wrap_i64]; omega
    rw [← hk1] at HW
    by_cases h1 : k = 1
    · have hk0 : k1 = 0 := by omega
      have e3 : (0 < (k1 : Int)) = False := by rw [hk0]; simp
      have e4 : decide (0 < (k1 : Int)) = false := by rw [hk0]; simp
      have e5 : (0 < k1) = False := by rw [hk0]; simp
      have e6 : (k == 1) = true := by rw [h1]; rfl
      rw [e6] at HW ⊢
      have HF : Hid (∀ V, V = ((w.setCell ⟨b, 3, none⟩ (.int .i64 (s1 : Nat))).setCell ⟨b, 4, none⟩ (.int .i64 (k1 : Nat))).setCell ⟨b, 5, none⟩ (.bool true) → PD V b S (step16 σ) ∧ But [b] w V) := Lib.hid fun V hV => by
        have hB : But [b] w V := by rw [hV]; exact (((But.refl [b] w).setCell (p := ⟨b, 3, none⟩) (.inl (by simp)) _).setCell (p := ⟨b, 4, none⟩) (.inl (by simp)) _).setCell (p := ⟨b, 5, none⟩) (.inl (by simp)) _
        exact ⟨HW.out _ hB fun v hv => by rw [hV]; exact ((hv.put 3 _).put 4 _).put 5 _, hB⟩
      clear hk1 hk0 h1 e6
      go_enter Try.func35, Try.ntmps35
      go_wp2
      go_ret
      exact ⟨rfl, HF.out _ rfl⟩
    · have e3 : (0 : Int) < (k1 : Int) := by omega
      have e6 : (k == 1) = false := by simpa using h1
      rw [e6] at HW ⊢
      have HF : Hid (∀ V, V = (w.setCell ⟨b, 3, none⟩ (.int .i64 (s1 : Nat))).setCell ⟨b, 4, none⟩ (.int .i64 (k1 : Nat)) → PD V b S (step16 σ) ∧ But [b] w V) := Lib.hid fun V hV => by
        have hB : But [b] w V := by rw [hV]; exact ((But.refl [b] w).setCell (p := ⟨b, 3, none⟩) (.inl (by simp)) _).setCell (p := ⟨b, 4, none⟩) (.inl (by simp)) _
        exact ⟨HW.out _ hB fun v hv => by rw [hV]; exact (hv.put 3 _).put 4 _, hB⟩
      clear hk1 h1 e6
      go_enter Try.func35, Try.ntmps35
      go_wp2
      go_ret
      exact ⟨rfl, HF.out _ rfl⟩
set_option maxHeartbeats 1000000 in
theorem psize16_any (w : World) {b : Nat} {S : List Nat} {σ : D16} (h : PD w b S σ) :
    Calls Try.prog 28 #[.pointer (some ⟨b, 0, none⟩)] w fun e w' => e = .returned (.int .i64 (size16 σ.l : Nat)) ∧ w = w' := by
  obtain ⟨mb, sl, hI, hF⟩ := h.row
  obtain ⟨c0, c1, c2, c3, c4, c5, hb⟩ := hI.cells6
  clear hI hF h
  go_enter Try.func28, Try.ntmps28
  go_wp2
  go_ret
  exact ⟨rfl, rfl⟩
set_option maxHeartbeats 1000000 in
theorem pdead16_any (w : World) {b : Nat} {S : List Nat} {σ : D16} (h : PD w b S σ) :
    Calls Try.prog 30 #[.pointer (some ⟨b, 0, none⟩)] w fun e w' => e = .returned (.bool σ.dead) ∧ w = w' := by
  obtain ⟨mb, sl, hI, hF⟩ := h.row
  obtain ⟨c0, c1, c2, c3, c4, c5, hb⟩ := hI.cells6
  obtain ⟨d, hd⟩ : ∃ d, d = σ.dead := ⟨_, rfl⟩
  rw [← hd] at c5 ⊢
  clear hI hF h c0 c1 c2 c3 c4 hd
  go_enter Try.func30, Try.ntmps30
  go_wp2
  go_ret
  exact ⟨rfl, rfl⟩
set_option maxHeartbeats 1000000 in
theorem psteps16_any (w : World) {b : Nat} {S : List Nat} {σ : D16} (h : PD w b S σ) :
    Calls Try.prog 32 #[.pointer (some ⟨b, 0, none⟩)] w fun e w' => e = .returned (.int .i64 (σ.steps : Nat)) ∧ w = w' := by
  obtain ⟨mb, sl, hI, hF⟩ := h.row
  obtain ⟨c0, c1, c2, c3, c4, c5, hb⟩ := hI.cells6
  clear hI hF h
  go_enter Try.func32, Try.ntmps32
  go_wp2
  go_ret
  exact ⟨rfl, rfl⟩
set_option maxHeartbeats 1000000 in
theorem psize16_nil (w : World) : Calls Try.prog 28 #[.pointer none] w fun e w' => e = .returned (.int .i64 0) ∧ But [] w w' := by
  go_enter Try.func28, Try.ntmps28
  go_wp2
  go_ret
  exact ⟨rfl, But.refl [] _⟩
set_option maxHeartbeats 1000000 in
theorem pdead16_nil (w : World) : Calls Try.prog 30 #[.pointer none] w fun e w' => e = .returned (.bool false) ∧ But [] w w' := by
  go_enter Try.func30, Try.ntmps30
  go_wp2
  go_ret
  exact ⟨rfl, But.refl [] _⟩
set_option maxHeartbeats 1000000 in
theorem psteps16_nil (w : World) : Calls Try.prog 32 #[.pointer none] w fun e w' => e = .returned (.int .i64 0) ∧ But [] w w' := by
  go_enter Try.func32, Try.ntmps32
  go_wp2
  go_ret
  exact ⟨rfl, But.refl [] _⟩
set_option maxHeartbeats 1000000 in
theorem pfiles16_nil (w : World) : Calls Try.prog 26 #[.pointer none] w fun e w' => ∃ A c, e = .returned (.slice A 0 c) ∧ But [] w w' := by
  go_enter Try.func26, Try.ntmps26
  go_wp2
  go_ret
  exact ⟨_, _, rfl, But.refl [] _⟩
set_option maxHeartbeats 1000000 in
theorem parm16_nil (w : World) (k : Int) : Calls Try.prog 19 #[.pointer none, .int .i64 k] w fun e w' => e = .returned (.tuple #[]) ∧ But [] w w' := by
  go_enter Try.func19, Try.ntmps19
  go_wp2
  go_returns
  exact ⟨rfl, But.refl [] _⟩
set_option maxHeartbeats 1000000 in
theorem pcrash16_nil (w : World) (A : Option Addr) (n c : Nat) : Calls Try.prog 21 #[.pointer none, .slice A n c] w fun e w' => e = .returned (.tuple #[]) ∧ But [] w w' := by
  go_enter Try.func21, Try.ntmps21
  go_wp2
  go_returns
  exact ⟨rfl, But.refl [] _⟩
set_option maxHeartbeats 1000000 in
theorem parm16_any (w : World) {b : Nat} {S : List Nat} {σ : D16} (h : PD w b S σ) (k : Int) :
    Calls Try.prog 19 #[.pointer (some ⟨b, 0, none⟩), .int .i64 k] w fun e w' => e = .returned (.tuple #[]) ∧ PD w' b S (arm16 σ k) ∧ But [b] w w' := by
  obtain ⟨mb, sl, hI, hF⟩ := h.row
  obtain ⟨a, ha⟩ : ∃ a, a = k.toNat := ⟨_, rfl⟩
  have HF : Hid (PD (w.setCell ⟨b, 4, none⟩ (.int .i64 (a : Nat))) b S (arm16 σ k) ∧ But [b] w (w.setCell ⟨b, 4, none⟩ (.int .i64 (a : Nat)))) := Lib.hid ⟨h.with rfl rfl ((But.refl [b] w).setCell (.inl (by simp)) _) (fun v hv => by rw [ha]; exact hv.put 4 _), (But.refl [b] w).setCell (.inl (by simp)) _⟩
  have km : ∀ v, (Builtin.max_ #[3, 3] 3 #[.int .i64 k, .int .i64 0]).run Try.prog v = .ok (.int .i64 (a : Int)) v := fun v => by
    have e4 : (if k < 0 then 0 else k) = (a : Int) := by rw [ha]; split <;> omega
    rw [← e4]
    simp [Builtin.max_, Builtin.max2]
  obtain ⟨c0, c1, c2, c3, c4, c5, hb⟩ := hI.cells6
  have f4 := hI.free 4
  clear hI hF h ha
  go_enter Try.func19, Try.ntmps19
  go_wp2
  go_returns
  exact ⟨rfl, HF.out⟩
set_option maxHeartbeats 1000000 in
theorem pnew16_ok (w : World) {n : Nat} (h1 : 1 ≤ n) (h2 : n ≤ 16777216) :
    Calls Try.prog 7 #[.int .i64 (n : Nat)] w fun e w' => ∃ b, e = .returned (.tuple #[.pointer (some ⟨b, 0, none⟩), .int .i64 0]) ∧ PD w' b [b] (new16 n) ∧ But [] w w' ∧ w.heap.size ≤ b := by
  have i1 : ¬ (n : Int) < 1 := by omega
  have i2 : ¬ (16777216 : Int) < (n : Int) := by omega
  have hI := Is.fresh w 54 #[.int .i64 (n : Nat), .map none, .int .i64 0, .int .i64 0, .int .i64 0, .bool false]
  have HF : Hid (PD (w.alloc (.cells #[.int .i64 (n : Nat), .map none, .int .i64 0, .int .i64 0, .int .i64 0, .bool false] 54)) w.heap.size [w.heap.size] (new16 n) ∧ But [] w (w.alloc (.cells #[.int .i64 (n : Nat), .map none, .int .i64 0, .int .i64 0, .int .i64 0, .bool false] 54))) :=
    Lib.hid ⟨⟨ok16_new h2, by simp, fun x hx => by simp at hx; rw [hx]; exact hI.lt, none, fun _ => undef, hI, ⟨fun _ => rfl, (fun m e => by cases e), fun f hf => absurd hf List.not_mem_nil, fun f hf => absurd hf List.not_mem_nil⟩⟩, (But.refl [] w).alloc _⟩
  clear hI
  go_enter Try.func7, Try.ntmps7
  go_wp2
  go_ret2
  exact ⟨_, rfl, HF.out.1, HF.out.2, Nat.le_refl _⟩
set_option maxHeartbeats 1000000 in
theorem pnew16_bad (w : World) {n : Int} (h : n < 1 ∨ 16777216 < n) :
    Calls Try.prog 7 #[.int .i64 n] w fun e w' => e = .returned (.tuple #[.pointer none, .int .i64 1]) ∧ w = w' := by
  by_cases i1 : n < 1
  · go_enter Try.func7, Try.ntmps7
    go_wp2
    go_ret2
    exact ⟨rfl, rfl⟩
  · have i2 : (16777216 : Int) < n := by omega
    go_enter Try.func7, Try.ntmps7
    go_wp2
    go_ret2
    exact ⟨rfl, rfl⟩
end Go.Proofs.Ytchpincoddghfaa
