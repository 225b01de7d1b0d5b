/- Several texts in one: FixT, DgC, DgD, DgK (what Unwraps, Wraps reach of them). -/
import Derived.Test.YtghegmbafbpnjaaGreatDoorPm01
import Derived.Test.YtghegmbafbpnjaaGreatDoorPm02
import Derived.Test.YtghegmbafbpnjaaGreatDoorPm03
import Derived.Test.YtghegmbafbpnjaaGreatDoorPm04
import Derived.Test.YtghegmbafbpnjaaGreatDoorPm05
import Derived.Test.YtghegmbafbpnjaaGreatDoorPm06
import Derived.Test.YtghegmbafbpnjaaGreatDoorPm07
import Derived.Test.YtghegmbafbpnjaaGreatDoorPm08
import Derived.Test.YtghegmbafbpnjaaGreatDoorPm09
import Derived.Test.YtghegmbafbpnjaaGreatDoorPm10
import Derived.Test.YtghegmbafbpnjaaGreatDoorPm11
import Derived.Test.YtghegmbafbpnjaaGreatDoorPm12
import Derived.Test.YtghegmbafbpnjaaGreatDoorPm13
import Derived.Test.YtghegmbafbpnjaaGreatDoorPm14
import Derived.Test.YtghegmbafbpnjaaGreatDoorPm15
import Derived.Test.YtghegmbafbpnjaaGreatDoorPm16
import Derived.Test.YtghegmbafbpnjaaGreatDoorPm17
import Derived.Below
import Derived.BigQuiet
import Derived.BigRegion
import Derived.Deep.AppendLies
import Derived.Deep.CutBlock
import Derived.Deep.CutRange
import Derived.Deep.DeepCutAuto
import Derived.Deep.Draws
import Derived.Deep.LoopGhost
import Derived.Deep.QuietTactic
import Derived.Deep.RegionLaw
import Derived.Deep.RegionWith
import Derived.Deep.Slices
import Derived.Handy
import Derived.Laws.BitsAllLaws
import Derived.Laws.BitsLemmas
import Derived.Laws.CopyOwn
import Derived.Laws.IdiomStrings
import Derived.Laws.OwnMore
import Derived.Laws.Rows
import Derived.Laws.Strings2
import Derived.Laws.Strings3
import Derived.Laws.StructEq
import Derived.Lib.AppendStr
import Derived.Lib.AppendZeros
import Derived.Lib.Hide
import Derived.Lib.Strings
import Derived.LoopIn
import Derived.LoopNIn
import Derived.OneCell
import Derived.OpenShut
import Derived.Outline
import Derived.OwnWalk
import Derived.OwnWalkIn
import Derived.ProofKit
import Derived.RangeFuncBound
import Derived.RangeFuncCalls
import Derived.RangeFuncLeaves
import Derived.RangeFuncNested
import Derived.RegionTactic
import Derived.ScopeJumps
import Derived.Shelf.Abstract
import Derived.Shelf.RegionOpen
import Derived.Shelf.SlSortCmp.QuietGrown
import Derived.StillTailTactics
import Derived.TacticsInMore
import Derived.Test.YtghegmbafbpnjaaGreatDoorChecked
import Derived.WalkKit
import Derived.WalkLawsBesides
import Derived.WalkMore
import Derived.WalkSpells
set_option maxRecDepth 100000
set_option linter.unusedVariables false
namespace Go.Proofs.YtghegmbafbpnjaaGreatDoor
set_option maxRecDepth 100000
open Go Go.RowKit
section
variable {w w' : World} {b rb db : Nat} {og : Option Nat} {s : ByteArray} {p : Nat} {M : Int} {L : List UInt8} {fs fd : Option Nat}
/-- The tables of fixed blocks, where they have been made. -/
def FX (w : World) (F : List Nat) (fs fd : Option Nat) : Prop :=
  (fs = none ∧ fd = none) ∨ ∃ f1 f2, fs = some f1 ∧ fd = some f2 ∧ Keep F w (fun w' => TT w' f1 fixL) ∧ Keep F w (fun w' => TT w' f2 fixD)
theorem FX.mv {og og' : Option Nat} {X : List Nat} (h : FX w (X ++ Foot b rb og) fs fd) (hM : Mv b rb w w' og og') : FX w' (X ++ Foot b rb og') fs fd := by
  rcases h with h | ⟨f1, f2, h1, h2, h3, h4⟩
  · exact .inl h
  · exact .inr ⟨f1, f2, h1, h2, hM.keepX h3, hM.keepX h4⟩
theorem FX.step {F F' : List Nat} (h : FX w F fs fd) (hB : But F w w') (hF : ∀ i ∈ F', i ∈ F ∨ w.heap.size ≤ i) : FX w' F' fs fd := by
  rcases h with h | ⟨f1, f2, h1, h2, h3, h4⟩
  · exact .inl h
  · exact .inr ⟨f1, f2, h1, h2, h3.step hB hF, h4.step hB hF⟩
def GotF (X : List Nat) (w : World) (b rb db : Nat) (og : Option Nat) (s : ByteArray) (p : Nat) (M : Int) (L : List UInt8) (e : Ending) (w' : World) : Prop :=
  ∃ f1 f2, e = .returned (.tuple #[.agg #[ptr (some f1), ptr (some f2)], .int .i64 0]) ∧ Mv b rb w w' og og ∧ SS w' b rb db og s p M L (some f1) (some f2) ∧ FX w' (X ++ Foot b rb og) (some f1) (some f2)
/-- The stream with its tables of fixed blocks. -/
theorem SS.fix (h : SS w b rb db og s p M L fs fd) (f1 f2 : Nat) :
    SS ((w.setCell ⟨b, 3, none⟩ (ptr (some f1))).setCell ⟨b, 4, none⟩ (ptr (some f2))) b rb db og s p M L (some f1) (some f2) ∧ Mv b rb w ((w.setCell ⟨b, 3, none⟩ (ptr (some f1))).setCell ⟨b, 4, none⟩ (ptr (some f2))) og og := by
  have hlt := h.lt
  have hd := h.hd
  have hr := h.hr
  have hout := h.out
  obtain ⟨ov, h1, h2, h3⟩ := h.cells
  have hB : But [b] w ((w.setCell ⟨b, 3, none⟩ (ptr (some f1))).setCell ⟨b, 4, none⟩ (ptr (some f2))) := ((But.refl [b] w).setCell (.inl (by simp)) _).setCell (.inl (by simp)) _
  refine ⟨⟨h.rs.but hB (by simp; omega) (by simp; omega), hd, hr, h.hs, h.hM, h.hL, ov, ?_, ownsRow_but h2 hB fun g hg hk => ?_, h3⟩, Mv.of hB fun k hk => .inl ?_⟩
  · simpa using (h1.put 3 (ptr (some f1))).put 4 (ptr (some f2))
  · have := hout g (h3 ▸ hg)
    simp at hk; omega
  · simp at hk; subst hk; simp [Foot]
theorem fixL_flat : [List.replicate 144 (8 : Int), List.replicate 112 9, List.replicate 24 7, List.replicate 8 8].flatten = fixL := by
  unfold fixL; simp

theorem heads4 {w : World} {A1 A2 A3 A4 : Addr} {l1 l2 l3 l4 : List Int} {n1 n2 n3 n4 c1 c2 c3 c4 : Nat} {t : TypeId} (h1 : Ints w (some A1) n1 l1) (h2 : Ints w (some A2) n2 l2) (h3 : Ints w (some A3) n3 l3) (h4 : Ints w (some A4) n4 l4)
    (p1 : 0 < n1) (p2 : 0 < n2) (p3 : 0 < n3) (p4 : 0 < n4) :
    Heads (w.alloc (.cells #[.slice (some A1) n1 c1, .slice (some A2) n2 c2, .slice (some A3) n3 c3, .slice (some A4) n4 c4] t)) w.heap.size [.slice (some A1) n1 c1, .slice (some A2) n2 c2, .slice (some A3) n3 c3, .slice (some A4) n4 c4] [l1, l2, l3, l4] := by
  have hI := Is.fresh w t #[.slice (some A1) n1 c1, .slice (some A2) n2 c2, .slice (some A3) n3 c3, .slice (some A4) n4 c4]
  have hB := but_alloc w (.cells #[.slice (some A1) n1 c1, .slice (some A2) n2 c2, .slice (some A3) n3 c3, .slice (some A4) n4 c4] t)
  have q1 := h1.but hB (by simp)
  have q2 := h2.but hB (by simp)
  have q3 := h3.but hB (by simp)
  have q4 := h4.but hB (by simp)
  obtain rfl := h1.1
  obtain rfl := h2.1
  obtain rfl := h3.1
  obtain rfl := h4.1
  unfold Heads
  refine ⟨rfl, fun i hi => ?_⟩
  match i, hi with
  | 0, _ => exact ⟨hI.cell 0, A1, c1, rfl, q1, p1⟩
  | 1, _ => exact ⟨hI.cell 1, A2, c2, rfl, q2, p2⟩
  | 2, _ => exact ⟨hI.cell 2, A3, c3, rfl, q3, p3⟩
  | 3, _ => exact ⟨hI.cell 3, A4, c4, rfl, q4, p4⟩
set_option maxHeartbeats 1000000 in
theorem fixedTables_any {X : List Nat} (h : SS w b rb db og s p M L fs fd) (hX : ∀ k ∈ X, k < w.heap.size) (hF : FX w (X ++ Foot b rb og) fs fd) :
    Calls Tryz.prog 89 #[.pointer (some ⟨b, 0, none⟩)] w (GotF X w b rb db og s p M L) := by
  have h1 := h.alloc (.cells #[.pointer none, .pointer none] 46)
  have m1 := Mv.alloc (b := b) (rb := rb) (w := w) (og := og) (.cells #[.pointer none, .pointer none] 46)
  have hI := Is.fresh w 46 #[.pointer none, .pointer none]
  have hF1 := hF.mv m1
  have hwb := h.lt
  have hfl := foot_lt h
  have HXL := Lib.hid hX
  clear hX
  have hb0 := but_alloc w (.cells #[.pointer none, .pointer none] 46)
  rcases hF with ⟨rfl, rfl⟩ | ⟨f1, f2, rfl, rfl, hf1, hf2⟩
  · obtain ⟨ov, hi, _, _⟩ := h1.cells
    have k3 : (w.alloc (.cells #[.pointer none, .pointer none] 46)).cell? ⟨b, 3, none⟩ = some (.pointer none) := hi.cell 3
    have HS := Lib.hid h1
    have HM := Lib.hid m1
    have HI := Lib.hid hI
    have HB0 := Lib.hid hb0
    have HFL := Lib.hid hfl
    clear h h1 m1 hI hi hF1 hb0 hfl
    go_enter Tryz.func89, Tryz.ntmps89
    go_wp2_with fail
    refine (repeated_any 8 (n := 144) _ (by omega) (by omega)).mono ?_
    rintro e w1 ⟨g1, c1, rfl, hO1, hB1⟩
    have HO1 := Lib.hid hO1
    have HB1 := Lib.hid hB1
    clear hO1 hB1
    go_wp2_with fail
    refine (repeated_any 9 (n := 112) _ (by omega) (by omega)).mono ?_
    rintro e w2 ⟨g2, c2, rfl, hO2, hB2⟩
    have HO2 := Lib.hid hO2
    have HB2 := Lib.hid hB2
    clear hO2 hB2
    go_wp2_with fail
    refine (repeated_any 7 (n := 24) _ (by omega) (by omega)).mono ?_
    rintro e w3 ⟨g3, c3, rfl, hO3, hB3⟩
    have HO3 := Lib.hid hO3
    have HB3 := Lib.hid hB3
    clear hO3 hB3
    go_wp2_with fail
    refine (repeated_any 8 (n := 8) _ (by omega) (by omega)).mono ?_
    rintro e w4 ⟨g4, c4, rfl, hO4, hB4⟩
    have HO4 := Lib.hid hO4
    have HB4 := Lib.hid hB4
    clear hO4 hB4
    have hI4 := HO4.out.ints
    have hI3 := HO3.out.ints.but HB4.out (by simp)
    have hI2 := HO2.out.ints.but (HB3.out.trans HB4.out) (by simp)
    have hI1 := HO1.out.ints.but ((HB2.out.trans HB3.out).trans HB4.out) (by simp)
    have hB14 := ((HB1.out.trans HB2.out).trans HB3.out).trans HB4.out
    have hhd := heads4 (t := 58) (c1 := c1) (c2 := c2) (c3 := c3) (c4 := c4) hI1 hI2 hI3 hI4 (by omega) (by omega) (by omega) (by omega)
    have hcc := concat_any (c := 4) hhd (by rw [fixL_flat]; decide +kernel) (by rw [fixL_flat]; decide +kernel) (by simp)
    rw [fixL_flat] at hcc
    have HCC := Lib.hid hcc
    have HB14 := Lib.hid (hB14.alloc (.cells #[.slice (some ⟨g1, 0, none⟩) 144 c1, .slice (some ⟨g2, 0, none⟩) 112 c2, .slice (some ⟨g3, 0, none⟩) 24 c3, .slice (some ⟨g4, 0, none⟩) 8 c4] 58))
    clear hI1 hI2 hI3 hI4 hB14 hhd hcc HO1 HO2 HO3 HO4 HB1 HB2 HB3 HB4
    go_wp2_with fail
    refine HCC.out.mono ?_
    rintro e w5 ⟨v5, rfl, hO5, hB5⟩
    have hB15 := HB14.out.trans hB5
    obtain ⟨A5, c5, rfl, hI5⟩ := own_some hO5 (by decide +kernel)
    have HI5 := Lib.hid hI5
    have HB15 := Lib.hid hB15
    clear HCC HB14 hO5 hB5 hI5 hB15
    rw [show fixL.length = 288 from by decide +kernel] at *
    go_wp2_with fail
    refine (repeated_any 5 (n := 32) _ (by omega) (by omega)).mono ?_
    rintro e w6 ⟨g6, c6, rfl, hO6, hB6⟩
    have hI6 := hO6.ints
    have hI5 := HI5.out.but hB6 (by simp)
    have hB16 := HB15.out.trans hB6
    have hmt := makeTables_any (cA := c5) (cB := c6) hI5 hI6 (by omega) (by omega) (fun e => by cases e) (fun e => by cases e)
    have HMT := Lib.hid hmt
    have HB16 := Lib.hid hB16
    clear hO6 hB6 hI6 hI5 hB16 hmt HI5 HB15
    go_wp2_with fail
    refine HMT.out.mono ?_
    rintro e w7 ⟨p1, p2, er, rfl, hB7, he1, he2⟩
    have her : er = 0 := Classical.byContradiction fun hne => by
      rcases (he1 hne).2.2 with h | ⟨_, h⟩
      · exact hne (h.symm.trans chk_fixL)
      · exact hne (h.symm.trans chk_fixD)
    subst her
    obtain ⟨_, _, b1, b2, e1, e2, hT1, hT2⟩ := he2 rfl
    obtain rfl : p1 = .pointer (some ⟨b1, 0, none⟩) := e1
    obtain rfl : p2 = .pointer (some ⟨b2, 0, none⟩) := e2
    have hBa := HB16.out.trans hB7
    have hSa := HS.out.but hBa (by simp)
    have hIa := HI.out.but hBa (by simp)
    have hsz6 := HB16.out.size
    obtain ⟨ov7, hi7, _, _⟩ := hSa.cells
    have k3 : w7.cell? ⟨b, 3, none⟩ = some (.pointer none) := hi7.cell 3
    have k4 : w7.cell? ⟨b, 4, none⟩ = some (.pointer none) := hi7.cell 4
    have l3 : w7.frozen? ⟨b, 3, none⟩ = false := hi7.free 3
    have l4 : w7.frozen? ⟨b, 4, none⟩ = false := hi7.free 4
    have k0 : w7.cell? ⟨w.heap.size, 0, none⟩ = some (.pointer none) := hIa.cell 0
    have k1 : w7.cell? ⟨w.heap.size, 1, none⟩ = some (.pointer none) := hIa.cell 1
    have l0 : w7.frozen? ⟨w.heap.size, 0, none⟩ = false := hIa.free 0
    have l1 : w7.frozen? ⟨w.heap.size, 1, none⟩ = false := hIa.free 1
    have hbl := hSa.lt
    have hrl := hIa.lt
    have hne : b ≠ w.heap.size := by omega
    have hne' : w.heap.size ≠ b := by omega
    have HSa := Lib.hid hSa
    have HIa := Lib.hid hIa
    have HT1 := Lib.hid hT1
    have HT2 := Lib.hid hT2
    have HBa := Lib.hid hBa
    clear he1 he2 hB7 hBa hSa hIa hi7 hT1 hT2 HMT
    go_wp2
    obtain ⟨s8, _⟩ := HSa.out.fix b1 b2
    have hbw : But [] w w7 := HB0.out.trans HBa.out
    have hb8 : But [b] w7 ((w7.setCell ⟨b, 3, none⟩ (.pointer (some ⟨b1, 0, none⟩))).setCell ⟨b, 4, none⟩ (.pointer (some ⟨b2, 0, none⟩))) := ((But.refl [b] w7).setCell (.inl (by simp)) _).setCell (.inl (by simp)) _
    have hbf : But (Foot b rb og) w ((w7.setCell ⟨b, 3, none⟩ (.pointer (some ⟨b1, 0, none⟩))).setCell ⟨b, 4, none⟩ (.pointer (some ⟨b2, 0, none⟩))) := ((hbw.more (by simp)).setCell (.inl (by simp [Foot])) _).setCell (.inl (by simp [Foot])) _
    have i8 := HIa.out.but hb8 (by simp; omega)
    change SS ((w7.setCell ⟨b, 3, none⟩ (.pointer (some ⟨b1, 0, none⟩))).setCell ⟨b, 4, none⟩ (.pointer (some ⟨b2, 0, none⟩))) b rb db og s p M L (some b1) (some b2) at s8
    have hb9' : But [b, w.heap.size] w7 ((((w7.setCell ⟨b, 3, none⟩ (.pointer (some ⟨b1, 0, none⟩))).setCell ⟨b, 4, none⟩ (.pointer (some ⟨b2, 0, none⟩))).setCell ⟨w.heap.size, 0, none⟩ (.pointer (some ⟨b1, 0, none⟩))).setCell ⟨w.heap.size, 1, none⟩ (.pointer (some ⟨b2, 0, none⟩))) :=
      ((hb8.more (by simp)).setCell (.inl (by simp)) _).setCell (.inl (by simp)) _
    generalize ((w7.setCell ⟨b, 3, none⟩ (.pointer (some ⟨b1, 0, none⟩))).setCell ⟨b, 4, none⟩ (.pointer (some ⟨b2, 0, none⟩))) = w8 at *
    obtain ⟨i9, hb9⟩ := pair_in (p1 := .pointer (some ⟨b1, 0, none⟩)) (p2 := .pointer (some ⟨b2, 0, none⟩)) i8
    have s9 := s8.away hb9 (fun k hk => by
      have hd := s8.hd
      obtain rfl : k = w.heap.size := by simpa using hk
      exact ⟨fun h => by have := HFL.out _ h; omega, by omega⟩)
    have hbf9 : But (Foot b rb og) w ((w8.setCell ⟨w.heap.size, 0, none⟩ (.pointer (some ⟨b1, 0, none⟩))).setCell ⟨w.heap.size, 1, none⟩ (.pointer (some ⟨b2, 0, none⟩))) := (hbf.setCell (.inr (Nat.le_refl _)) _).setCell (.inr (Nat.le_refl _)) _
    generalize ((w8.setCell ⟨w.heap.size, 0, none⟩ (.pointer (some ⟨b1, 0, none⟩))).setCell ⟨w.heap.size, 1, none⟩ (.pointer (some ⟨b2, 0, none⟩))) = w9 at *
    have i10 := i9.alloc (.cells #[.pointer (some ⟨b1, 0, none⟩), .pointer (some ⟨b2, 0, none⟩)] 46)
    have s10 := s9.alloc (.cells #[.pointer (some ⟨b1, 0, none⟩), .pointer (some ⟨b2, 0, none⟩)] 46)
    have hbf10 := hbf9.alloc (.cells #[.pointer (some ⟨b1, 0, none⟩), .pointer (some ⟨b2, 0, none⟩)] 46)
    have hb10 := hb9'.alloc (.cells #[.pointer (some ⟨b1, 0, none⟩), .pointer (some ⟨b2, 0, none⟩)] 46)
    generalize w9.alloc (.cells #[.pointer (some ⟨b1, 0, none⟩), .pointer (some ⟨b2, 0, none⟩)] 46) = wf at *
    have hlo : w.heap.size + 1 ≤ w6.heap.size := by simpa using hsz6
    have hkp : ∀ k ∈ [b, w.heap.size], k < w6.heap.size := fun k hk => by
      rcases List.mem_cons.1 hk with e | e
      · omega
      · simp at e; omega
    have t1 := (HT1.out.but hb10 hkp).keep (F := X ++ Foot b rb og) (fun k hk => by rcases List.mem_append.1 hk with hk | hk; (have := HXL.out k hk; omega); (have := HFL.out k hk; omega))
    have t2 := (HT2.out.but hb10 hkp).keep (F := X ++ Foot b rb og) (fun k hk => by rcases List.mem_append.1 hk with hk | hk; (have := HXL.out k hk; omega); (have := HFL.out k hk; omega))
    have c0 : wf.cell? ⟨w.heap.size, 0, none⟩ = some (.pointer (some ⟨b1, 0, none⟩)) := i10.cell 0
    have c1 : wf.cell? ⟨w.heap.size, 1, none⟩ = some (.pointer (some ⟨b2, 0, none⟩)) := i10.cell 1
    refine bodyPost_ret (v := .tuple #[.agg #[.pointer (some ⟨b1, 0, none⟩), .pointer (some ⟨b2, 0, none⟩)], .int .i64 0]) (by simp [results, Tryz.results89, go_sem, c0, c1]) rfl ?_
    exact ⟨b1, b2, rfl, ⟨hbf10, fun g hg => .inl hg⟩, s10, .inr ⟨b1, b2, rfl, rfl, t1, t2⟩⟩
  · obtain ⟨ov, hi, _, _⟩ := h1.cells
    have hi3 : (w.alloc (.cells #[.pointer none, .pointer none] 46)).cell? ⟨b, 3, none⟩ = some (.pointer (some ⟨f1, 0, none⟩)) := hi.cell 3
    have hi4 : (w.alloc (.cells #[.pointer none, .pointer none] 46)).cell? ⟨b, 4, none⟩ = some (.pointer (some ⟨f2, 0, none⟩)) := hi.cell 4
    have ha : But [] w (w.alloc (.cells #[.pointer (some ⟨f1, 0, none⟩), .pointer (some ⟨f2, 0, none⟩)] 46)) := but_alloc w _
    have m2 : Mv b rb w (w.alloc (.cells #[.pointer (some ⟨f1, 0, none⟩), .pointer (some ⟨f2, 0, none⟩)] 46)) og og := Mv.of ha (by simp)
    have s2 := h.alloc (.cells #[.pointer (some ⟨f1, 0, none⟩), .pointer (some ⟨f2, 0, none⟩)] 46)
    have i2 := Is.fresh w 46 #[.pointer (some ⟨f1, 0, none⟩), .pointer (some ⟨f2, 0, none⟩)]
    have t1 := m2.keepX hf1
    have t2 := m2.keepX hf2
    have HS := Lib.hid s2
    have HM := Lib.hid m2
    have HI := Lib.hid i2
    have HT1 := Lib.hid t1
    have HT2 := Lib.hid t2
    clear h h1 m1 hI hi hF1 hb0 hfl ha m2 s2 i2 t1 t2 hf1 hf2
    go_enter Tryz.func89, Tryz.ntmps89
    go_wp2
    have c0 := HI.out.cell 0
    have c1 := HI.out.cell 1
    refine bodyPost_ret (v := .tuple #[.agg #[.pointer (some ⟨f1, 0, none⟩), .pointer (some ⟨f2, 0, none⟩)], .int .i64 0]) (by simp [results, Tryz.results89, go_sem, c0, c1]) rfl ?_
    exact ⟨f1, f2, rfl, HM.out, HS.out, .inr ⟨f1, f2, rfl, rfl, HT1.out, HT2.out⟩⟩
end
end Go.Proofs.YtghegmbafbpnjaaGreatDoor
set_option maxRecDepth 100000
set_option linter.unusedVariables false
namespace Go.Proofs.YtghegmbafbpnjaaGreatDoor
set_option maxRecDepth 100000
open Go Go.RowKit
theorem layB_none (q : Nat × Nat) : layB q 0 0 = q := by
  rw [layB_eq (by omega) (by decide)]; simp
attribute [local irreducible] layTs layC layB fixL fixD toks textX
section
variable {w w1 w2 w' : World} {lo b : Nat} {og : Option Nat} {r : Nat × Nat}
set_option maxHeartbeats 2000000 in
theorem playTs_any {l d : List Int} {n c nl nd cl cd : Nat} {A Al Ad : Option Addr} {ts : List Tk} (hL : Keep (b :: og.toList) w fun w' => Ints w' Al nl l) (hD : Keep (b :: og.toList) w fun w' => Ints w' Ad nd d) (hK : Keep (b :: og.toList) w fun w' => Tks w' A n (ts.map tkI))
    (hcl : chk l = 0) (hcd : chk d = 0) (hnl : nl ≤ 300) (hnd : nd ≤ 300) (hn1 : Al = none → cl = 0) (hn2 : Ad = none → cd = 0) (hh : ∀ t ∈ ts, tkHas l d t) (h256 : has l (256 : Nat)) (hn : n ≤ 1000000) (hW : WroteP w w1 lo b og r) (hlo : lo ≤ w.heap.size) (hN : r.2 ≤ 100000) :
    Calls Tryz.prog 43 #[.pointer (some ⟨b, 0, none⟩), .slice A n c, .slice Al nl cl, .slice Ad nd cd] w1 fun e w' => e = .returned (.tuple #[]) ∧ WroteP w w' lo b og (layC l (layTs l d r ts) 256) := by
  have hlen : ts.length = n := by
    have := (hK.now).1
    rwa [List.length_map] at this
  have HLN := Lib.hid hlen
  have HK := Lib.hid hK
  have HH := Lib.hid hh
  have HW := Lib.hid hW
  have hL1 := hW.keep hL
  have hm1 := make_new (cap := cl) hL1 (by omega) hn1 hcl
  have HM1 := Lib.hid hm1
  have HD := Lib.hid hD
  have HL15 := Lib.hid (okl hcl)
  have HD15 := Lib.hid (okl hcd)
  have H256 := Lib.hid h256
  have HCD := Lib.hid hcd
  have HN2 := Lib.hid hn2
  clear hlen hL hD hK hh hW hL1 hm1 h256 hcl hcd hn1 hn2
  go_enter Tryz.func43, Tryz.ntmps43
  go_wp2_with fail
  refine HM1.out.mono ?_
  rintro e w2 ⟨bt, rfl, hT2, hB2⟩
  have hD2 := (HW.out.other hB2).keep HD.out
  have hm2 := make_new (cap := cd) hD2 (by omega) HN2.out HCD.out
  have HM2 := Lib.hid hm2
  have HT2 := Lib.hid hT2
  have HB2 := Lib.hid hB2
  clear hD2 hm2 hT2 hB2 HM1
  go_wp2_with fail
  refine HM2.out.mono ?_
  rintro e w3 ⟨bu, rfl, hT3, hB3⟩
  have hB13 := HB2.out.trans hB3
  obtain ⟨og', hR, hlt, hKp, hback⟩ := HW.out.rebase hB13
  have hs12 := HB2.out.size
  have hTl : Keep (b :: og'.toList) w3 fun w' => TT w' bt l := (HT2.out.but hB3 (by simp)).keep fun k hk => (hlt k hk).1
  have hTd : Keep (b :: og'.toList) w3 fun w' => TT w' bu d := hT3.keep (fun k hk => Nat.lt_of_lt_of_le (hlt k hk).1 hs12)
  have hlo3 : lo ≤ w3.heap.size := Nat.le_trans hlo (Nat.le_trans HW.out.but.size hB13.size)
  have hK3 := hKp _ HK.out
  have HK3 := Lib.hid hK3
  have HTL := Lib.hid hTl
  have HTD := Lib.hid hTd
  have HR := Lib.hid (show WroteP w3 w3 lo b og' (layTs l d r (ts.take 0)) from by rw [List.take_zero]; unfold layTs; exact hR)
  have hr0 : (layTs l d r (ts.take 0)).2 ≤ 100000 + 60 * 0 := by rw [List.take_zero]; unfold layTs; exact hN
  have HBACK := Lib.hid hback
  clear hB13 hR hlt hKp hback hTl hTd hK3 hT3 hB3 HT2 HB2 HM2 HD HK HW hs12
  go_wp2
  go_loopw [26] (fun iv wr => ∃ k : Nat, k ≤ n ∧ iv = .int .i64 k ∧ Hid (WroteP w3 wr lo b og' (layTs l d r (ts.take k))) ∧ (layTs l d r (ts.take k)).2 ≤ 100000 + 60 * k) (fun iv _ => n - (intOf iv).toNat)
  case atStart => exact ⟨0, Nat.zero_le _, rfl, HR, hr0⟩
  case round =>
    obtain ⟨k, hk, rfl, HP, hb⟩ := hrel
    clear HR hr0
    obtain ⟨q, hq⟩ : ∃ q, q = layTs l d r (ts.take k) := ⟨_, rfl⟩
    rw [← hq] at HP hb
    have HQ := Lib.hid hq
    clear hq
    by_cases hlt : k < n
    · have hkt : k < ts.length := by have := HLN.out; omega
      have hmem := HH.out _ (List.getElem_mem hkt)
      have hts : ts.take (k + 1) = ts.take k ++ [ts[k]] := List.take_succ_eq_append_getElem hkt
      have hnx : layTs l d r (ts.take (k + 1)) = layT l d q ts[k] := by rw [hts, layTs_snoc, ← HQ.out]
      have hfw := layT_few HL15.out HD15.out hmem q
      obtain ⟨g, o, bb, xx, zz, rfl, hg, c0, c1, c2, h1⟩ := (HP.out.keep HK3.out).at hlt
      rw [List.getElem?_map, List.getElem?_eq_getElem hkt] at h1
      injection h1 with h1
      unfold tkI at h1
      injection h1 with h2 h3
      injection h3 with h3 h4
      subst h2 h3 h4
      obtain ⟨t, ht⟩ : ∃ t, t = ts[k] := ⟨_, rfl⟩
      rw [← ht] at hmem hnx hfw c0 c1 c2
      obtain ⟨x, z, y⟩ := t
      have HNX := Lib.hid hnx
      dsimp only at c0 c1 c2
      have k0 : (0 : Int) ≤ (k : Int) := by omega
      have k1 : (k : Int) < (n : Int) := by omega
      unfold tkHas at hmem
      dsimp only at hmem
      obtain ⟨wb, hwb⟩ : ∃ wb, wb = wr.alloc (.cells #[.int .i64 y, .int .i64 x, .int .i64 z] 63) := ⟨_, rfl⟩
      have hIb : Is wb wr.heap.size 63 #[.int .i64 y, .int .i64 x, .int .i64 z] := by rw [hwb]; exact Is.fresh wr _ _
      have hBb : But [] wr wb := by rw [hwb]; exact (But.refl [] wr).alloc _
      have HIB := Lib.hid hIb
      have HBB := Lib.hid hBb
      have HWB := Lib.hid hwb
      clear ht hts hnx hwb hIb hBb
      by_cases hx : x = 0
      · rw [if_pos hx] at hmem
        have eT : layT l d q (x, z, y) = layC l q y := by unfold layT; rw [if_pos (show (x, z, y).1 = 0 from hx)]
        rw [eT] at hfw
        have HE := Lib.hid eT
        subst hx
        have HWB : Hid (wb = wr.alloc (.cells #[.int .i64 y, .int .i64 0, .int .i64 z] 63)) := Lib.hid HWB.out
        have HIB : Hid (Is wb wr.heap.size 63 #[.int .i64 y, .int .i64 0, .int .i64 z]) := Lib.hid HIB.out
        have HSY : Hid (Calls Tryz.prog 77 #[.agg #[.int .i64 (y : Int), .int .i64 0, .int .i64 (z : Int)]] wb fun e w' => e = .returned (codVal y 0 0) ∧ But [] wb w') := Lib.hid (symbolOf_lit wb y z)
        clear eT
        go_wp2_with fail
        rw [← HWB.out]
        refine HSY.out.mono ?_
        rintro e wy ⟨rfl, hBy⟩
        obtain ⟨og2, hR2, hlt2, hKp2, hback2⟩ := HP.out.rebase (HBB.out.trans hBy)
        have hq1 : (layC l q y).2 ≤ 100000000 := by omega
        have hcall := lay_pany (m := 0) (e := 0) (hKp2 _ HTL.out) HL15.out hR2 (Nat.le_trans hlo3 (Nat.le_trans HP.out.but.size (HBB.out.trans hBy).size)) (by omega) hmem.2 hq1
        have hIy := HIB.out.but hBy (by simp)
        have HCALL := Lib.hid hcall
        have HIY := Lib.hid hIy
        have HLT2 := Lib.hid hlt2
        have HBK2 := Lib.hid hback2
        clear hBy hR2 hlt2 hKp2 hback2 hcall hIy hq1 HSY
        unfold codVal at HCALL ⊢
        go_wp2_with fail
        refine HCALL.out.mono ?_
        rintro e wz ⟨rfl, hWz⟩
        have hIz := HIY.out.but hWz.but (fun hk => by have := (HLT2.out _ hk).1; omega)
        have cz := hIz.cell 1
        have hz2 : layB (layC l q y) 0 0 = layC l q y := layB_none _
        rw [hz2] at hWz
        have HWz := Lib.hid (HBK2.out _ _ hWz)
        clear hIz hWz hz2 c0 c1 c2
        go_wp2
        go_roundw
        case rel => exact ⟨k + 1, by omega, by go_num, Lib.hid (by rw [HNX.out, HE.out]; exact HWz.out), by rw [HNX.out, HE.out]; omega⟩
        case measure => simp [intOf]; omega
      · rw [if_neg hx] at hmem
        obtain ⟨a1, a2, a3, a4, a5, a6⟩ := hmem
        obtain ⟨b1, b2, b3, b4⟩ := lsym_all x (by omega) a1
        obtain ⟨d1, d2, d3⟩ := dsym_all z (by omega) a3
        have f5 := lenBase_few (lsym x) (by omega) b1
        have f6 := dstBase_few (dsym z) (by omega)
        have f1 := layC_few HL15.out q (lsym x)
        have f2 := layB_few (layC l q (lsym x)) (x - lenBase (lsym x)) (lenBits (lsym x))
        have f3 := layC_few HD15.out (layB (layC l q (lsym x)) (x - lenBase (lsym x)) (lenBits (lsym x))) (dsym z)
        have eT : layT l d q (x, z, y) = layB (layC d (layB (layC l q (lsym x)) (x - lenBase (lsym x)) (lenBits (lsym x))) (dsym z)) (z - dstBase (dsym z)) (dstBits (dsym z)) := by unfold layT; rw [if_neg (show ¬ (x, z, y).1 = 0 from hx)]
        rw [eT] at hfw
        have HE := Lib.hid eT
        have HSY : Hid (Calls Tryz.prog 77 #[.agg #[.int .i64 (y : Int), .int .i64 (x : Int), .int .i64 (z : Int)]] wb fun e w' => e = .returned (codVal (lsym x) (x - lenBase (lsym x)) (lenBits (lsym x))) ∧ But [] wb w') := Lib.hid (symbolOf_mat wb x z y a1 a2)
        have HDY : Hid (∀ W : World, Calls Tryz.prog 78 #[.agg #[.int .i64 (y : Int), .int .i64 (x : Int), .int .i64 (z : Int)]] W fun e w' => e = .returned (codVal (dsym z) (z - dstBase (dsym z)) (dstBits (dsym z))) ∧ But [] W w') := Lib.hid (fun W => distanceOf_any W x z y a3 a4)
        have x0 : decide ((0 : Int) < (x : Int)) = true := by simp; omega
        have x0' : decide (0 < x) = true := by simp; omega
        clear eT hx b4 d3 b3 d2
        obtain ⟨S1, hS1⟩ : ∃ S1, S1 = lsym x := ⟨_, rfl⟩
        obtain ⟨S2, hS2⟩ : ∃ S2, S2 = dsym z := ⟨_, rfl⟩
        rw [← hS1] at HSY a5 HE f1 f2 f3 f5 hfw b1 b2
        simp only [← hS2] at HDY a6 HE f6 f3 hfw d1
        obtain ⟨V1, hV1⟩ : ∃ V1, V1 = x - lenBase S1 := ⟨_, rfl⟩
        obtain ⟨V2, hV2⟩ : ∃ V2, V2 = z - dstBase S2 := ⟨_, rfl⟩
        rw [← hV1] at HSY HE f2 f3 hfw
        simp only [← hV2] at HDY HE hfw
        obtain ⟨M1, hM1⟩ : ∃ M1, M1 = lenBits S1 := ⟨_, rfl⟩
        obtain ⟨M2, hM2⟩ : ∃ M2, M2 = dstBits S2 := ⟨_, rfl⟩
        rw [← hM1] at HSY HE f2 f3 f5 hfw
        simp only [← hM2] at HDY HE hfw f6
        obtain ⟨q2, hq2⟩ : ∃ q2, q2 = layB (layC l q S1) V1 M1 := ⟨_, rfl⟩
        rw [← hq2] at HE f2 f3 hfw
        have HQ2 := Lib.hid hq2
        clear hS1 hS2 hV1 hV2 hM1 hM2 hq2
        go_wp2_with fail
        rw [← HWB.out]
        refine HSY.out.mono ?_
        rintro e wy ⟨rfl, hBy⟩
        obtain ⟨og2, hR2, hlt2, hKp2, hback2⟩ := HP.out.rebase (HBB.out.trans hBy)
        have hloy : lo ≤ wy.heap.size := Nat.le_trans hlo3 (Nat.le_trans HP.out.but.size (HBB.out.trans hBy).size)
        have hcall := lay_pany (m := V1) (e := M1) (hKp2 _ HTL.out) HL15.out hR2 hloy (by omega) a5 (by omega)
        rw [← HQ2.out] at hcall
        have hIy := HIB.out.but hBy (by simp)
        have HCALL := Lib.hid hcall
        have HIY := Lib.hid hIy
        have HLT2 := Lib.hid hlt2
        have HBK2 := Lib.hid hback2
        clear hBy hR2 hlt2 hKp2 hback2 hcall hIy HSY
        unfold codVal at HCALL ⊢
        go_wp2_with fail
        refine HCALL.out.mono ?_
        rintro e wz ⟨rfl, hWz⟩
        have hIz := HIY.out.but hWz.but (fun hk => by have := (HLT2.out _ hk).1; omega)
        have z0 := hIz.cell 0
        have z1 := hIz.cell 1
        have z2 := hIz.cell 2
        have HWz := Lib.hid (HBK2.out _ _ hWz)
        clear hIz hWz c0 c1 c2 HCALL HIY HLT2 HBK2
        go_wp2_with fail
        refine (HDY.out _).mono ?_
        rintro e wd ⟨rfl, hBd⟩
        obtain ⟨og4, hR4, hlt4, hKp4, hback4⟩ := HWz.out.rebase hBd
        have hlod : lo ≤ wd.heap.size := Nat.le_trans hlo3 (Nat.le_trans HWz.out.but.size hBd.size)
        have hcall := lay_pany (m := V2) (e := M2) (hKp4 _ HTD.out) HD15.out hR4 hlod (by omega) a6 (by omega)
        have HCALL := Lib.hid hcall
        have HBK4 := Lib.hid hback4
        clear hBd hR4 hlt4 hKp4 hback4 hcall HDY z0 z1 z2
        unfold codVal at HCALL ⊢
        go_wp2_with fail
        refine HCALL.out.mono ?_
        rintro e wf ⟨rfl, hWf⟩
        have HWf := Lib.hid (HBK4.out _ _ hWf)
        clear hWf HCALL HBK4
        go_wp2
        go_roundw
        case rel => exact ⟨k + 1, by omega, by go_num, Lib.hid (by rw [HNX.out, HE.out]; exact HWf.out), by rw [HNX.out, HE.out]; omega⟩
        case measure => simp [intOf]; omega
    · have hqe : q = layTs l d r ts := by rw [HQ.out, List.take_of_length_le (by have := HLN.out; omega)]
      have HQE := Lib.hid hqe
      have HCALL := Lib.hid (play_one (s := 256) HTL.out HL15.out HP.out hlo3 (by omega) H256.out)
      clear hqe
      go_wp2_with fail
      refine HCALL.out.mono ?_
      rintro e w4 ⟨rfl, hW4⟩
      have HW4 := Lib.hid (HBACK.out _ _ hW4)
      clear hW4
      go_wp2
      go_end0
      exact ⟨rfl, by rw [← HQE.out]; exact HW4.out⟩
end
end Go.Proofs.YtghegmbafbpnjaaGreatDoor
set_option maxRecDepth 100000
set_option linter.unusedVariables false
namespace Go.Proofs.YtghegmbafbpnjaaGreatDoor
set_option maxRecDepth 100000
open Go Go.RowKit
theorem layTs_few {l d : List Int} (hl : ∀ x ∈ l, 0 ≤ x ∧ x ≤ 15) (hd : ∀ x ∈ d, 0 ≤ x ∧ x ≤ 15) : ∀ (ts : List Tk) (q : Nat × Nat), (∀ t ∈ ts, tkHas l d t) → (layTs l d q ts).2 ≤ q.2 + 60 * ts.length
  | [], q, _ => Nat.le_refl _
  | t :: ts, q, h => by
    have h1 := layT_few hl hd (h t (by simp)) q
    have h2 := layTs_few hl hd ts (layT l d q t) (fun x hx => h x (by simp [hx]))
    have e : layTs l d q (t :: ts) = layTs l d (layT l d q t) ts := rfl
    rw [e, List.length_cons]; omega
attribute [local irreducible] layTs layC layB fixL fixD toks textX
theorem OwnI.keep {w : World} {base n c : Nat} {A : Option Addr} {l : List Int} (h : OwnI w base (.slice A n c) l) {S : List Nat} (hS : ∀ k ∈ S, k < base) (hn : n = l.length) : Keep S w fun w' => Ints w' A n l := fun w' hB => by
  have h2 : OwnI w' base (.slice A n c) l := ownsRow_but h hB fun g e hg => by have := (World.ownsRow.lt h g e).1; have := hS g hg; omega
  exact h2.ints_of hn
theorem Ints.keep {w w1 : World} {n : Nat} {A : Option Addr} {l : List Int} (h : Ints w A n l) (hB : But [] w w1) {S : List Nat} (hS : ∀ k ∈ S, w.heap.size ≤ k) : Keep S w1 fun w' => Ints w' A n l := fun w' hw => h.but (hB.fresh hw hS) (by simp)
theorem Tks.keep {w w1 : World} {n : Nat} {A : Option Addr} {L : List T3} (h : Tks w A n L) (hB : But [] w w1) {S : List Nat} (hS : ∀ k ∈ S, w.heap.size ≤ k) : Keep S w1 fun w' => Tks w' A n L := fun w' hw => h.but (hB.fresh hw hS)
set_option maxHeartbeats 1000000 in
theorem prepeated_any (x : Int) {n : Nat} (w : World) (hn0 : 0 < n) (hn : n ≤ 100000) :
    Calls Tryz.prog 42 #[.int .i64 x, .int .i64 n] w fun e w' => ∃ gg cc, e = .returned (.slice (some ⟨gg, 0, none⟩) n cc) ∧ OwnI w' w.heap.size (.slice (some ⟨gg, 0, none⟩) n cc) (List.replicate n x) ∧ But [] w w' := by
  have hr := repeat_any x (c := 1) (w := w.alloc (.cells #[.int .i64 x] 3)) (g := w.heap.size) ((Is.fresh w 3 #[.int .i64 x]).cell 0) hn0 hn
  have HR := Lib.hid hr
  clear hr
  go_enter Tryz.func42, Tryz.ntmps42
  go_wp2_with fail
  refine HR.out.mono ?_
  rintro e w' ⟨gg, cc, rfl, hO, hB⟩
  have HO := Lib.hid hO
  have HB := Lib.hid hB
  clear hO hB
  go_wp2
  go_ret
  refine ⟨gg, cc, rfl, ?_, ((But.refl [] w).alloc _).trans HB.out⟩
  have h := HO.out
  unfold OwnI at h ⊢
  refine ⟨h.1, ?_⟩
  rcases h.2 with h2 | ⟨g, cap, cur, h1, h2, h3⟩
  · exact .inl h2
  · exact .inr ⟨g, cap, cur, h1, by simp at h2; omega, h3⟩
theorem fixD_rep : List.replicate 32 (5 : Int) = fixD := by unfold fixD; rfl
/-- What a fixed block lays. -/
def fixedT (ts : List Tk) : Nat × Nat := layC fixL (layTs fixL fixD (layB (layB (0, 0) 1 1) 1 2) ts) 256
set_option maxHeartbeats 2000000 in
theorem fixed_pany (w : World) {A : Option Addr} {n c : Nat} {ts : List Tk} (hK : Tks w A n (ts.map tkI)) (hn : n ≤ 10000) (hh : ∀ t ∈ ts, tkHas fixL fixD t) :
    Calls Tryz.prog 22 #[.slice A n c] w fun e w' => e = .returned (.string (textX (fixedT ts))) ∧ But [] w w' := by
  obtain ⟨q2, hq2, hl2⟩ : ∃ q, q = layB (layB (0, 0) 1 1) 1 2 ∧ q.2 ≤ 3 := ⟨_, rfl, by
    have h1 : (layB (0, 0) 1 1).2 = 1 := by rw [layB_eq (by omega) (by omega)]
    rw [layB_eq (by omega) (by omega)]; show (layB (0, 0) 1 1).2 + 2 ≤ 3; omega⟩
  have hX : fixedT ts = layC fixL (layTs fixL fixD q2 ts) 256 := by unfold fixedT; rw [hq2]
  have hlen : ts.length = n := by have := hK.1; rwa [List.length_map] at this
  have HX := Lib.hid hX
  have HQ2 := Lib.hid hq2
  have HK := Lib.hid hK
  have HH := Lib.hid hh
  have HLEN := Lib.hid hlen
  clear hX hq2 hK hh hlen
  go_enter Tryz.func22, Tryz.ntmps22
  go_wp2_with fail
  refine (new_at w (w.heap.size + 1) w.heap.size rfl).mono ?_
  rintro e w1 ⟨rfl, hS1, hB1, hz1⟩
  have hW1 : WroteP w1 w1 (w.heap.size + 1) w.heap.size none (0, 0) := WroteP.refl hS1
  have hc := begin_pany hW1 (Nat.le_of_eq hz1.symm) (by decide) (last := 1) (kind := 1) (by omega) (by omega)
  rw [← HQ2.out] at hc
  have HC := Lib.hid hc
  have HB1 := Lib.hid hB1
  have HZ1 := Lib.hid hz1
  clear hS1 hB1 hz1 hW1 hc
  go_wp2_with fail
  refine HC.out.mono ?_
  rintro e w2 ⟨rfl, hW2⟩
  have HW2 := Lib.hid hW2
  clear hW2 HC
  go_wp2_with fail
  refine (prepeated_any 8 (n := 144) _ (by omega) (by omega)).mono ?_
  rintro e wa ⟨g1, c1, rfl, hO1, hBa⟩
  have HO1 := Lib.hid hO1
  have HBa := Lib.hid hBa
  clear hO1 hBa
  go_wp2_with fail
  refine (prepeated_any 9 (n := 112) _ (by omega) (by omega)).mono ?_
  rintro e wb ⟨g2, c2, rfl, hO2, hBb⟩
  have HO2 := Lib.hid hO2
  have HBb := Lib.hid hBb
  clear hO2 hBb
  go_wp2_with fail
  refine (prepeated_any 7 (n := 24) _ (by omega) (by omega)).mono ?_
  rintro e wc ⟨g3, c3, rfl, hO3, hBc⟩
  have HO3 := Lib.hid hO3
  have HBc := Lib.hid hBc
  clear hO3 hBc
  go_wp2_with fail
  refine (prepeated_any 8 (n := 8) _ (by omega) (by omega)).mono ?_
  rintro e wd ⟨g4, c4, rfl, hO4, hBd⟩
  have HO4 := Lib.hid hO4
  have HBd := Lib.hid hBd
  clear hO4 hBd
  have hI4 := HO4.out.ints
  have hI3 := HO3.out.ints.but HBd.out (by simp)
  have hI2 := HO2.out.ints.but (HBc.out.trans HBd.out) (by simp)
  have hI1 := HO1.out.ints.but ((HBb.out.trans HBc.out).trans HBd.out) (by simp)
  have hB14 := ((HBa.out.trans HBb.out).trans HBc.out).trans HBd.out
  have hhd := heads4 (t := 58) (c1 := c1) (c2 := c2) (c3 := c3) (c4 := c4) hI1 hI2 hI3 hI4 (by omega) (by omega) (by omega) (by omega)
  have hcc := concat_any (c := 4) hhd (by rw [fixL_flat]; decide +kernel) (by rw [fixL_flat]; decide +kernel) (by simp)
  rw [fixL_flat] at hcc
  have HCC := Lib.hid hcc
  have HB14 := Lib.hid (hB14.alloc (.cells #[.slice (some ⟨g1, 0, none⟩) 144 c1, .slice (some ⟨g2, 0, none⟩) 112 c2, .slice (some ⟨g3, 0, none⟩) 24 c3, .slice (some ⟨g4, 0, none⟩) 8 c4] 58))
  clear hI1 hI2 hI3 hI4 hB14 hhd hcc HO1 HO2 HO3 HO4 HBa HBb HBc HBd
  go_wp2_with fail
  refine HCC.out.mono ?_
  rintro e w5 ⟨v5, rfl, hO5, hB5⟩
  have hB25 := HB14.out.trans hB5
  obtain ⟨A5, c5, rfl, hI5⟩ := own_some hO5 (by decide +kernel)
  have hsz5 := HB14.out.size
  rw [show fixL.length = 288 from by decide +kernel] at *
  have HO5 := Lib.hid hO5
  have HB25 := Lib.hid hB25
  have HSZ5 := Lib.hid hsz5
  clear HCC HB14 hO5 hB5 hI5 hB25 hsz5
  go_wp2_with fail
  refine (prepeated_any 5 (n := 32) _ (by omega) (by omega)).mono ?_
  rintro e w6 ⟨g6, c6, rfl, hO6, hB6⟩
  rw [fixD_rep] at hO6
  have hB26 := HB25.out.trans hB6
  obtain ⟨og', hR, hlt, hKp, hback⟩ := HW2.out.rebase hB26
  have hs5 := HSZ5.out
  have hs25 := HB25.out.size
  have hz1 := HZ1.out
  have hL : Keep (w.heap.size :: og'.toList) w6 fun w' => Ints w' (some A5) 288 fixL := (OwnI.keep (S := w.heap.size :: og'.toList) (OwnI.but HO5.out hB6 (by simp)) (fun k hk => by have := (hlt k hk).1; omega) (by decide +kernel))
  have hD : Keep (w.heap.size :: og'.toList) w6 fun w' => Ints w' (some ⟨g6, 0, none⟩) 32 fixD := OwnI.keep hO6 (fun k hk => by have := (hlt k hk).1; omega) (by decide +kernel)
  have hB12 : But [] w w2 := HB1.out.fresh HW2.out.but (fun i hi => by simp at hi; omega)
  have hK6 : Keep (w.heap.size :: og'.toList) w6 fun w' => Tks w' A n (ts.map tkI) := Tks.keep HK.out (hB12.trans hB26) (fun k hk => by
    rcases (hlt k hk).2 with h | h
    · simp at h; omega
    · omega)
  have hs6 := hB26.size
  have hs12 := hB12.size
  have hs12' := HW2.out.but.size
  have hcall := playTs_any (c := c) (cl := c5) (cd := c6) hL hD hK6 chk_fixL chk_fixD (by omega) (by omega) (fun e => by cases e) (fun e => by cases e) HH.out (hasL (by omega)) (by omega) hR (by omega) (by omega)
  have HCALL := Lib.hid hcall
  have HBACK := Lib.hid hback
  rw [← HX.out] at HCALL
  clear hR hlt hKp hback hs5 hs25 hL hD hK6 hcall hO6 hB6 hB26 hB12 hs6 hs12 hs12'
  go_wp2_with fail
  refine HCALL.out.mono ?_
  rintro e w7 ⟨rfl, hW7⟩
  have hW8 := HBACK.out _ _ hW7
  have hbig : (fixedT ts).2 ≤ 100000000 := by
    rw [HX.out]
    have h1 := layC_few (okl chk_fixL) (layTs fixL fixD q2 ts) 256
    have h2 := layTs_few (okl chk_fixL) (okl chk_fixD) ts q2 HH.out
    have h3 := HLEN.out
    omega
  have HW8 := Lib.hid hW8
  clear hW7 hW8 HCALL HBACK
  go_wp2_with fail
  refine (HW8.out.text (by omega)).mono ?_
  rintro e w9 ⟨rfl, hB9⟩
  have HBe : Hid (But [] w w9) := Lib.hid ((HB1.out.fresh HW8.out.but (fun i hi => by simp at hi; omega)).trans hB9)
  clear hB9 hz1
  go_wp2
  go_ret
  exact ⟨rfl, HBe.out⟩
end Go.Proofs.YtghegmbafbpnjaaGreatDoor
set_option maxRecDepth 100000
set_option linter.unusedVariables false
namespace Go.Proofs.YtghegmbafbpnjaaGreatDoor
set_option maxRecDepth 100000
open Go Go.RowKit
attribute [local irreducible] layTs layC layB fixL fixD toks textX cntA cntB zeroRow dynL inc lsym dsym lims cntR runs ordCells
def ordK (S : List Int) (k : Nat) : List Int := (ordS.take k).map (fun j => S.getD j 0) ++ List.replicate (19 - k) 0
theorem ordK_len (S : List Int) {k : Nat} (hk : k ≤ 19) : (ordK S k).length = 19 := by
  unfold ordK; rw [List.length_append, tellS_len S hk, List.length_replicate]; omega
theorem ordK_set (S : List Int) {k : Nat} (hk : k < 19) : (ordK S k).set k (S.getD (ordS.getD k 0) 0) = ordK S (k + 1) := by
  unfold ordK
  rw [tellS_snoc S hk, List.set_append_right _ _ (by rw [tellS_len S (by omega)]; exact Nat.le_refl _), tellS_len S (by omega), Nat.sub_self]
  obtain ⟨m, hm⟩ : ∃ m, 19 - k = m + 1 := ⟨19 - k - 1, by omega⟩
  rw [hm, show 19 - (k + 1) = m from by omega, List.replicate_succ, List.set_cons_zero, List.append_assoc]; rfl
theorem ordK_end (S : List Int) : ordK S 19 = ordS.map (fun j => S.getD j 0) := by
  unfold ordK; rw [show 19 - 19 = 0 from rfl, List.replicate_zero, List.append_nil, List.take_of_length_le (Nat.le_refl 19)]
theorem ordK_zero (S : List Int) : ordK S 0 = List.replicate 19 0 := rfl
attribute [local irreducible] ordK
set_option maxHeartbeats 1000000 in
theorem ordered_pany (w : World) (hG : GD w) {A : Option Addr} {c : Nat} {S : List Int} (hI : Ints w A 19 S) :
    Calls Tryz.prog 83 #[.slice A 19 c] w fun e w' => e = .returned (.slice (some ⟨w.heap.size, 0, none⟩) 19 19) ∧ Row w' w.heap.size 3 (ordS.map (fun j => S.getD j 0)) ∧ But [] w w' := by
  have hSl := hI.1
  obtain ⟨g, o, rfl, hg, hc0⟩ := hI.at (show 0 < 19 by omega)
  clear hc0
  have hcl : ∀ k, k < 19 → w.cell? ⟨g, o + k, none⟩ = some (.int .i64 (S.getD k 0)) := fun k hk => by
    obtain ⟨g2, o2, e, _, hc⟩ := hI.at hk
    injection e with e
    injection e with e1 e2
    subst e1 e2
    rw [hc, List.getD_eq_getElem?_getD, List.getElem?_eq_getElem (by omega)]; rfl
  have HCL := Lib.hid hcl
  have hmkS : ∀ W : World, (Instr.makeSlice 58 (.int .i64 19) (.int .i64 19)).run Tryz.prog W = .ok (.slice (some ⟨W.heap.size, 0, none⟩) 19 19) (W.alloc (.cells (zeroRow 19) 3)) := fun W => run_zeros 19 (by omega) W
  have hr0 := row_zeros w 19
  rw [← ordK_zero S] at hr0
  have hB0 := (But.refl [] w).alloc (.cells (zeroRow 19) 3)
  have HROW := Lib.hid hr0
  have HBW := Lib.hid hB0
  have HG1 := Lib.hid (hG.but hB0)
  clear hr0 hB0 hG hcl hI hSl
  go_enter Tryz.func83, Tryz.ntmps83
  go_wp2_with (refine wpList_load_order rfl _ rfl rfl HG1.out ?_)
  go_loopw [8] (fun iv wr => ∃ k : Nat, k ≤ 19 ∧ iv = .int .i64 k ∧ Hid (Row wr w.heap.size 3 (ordK S k)) ∧ Hid (But [] w wr)) (fun iv _ => 19 - (intOf iv).toNat)
  case atStart => exact ⟨0, Nat.zero_le _, rfl, HROW, HBW⟩
  case round =>
    obtain ⟨k, hk, rfl, HA, HB⟩ := hrel
    clear HROW HBW hmkS
    by_cases hlt : k < 19
    · have hoi := run_ord_at k hlt
      have hol := ordS_lt hlt
      have hst := ordK_set S hlt
      obtain ⟨oi, hoi2⟩ : ∃ oi, oi = ordS.getD k 0 := ⟨_, rfl⟩
      rw [← hoi2] at hol hst
      simp only [← hoi2] at hoi
      have c0 := HB.out.cell (HCL.out oi hol) (by simp)
      obtain ⟨x, hx⟩ : ∃ x, x = S.getD oi 0 := ⟨_, rfl⟩
      rw [← hx] at c0 hst
      have f0 := HA.out.at (i := k) (by rw [ordK_len S (by omega)]; exact hlt)
      have f1 := HA.out.free k
      obtain ⟨v0, hv0⟩ : ∃ v, v = (ordK S k).getD k 0 := ⟨_, rfl⟩
      rw [← hv0] at f0
      have hnx := HA.out.set k x
      rw [hst] at hnx
      have hbw := HB.out.setCell (p := ⟨w.heap.size, k, none⟩) (.inr (Nat.le_refl _)) (.int .i64 x)
      have HNX := Lib.hid hnx
      have HBW3 := Lib.hid hbw
      have k0 : (0 : Int) ≤ (k : Int) := by omega
      have k1 : (k : Int) < 19 := by omega
      have o0 : (0 : Int) ≤ (oi : Int) := by omega
      have o1 : (oi : Int) < 19 := by omega
      clear hoi2 hst hx hnx hbw hv0
      go_wp2
      go_roundw
      case rel => exact ⟨k + 1, by omega, by go_num, HNX, HBW3⟩
      case measure => simp [intOf]; omega
    · obtain rfl : k = 19 := by omega
      rw [ordK_end] at HA
      go_wp2
      go_ret
      exact ⟨rfl, HA.out, HB.out⟩
theorem heads2 {w : World} {A1 A2 : Addr} {l1 l2 : List Int} {n1 n2 c1 c2 : Nat} {t : TypeId} (h1 : Ints w (some A1) n1 l1) (h2 : Ints w (some A2) n2 l2) (p1 : 0 < n1) (p2 : 0 < n2) :
    Heads (w.alloc (.cells #[.slice (some A1) n1 c1, .slice (some A2) n2 c2] t)) w.heap.size [.slice (some A1) n1 c1, .slice (some A2) n2 c2] [l1, l2] := by
  have hI := Is.fresh w t #[.slice (some A1) n1 c1, .slice (some A2) n2 c2]
  have hB := but_alloc w (.cells #[.slice (some A1) n1 c1, .slice (some A2) n2 c2] t)
  have q1 := h1.but hB (by simp)
  have q2 := h2.but hB (by simp)
  obtain rfl := h1.1
  obtain rfl := h2.1
  unfold Heads
  refine ⟨rfl, fun i hi => ?_⟩
  match i, hi with
  | 0, _ => exact ⟨hI.cell 0, A1, c1, rfl, q1, p1⟩
  | 1, _ => exact ⟨hI.cell 1, A2, c2, rfl, q2, p2⟩
theorem OwnP.keep {w : World} {base n c : Nat} {A : Option Addr} {L : List (Int × Nat)} (h : OwnP w base (.slice A n c) L) {S : List Nat} (hS : ∀ k ∈ S, k < base) : Keep S w fun w' => Qs w' A n L := fun w' hB => by
  have h2 : OwnP w' base (.slice A n c) L := ownsRow_but h hB fun g e hg => by have := (World.ownsRow.lt h g e).1; have := hS g hg; omega
  obtain ⟨A2, c2, e, hT⟩ := h2.open
  injection e with e1 e2 e3
  subst e1 e2
  exact hT
end Go.Proofs.YtghegmbafbpnjaaGreatDoor
