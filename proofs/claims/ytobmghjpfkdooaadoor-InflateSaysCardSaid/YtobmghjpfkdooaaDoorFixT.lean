/- The program's tables of fixed blocks. -/
import Derived.Test.YtobmghjpfkdooaaDoorInfZ
import Derived.Test.YtobmghjpfkdooaaDoorMkT
import Derived.Test.YtobmghjpfkdooaaDoorCat
namespace Go.Proofs.YtobmghjpfkdooaaDoor
set_option maxRecDepth 100000
open Go Go.RowKit

section
variable {w w' : World} {b rb db : Nat} {og : Option Nat} {s : ByteArray} {p : Nat} {M : Int} {L : List UInt8} {fs fd : Option Nat}
/-- The tables of fixed blocks, where they have been made. -/
def FX (w : World) (F : List Nat) (fs fd : Option Nat) : Prop :=
  (fs = none ∧ fd = none) ∨ ∃ f1 f2, fs = some f1 ∧ fd = some f2 ∧ Keep F w (fun w' => TT w' f1 fixL) ∧ Keep F w (fun w' => TT w' f2 fixD)
theorem FX.mv {og og' : Option Nat} {X : List Nat} (h : FX w (X ++ Foot b rb og) fs fd) (hM : Mv b rb w w' og og') : FX w' (X ++ Foot b rb og') fs fd := by
  rcases h with h | ⟨f1, f2, h1, h2, h3, h4⟩
  · exact .inl h
  · exact .inr ⟨f1, f2, h1, h2, hM.keepX h3, hM.keepX h4⟩
theorem FX.step {F F' : List Nat} (h : FX w F fs fd) (hB : But F w w') (hF : ∀ i ∈ F', i ∈ F ∨ w.heap.size ≤ i) : FX w' F' fs fd := by
  rcases h with h | ⟨f1, f2, h1, h2, h3, h4⟩
  · exact .inl h
  · exact .inr ⟨f1, f2, h1, h2, h3.step hB hF, h4.step hB hF⟩
def GotF (X : List Nat) (w : World) (b rb db : Nat) (og : Option Nat) (s : ByteArray) (p : Nat) (M : Int) (L : List UInt8) (e : Ending) (w' : World) : Prop :=
  ∃ f1 f2, e = .returned (.tuple #[.agg #[ptr (some f1), ptr (some f2)], .int .i64 0]) ∧ Mv b rb w w' og og ∧ SS w' b rb db og s p M L (some f1) (some f2) ∧ FX w' (X ++ Foot b rb og) (some f1) (some f2)
/-- The stream with its tables of fixed blocks. -/
theorem SS.fix (h : SS w b rb db og s p M L fs fd) (f1 f2 : Nat) :
    SS ((w.setCell ⟨b, 3, none⟩ (ptr (some f1))).setCell ⟨b, 4, none⟩ (ptr (some f2))) b rb db og s p M L (some f1) (some f2) ∧ Mv b rb w ((w.setCell ⟨b, 3, none⟩ (ptr (some f1))).setCell ⟨b, 4, none⟩ (ptr (some f2))) og og := by
  have hlt := h.lt
  have hd := h.hd
  have hr := h.hr
  have hout := h.out
  obtain ⟨ov, h1, h2, h3⟩ := h.cells
  have hB : But [b] w ((w.setCell ⟨b, 3, none⟩ (ptr (some f1))).setCell ⟨b, 4, none⟩ (ptr (some f2))) := ((But.refl [b] w).setCell (.inl (by simp)) _).setCell (.inl (by simp)) _
  refine ⟨⟨h.rs.but hB (by simp; omega) (by simp; omega), hd, hr, h.hs, h.hM, h.hL, ov, ?_, ownsRow_but h2 hB fun g hg hk => ?_, h3⟩, Mv.of hB fun k hk => .inl ?_⟩
  · simpa using (h1.put 3 (ptr (some f1))).put 4 (ptr (some f2))
  · have := hout g (h3 ▸ hg)
    simp at hk; omega
  · simp at hk; subst hk; simp [Foot]
theorem fixL_flat : [List.replicate 144 (8 : Int), List.replicate 112 9, List.replicate 24 7, List.replicate 8 8].flatten = fixL := by
  unfold fixL; simp

theorem heads4 {w : World} {A1 A2 A3 A4 : Addr} {l1 l2 l3 l4 : List Int} {n1 n2 n3 n4 c1 c2 c3 c4 : Nat} {t : TypeId} (h1 : Ints w (some A1) n1 l1) (h2 : Ints w (some A2) n2 l2) (h3 : Ints w (some A3) n3 l3) (h4 : Ints w (some A4) n4 l4)
    (p1 : 0 < n1) (p2 : 0 < n2) (p3 : 0 < n3) (p4 : 0 < n4) :
    Heads (w.alloc (.cells #[.slice (some A1) n1 c1, .slice (some A2) n2 c2, .slice (some A3) n3 c3, .slice (some A4) n4 c4] t)) w.heap.size [.slice (some A1) n1 c1, .slice (some A2) n2 c2, .slice (some A3) n3 c3, .slice (some A4) n4 c4] [l1, l2, l3, l4] := by
  have hI := Is.fresh w t #[.slice (some A1) n1 c1, .slice (some A2) n2 c2, .slice (some A3) n3 c3, .slice (some A4) n4 c4]
  have hB := but_alloc w (.cells #[.slice (some A1) n1 c1, .slice (some A2) n2 c2, .slice (some A3) n3 c3, .slice (some A4) n4 c4] t)
  have q1 := h1.but hB (by simp)
  have q2 := h2.but hB (by simp)
  have q3 := h3.but hB (by simp)
  have q4 := h4.but hB (by simp)
  obtain rfl := h1.1
  obtain rfl := h2.1
  obtain rfl := h3.1
  obtain rfl := h4.1
  unfold Heads
  refine ⟨rfl, fun i hi => ?_⟩
  match i, hi with
  | 0, _ => exact ⟨hI.cell 0, A1, c1, rfl, q1, p1⟩
  | 1, _ => exact ⟨hI.cell 1, A2, c2, rfl, q2, p2⟩
  | 2, _ => exact ⟨hI.cell 2, A3, c3, rfl, q3, p3⟩
  | 3, _ => exact ⟨hI.cell 3, A4, c4, rfl, q4, p4⟩
set_option maxHeartbeats 1000000 in
theorem fixedTables_any {X : List Nat} (h : SS w b rb db og s p M L fs fd) (hX : ∀ k ∈ X, k < w.heap.size) (hF : FX w (X ++ Foot b rb og) fs fd) :
    Calls Tryd.prog 29 #[.pointer (some ⟨b, 0, none⟩)] w (GotF X w b rb db og s p M L) := by
  have h1 := h.alloc (.cells #[.pointer none, .pointer none] 36)
  have m1 := Mv.alloc (b := b) (rb := rb) (w := w) (og := og) (.cells #[.pointer none, .pointer none] 36)
  have hI := Is.fresh w 36 #[.pointer none, .pointer none]
  have hF1 := hF.mv m1
  have hwb := h.lt
  have hfl := foot_lt h
  have HXL := Lib.hid hX
  clear hX
  have hb0 := but_alloc w (.cells #[.pointer none, .pointer none] 36)
  rcases hF with ⟨rfl, rfl⟩ | ⟨f1, f2, rfl, rfl, hf1, hf2⟩
  · obtain ⟨ov, hi, _, _⟩ := h1.cells
    have k3 : (w.alloc (.cells #[.pointer none, .pointer none] 36)).cell? ⟨b, 3, none⟩ = some (.pointer none) := hi.cell 3
    have HS := Lib.hid h1
    have HM := Lib.hid m1
    have HI := Lib.hid hI
    have HB0 := Lib.hid hb0
    have HFL := Lib.hid hfl
    clear h h1 m1 hI hi hF1 hb0 hfl
    go_enter Tryd.func29, Tryd.ntmps29
    go_wp2_with fail
    refine (repeated_any 8 (n := 144) _ (by omega) (by omega)).mono ?_
    rintro e w1 ⟨g1, c1, rfl, hO1, hB1⟩
    have HO1 := Lib.hid hO1
    have HB1 := Lib.hid hB1
    clear hO1 hB1
    go_wp2_with fail
    refine (repeated_any 9 (n := 112) _ (by omega) (by omega)).mono ?_
    rintro e w2 ⟨g2, c2, rfl, hO2, hB2⟩
    have HO2 := Lib.hid hO2
    have HB2 := Lib.hid hB2
    clear hO2 hB2
    go_wp2_with fail
    refine (repeated_any 7 (n := 24) _ (by omega) (by omega)).mono ?_
    rintro e w3 ⟨g3, c3, rfl, hO3, hB3⟩
    have HO3 := Lib.hid hO3
    have HB3 := Lib.hid hB3
    clear hO3 hB3
    go_wp2_with fail
    refine (repeated_any 8 (n := 8) _ (by omega) (by omega)).mono ?_
    rintro e w4 ⟨g4, c4, rfl, hO4, hB4⟩
    have HO4 := Lib.hid hO4
    have HB4 := Lib.hid hB4
    clear hO4 hB4
    have hI4 := HO4.out.ints
    have hI3 := HO3.out.ints.but HB4.out (by simp)
    have hI2 := HO2.out.ints.but (HB3.out.trans HB4.out) (by simp)
    have hI1 := HO1.out.ints.but ((HB2.out.trans HB3.out).trans HB4.out) (by simp)
    have hB14 := ((HB1.out.trans HB2.out).trans HB3.out).trans HB4.out
    have hhd := heads4 (t := 48) (c1 := c1) (c2 := c2) (c3 := c3) (c4 := c4) hI1 hI2 hI3 hI4 (by omega) (by omega) (by omega) (by omega)
    have hcc := concat_any (c := 4) hhd (by rw [fixL_flat]; decide +kernel) (by rw [fixL_flat]; decide +kernel) (by simp)
    rw [fixL_flat] at hcc
    have HCC := Lib.hid hcc
    have HB14 := Lib.hid (hB14.alloc (.cells #[.slice (some ⟨g1, 0, none⟩) 144 c1, .slice (some ⟨g2, 0, none⟩) 112 c2, .slice (some ⟨g3, 0, none⟩) 24 c3, .slice (some ⟨g4, 0, none⟩) 8 c4] 48))
    clear hI1 hI2 hI3 hI4 hB14 hhd hcc HO1 HO2 HO3 HO4 HB1 HB2 HB3 HB4
    go_wp2_with fail
    refine HCC.out.mono ?_
    rintro e w5 ⟨v5, rfl, hO5, hB5⟩
    have hB15 := HB14.out.trans hB5
    obtain ⟨A5, c5, rfl, hI5⟩ := own_some hO5 (by decide +kernel)
    have HI5 := Lib.hid hI5
    have HB15 := Lib.hid hB15
    clear HCC HB14 hO5 hB5 hI5 hB15
    rw [show fixL.length = 288 from by decide +kernel] at *
    go_wp2_with fail
    refine (repeated_any 5 (n := 32) _ (by omega) (by omega)).mono ?_
    rintro e w6 ⟨g6, c6, rfl, hO6, hB6⟩
    have hI6 := hO6.ints
    have hI5 := HI5.out.but hB6 (by simp)
    have hB16 := HB15.out.trans hB6
    have hmt := makeTables_any (cA := c5) (cB := c6) hI5 hI6 (by omega) (by omega) (fun e => by cases e) (fun e => by cases e)
    have HMT := Lib.hid hmt
    have HB16 := Lib.hid hB16
    clear hO6 hB6 hI6 hI5 hB16 hmt HI5 HB15
    go_wp2_with fail
    refine HMT.out.mono ?_
    rintro e w7 ⟨p1, p2, er, rfl, hB7, he1, he2⟩
    have her : er = 0 := Classical.byContradiction fun hne => by
      rcases (he1 hne).2.2 with h | ⟨_, h⟩
      · exact hne (h.symm.trans chk_fixL)
      · exact hne (h.symm.trans chk_fixD)
    subst her
    obtain ⟨_, _, b1, b2, e1, e2, hT1, hT2⟩ := he2 rfl
    obtain rfl : p1 = .pointer (some ⟨b1, 0, none⟩) := e1
    obtain rfl : p2 = .pointer (some ⟨b2, 0, none⟩) := e2
    have hBa := HB16.out.trans hB7
    have hSa := HS.out.but hBa (by simp)
    have hIa := HI.out.but hBa (by simp)
    have hsz6 := HB16.out.size
    obtain ⟨ov7, hi7, _, _⟩ := hSa.cells
    have k3 : w7.cell? ⟨b, 3, none⟩ = some (.pointer none) := hi7.cell 3
    have k4 : w7.cell? ⟨b, 4, none⟩ = some (.pointer none) := hi7.cell 4
    have l3 : w7.frozen? ⟨b, 3, none⟩ = false := hi7.free 3
    have l4 : w7.frozen? ⟨b, 4, none⟩ = false := hi7.free 4
    have k0 : w7.cell? ⟨w.heap.size, 0, none⟩ = some (.pointer none) := hIa.cell 0
    have k1 : w7.cell? ⟨w.heap.size, 1, none⟩ = some (.pointer none) := hIa.cell 1
    have l0 : w7.frozen? ⟨w.heap.size, 0, none⟩ = false := hIa.free 0
    have l1 : w7.frozen? ⟨w.heap.size, 1, none⟩ = false := hIa.free 1
    have hbl := hSa.lt
    have hrl := hIa.lt
    have hne : b ≠ w.heap.size := by omega
    have hne' : w.heap.size ≠ b := by omega
    have HSa := Lib.hid hSa
    have HIa := Lib.hid hIa
    have HT1 := Lib.hid hT1
    have HT2 := Lib.hid hT2
    have HBa := Lib.hid hBa
    clear he1 he2 hB7 hBa hSa hIa hi7 hT1 hT2 HMT
    go_wp2
    obtain ⟨s8, _⟩ := HSa.out.fix b1 b2
    have hbw : But [] w w7 := HB0.out.trans HBa.out
    have hb8 : But [b] w7 ((w7.setCell ⟨b, 3, none⟩ (.pointer (some ⟨b1, 0, none⟩))).setCell ⟨b, 4, none⟩ (.pointer (some ⟨b2, 0, none⟩))) := ((But.refl [b] w7).setCell (.inl (by simp)) _).setCell (.inl (by simp)) _
    have hbf : But (Foot b rb og) w ((w7.setCell ⟨b, 3, none⟩ (.pointer (some ⟨b1, 0, none⟩))).setCell ⟨b, 4, none⟩ (.pointer (some ⟨b2, 0, none⟩))) := ((hbw.more (by simp)).setCell (.inl (by simp [Foot])) _).setCell (.inl (by simp [Foot])) _
    have i8 := HIa.out.but hb8 (by simp; omega)
    change SS ((w7.setCell ⟨b, 3, none⟩ (.pointer (some ⟨b1, 0, none⟩))).setCell ⟨b, 4, none⟩ (.pointer (some ⟨b2, 0, none⟩))) b rb db og s p M L (some b1) (some b2) at s8
    have hb9' : But [b, w.heap.size] w7 ((((w7.setCell ⟨b, 3, none⟩ (.pointer (some ⟨b1, 0, none⟩))).setCell ⟨b, 4, none⟩ (.pointer (some ⟨b2, 0, none⟩))).setCell ⟨w.heap.size, 0, none⟩ (.pointer (some ⟨b1, 0, none⟩))).setCell ⟨w.heap.size, 1, none⟩ (.pointer (some ⟨b2, 0, none⟩))) :=
      ((hb8.more (by simp)).setCell (.inl (by simp)) _).setCell (.inl (by simp)) _
    generalize ((w7.setCell ⟨b, 3, none⟩ (.pointer (some ⟨b1, 0, none⟩))).setCell ⟨b, 4, none⟩ (.pointer (some ⟨b2, 0, none⟩))) = w8 at *
    obtain ⟨i9, hb9⟩ := pair_in (p1 := .pointer (some ⟨b1, 0, none⟩)) (p2 := .pointer (some ⟨b2, 0, none⟩)) i8
    have s9 := s8.away hb9 (fun k hk => by
      have hd := s8.hd
      obtain rfl : k = w.heap.size := by simpa using hk
      exact ⟨fun h => by have := HFL.out _ h; omega, by omega⟩)
    have hbf9 : But (Foot b rb og) w ((w8.setCell ⟨w.heap.size, 0, none⟩ (.pointer (some ⟨b1, 0, none⟩))).setCell ⟨w.heap.size, 1, none⟩ (.pointer (some ⟨b2, 0, none⟩))) := (hbf.setCell (.inr (Nat.le_refl _)) _).setCell (.inr (Nat.le_refl _)) _
    generalize ((w8.setCell ⟨w.heap.size, 0, none⟩ (.pointer (some ⟨b1, 0, none⟩))).setCell ⟨w.heap.size, 1, none⟩ (.pointer (some ⟨b2, 0, none⟩))) = w9 at *
    have i10 := i9.alloc (.cells #[.pointer (some ⟨b1, 0, none⟩), .pointer (some ⟨b2, 0, none⟩)] 36)
    have s10 := s9.alloc (.cells #[.pointer (some ⟨b1, 0, none⟩), .pointer (some ⟨b2, 0, none⟩)] 36)
    have hbf10 := hbf9.alloc (.cells #[.pointer (some ⟨b1, 0, none⟩), .pointer (some ⟨b2, 0, none⟩)] 36)
    have hb10 := hb9'.alloc (.cells #[.pointer (some ⟨b1, 0, none⟩), .pointer (some ⟨b2, 0, none⟩)] 36)
    generalize w9.alloc (.cells #[.pointer (some ⟨b1, 0, none⟩), .pointer (some ⟨b2, 0, none⟩)] 36) = wf at *
    have hlo : w.heap.size + 1 ≤ w6.heap.size := by simpa using hsz6
    have hkp : ∀ k ∈ [b, w.heap.size], k < w6.heap.size := fun k hk => by
      rcases List.mem_cons.1 hk with e | e
      · omega
      · simp at e; omega
    have t1 := (HT1.out.but hb10 hkp).keep (F := X ++ Foot b rb og) (fun k hk => by rcases List.mem_append.1 hk with hk | hk; (have := HXL.out k hk; omega); (have := HFL.out k hk; omega))
    have t2 := (HT2.out.but hb10 hkp).keep (F := X ++ Foot b rb og) (fun k hk => by rcases List.mem_append.1 hk with hk | hk; (have := HXL.out k hk; omega); (have := HFL.out k hk; omega))
    have c0 : wf.cell? ⟨w.heap.size, 0, none⟩ = some (.pointer (some ⟨b1, 0, none⟩)) := i10.cell 0
    have c1 : wf.cell? ⟨w.heap.size, 1, none⟩ = some (.pointer (some ⟨b2, 0, none⟩)) := i10.cell 1
    refine bodyPost_ret (v := .tuple #[.agg #[.pointer (some ⟨b1, 0, none⟩), .pointer (some ⟨b2, 0, none⟩)], .int .i64 0]) (by simp [results, Tryd.results29, go_sem, c0, c1]) rfl ?_
    exact ⟨b1, b2, rfl, ⟨hbf10, fun g hg => .inl hg⟩, s10, .inr ⟨b1, b2, rfl, rfl, t1, t2⟩⟩
  · obtain ⟨ov, hi, _, _⟩ := h1.cells
    have hi3 : (w.alloc (.cells #[.pointer none, .pointer none] 36)).cell? ⟨b, 3, none⟩ = some (.pointer (some ⟨f1, 0, none⟩)) := hi.cell 3
    have hi4 : (w.alloc (.cells #[.pointer none, .pointer none] 36)).cell? ⟨b, 4, none⟩ = some (.pointer (some ⟨f2, 0, none⟩)) := hi.cell 4
    have ha : But [] w (w.alloc (.cells #[.pointer (some ⟨f1, 0, none⟩), .pointer (some ⟨f2, 0, none⟩)] 36)) := but_alloc w _
    have m2 : Mv b rb w (w.alloc (.cells #[.pointer (some ⟨f1, 0, none⟩), .pointer (some ⟨f2, 0, none⟩)] 36)) og og := Mv.of ha (by simp)
    have s2 := h.alloc (.cells #[.pointer (some ⟨f1, 0, none⟩), .pointer (some ⟨f2, 0, none⟩)] 36)
    have i2 := Is.fresh w 36 #[.pointer (some ⟨f1, 0, none⟩), .pointer (some ⟨f2, 0, none⟩)]
    have t1 := m2.keepX hf1
    have t2 := m2.keepX hf2
    have HS := Lib.hid s2
    have HM := Lib.hid m2
    have HI := Lib.hid i2
    have HT1 := Lib.hid t1
    have HT2 := Lib.hid t2
    clear h h1 m1 hI hi hF1 hb0 hfl ha m2 s2 i2 t1 t2 hf1 hf2
    go_enter Tryd.func29, Tryd.ntmps29
    go_wp2
    have c0 := HI.out.cell 0
    have c1 := HI.out.cell 1
    refine bodyPost_ret (v := .tuple #[.agg #[.pointer (some ⟨f1, 0, none⟩), .pointer (some ⟨f2, 0, none⟩)], .int .i64 0]) (by simp [results, Tryd.results29, go_sem, c0, c1]) rfl ?_
    exact ⟨f1, f2, rfl, HM.out, HS.out, .inr ⟨f1, f2, rfl, rfl, HT1.out, HT2.out⟩⟩
end
end Go.Proofs.YtobmghjpfkdooaaDoor
