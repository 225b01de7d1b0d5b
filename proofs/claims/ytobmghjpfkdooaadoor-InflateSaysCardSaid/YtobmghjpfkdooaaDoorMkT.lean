/- The program's pair of tables. -/
import Derived.Test.YtobmghjpfkdooaaDoorInfX
import Derived.Test.YtobmghjpfkdooaaDoorRep
namespace Go.Proofs.YtobmghjpfkdooaaDoor
set_option maxRecDepth 100000
open Go Go.RowKit

/-- Tables that a call has just made, or an error. -/
def GotT (w : World) (l d : List Int) (e : Ending) (w' : World) : Prop :=
  ∃ (p1 p2 : Value) (er : Int), e = .returned (.tuple #[.agg #[p1, p2], .int .i64 er]) ∧ But [] w w' ∧ (er ≠ 0 → p1 = .pointer none ∧ p2 = .pointer none ∧ (chk l = er ∨ (chk l = 0 ∧ chk d = er))) ∧
    (er = 0 → chk l = 0 ∧ chk d = 0 ∧ ∃ b1 b2, p1 = ptr (some b1) ∧ p2 = ptr (some b2) ∧ NewT w.heap.size w' b1 l ∧ NewT w.heap.size w' b2 d)
theorem NewT.lower {lo lo' b : Nat} {w : World} {l : List Int} (h : NewT lo w b l) (hl : lo' ≤ lo) : NewT lo' w b l := by
  obtain ⟨Ao, co, Al, cl, Ac, cc, h1, h2, h3, h4, h5, h6, h7, h8⟩ := h
  exact ⟨Ao, co, Al, cl, Ac, cc, h1, h2, h3, h4, by omega, fun a e => Nat.le_trans hl (h6 a e), fun a e => Nat.le_trans hl (h7 a e), fun a e => Nat.le_trans hl (h8 a e)⟩

/-- What a pair of tables in a block of the call's own reads as. -/
theorem pair_put {w w2 : World} {k : Nat} {t : TypeId} {x y p1 p2 : Value} (hI : Is w2 k t #[x, y]) (hB : But [] w w2) (hk : w.heap.size ≤ k) :
    Is ((w2.setCell ⟨k, 0, none⟩ p1).setCell ⟨k, 1, none⟩ p2) k t #[p1, p2] ∧ But [] w ((w2.setCell ⟨k, 0, none⟩ p1).setCell ⟨k, 1, none⟩ p2) ∧ But [k] w2 ((w2.setCell ⟨k, 0, none⟩ p1).setCell ⟨k, 1, none⟩ p2) := by
  refine ⟨?_, ?_, ?_⟩
  · simpa using (hI.put 0 p1).put 1 p2
  · exact (hB.setCell (.inr hk) _).setCell (.inr hk) _
  · exact ((But.refl [k] w2).setCell (.inl (by simp)) _).setCell (.inl (by simp)) _
theorem pair_in {w : World} {k : Nat} {t : TypeId} {x y p1 p2 : Value} (hI : Is w k t #[x, y]) :
    Is ((w.setCell ⟨k, 0, none⟩ p1).setCell ⟨k, 1, none⟩ p2) k t #[p1, p2] ∧ But [k] w ((w.setCell ⟨k, 0, none⟩ p1).setCell ⟨k, 1, none⟩ p2) :=
  ⟨by simpa using (hI.put 0 p1).put 1 p2, ((But.refl [k] w).setCell (.inl (by simp)) _).setCell (.inl (by simp)) _⟩
theorem but_alloc (w : World) (o : Obj) : But [] w (w.alloc o) := (But.refl [] w).alloc o

theorem makeTables_any {w : World} {A B : Option Addr} {n m cA cB : Nat} {l d : List Int} (hl : Ints w A n l) (hd : Ints w B m d) (hn : n * 8 ≤ 140737488351232) (hm : m * 8 ≤ 140737488351232)
    (hA : A = none → cA = 0) (hB : B = none → cB = 0) :
    Calls Tryd.prog 42 #[.slice A n cA, .slice B m cB] w (GotT w l d) := by
  have hB0 : But [] w (w.alloc (.cells #[.pointer none, .pointer none] 36)) := (But.refl [] w).alloc _
  have hI := Is.fresh w 36 #[.pointer none, .pointer none]
  have hl1 := hl.but hB0 (by simp)
  have hd1 := hd.but hB0 (by simp)
  have hn1 : n ≤ maxLen := by unfold maxLen; omega
  have hm1 : m ≤ maxLen := by unfold maxLen; omega
  by_cases hc : chk l = 0
  · have hmk := make_new (cap := cA) hl1 hn hA hc
    have HMK := Lib.hid hmk
    have HI := Lib.hid hI
    have HD := Lib.hid hd1
    have HC := Lib.hid hc
    have HHB := Lib.hid hB
    have HB0 := Lib.hid hB0
    clear hmk hl hd hl1 hd1 hA hc hI hB hB0
    go_enter Tryd.func42, Tryd.ntmps42
    go_wp2_with fail
    refine HMK.out.mono ?_
    rintro e w1 ⟨b1, rfl, hT1, hB1⟩
    have hI1 := HI.out.but hB1 (by simp)
    have hd2 := HD.out.but hB1 (by simp)
    have hB01 := HB0.out.trans hB1
    by_cases hc2 : chk d = 0
    · have hmk2 := make_new (cap := cB) hd2 hm HHB.out hc2
      have HMK2 := Lib.hid hmk2
      have HI1 := Lib.hid hI1
      have HT1 := Lib.hid hT1
      have HB01 := Lib.hid hB01
      have HC2 := Lib.hid hc2
      clear hmk2 hI1 hT1 hB01 hB1 hd2 hc2 HMK
      go_wp2_with fail
      refine HMK2.out.mono ?_
      rintro e w2 ⟨b2, rfl, hT2, hB2⟩
      have hI2 := HI1.out.but hB2 (by simp)
      have g0 : w2.cell? ⟨w.heap.size, 0, none⟩ = some (.pointer none) := hI2.cell 0
      have g1 : w2.cell? ⟨w.heap.size, 1, none⟩ = some (.pointer none) := hI2.cell 1
      have f0 : w2.frozen? ⟨w.heap.size, 0, none⟩ = false := hI2.free 0
      have f1 : w2.frozen? ⟨w.heap.size, 1, none⟩ = false := hI2.free 1
      obtain ⟨q1, q2, q3⟩ := pair_put (p1 := .pointer (some ⟨b1, 0, none⟩)) (p2 := .pointer (some ⟨b2, 0, none⟩)) hI2 (HB01.out.trans hB2) (Nat.le_refl _)
      have t1 := ((HT1.out.but hB2 (by simp)).but q3 (by simp)).lower (lo' := w.heap.size) (by simp)
      have t2 := (hT2.but q3 (by have := HB01.out.size; have := HI1.out.lt; simp; omega)).lower (lo' := w.heap.size) (by have := HB01.out.size; omega)
      have HQ1 := Lib.hid q1
      have HQ2 := Lib.hid q2
      have HT1' := Lib.hid t1
      have HT2 := Lib.hid t2
      clear hI2 hT2 hB2 q1 q2 q3 t1 t2 HT1
      go_wp2
      generalize ((w2.setCell ⟨w.heap.size, 0, none⟩ (.pointer (some ⟨b1, 0, none⟩))).setCell ⟨w.heap.size, 1, none⟩ (.pointer (some ⟨b2, 0, none⟩))) = wf at *
      have c0 : wf.cell? ⟨w.heap.size, 0, none⟩ = some (.pointer (some ⟨b1, 0, none⟩)) := HQ1.out.cell 0
      have c1 : wf.cell? ⟨w.heap.size, 1, none⟩ = some (.pointer (some ⟨b2, 0, none⟩)) := HQ1.out.cell 1
      refine bodyPost_ret (v := .tuple #[.agg #[.pointer (some ⟨b1, 0, none⟩), .pointer (some ⟨b2, 0, none⟩)], .int .i64 0]) (by simp [results, Tryd.results42, go_sem, c0, c1]) rfl ?_
      exact ⟨_, _, 0, rfl, HQ2.out, fun e => absurd rfl e, fun _ => ⟨HC.out, HC2.out, b1, b2, rfl, rfl, HT1'.out, HT2.out⟩⟩
    · have hmk2 := make_err (cap := cB) hd2 hm1 hc2
      have hx : (chk d != 0) = true := by simpa using hc2
      obtain ⟨x, hxe⟩ : ∃ x, chk d = x := ⟨_, rfl⟩
      rw [hxe] at hmk2 hx hc2
      have HXE := Lib.hid hxe
      have HNE := Lib.hid hc2
      have HMK2 := Lib.hid hmk2
      have HI1 := Lib.hid hI1
      have HB01 := Lib.hid hB01
      clear hmk2 hI1 hT1 hB01 hB1 hd2 hc2 HMK hxe
      go_wp2_with fail
      refine HMK2.out.mono ?_
      rintro e w2 ⟨rfl, rfl⟩
      have hI2 := HI1.out
      have g0 : w1.cell? ⟨w.heap.size, 0, none⟩ = some (.pointer none) := hI2.cell 0
      have g1 : w1.cell? ⟨w.heap.size, 1, none⟩ = some (.pointer none) := hI2.cell 1
      have f0 : w1.frozen? ⟨w.heap.size, 0, none⟩ = false := hI2.free 0
      have f1 : w1.frozen? ⟨w.heap.size, 1, none⟩ = false := hI2.free 1
      obtain ⟨q1, q2, q3⟩ := pair_put (p1 := .pointer none) (p2 := .pointer none) hI2 HB01.out (Nat.le_refl _)
      have HQ1 := Lib.hid q1
      have HQ2 := Lib.hid q2
      clear hI2 q1 q2 q3
      go_wp2
      generalize ((w1.setCell ⟨w.heap.size, 0, none⟩ (.pointer none)).setCell ⟨w.heap.size, 1, none⟩ (.pointer none)) = wf at *
      have c0 : wf.cell? ⟨w.heap.size, 0, none⟩ = some (.pointer none) := HQ1.out.cell 0
      have c1 : wf.cell? ⟨w.heap.size, 1, none⟩ = some (.pointer none) := HQ1.out.cell 1
      refine bodyPost_ret (v := .tuple #[.agg #[.pointer none, .pointer none], .int .i64 x]) (by simp [results, Tryd.results42, go_sem, c0, c1]) rfl ?_
      exact ⟨_, _, x, rfl, HQ2.out, fun _ => ⟨rfl, rfl, .inr ⟨HC.out, HXE.out⟩⟩, fun e => absurd e HNE.out⟩
  · have hmk2 := make_err (cap := cA) hl1 hn1 hc
    have hx : (chk l != 0) = true := by simpa using hc
    obtain ⟨x, hxe⟩ : ∃ x, chk l = x := ⟨_, rfl⟩
    rw [hxe] at hmk2 hx hc
    have HXE := Lib.hid hxe
    have HNE := Lib.hid hc
    have HMK2 := Lib.hid hmk2
    have HI1 := Lib.hid hI
    clear hmk2 hI hl hd hl1 hd1 hA hB hB0 hc hxe
    go_enter Tryd.func42, Tryd.ntmps42
    go_wp2_with fail
    refine HMK2.out.mono ?_
    rintro e w2 ⟨rfl, rfl⟩
    go_wp2
    have c0 : (w.alloc (.cells #[.pointer none, .pointer none] 36)).cell? ⟨w.heap.size, 0, none⟩ = some (.pointer none) := HI1.out.cell 0
    have c1 : (w.alloc (.cells #[.pointer none, .pointer none] 36)).cell? ⟨w.heap.size, 1, none⟩ = some (.pointer none) := HI1.out.cell 1
    have HB0 := Lib.hid (but_alloc w (.cells #[.pointer none, .pointer none] 36))
    refine bodyPost_ret (v := .tuple #[.agg #[.pointer none, .pointer none], .int .i64 x]) (by simp [results, Tryd.results42, go_sem, c0, c1]) rfl ?_
    exact ⟨_, _, x, rfl, HB0.out, fun _ => ⟨rfl, rfl, .inl HXE.out⟩, fun e => absurd e HNE.out⟩
end Go.Proofs.YtobmghjpfkdooaaDoor
