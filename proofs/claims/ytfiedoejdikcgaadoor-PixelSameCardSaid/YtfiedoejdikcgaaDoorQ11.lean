/- Several texts in one: PyA, FiE, FiG, FiH, FiI (what PixelImages, PixelRows, PixelSame reach of them). -/
import Derived.Test.YtfiedoejdikcgaaDoorQ01
import Derived.Test.YtfiedoejdikcgaaDoorQ02
import Derived.Test.YtfiedoejdikcgaaDoorQ03
import Derived.Test.YtfiedoejdikcgaaDoorQ05
import Derived.Test.YtfiedoejdikcgaaDoorQ06
import Derived.Test.YtfiedoejdikcgaaDoorQ07
import Derived.Test.YtfiedoejdikcgaaDoorQ08
import Derived.Test.YtfiedoejdikcgaaDoorQ09
import Derived.Test.YtfiedoejdikcgaaDoorQ10
import Derived.Below
import Derived.BigQuiet
import Derived.BigRegion
import Derived.Deep.AppendLies
import Derived.Deep.CutBlock
import Derived.Deep.CutRange
import Derived.Deep.DeepCutAuto
import Derived.Deep.Draws
import Derived.Deep.QuietTactic
import Derived.Deep.RegionLaw
import Derived.Deep.RegionWith
import Derived.Handy
import Derived.Laws.BitsAllLaws
import Derived.Laws.BitsLemmas
import Derived.Laws.BytesArg
import Derived.Laws.IdiomStrings
import Derived.Laws.MakeOwn
import Derived.Laws.OwnMore
import Derived.Laws.Rows
import Derived.Laws.StructEq
import Derived.Lib.BufferWrite
import Derived.Lib.Hide
import Derived.LoopIn
import Derived.LoopNIn
import Derived.Maps.AppendAt
import Derived.OrdersHeld
import Derived.OrdersIn
import Derived.Outline
import Derived.OwnWalk
import Derived.OwnWalkIn
import Derived.RangeFuncBound
import Derived.RangeFuncCalls
import Derived.RangeFuncLeaves
import Derived.RangeFuncNested
import Derived.RegionTactic
import Derived.Shelf.Abstract
import Derived.Shelf.RegionOpen
import Derived.Sort.CutIn
import Derived.TacticsInMore
import Derived.Test.YtfiedoejdikcgaaDoorChecked
import Derived.WalkKit
set_option maxRecDepth 100000
set_option linter.unusedVariables false
set_option maxRecDepth 100000
set_option linter.unusedVariables false
namespace Go.Proofs.YtfiedoejdikcgaaDoor
set_option maxRecDepth 100000
open Go Go.RowKit
theorem headOf_ret {w V : World} {b : Nat} {tmps : Array Value} {a c : Int} (hI : Is V b 29 #[.int .i64 0, .int .i64 0, .int .i64 0, .int .i64 0, .int .i64 0]) (hB : But [] w V) (hb : w.heap.size ≤ b) (ht : tmps[2]? = some (.pointer (some ⟨b, 0, none⟩))) :
    bodyPost Tryd.prog Tryd.f19 (fun e w' => e = .returned (.agg #[.int .i64 a, .int .i64 c, .int .i64 16, .int .i64 6, .int .i64 0]) ∧ But [] w w') Exit.ret { tmps := tmps, defers := [] }
      (((((V.setCell ⟨b, 0, none⟩ (.int .i64 a)).setCell ⟨b, 1, none⟩ (.int .i64 c)).setCell ⟨b, 2, none⟩ (.int .i64 16)).setCell ⟨b, 3, none⟩ (.int .i64 6)).setCell ⟨b, 4, none⟩ (.int .i64 0)) := by
  have h4 := ((((hI.put 0 (.int .i64 a)).put 1 (.int .i64 c)).put 2 (.int .i64 16)).put 3 (.int .i64 6)).put 4 (.int .i64 0)
  have k4 := ((((hB.setCell (p := ⟨b, 0, none⟩) (.inr hb) (.int .i64 a)).setCell (p := ⟨b, 1, none⟩) (.inr hb) (.int .i64 c)).setCell (p := ⟨b, 2, none⟩) (.inr hb) (.int .i64 16)).setCell (p := ⟨b, 3, none⟩) (.inr hb) (.int .i64 6)).setCell (p := ⟨b, 4, none⟩) (.inr hb) (.int .i64 0)
  obtain ⟨X, hX⟩ : ∃ X, X = (((((V.setCell ⟨b, 0, none⟩ (.int .i64 a)).setCell ⟨b, 1, none⟩ (.int .i64 c)).setCell ⟨b, 2, none⟩ (.int .i64 16)).setCell ⟨b, 3, none⟩ (.int .i64 6)).setCell ⟨b, 4, none⟩ (.int .i64 0)) := ⟨_, rfl⟩
  rw [← hX] at h4 k4 ⊢
  clear hX hI hB
  have e0 := h4.cell 0
  have e1 := h4.cell 1
  have e2 := h4.cell 2
  have e3 := h4.cell 3
  have e4 := h4.cell 4
  refine bodyPost_ret (v := .agg #[.int .i64 a, .int .i64 c, .int .i64 16, .int .i64 6, .int .i64 0]) ?_ rfl ⟨rfl, k4⟩
  simp [results, Tryd.results19, go_sem, e0, e1, e2, e3, e4, ht]
set_option maxHeartbeats 1000000 in
theorem pheadOf_any (w : World) (a b : Int) (pix : ByteArray) :
    Calls Tryd.prog 19 #[.agg #[.int .i64 a, .int .i64 b, .string pix]] w fun e w' => e = .returned (.agg #[.int .i64 a, .int .i64 b, .int .i64 16, .int .i64 6, .int .i64 0]) ∧ But [] w w' := by
  obtain ⟨w1, hw1⟩ : ∃ X, X = (w.alloc (.cells #[.int .i64 a, .int .i64 b, .string pix] 23)).alloc (.cells #[.int .i64 0, .int .i64 0, .int .i64 0, .int .i64 0, .int .i64 0] 29) := ⟨_, rfl⟩
  have hB : But [] w w1 := by rw [hw1]; exact ((But.refl [] w).alloc _).alloc _
  have hI : Is w1 w.heap.size 23 #[.int .i64 a, .int .i64 b, .string pix] := by rw [hw1]; exact (Is.fresh _ _ _).alloc _
  have hJ : Is w1 (w.heap.size + 1) 29 #[.int .i64 0, .int .i64 0, .int .i64 0, .int .i64 0, .int .i64 0] := by
    have h := Is.fresh (w.alloc (.cells #[.int .i64 a, .int .i64 b, .string pix] 23)) 29 #[.int .i64 0, .int .i64 0, .int .i64 0, .int .i64 0, .int .i64 0]
    rw [show (w.alloc (.cells #[.int .i64 a, .int .i64 b, .string pix] 23)).heap.size = w.heap.size + 1 by simp] at h
    rw [hw1]; exact h
  obtain ⟨b0, hb0⟩ : ∃ g, g = w.heap.size := ⟨_, rfl⟩
  obtain ⟨b1, hb1⟩ : ∃ g, g = w.heap.size + 1 := ⟨_, rfl⟩
  rw [← hb1] at hJ
  rw [← hb0] at hI
  have HW : Hid (w.heap.size ≤ b1) := Lib.hid (by omega)
  have HI := Lib.hid hI
  have HJ := Lib.hid hJ
  have HB := Lib.hid hB
  clear hI hJ hB
  go_enter Tryd.func19, Tryd.ntmps19
  go_upto_region 1 with (fail)
  rw [← hw1, ← hb1, ← hb0]
  clear hw1 hb0 hb1
  have c0 := HI.out.cell 0
  have c1 := HI.out.cell 1
  have hgl := HI.out.lt
  have d0 := HJ.out.cell 0
  have d1 := HJ.out.cell 1
  have d2 := HJ.out.cell 2
  have d3 := HJ.out.cell 3
  have d4 := HJ.out.cell 4
  have f0 := HJ.out.free 0
  have f1 := HJ.out.free 1
  have f2 := HJ.out.free 2
  have f3 := HJ.out.free 3
  have f4 := HJ.out.free 4
  have hgl1 := HJ.out.lt
  go_wp2
  exact headOf_ret HJ.out HB.out HW.out (by rfl)
set_option maxHeartbeats 1000000 in
theorem pcheck12_any (w : World) {a b : Int} {pix : ByteArray} (hp : pix.size ≤ 140737488351232) :
    Calls Tryd.prog 8 #[.agg #[.int .i64 a, .int .i64 b, .string pix]] w fun e w' => e = .returned (.int .i64 (checkA a b pix)) ∧ But [] w w' := by
  have HB := Lib.hid ((But.refl [] w).alloc (.cells #[.int .i64 a, .int .i64 b, .string pix] 23))
  have hI := Is.fresh w 23 #[.int .i64 a, .int .i64 b, .string pix]
  obtain ⟨r, hr⟩ : ∃ r, r = rightH a b 16 6 0 := ⟨_, rfl⟩
  have HE : Hid (∀ W, Calls Tryd.prog 18 #[.agg #[.int .i64 a, .int .i64 b, .int .i64 16, .int .i64 6, .int .i64 0]] W fun e w' => e = .returned (.int .i64 r) ∧ But [] W w') := Lib.hid fun W => by rw [hr]; exact pright_h W a b 16 6 0
  have HH := Lib.hid fun (W : World) => pheadOf_any W a b pix
  have HC : Hid (∀ v, But [] (w.alloc (.cells #[.int .i64 a, .int .i64 b, .string pix] 23)) v → v.cell? ⟨w.heap.size, 0, none⟩ = some (.int .i64 a) ∧ v.cell? ⟨w.heap.size, 1, none⟩ = some (.int .i64 b) ∧ v.cell? ⟨w.heap.size, 2, none⟩ = some (.string pix) ∧ w.heap.size < v.heap.size) := Lib.hid fun v hv => by
    have hh := hI.but hv (by simp)
    exact ⟨hh.cell 0, hh.cell 1, hh.cell 2, hh.lt⟩
  obtain ⟨c0, c1, c2, hgl⟩ := HC.out _ (But.refl [] _)
  by_cases h0 : r = 0
  · have hright := hr.symm.trans h0
    obtain ⟨W, H, D, C, R⟩ := right_form hright
    obtain ⟨x, hx⟩ : ∃ x, x = 8 * (W * H) := ⟨_, rfl⟩
    have hxl : x ≤ 32768 := by have := R.area; omega
    obtain ⟨y, hy⟩ : ∃ y, y = 8 * W := ⟨_, rfl⟩
    have e1 : 8 * a = (y : Int) := by rw [R.wa, hy]; omega
    have e2 : (y : Int) * b = (x : Int) := by
      rw [R.hb, hy, hx, ← Int.natCast_mul, Nat.mul_assoc]
    have e3 : 8 * a * b = (x : Int) := by rw [e1, e2]
    have t1 := wrapI_in (show y < 1000000000000000 by have := R.w2; omega)
    have t2 := wrapI_in (show x < 1000000000000000 by omega)
    subst h0
    by_cases hs : pix.size = x
    · have HR : Hid (checkA a b pix = 0) := Lib.hid (by unfold checkA; rw [if_neg (by rw [← hr]; decide), e3, if_neg (by rw [hs]; exact fun h => h rfl)])
      rw [HR.out]
      have q1 : ((x : Int) != (x : Int)) = false := by simp
      clear hI hr hright R hx hy e3
      go_enter Tryd.func8, Tryd.ntmps8
      go_wp2_with fail
      refine (HH.out _).mono ?_
      rintro e w0 ⟨rfl, hB0⟩
      have HB0 := Lib.hid hB0
      clear hB0 c0 c1 c2 hgl
      go_wp2_with fail
      refine (HE.out _).mono ?_
      rintro e w1 ⟨rfl, hB⟩
      have HB1 := Lib.hid (HB0.out.trans hB)
      clear hB
      obtain ⟨c0, c1, c2, hgl⟩ := HC.out _ HB1.out
      go_wp2
      go_ret
      exact ⟨rfl, HB.out.trans HB1.out⟩
    · have HR : Hid (checkA a b pix = 24) := Lib.hid (by unfold checkA; rw [if_neg (by rw [← hr]; decide), e3, if_pos (by omega)])
      rw [HR.out]
      have q1 : ((pix.size : Int) != (x : Int)) = true := by simp; omega
      have q2 : ¬ (pix.size : Int) = (x : Int) := by omega
      clear hI hr hright R hx hy e3
      go_enter Tryd.func8, Tryd.ntmps8
      go_wp2_with fail
      refine (HH.out _).mono ?_
      rintro e w0 ⟨rfl, hB0⟩
      have HB0 := Lib.hid hB0
      clear hB0 c0 c1 c2 hgl
      go_wp2_with fail
      refine (HE.out _).mono ?_
      rintro e w1 ⟨rfl, hB⟩
      have HB1 := Lib.hid (HB0.out.trans hB)
      clear hB
      obtain ⟨c0, c1, c2, hgl⟩ := HC.out _ HB1.out
      go_wp2
      go_ret
      exact ⟨rfl, HB.out.trans HB1.out⟩
  · have HR : Hid (checkA a b pix = r) := Lib.hid (by unfold checkA; rw [← hr, if_pos h0])
    rw [HR.out]
    have q1 : (r != 0) = true := by simpa using h0
    clear hI hr
    go_enter Tryd.func8, Tryd.ntmps8
    go_wp2_with fail
    refine (HH.out _).mono ?_
    rintro e w0 ⟨rfl, hB0⟩
    have HB0 := Lib.hid hB0
    clear hB0 c0 c1 c2 hgl
    go_wp2_with fail
    refine (HE.out _).mono ?_
    rintro e w1 ⟨rfl, hB⟩
    have HB1 := Lib.hid (HB0.out.trans hB)
    clear hB
    go_wp2
    go_ret
    exact ⟨rfl, HB.out.trans HB1.out⟩
/-- Whether data are as many as a header asks. -/
def dataE (a b d c l : Int) (m : Nat) : Int := if rightH a b d c l ≠ 0 then rightH a b d c l else if m < sizeA a b d c l then 30 else if sizeA a b d c l < m then 31 else 0
set_option maxHeartbeats 1000000 in
theorem pdataError_any (w : World) (hG : GP w) (a b d c l : Int) {m : Nat} (hm : m ≤ 140737488351232) :
    Calls Tryd.prog 21 #[.agg #[.int .i64 a, .int .i64 b, .int .i64 d, .int .i64 c, .int .i64 l], .int .i64 (m : Nat)] w fun e w' => e = .returned (.int .i64 (dataE a b d c l m)) ∧ But [] w w' := by
  obtain ⟨b0, hb0⟩ : ∃ g, g = w.heap.size := ⟨_, rfl⟩
  obtain ⟨w1, hw1⟩ : ∃ X, X = w.alloc (.cells #[.int .i64 a, .int .i64 b, .int .i64 d, .int .i64 c, .int .i64 l] 29) := ⟨_, rfl⟩
  have hI : Is w1 b0 29 #[.int .i64 a, .int .i64 b, .int .i64 d, .int .i64 c, .int .i64 l] := by rw [hw1, hb0]; exact Is.fresh _ _ _
  have hB : But [] w w1 := by rw [hw1]; exact (But.refl [] w).alloc _
  have HB := Lib.hid hB
  have HG : Hid (∀ v, But [] w1 v → GP v) := Lib.hid fun v hv => (hG.but hB).but hv
  have HC : Hid (∀ v, But [] w1 v → v.cell? ⟨b0, 0, none⟩ = some (.int .i64 a) ∧ v.cell? ⟨b0, 1, none⟩ = some (.int .i64 b) ∧ v.cell? ⟨b0, 2, none⟩ = some (.int .i64 d) ∧ v.cell? ⟨b0, 3, none⟩ = some (.int .i64 c) ∧ v.cell? ⟨b0, 4, none⟩ = some (.int .i64 l) ∧ b0 < v.heap.size) := Lib.hid fun v hv => by
    have hh := hI.but hv (by simp)
    exact ⟨hh.cell 0, hh.cell 1, hh.cell 2, hh.cell 3, hh.cell 4, hh.lt⟩
  obtain ⟨r, hr⟩ : ∃ r, r = rightH a b d c l := ⟨_, rfl⟩
  have HE : Hid (∀ W, Calls Tryd.prog 18 #[.agg #[.int .i64 a, .int .i64 b, .int .i64 d, .int .i64 c, .int .i64 l]] W fun e w' => e = .returned (.int .i64 r) ∧ But [] W w') := Lib.hid fun W => by rw [hr]; exact pright_h W a b d c l
  obtain ⟨T, hT⟩ : ∃ T, T = sizeA a b d c l := ⟨_, rfl⟩
  have HS : Hid (∀ W, GP W → Calls Tryd.prog 41 #[.agg #[.int .i64 a, .int .i64 b, .int .i64 d, .int .i64 c, .int .i64 l]] W fun e w' => e = .returned (.int .i64 (T : Nat)) ∧ But [] W w') := Lib.hid fun W hW => by rw [hT]; exact lsize_any W hW a b d c l
  have HD : Hid (dataE a b d c l m = if r ≠ 0 then r else if m < T then 30 else if T < m then 31 else 0) := Lib.hid (by unfold dataE; rw [hr, hT])
  obtain ⟨x, hx⟩ : ∃ x, x = dataE a b d c l m := ⟨_, rfl⟩
  rw [← hx] at HD ⊢
  clear hr hT hx hI hB hG
  go_enter Tryd.func21, Tryd.ntmps21
  go_upto_region 1 with (fail)
  rw [← hw1, ← hb0]
  clear hw1 hb0
  obtain ⟨c0, c1, c2, c3, c4, hgl⟩ := HC.out _ (But.refl [] _)
  go_wp2_with fail
  refine (HE.out _).mono ?_
  rintro e w2 ⟨rfl, hB2⟩
  have HB2 := Lib.hid hB2
  clear hB2 c0 c1 c2 c3 c4 hgl
  by_cases h0 : r = 0
  · subst h0
    obtain ⟨c0, c1, c2, c3, c4, hgl⟩ := HC.out _ HB2.out
    go_wp2_with fail
    refine (HS.out _ (HG.out _ HB2.out)).mono ?_
    rintro e w3 ⟨rfl, hB3⟩
    have HB3 := Lib.hid (HB2.out.trans hB3)
    clear hB3 c0 c1 c2 c3 c4 hgl
    by_cases h1 : m < T
    · have HX := Lib.hid (HD.out.trans ((if_neg (fun h => h rfl)).trans (if_pos h1)))
      have q1 : ((m : Int) < (T : Int)) := by omega
      go_wp2
      go_ret
      exact ⟨by rw [HX.out]; rfl, HB.out.trans HB3.out⟩
    · by_cases h2 : T < m
      · have HX := Lib.hid (HD.out.trans ((if_neg (fun h => h rfl)).trans ((if_neg h1).trans (if_pos h2))))
        have q1 : ¬ ((m : Int) < (T : Int)) := by omega
        have q2 : ((T : Int) < (m : Int)) := by omega
        go_wp2
        go_ret
        exact ⟨by rw [HX.out]; rfl, HB.out.trans HB3.out⟩
      · have HX := Lib.hid (HD.out.trans ((if_neg (fun h => h rfl)).trans ((if_neg h1).trans (if_neg h2))))
        have q1 : ¬ ((m : Int) < (T : Int)) := by omega
        have q2 : ¬ ((T : Int) < (m : Int)) := by omega
        go_wp2
        go_ret
        exact ⟨by rw [HX.out]; rfl, HB.out.trans HB3.out⟩
  · have HX := Lib.hid (HD.out.trans (if_pos h0))
    have q1 : (r != 0) = true := by simpa using h0
    go_wp2
    go_ret
    exact ⟨by rw [HX.out]; rfl, HB.out.trans HB2.out⟩
end Go.Proofs.YtfiedoejdikcgaaDoor
set_option maxRecDepth 100000
set_option linter.unusedVariables false
namespace Go.Proofs.YtfiedoejdikcgaaDoor
set_option maxRecDepth 100000
open Go Go.RowKit
/-- The kind that is taken, of whatever arguments. -/
def pickA (bpp : Int) (s t : ByteArray) : Nat := if wrongP bpp s t = 0 then pickF bpp.toNat s.data.toList t.data.toList else 0
theorem pickA_ok {n : Nat} {s t : ByteArray} (h : wrongP (n : Int) s t = 0) : pickA (n : Int) s t = pickF n s.data.toList t.data.toList := by unfold pickA; rw [if_pos h]; rfl
theorem pickA_bad {bpp : Int} {s t : ByteArray} (h : wrongP bpp s t ≠ 0) : pickA bpp s t = 0 := by unfold pickA; rw [if_neg h]
theorem wrongF_kind {bpp kind : Int} {s t : ByteArray} (h0 : 0 ≤ kind) (h4 : kind ≤ 4) : wrongF bpp kind s t = wrongP bpp s t := by
  unfold wrongF
  rcases wrongP_cases bpp s t with h | h
  · rw [h, if_neg (by decide), if_neg (by omega)]
  · rw [h, if_pos (by decide)]
theorem wrongP_zero {bpp : Int} {s t : ByteArray} (h : wrongP bpp s t = 0) : 1 ≤ bpp ∧ bpp ≤ 8 ∧ (t.size = 0 ∨ t.size = s.size) := by
  have := wrongF_zero (bpp := bpp) (kind := 0) (s := s) (t := t) (by rw [wrongF_kind (by decide) (by decide)]; exact h)
  exact ⟨this.1.1, this.1.2, this.2.1⟩
/-- What is taken, and what it costs, of the first kinds. -/
def bstF (c : Nat → Nat) : Nat → Nat × Nat
  | 0 => (0, 0)
  | k + 1 => pickTo c k
theorem bstF_next (c : Nat → Nat) (k : Nat) : bstF c (k + 1) = if k = 0 ∨ c k < (bstF c k).2 then (k, c k) else bstF c k := by
  cases k with
  | zero => rw [if_pos (.inl rfl)]; rfl
  | succ k =>
    show pickTo c (k + 1) = _
    unfold pickTo
    show (if c (k + 1) < (pickTo c k).2 then _ else _) = if k + 1 = 0 ∨ c (k + 1) < (pickTo c k).2 then _ else pickTo c k
    by_cases h : c (k + 1) < (pickTo c k).2
    · rw [if_pos h, if_pos (.inr h)]
    · rw [if_neg h, if_neg (by omega)]
theorem bstF_le (c : Nat → Nat) {B : Nat} (h : ∀ k, c k ≤ B) : ∀ k, (bstF c k).2 ≤ B ∧ (bstF c k).1 ≤ k
  | 0 => ⟨Nat.zero_le _, Nat.zero_le _⟩
  | k + 1 => by
    rw [bstF_next]
    have := bstF_le c h k
    split
    · exact ⟨h k, by dsimp only; omega⟩
    · exact ⟨this.1, by omega⟩
theorem costF_take (X : List UInt8) {i : Nat} (h : i < X.length) : costF (X.take (i + 1)) = costF (X.take i) + farB (X.getD i 0) := by
  rw [List.take_succ_eq_append_getElem h, ← getD_lt h, costF_snoc]
theorem costF_take_le (X : List UInt8) (i : Nat) {B : Nat} (h : X.length ≤ B) : costF (X.take i) ≤ 128 * B := by
  have h1 := costF_le (X.take i)
  have h2 : (X.take i).length ≤ X.length := by rw [List.length_take]; exact Nat.min_le_right _ _
  have : 128 * (X.take i).length ≤ 128 * B := Nat.mul_le_mul_left _ (Nat.le_trans h2 h)
  omega
end Go.Proofs.YtfiedoejdikcgaaDoor
set_option maxRecDepth 100000
set_option linter.unusedVariables false
namespace Go.Proofs.YtfiedoejdikcgaaDoor
set_option maxRecDepth 100000
open Go Go.RowKit
set_option maxHeartbeats 1000000 in
theorem pdistance_any (w : World) (a b : Int) (ha : -100000 ≤ a ∧ a ≤ 100000) (hb : -100000 ≤ b ∧ b ≤ 100000) :
    Calls Tryd.prog 78 #[.int .i64 a, .int .i64 b] w fun e w' => e = .returned (.int .i64 ((a - b).natAbs : Nat)) ∧ w = w' := by
  obtain ⟨a1, a2⟩ := ha
  obtain ⟨b1, b2⟩ := hb
  go_enter Tryd.func78, Tryd.ntmps78
  go_wp2
  all_goals
    go_ret
    refine ⟨?_, rfl⟩
    exact congrArg (fun x => Ending.returned (.int .i64 x)) (by omega)
set_option maxHeartbeats 1000000 in
theorem psize_any (w : World) (b : Nat) (hb : b < 256) :
    Calls Tryd.prog 55 #[.int .u8 (b : Int)] w fun e w' => e = .returned (.int .i64 (farB (UInt8.ofNat b) : Nat)) ∧ w = w' := by
  have HR : Hid (farB (UInt8.ofNat b) = if 128 < b then 256 - b else b) := Lib.hid (by
    unfold farB
    have e : (UInt8.ofNat b).toNat = b := by rw [UInt8.toNat_ofNat']; omega
    rw [e])
  rw [HR.out]
  clear HR
  go_enter Tryd.func55, Tryd.ntmps55
  go_wp2
  all_goals
    go_ret
    refine ⟨?_, rfl⟩
    refine congrArg (fun x => Ending.returned (.int .i64 x)) ?_
    first | omega | (split <;> omega)
set_option maxHeartbeats 1000000 in
/-- The nearest of three bytes. -/
theorem pnearest_any (w : World) {a b c : Nat} (ha : a < 256) (hb : b < 256) (hc : c < 256) :
    Calls Tryd.prog 67 #[.int .i64 a, .int .i64 b, .int .i64 c] w fun e w' => e = .returned (.int .i64 (predF 4 a b c : Nat)) ∧ w = w' := by
  rw [predF_4]
  obtain ⟨p, hp⟩ : ∃ p, (a : Int) + b - c = p := ⟨_, rfl⟩
  obtain ⟨x, hx⟩ : ∃ x, x = ((b : Int) - c).natAbs := ⟨_, rfl⟩
  obtain ⟨y, hy⟩ : ∃ x, x = ((a : Int) - c).natAbs := ⟨_, rfl⟩
  obtain ⟨z, hz⟩ : ∃ x, x = ((a : Int) + b - c - c).natAbs := ⟨_, rfl⟩
  have H1 : Hid (∀ v, Calls Tryd.prog 78 #[.int .i64 p, .int .i64 a] v fun e w' => e = .returned (.int .i64 (x : Nat)) ∧ v = w') := Lib.hid fun v => by
    rw [hx, show (b : Int) - c = p - a by omega]; exact pdistance_any v _ _ (by omega) (by omega)
  have H2 : Hid (∀ v, Calls Tryd.prog 78 #[.int .i64 p, .int .i64 b] v fun e w' => e = .returned (.int .i64 (y : Nat)) ∧ v = w') := Lib.hid fun v => by
    rw [hy, show (a : Int) - c = p - b by omega]; exact pdistance_any v _ _ (by omega) (by omega)
  have H3 : Hid (∀ v, Calls Tryd.prog 78 #[.int .i64 p, .int .i64 c] v fun e w' => e = .returned (.int .i64 (z : Nat)) ∧ v = w') := Lib.hid fun v => by
    rw [hz, hp]; exact pdistance_any v _ _ (by omega) (by omega)
  rw [← hx, ← hy, ← hz]
  have hpb : -1000 ≤ p ∧ p ≤ 1000 := by omega
  obtain ⟨p0, p1⟩ := hpb
  clear hx hy hz
  have HR := Lib.hid (rfl : (if x ≤ y ∧ x ≤ z then a else if y ≤ z then b else c) = (if x ≤ y ∧ x ≤ z then a else if y ≤ z then b else c))
  by_cases c1 : x ≤ y
  · by_cases c2 : x ≤ z
    · go_enter Tryd.func67, Tryd.ntmps67
      go_wp2_with fail
      refine (H1.out _).mono ?_; rintro e w1 ⟨rfl, rfl⟩
      go_wp2_with fail
      refine (H2.out _).mono ?_; rintro e w1 ⟨rfl, rfl⟩
      go_wp2_with fail
      refine (H3.out _).mono ?_; rintro e w1 ⟨rfl, rfl⟩
      go_wp2_with fail
      go_ret
      first | exact ⟨rfl, rfl⟩ | exact ⟨by rw [if_pos ⟨c1, c2⟩]; rfl, rfl⟩
    · have c3 : ¬ y ≤ z := fun h => c2 (Nat.le_trans c1 h)
      go_enter Tryd.func67, Tryd.ntmps67
      go_wp2_with fail
      refine (H1.out _).mono ?_; rintro e w1 ⟨rfl, rfl⟩
      go_wp2_with fail
      refine (H2.out _).mono ?_; rintro e w1 ⟨rfl, rfl⟩
      go_wp2_with fail
      refine (H3.out _).mono ?_; rintro e w1 ⟨rfl, rfl⟩
      go_wp2_with fail
      go_ret
      first | exact ⟨rfl, rfl⟩ | exact ⟨by rw [if_neg (by omega), if_neg (by omega)]; rfl, rfl⟩
  · by_cases c3 : y ≤ z
    · go_enter Tryd.func67, Tryd.ntmps67
      go_wp2_with fail
      refine (H1.out _).mono ?_; rintro e w1 ⟨rfl, rfl⟩
      go_wp2_with fail
      refine (H2.out _).mono ?_; rintro e w1 ⟨rfl, rfl⟩
      go_wp2_with fail
      refine (H3.out _).mono ?_; rintro e w1 ⟨rfl, rfl⟩
      go_wp2_with fail
      go_ret
      first | exact ⟨rfl, rfl⟩ | exact ⟨by rw [if_neg (by omega), if_pos (by omega)]; rfl, rfl⟩
    · go_enter Tryd.func67, Tryd.ntmps67
      go_wp2_with fail
      refine (H1.out _).mono ?_; rintro e w1 ⟨rfl, rfl⟩
      go_wp2_with fail
      refine (H2.out _).mono ?_; rintro e w1 ⟨rfl, rfl⟩
      go_wp2_with fail
      refine (H3.out _).mono ?_; rintro e w1 ⟨rfl, rfl⟩
      go_wp2_with fail
      go_ret
      first | exact ⟨rfl, rfl⟩ | exact ⟨by rw [if_neg (by omega), if_neg (by omega)]; rfl, rfl⟩
set_option maxHeartbeats 1000000 in
theorem pfits_f (w : World) (bpp : Int) (s t : ByteArray) (hs : s.size ≤ 140737488355328) (ht : t.size ≤ 140737488355328) :
    Calls Tryd.prog 53 #[.int .i64 bpp, .string s, .string t] w fun e w' => e = .returned (.bool (decide (wrongP bpp s t = 0))) ∧ w = w' := by
  obtain ⟨r, hr⟩ : ∃ r, r = decide (wrongP bpp s t = 0) := ⟨_, rfl⟩
  rw [← hr]
  have HR := Lib.hid hr
  clear hr
  by_cases hz : t.size = 0
  · have e1 : (t.toList == []) = true := by rw [empty_toF hz]; rfl
    have HZ := Lib.hid hz
    go_enter Tryd.func53, Tryd.ntmps53
    go_wp2
    all_goals
      go_ret
      refine ⟨?_, rfl⟩
      rw [HR.out]
      have hz := HZ.out
      clear HR HZ e1
      unfold wrongP
      simp_all
      try omega
      try (by_cases hq : t.size = s.size <;> simp [hq]; try omega)
  · have e1 := empty_neF hz
    have HZ := Lib.hid hz
    go_enter Tryd.func53, Tryd.ntmps53
    go_wp2
    all_goals
      go_ret
      refine ⟨?_, rfl⟩
      rw [HR.out]
      have hz := HZ.out
      clear HR HZ e1
      unfold wrongP
      simp_all
      try omega
      try (by_cases hq : t.size = s.size <;> simp [hq]; try omega)
set_option maxHeartbeats 1000000 in
theorem pfcheck_any (w : World) (bpp kind : Int) (s t : ByteArray) (hs : s.size ≤ 140737488355328) (ht : t.size ≤ 140737488355328) :
    Calls Tryd.prog 56 #[.int .i64 bpp, .int .i64 kind, .string s, .string t] w fun e w' => e = .returned (.int .i64 (wrongF bpp kind s t)) ∧ w = w' := by
  have hF := fun v => pfits_f v bpp s t hs ht
  obtain ⟨r, hr⟩ : ∃ r, r = wrongF bpp kind s t := ⟨_, rfl⟩
  rw [← hr]
  have HR := Lib.hid hr
  clear hr
  by_cases h0 : wrongP bpp s t = 0
  · rw [decide_eq_true h0] at hF
    have HF := Lib.hid hF
    have HZ := Lib.hid h0
    clear hF h0
    go_enter Tryd.func56, Tryd.ntmps56
    go_wp2_with (refine (HF.out _).mono ?_; rintro e w1 ⟨rfl, rfl⟩)
    all_goals
      go_ret
      refine ⟨?_, rfl⟩
      rw [HR.out]
      unfold wrongF
      rw [HZ.out, if_neg (by decide)]
      clear HR HZ HF
      refine congrArg (fun x => Ending.returned (.int .i64 x)) ?_
      split <;> first | rfl | (exfalso; simp_all; omega) | (exfalso; omega)
  · rw [decide_eq_false h0] at hF
    have HF := Lib.hid hF
    have HZ := Lib.hid h0
    clear hF h0
    go_enter Tryd.func56, Tryd.ntmps56
    go_wp2_with (refine (HF.out _).mono ?_; rintro e w1 ⟨rfl, rfl⟩)
    all_goals
      go_ret
      refine ⟨?_, rfl⟩
      rw [HR.out]
      unfold wrongF
      rw [if_pos HZ.out]
      rfl
end Go.Proofs.YtfiedoejdikcgaaDoor
set_option maxRecDepth 100000
set_option linter.unusedVariables false
namespace Go.Proofs.YtfiedoejdikcgaaDoor
set_option maxRecDepth 100000
open Go Go.RowKit
/-- What each kind foretells, as a value. -/
def preV (a b c : Nat) : Value := .agg #[.int .u8 0, .int .u8 (a : Nat), .int .u8 (b : Nat), .int .u8 ((a + b) / 2 : Nat), .int .u8 (predF 4 a b c : Nat)]
theorem preV_of {a b c d p : Nat} (hd : d = (a + b) / 2) (hp : p = predF 4 a b c) : preV a b c = .agg #[.int .u8 0, .int .u8 (a : Nat), .int .u8 (b : Nat), .int .u8 (d : Nat), .int .u8 (p : Nat)] := by unfold preV; rw [hd, hp]
/-- The answer laid, and read. -/
theorem pre_ret {w W : World} {b0 : Nat} {tmps : Array Value} (hI : Is W b0 90 #[.int .u8 0, .int .u8 0, .int .u8 0, .int .u8 0, .int .u8 0]) (hB : But [] w W) (hb : b0 = w.heap.size) (ht : tmps[8]? = some (.pointer (some ⟨b0, 0, none⟩))) (a b d p : Int) :
    bodyPost Tryd.prog Tryd.f54 (fun e w' => e = .returned (.agg #[.int .u8 0, .int .u8 a, .int .u8 b, .int .u8 d, .int .u8 p]) ∧ But [] w w') Exit.ret { tmps := tmps, defers := [] }
      (((((W.setCell ⟨b0, 0, none⟩ (.int .u8 0)).setCell ⟨b0, 1, none⟩ (.int .u8 a)).setCell ⟨b0, 2, none⟩ (.int .u8 b)).setCell ⟨b0, 3, none⟩ (.int .u8 d)).setCell ⟨b0, 4, none⟩ (.int .u8 p)) := by
  have h0 := hI.put 0 (.int .u8 0)
  have h1 := h0.put 1 (.int .u8 a)
  have h2 := h1.put 2 (.int .u8 b)
  have h3 := h2.put 3 (.int .u8 d)
  have h4 := h3.put 4 (.int .u8 p)
  have k0 := hB.setCell (p := ⟨b0, 0, none⟩) (.inr (by rw [hb]; exact Nat.le_refl _)) (.int .u8 0)
  have k1 := k0.setCell (p := ⟨b0, 1, none⟩) (.inr (by rw [hb]; exact Nat.le_refl _)) (.int .u8 a)
  have k2 := k1.setCell (p := ⟨b0, 2, none⟩) (.inr (by rw [hb]; exact Nat.le_refl _)) (.int .u8 b)
  have k3 := k2.setCell (p := ⟨b0, 3, none⟩) (.inr (by rw [hb]; exact Nat.le_refl _)) (.int .u8 d)
  have k4 := k3.setCell (p := ⟨b0, 4, none⟩) (.inr (by rw [hb]; exact Nat.le_refl _)) (.int .u8 p)
  obtain ⟨V, hV⟩ : ∃ V, V = (((((W.setCell ⟨b0, 0, none⟩ (.int .u8 0)).setCell ⟨b0, 1, none⟩ (.int .u8 a)).setCell ⟨b0, 2, none⟩ (.int .u8 b)).setCell ⟨b0, 3, none⟩ (.int .u8 d)).setCell ⟨b0, 4, none⟩ (.int .u8 p)) := ⟨_, rfl⟩
  rw [← hV] at h4 k4 ⊢
  clear h0 h1 h2 h3 k0 k1 k2 k3 hV
  have e0 := h4.cell 0
  have e1 := h4.cell 1
  have e2 := h4.cell 2
  have e3 := h4.cell 3
  have e4 := h4.cell 4
  refine bodyPost_ret (v := .agg #[.int .u8 0, .int .u8 a, .int .u8 b, .int .u8 d, .int .u8 p]) ?_ rfl ⟨rfl, k4⟩
  simp [results, Tryd.results54, go_sem, e0, e1, e2, e3, e4, ht]
set_option maxHeartbeats 1000000 in
theorem ppre_any (w : World) {n k g m cap : Nat} {L : List UInt8} {t : ByteArray} (hn1 : 1 ≤ n) (hn8 : n ≤ 8) (hk : k < m) (hm : m ≤ 140737488351232) (hcap : m ≤ cap) (hg : g < w.heap.size)
    (hc : ∀ i, i < k → w.cell? ⟨g, i, none⟩ = some (.int .u8 ((L.getD i 0).toNat : Nat))) (ht : t.size = 0 ∨ t.size = m) :
    Calls Tryd.prog 54 #[.int .i64 n, .int .i64 k, .slice (some ⟨g, 0, none⟩) m cap, .string t] w fun e w' => e = .returned (preV (behindF L n k) (t.data.toList.getD k 0).toNat (behindF t.data.toList n k)) ∧ But [] w w' := by
  obtain ⟨qa, hqa⟩ : ∃ q, q = behindF L n k := ⟨_, rfl⟩
  obtain ⟨qb, hqb⟩ : ∃ q, q = (t.data.toList.getD k 0).toNat := ⟨_, rfl⟩
  obtain ⟨qc, hqc⟩ : ∃ q, q = behindF t.data.toList n k := ⟨_, rfl⟩
  have la : qa < 256 := by rw [hqa]; exact behindF_lt _ _ _
  have lb : qb < 256 := by rw [hqb]; exact UInt8.toNat_lt _
  have lc : qc < 256 := by rw [hqc]; exact behindF_lt _ _ _
  obtain ⟨p, hp⟩ : ∃ p, p = predF 4 qa qb qc := ⟨_, rfl⟩
  have hp256 : p < 256 := by rw [hp]; exact predF_lt 4 la lb lc
  have HP : Hid (∀ v, Calls Tryd.prog 67 #[.int .i64 qa, .int .i64 qb, .int .i64 qc] v fun e w' => e = .returned (.int .i64 (p : Nat)) ∧ v = w') := Lib.hid fun v => by
    rw [hp]; exact pnearest_any v la lb lc
  obtain ⟨d, hd⟩ : ∃ d, d = (qa + qb) / 2 := ⟨_, rfl⟩
  have hd256 : d < 256 := by omega
  rw [← hqa, ← hqb, ← hqc, preV_of hd hp]
  have hsz := Lib.hid hg
  have ha0 : k < n → qa = 0 ∧ qc = 0 := fun h => by rw [hqa, hqc]; unfold behindF; rw [if_pos h, if_pos h]; exact ⟨rfl, rfl⟩
  have hb0 : t.size = 0 → qb = 0 ∧ qc = 0 := fun h => by
    have e : t.data.toList = [] := by rw [empty_eqF h]; rfl
    rw [hqb, hqc, e]
    refine ⟨rfl, ?_⟩
    unfold behindF
    split <;> rfl
  have hcell : n ≤ k → w.cell? ⟨g, k - n, none⟩ = some (.int .u8 (qa : Nat)) := fun h => by
    rw [hc _ (by omega), hqa]; unfold behindF; rw [if_neg (by omega)]
  have hqb1 : ∀ (h : k < t.size), qb = t[k].toNat := fun h => by rw [hqb, getD_byte t h]
  have hqc1 : n ≤ k → ∀ (h : k - n < t.size), qc = t[k - n].toNat := fun h0 h => by
    rw [hqc]; unfold behindF; rw [if_neg (by omega), getD_byte t h]
  have HD := Lib.hid hd
  clear hc hqa hqb hqc hp hd hg
  have HA0 := Lib.hid ha0
  have HB0 := Lib.hid hb0
  have HCE := Lib.hid hcell
  have HQB := Lib.hid hqb1
  have HQC := Lib.hid hqc1
  have HT := Lib.hid ht
  clear ha0 hb0 hcell hqb1 hqc1 ht
  by_cases hkn : k < n
  · by_cases hz : t.size = 0
    · obtain ⟨rfl, rfl⟩ := HA0.out hkn
      obtain ⟨rfl, _⟩ := HB0.out hz
      have e1 : (t.toList == []) = true := by rw [empty_toF hz]; rfl
      have e2 := empty_toF hz
      have HZ := Lib.hid hz
      clear hz
      have hdd := HD.out
      obtain rfl : d = 0 := by omega
      clear hdd
      have HP2 : Hid (∀ v, Calls Tryd.prog 67 #[.int .i64 0, .int .i64 0, .int .i64 0] v fun e w' => e = .returned (.int .i64 (p : Nat)) ∧ v = w') := HP
      clear HP
      go_enter Tryd.func54, Tryd.ntmps54
      go_upto_region 1 with (fail)
      obtain ⟨w0, hw0⟩ : ∃ x, x = w.alloc (.cells #[.int .u8 0, .int .u8 0, .int .u8 0, .int .u8 0, .int .u8 0] 90) := ⟨_, rfl⟩
      have hB0 : But [] w w0 := by rw [hw0]; exact (But.refl [] w).alloc _
      have hI0 : Is w0 w.heap.size 90 #[.int .u8 0, .int .u8 0, .int .u8 0, .int .u8 0, .int .u8 0] := by rw [hw0]; exact Is.fresh _ _ _
      rw [← hw0]
      obtain ⟨b0, hb0⟩ : ∃ g, g = w.heap.size := ⟨_, rfl⟩
      rw [← hb0] at hI0 ⊢
      have HBZ := Lib.hid hb0
      have HB0W := Lib.hid hB0
      have HI0 := Lib.hid hI0
      have z0 := hI0.cell 0
      have z1 := hI0.cell 1
      have z2 := hI0.cell 2
      have z3 := hI0.cell 3
      have z4 := hI0.cell 4
      have f0 := hI0.free 0
      have f1 := hI0.free 1
      have f2 := hI0.free 2
      have f3 := hI0.free 3
      have f4 := hI0.free 4
      clear hw0 hB0 hb0 hI0 HCE
      go_wp2_with (refine (HP2.out _).mono ?_; rintro e wz ⟨rfl, rfl⟩)
      exact pre_ret HI0.out HB0W.out HBZ.out rfl (0) (0) (0) (p : Int)
    · obtain ⟨rfl, rfl⟩ := HA0.out hkn
      have e1 := empty_neF hz
      have hts : t.size = m := by rcases HT.out with h | h; exact absurd h hz; exact h
      have hkt : k < t.size := by omega
      have kx : ∀ w, (Instr.index 9 (.string t) (.int .i64 (k : Int))).run Tryd.prog w = .ok (.int .u8 (qb : Int)) w := fun w => by rw [HQB.out hkt]; exact byteF_run hkt w
      have HTS := Lib.hid hts
      have HZ := Lib.hid hz
      clear hts
      clear hz
      have hdd := HD.out
      have d1 : (qb : Int) / 2 = (d : Int) := by omega
      have d2 : (qb : Int).tdiv 2 = (d : Int) := by rw [Int.tdiv_eq_ediv_of_nonneg (by omega)]; omega
      clear hdd
      have HP2 : Hid (∀ v, Calls Tryd.prog 67 #[.int .i64 0, .int .i64 (qb : Int), .int .i64 0] v fun e w' => e = .returned (.int .i64 (p : Nat)) ∧ v = w') := HP
      clear HP
      go_enter Tryd.func54, Tryd.ntmps54
      go_upto_region 1 with (fail)
      obtain ⟨w0, hw0⟩ : ∃ x, x = w.alloc (.cells #[.int .u8 0, .int .u8 0, .int .u8 0, .int .u8 0, .int .u8 0] 90) := ⟨_, rfl⟩
      have hB0 : But [] w w0 := by rw [hw0]; exact (But.refl [] w).alloc _
      have hI0 : Is w0 w.heap.size 90 #[.int .u8 0, .int .u8 0, .int .u8 0, .int .u8 0, .int .u8 0] := by rw [hw0]; exact Is.fresh _ _ _
      rw [← hw0]
      obtain ⟨b0, hb0⟩ : ∃ g, g = w.heap.size := ⟨_, rfl⟩
      rw [← hb0] at hI0 ⊢
      have HBZ := Lib.hid hb0
      have HB0W := Lib.hid hB0
      have HI0 := Lib.hid hI0
      have z0 := hI0.cell 0
      have z1 := hI0.cell 1
      have z2 := hI0.cell 2
      have z3 := hI0.cell 3
      have z4 := hI0.cell 4
      have f0 := hI0.free 0
      have f1 := hI0.free 1
      have f2 := hI0.free 2
      have f3 := hI0.free 3
      have f4 := hI0.free 4
      clear hw0 hB0 hb0 hI0 HCE
      go_wp2_with (refine (HP2.out _).mono ?_; rintro e wz ⟨rfl, rfl⟩)
      exact pre_ret HI0.out HB0W.out HBZ.out rfl (0) ((qb : Int)) ((d : Int)) (p : Int)
  · by_cases hz : t.size = 0
    · obtain ⟨rfl, rfl⟩ := HB0.out hz
      have e1 : (t.toList == []) = true := by rw [empty_toF hz]; rfl
      have e2 := empty_toF hz
      have HZ := Lib.hid hz
      obtain ⟨i, hi⟩ : ∃ i, i = k - n := ⟨_, rfl⟩
      have ei : (k : Int) - (n : Int) = (i : Int) := by omega
      have i1 : (0 : Int) ≤ (i : Int) := by omega
      have i2 : (i : Int) < (m : Int) := by omega
      have hcell := HCE.out (by omega)
      rw [← hi] at hcell
      have HI := Lib.hid hi
      clear hi
      clear hz
      have hdd := HD.out
      have d1 : (qa : Int) / 2 = (d : Int) := by omega
      have d2 : (qa : Int).tdiv 2 = (d : Int) := by rw [Int.tdiv_eq_ediv_of_nonneg (by omega)]; omega
      clear hdd
      have HP2 : Hid (∀ v, Calls Tryd.prog 67 #[.int .i64 (qa : Int), .int .i64 0, .int .i64 0] v fun e w' => e = .returned (.int .i64 (p : Nat)) ∧ v = w') := HP
      clear HP
      go_enter Tryd.func54, Tryd.ntmps54
      go_upto_region 1 with (fail)
      obtain ⟨w0, hw0⟩ : ∃ x, x = w.alloc (.cells #[.int .u8 0, .int .u8 0, .int .u8 0, .int .u8 0, .int .u8 0] 90) := ⟨_, rfl⟩
      have hB0 : But [] w w0 := by rw [hw0]; exact (But.refl [] w).alloc _
      have hI0 : Is w0 w.heap.size 90 #[.int .u8 0, .int .u8 0, .int .u8 0, .int .u8 0, .int .u8 0] := by rw [hw0]; exact Is.fresh _ _ _
      rw [← hw0]
      obtain ⟨b0, hb0⟩ : ∃ g, g = w.heap.size := ⟨_, rfl⟩
      rw [← hb0] at hI0 ⊢
      have hcell := hB0.cell hcell (by simp)
      have HBZ := Lib.hid hb0
      have HB0W := Lib.hid hB0
      have HI0 := Lib.hid hI0
      have z0 := hI0.cell 0
      have z1 := hI0.cell 1
      have z2 := hI0.cell 2
      have z3 := hI0.cell 3
      have z4 := hI0.cell 4
      have f0 := hI0.free 0
      have f1 := hI0.free 1
      have f2 := hI0.free 2
      have f3 := hI0.free 3
      have f4 := hI0.free 4
      clear hw0 hB0 hb0 hI0 HCE
      go_wp2_with (refine (HP2.out _).mono ?_; rintro e wz ⟨rfl, rfl⟩)
      exact pre_ret HI0.out HB0W.out HBZ.out rfl ((qa : Int)) (0) ((d : Int)) (p : Int)
    · have e1 := empty_neF hz
      have hts : t.size = m := by rcases HT.out with h | h; exact absurd h hz; exact h
      have hkt : k < t.size := by omega
      have kx : ∀ w, (Instr.index 9 (.string t) (.int .i64 (k : Int))).run Tryd.prog w = .ok (.int .u8 (qb : Int)) w := fun w => by rw [HQB.out hkt]; exact byteF_run hkt w
      have HTS := Lib.hid hts
      have HZ := Lib.hid hz
      obtain ⟨i, hi⟩ : ∃ i, i = k - n := ⟨_, rfl⟩
      have ei : (k : Int) - (n : Int) = (i : Int) := by omega
      have i1 : (0 : Int) ≤ (i : Int) := by omega
      have i2 : (i : Int) < (m : Int) := by omega
      have hcell := HCE.out (by omega)
      rw [← hi] at hcell
      have hit : i < t.size := by omega
      have kx2 : ∀ w, (Instr.index 9 (.string t) (.int .i64 (i : Int))).run Tryd.prog w = .ok (.int .u8 (qc : Int)) w := fun w => by
        have h := HQC.out (by omega) (by rw [← hi]; exact hit)
        have h2 := byteF_run hit w
        simp only [hi] at h h2 ⊢
        rw [h]
        exact h2
      have HI := Lib.hid hi
      clear hi
      clear hts
      clear hz
      have hdd := HD.out
      have d1 : ((qa : Int) + (qb : Int)) / 2 = (d : Int) := by omega
      have d2 : ((qa : Int) + (qb : Int)).tdiv 2 = (d : Int) := by rw [Int.tdiv_eq_ediv_of_nonneg (by omega)]; omega
      clear hdd
      have HP2 : Hid (∀ v, Calls Tryd.prog 67 #[.int .i64 (qa : Int), .int .i64 (qb : Int), .int .i64 (qc : Int)] v fun e w' => e = .returned (.int .i64 (p : Nat)) ∧ v = w') := HP
      clear HP
      go_enter Tryd.func54, Tryd.ntmps54
      go_upto_region 1 with (fail)
      obtain ⟨w0, hw0⟩ : ∃ x, x = w.alloc (.cells #[.int .u8 0, .int .u8 0, .int .u8 0, .int .u8 0, .int .u8 0] 90) := ⟨_, rfl⟩
      have hB0 : But [] w w0 := by rw [hw0]; exact (But.refl [] w).alloc _
      have hI0 : Is w0 w.heap.size 90 #[.int .u8 0, .int .u8 0, .int .u8 0, .int .u8 0, .int .u8 0] := by rw [hw0]; exact Is.fresh _ _ _
      rw [← hw0]
      obtain ⟨b0, hb0⟩ : ∃ g, g = w.heap.size := ⟨_, rfl⟩
      rw [← hb0] at hI0 ⊢
      have hcell := hB0.cell hcell (by simp)
      have HBZ := Lib.hid hb0
      have HB0W := Lib.hid hB0
      have HI0 := Lib.hid hI0
      have z0 := hI0.cell 0
      have z1 := hI0.cell 1
      have z2 := hI0.cell 2
      have z3 := hI0.cell 3
      have z4 := hI0.cell 4
      have f0 := hI0.free 0
      have f1 := hI0.free 1
      have f2 := hI0.free 2
      have f3 := hI0.free 3
      have f4 := hI0.free 4
      clear hw0 hB0 hb0 hI0 HCE
      go_wp2_with (refine (HP2.out _).mono ?_; rintro e wz ⟨rfl, rfl⟩)
      exact pre_ret HI0.out HB0W.out HBZ.out rfl ((qa : Int)) ((qb : Int)) ((d : Int)) (p : Int)
end Go.Proofs.YtfiedoejdikcgaaDoor
set_option maxRecDepth 100000
set_option linter.unusedVariables false
namespace Go.Proofs.YtfiedoejdikcgaaDoor
set_option maxRecDepth 100000
open Go Go.RowKit
/-- What is read of an array's value. -/
theorem pre_index {a b c : Nat} {kind : Nat} (hk : kind ≤ 4) (ha : a < 256) (hb : b < 256) (w : World) : (Instr.index 90 (preV a b c) (.int .i64 (kind : Int))).run Tryd.prog w = .ok (.int .u8 (predF (kind : Int) a b c : Nat)) w := by
  unfold preV
  match kind, hk with
  | 0, _ => rw [show predF ((0 : Nat) : Int) a b c = 0 from predF_none (by decide) (by decide) (by decide) (by decide) a b c]; rfl
  | 1, _ => rw [show predF ((1 : Nat) : Int) a b c = a from predF_1 a b c]; rfl
  | 2, _ => rw [show predF ((2 : Nat) : Int) a b c = b from predF_2 a b c]; rfl
  | 3, _ => rw [show predF ((3 : Nat) : Int) a b c = (a + b) / 2 from predF_3 a b c]; rfl
  | 4, _ => rfl
end Go.Proofs.YtfiedoejdikcgaaDoor
