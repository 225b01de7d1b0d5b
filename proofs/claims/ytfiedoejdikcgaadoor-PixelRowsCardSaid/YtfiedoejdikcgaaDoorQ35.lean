/- Several texts in one: PiN, PxA, PxL, PxR, RaO (what PixelRows reach of them). -/
import Derived.Test.YtfiedoejdikcgaaDoorQ01
import Derived.Test.YtfiedoejdikcgaaDoorQ02
import Derived.Test.YtfiedoejdikcgaaDoorQ03
import Derived.Test.YtfiedoejdikcgaaDoorQ05
import Derived.Test.YtfiedoejdikcgaaDoorQ06
import Derived.Test.YtfiedoejdikcgaaDoorQ07
import Derived.Test.YtfiedoejdikcgaaDoorQ08
import Derived.Test.YtfiedoejdikcgaaDoorQ09
import Derived.Test.YtfiedoejdikcgaaDoorQ12
import Derived.Test.YtfiedoejdikcgaaDoorQ13
import Derived.Test.YtfiedoejdikcgaaDoorQ19
import Derived.Test.YtfiedoejdikcgaaDoorQ20
import Derived.Test.YtfiedoejdikcgaaDoorQ21
import Derived.Test.YtfiedoejdikcgaaDoorQ24
import Derived.Test.YtfiedoejdikcgaaDoorQ26
import Derived.Test.YtfiedoejdikcgaaDoorQ27
import Derived.Below
import Derived.BigQuiet
import Derived.BigRegion
import Derived.Deep.AppendLies
import Derived.Deep.CutBlock
import Derived.Deep.CutRange
import Derived.Deep.DeepCutAuto
import Derived.Deep.Draws
import Derived.Deep.QuietTactic
import Derived.Deep.RegionLaw
import Derived.Deep.RegionWith
import Derived.Deep.Slices
import Derived.Handy
import Derived.Laws.BitsAllLaws
import Derived.Laws.BitsLemmas
import Derived.Laws.BytesArg
import Derived.Laws.Externs
import Derived.Laws.IdiomStrings
import Derived.Laws.MakeOwn
import Derived.Laws.OwnMore
import Derived.Laws.Rows
import Derived.Laws.StructEq
import Derived.Lib.AppendStr
import Derived.Lib.BufferWrite
import Derived.Lib.Hide
import Derived.Lib.UnsafeStr
import Derived.LoopIn
import Derived.LoopNIn
import Derived.Maps.AppendAt
import Derived.OpenShut
import Derived.OrdersHeld
import Derived.OrdersIn
import Derived.Outline
import Derived.OwnWalk
import Derived.OwnWalkIn
import Derived.ProofKit
import Derived.RangeFuncBound
import Derived.RangeFuncCalls
import Derived.RangeFuncLeaves
import Derived.RangeFuncNested
import Derived.RegionTactic
import Derived.Shelf.Abstract
import Derived.Shelf.LaysM
import Derived.Shelf.RegionOpen
import Derived.Shelf.Small.Wraps
import Derived.Shelf.Strconv.Clone
import Derived.Shelf.Strings.Builder1
import Derived.Shelf.Strings.BuilderF
import Derived.Shelf.Strings.Prefix
import Derived.SizedLaws
import Derived.Sort.CutIn
import Derived.TacticsInMore
import Derived.Test.YtfiedoejdikcgaaDoorChecked
import Derived.WalkKit
set_option maxRecDepth 100000
set_option linter.unusedVariables false
set_option linter.unusedVariables false
namespace Go.Proofs.YtfiedoejdikcgaaDoor
set_option maxRecDepth 100000
open Go
theorem wordsV_lt (pix : List UInt8) (k : Nat) : (wordsV pix).getD k 0 < 2 ^ 16 := by
  by_cases h : k < pix.length / 2
  · rw [wordsV_at pix h]
    have a := (pix.getD (2 * k) 0).toNat_lt
    have b := (pix.getD (2 * k + 1) 0).toNat_lt
    omega
  · rw [List.getD_eq_getElem?_getD, List.getElem?_eq_none (by unfold wordsV; rw [List.length_map, List.length_range]; omega)]
    decide
theorem wordsV_length (pix : List UInt8) : (wordsV pix).length = pix.length / 2 := by unfold wordsV; rw [List.length_map, List.length_range]
theorem samples_rgba : samplesN 6 = 4 := by decide
end Go.Proofs.YtfiedoejdikcgaaDoor
set_option maxRecDepth 100000
set_option linter.unusedVariables false
namespace Go.Proofs.YtfiedoejdikcgaaDoor
set_option maxRecDepth 100000
open Go Go.RowKit
set_option maxHeartbeats 1000000 in
theorem echeck_any (w : World) {a b : Int} {pix : ByteArray} (hp : pix.size ≤ 140737488351232) :
    Calls Tryd.prog 9 #[.agg #[.int .i64 a, .int .i64 b, .string pix]] w fun e w' => e = .returned (.int .i64 (checkA a b pix)) ∧ But [] w w' := by
  have HB := Lib.hid ((But.refl [] w).alloc (.cells #[.int .i64 a, .int .i64 b, .string pix] 23))
  have hI := Is.fresh w 23 #[.int .i64 a, .int .i64 b, .string pix]
  obtain ⟨r, hr⟩ : ∃ r, r = rightH a b 16 6 0 := ⟨_, rfl⟩
  have HE : Hid (∀ W, Calls Tryd.prog 15 #[.agg #[.int .i64 a, .int .i64 b, .int .i64 16, .int .i64 6, .int .i64 0]] W fun e w' => e = .returned (.int .i64 r) ∧ But [] W w') := Lib.hid fun W => by rw [hr]; exact eright_h W a b 16 6 0
  have HC : Hid (∀ v, But [] (w.alloc (.cells #[.int .i64 a, .int .i64 b, .string pix] 23)) v → v.cell? ⟨w.heap.size, 0, none⟩ = some (.int .i64 a) ∧ v.cell? ⟨w.heap.size, 1, none⟩ = some (.int .i64 b) ∧ v.cell? ⟨w.heap.size, 2, none⟩ = some (.string pix) ∧ w.heap.size < v.heap.size) := Lib.hid fun v hv => by
    have hh := hI.but hv (by simp)
    exact ⟨hh.cell 0, hh.cell 1, hh.cell 2, hh.lt⟩
  obtain ⟨c0, c1, c2, hgl⟩ := HC.out _ (But.refl [] _)
  by_cases h0 : r = 0
  · have hright := hr.symm.trans h0
    obtain ⟨W, H, D, C, R⟩ := right_form hright
    obtain ⟨x, hx⟩ : ∃ x, x = 8 * (W * H) := ⟨_, rfl⟩
    have hxl : x ≤ 32768 := by have := R.area; omega
    obtain ⟨y, hy⟩ : ∃ y, y = 8 * W := ⟨_, rfl⟩
    have e1 : 8 * a = (y : Int) := by rw [R.wa, hy]; omega
    have e2 : (y : Int) * b = (x : Int) := by
      rw [R.hb, hy, hx, ← Int.natCast_mul, Nat.mul_assoc]
    have e3 : 8 * a * b = (x : Int) := by rw [e1, e2]
    have t1 := wrapI_in (show y < 1000000000000000 by have := R.w2; omega)
    have t2 := wrapI_in (show x < 1000000000000000 by omega)
    subst h0
    by_cases hs : pix.size = x
    · have HR : Hid (checkA a b pix = 0) := Lib.hid (by unfold checkA; rw [if_neg (by rw [← hr]; decide), e3, if_neg (by rw [hs]; exact fun h => h rfl)])
      rw [HR.out]
      have q1 : ((x : Int) != (x : Int)) = false := by simp
      clear hI hr hright R hx hy e3
      go_enter Tryd.func9, Tryd.ntmps9
      go_wp2_with fail
      refine (HE.out _).mono ?_
      rintro e w1 ⟨rfl, hB⟩
      have HB1 := Lib.hid hB
      clear hB c0 c1 c2 hgl
      obtain ⟨c0, c1, c2, hgl⟩ := HC.out _ HB1.out
      go_wp2
      go_ret
      exact ⟨rfl, HB.out.trans HB1.out⟩
    · have HR : Hid (checkA a b pix = 24) := Lib.hid (by unfold checkA; rw [if_neg (by rw [← hr]; decide), e3, if_pos (by omega)])
      rw [HR.out]
      have q1 : ((pix.size : Int) != (x : Int)) = true := by simp; omega
      have q2 : ¬ (pix.size : Int) = (x : Int) := by omega
      clear hI hr hright R hx hy e3
      go_enter Tryd.func9, Tryd.ntmps9
      go_wp2_with fail
      refine (HE.out _).mono ?_
      rintro e w1 ⟨rfl, hB⟩
      have HB1 := Lib.hid hB
      clear hB c0 c1 c2 hgl
      obtain ⟨c0, c1, c2, hgl⟩ := HC.out _ HB1.out
      go_wp2
      go_ret
      exact ⟨rfl, HB.out.trans HB1.out⟩
  · have HR : Hid (checkA a b pix = r) := Lib.hid (by unfold checkA; rw [← hr, if_pos h0])
    rw [HR.out]
    have q1 : (r != 0) = true := by simpa using h0
    clear hI hr
    go_enter Tryd.func9, Tryd.ntmps9
    go_wp2_with fail
    refine (HE.out _).mono ?_
    rintro e w1 ⟨rfl, hB⟩
    have HB1 := Lib.hid hB
    clear hB
    go_wp2
    go_ret
    exact ⟨rfl, HB.out.trans HB1.out⟩
end Go.Proofs.YtfiedoejdikcgaaDoor
set_option maxRecDepth 100000
set_option linter.unusedVariables false
namespace Go.Proofs.YtfiedoejdikcgaaDoor
set_option maxRecDepth 100000
open Go Go.RowKit
def RwE : Prop := ∀ (v : World) (a b : Int) (pix : ByteArray), pix.size ≤ 140737488351232 → Calls Tryd.prog 14 #[.agg #[.int .i64 a, .int .i64 b, .string pix]] v fun e w' => e = .returned (.tuple #[.string (rowsA a b pix).1, .int .i64 (rowsA a b pix).2]) ∧ But [] v w'
attribute [local irreducible] checkA imageA rowsA
set_option maxHeartbeats 1000000 in
theorem pixelRows_walk {G : World → Prop} (hL : Lasts G) (haw : Awk12 G) (hc : RwC G) (he : RwE) {a b : Int} {pix : ByteArray} {w : World} (hp : pix.size ≤ 140737488351232) (hG : G w) :
    Calls Tryd.prog 5 #[.agg #[.int .i64 a, .int .i64 b, .string pix]] w fun e w' => e = .returned (.bool true) ∧ Below w.heap.size w w' := by
  obtain ⟨b0, hb0⟩ : ∃ g, g = w.heap.size := ⟨_, rfl⟩
  obtain ⟨w1, hw1⟩ : ∃ X, X = w.alloc (.cells #[.int .i64 a, .int .i64 b, .string pix] 23) := ⟨_, rfl⟩
  have hI : Is w1 b0 23 #[.int .i64 a, .int .i64 b, .string pix] := by rw [hw1, hb0]; exact Is.fresh _ _ _
  have hB : But [] w w1 := by rw [hw1]; exact (But.refl [] w).alloc _
  have HB := Lib.hid hB
  have HI := Lib.hid hI
  have HG : Hid (∀ v, But [] w1 v → G v) := Lib.hid fun v hv => hL _ _ (hL _ _ hG hB) hv
  obtain ⟨s, hs⟩ : ∃ r, r = (rowsA a b pix).1 := ⟨_, rfl⟩
  obtain ⟨r, hr⟩ : ∃ r, r = (rowsA a b pix).2 := ⟨_, rfl⟩
  have HP : Hid (∀ v, But [] w1 v → Calls Tryd.prog 13 #[.agg #[.int .i64 a, .int .i64 b, .string pix]] v fun e w' => e = .returned (.tuple #[.string s, .int .i64 r]) ∧ But [] v w') := Lib.hid fun v hv => by rw [hr, hs]; exact hc v a b pix (HG.out v hv) hp
  have HE : Hid (∀ v, Calls Tryd.prog 14 #[.agg #[.int .i64 a, .int .i64 b, .string pix]] v fun e w' => e = .returned (.tuple #[.string s, .int .i64 r]) ∧ But [] v w') := Lib.hid fun v => by rw [hr, hs]; exact he v a b pix hp
  have HA := Lib.hid haw
  clear hr hs haw hc he
  have c0 := HI.out.cell 0
  clear hI hB hG
  go_enter Tryd.func5, Tryd.ntmps5
  go_upto_region 1 with (fail)
  rw [← hw1, ← hb0]
  clear c0 hw1 hb0
  have c0 := (HI.out.but (But.refl [] w1) (by simp)).cell 0
  have c1 := (HI.out.but (But.refl [] w1) (by simp)).cell 1
  have c2 := (HI.out.but (But.refl [] w1) (by simp)).cell 2
  have hgl := (HI.out.but (But.refl [] w1) (by simp)).lt
  go_wp2_with fail
  refine (HP.out _ (But.refl [] _)).mono ?_
  rintro e w2 ⟨rfl, hB2⟩
  have HB2 := Lib.hid hB2
  clear hB2
  clear c0 c1 c2 hgl
  have c0 := (HI.out.but HB2.out (by simp)).cell 0
  have c1 := (HI.out.but HB2.out (by simp)).cell 1
  have c2 := (HI.out.but HB2.out (by simp)).cell 2
  have hgl := (HI.out.but HB2.out (by simp)).lt
  go_wp2_with fail
  refine (HE.out _).mono ?_
  rintro e w3 ⟨rfl, hB3⟩
  have HB3 := Lib.hid (HB2.out.trans hB3)
  clear hB3
  clear c0 c1 c2 hgl
  go_wp2_with fail
  refine (HA.out _ (HG.out _ HB3.out)).mono ?_
  rintro e w9 ⟨rfl, hB9⟩
  have HB9 := Lib.hid (HB.out.trans (HB3.out.trans hB9))
  clear hB9
  go_wp2
  go_ret
  exact ⟨rfl, HB9.out.belowP⟩
end Go.Proofs.YtfiedoejdikcgaaDoor
set_option maxRecDepth 100000
set_option linter.unusedVariables false
namespace Go.Proofs.YtfiedoejdikcgaaDoor
set_option maxRecDepth 100000
open Go Go.RowKit
theorem base_plain {W H : Nat} (hW : 1 ≤ W) (hH : 1 ≤ H) : (baseL 0).filter (someP W H) = plainL := by
  have hs : someP W H ⟨0, 0, 1, 1⟩ = true := by
    unfold someP manyL
    exact decide_eq_true ⟨by show 0 < (W - 0 + 1 - 1) / 1; omega, by show 0 < (H - 0 + 1 - 1) / 1; omega⟩
  show (plainL).filter (someP W H) = plainL
  unfold plainL
  rw [List.filter_cons_of_pos hs]
  rfl
theorem kinds_pick : kindsK [-1] = fun _ => -1 := by
  funext k
  unfold kindsK
  rw [show k % [(-1 : Int)].length = 0 from Nat.mod_one k]
  rfl
theorem words_next {pix : List UInt8} {m : Nat} (h : m < pix.length / 2) : (wordsV pix).take (m + 1) = (wordsV pix).take m ++ [256 * (pix.getD (2 * m) 0).toNat + (pix.getD (2 * m + 1) 0).toNat] := by
  have hl := wordsV_length pix
  have hm : m < (wordsV pix).length := by rw [hl]; exact h
  have e := wordsV_at pix h
  rw [List.getD_eq_getElem?_getD, List.getElem?_eq_getElem hm] at e
  rw [List.take_add_one, List.getElem?_eq_getElem hm]
  exact congrArg (fun x => (wordsV pix).take m ++ [x]) e
theorem headA_right {a b : Int} {pix : ByteArray} (h : checkA a b pix = 0) : rightH a b 16 6 0 = 0 := by
  unfold checkA at h
  by_cases k : rightH a b 16 6 0 ≠ 0
  · rw [if_pos k] at h; exact absurd h k
  · exact Classical.not_not.1 k
set_option maxHeartbeats 1000000 in
theorem erows_any (w : World) {a b : Int} {pix : ByteArray} (hp : pix.size ≤ 140737488351232) :
    Calls Tryd.prog 14 #[.agg #[.int .i64 a, .int .i64 b, .string pix]] w fun e w' => e = .returned (.tuple #[.string (rowsA a b pix).1, .int .i64 (rowsA a b pix).2]) ∧ But [] w w' := by
  obtain ⟨b1, hb1⟩ : ∃ g, g = w.heap.size := ⟨_, rfl⟩
  obtain ⟨w1, hw1⟩ : ∃ X, X = w.alloc (.cells #[.int .i64 a, .int .i64 b, .string pix] 23) := ⟨_, rfl⟩
  have hI : Is w1 b1 23 #[.int .i64 a, .int .i64 b, .string pix] := by rw [hw1, hb1]; exact Is.fresh _ _ _
  have hB : But [] w w1 := by rw [hw1]; exact (But.refl [] w).alloc _
  have HB := Lib.hid hB
  have HC : Hid (∀ v, But [] w1 v → v.cell? ⟨b1, 0, none⟩ = some (.int .i64 a) ∧ v.cell? ⟨b1, 1, none⟩ = some (.int .i64 b) ∧ v.cell? ⟨b1, 2, none⟩ = some (.string pix) ∧ b1 < v.heap.size) := Lib.hid fun v hv => by
    have hh := hI.but hv (by simp)
    exact ⟨hh.cell 0, hh.cell 1, hh.cell 2, hh.lt⟩
  obtain ⟨r, hr⟩ : ∃ r, r = checkA a b pix := ⟨_, rfl⟩
  have HCK : Hid (∀ v, Calls Tryd.prog 9 #[.agg #[.int .i64 a, .int .i64 b, .string pix]] v fun e w' => e = .returned (.int .i64 r) ∧ But [] v w') := Lib.hid fun v => by rw [hr]; exact echeck_any v hp
  clear hI hB
  by_cases h0 : r = 0
  · subst h0
    have h0 := headA_right hr.symm
    obtain ⟨W, H, rfl, rfl, hW1, hW2, hH1, hH2, harea, hps⟩ := check_form hr.symm
    obtain ⟨W', H', D', C', R⟩ := right_form h0
    obtain rfl : W = W' := by have := R.wa; omega
    obtain rfl : H = H' := by have := R.hb; omega
    obtain rfl : 16 = D' := by have := R.dd; omega
    obtain rfl : 6 = C' := by have := R.cc; omega
    have hpl : pix.data.toList.length = 8 * (W * H) := by rw [Array.length_toList]; exact hps
    obtain ⟨TT, hTT⟩ : ∃ T, T = strL (rowsT W H pix.data.toList) := ⟨_, rfl⟩
    have HR : Hid (rowsA W H pix = (TT, 0)) := Lib.hid (by unfold rowsA; rw [if_neg (fun h => h hr.symm), hTT]; rfl)
    have HR1 : Hid ((rowsA W H pix).1 = TT) := Lib.hid (by rw [HR.out])
    have HR2 : Hid ((rowsA W H pix).2 = 0) := Lib.hid (by rw [HR.out])
    obtain ⟨R1, hR1⟩ : ∃ R, R = rowsA W H pix := ⟨_, rfl⟩
    rw [← hR1] at HR1 HR2 ⊢
    obtain ⟨VW, hVW⟩ : ∃ V, V = wordsV pix.data.toList := ⟨_, rfl⟩
    have hvl : VW.length = 4 * (W * H) := by rw [hVW, wordsV_length, hpl]; omega
    have HPK : Hid (∀ (v : World) (A1 A2 : Option Addr) (cV : Nat), Nums v A1 (4 * (W * H)) VW → 4 * (W * H) ≤ cV → Zs v A2 1 [-1] → Calls Tryd.prog 17 #[.agg #[.int .i64 W, .int .i64 H, .int .i64 16, .int .i64 6, .int .i64 0], .slice A1 (4 * (W * H)) cV, .slice A2 1 1] v fun e w' => e = .returned (.string TT) ∧ But [] v w') := Lib.hid fun v A1 A2 cV k1 k2 k3 => by
      have h := epack12_any v (C := 6) (D := 16) (cK := 1) [] [] false h0 R k1 (by rw [samples_rgba]) k2 (fun q => by rw [hVW]; exact wordsV_lt _ q) k3 (by decide) (by decide) (fun z hz => by have hz := List.mem_singleton.1 hz; omega)
      rw [base_plain hW1 hH1, kinds_pick, hVW] at h
      rw [hTT]
      exact h
    obtain ⟨M, hM⟩ : ∃ M, M = 4 * (W * H) := ⟨_, rfl⟩
    rw [← hM] at HPK hvl
    have hMl : M ≤ 16384 := by omega
    have hpM : pix.size = 2 * M := by omega
    have HNX : Hid (∀ m, m < M → VW.take (m + 1) = VW.take m ++ [256 * (pix.data.toList.getD (2 * m) 0).toNat + (pix.data.toList.getD (2 * m + 1) 0).toNat]) := Lib.hid fun m hm => by rw [hVW]; exact words_next (by rw [hpl]; omega)
    have HVA : Hid (VW.take M = VW) := Lib.hid (List.take_of_length_le (by omega))
    have HVT : Hid (∀ m, m ≤ M → (VW.take m).length = m) := Lib.hid fun m hm => by rw [List.length_take]; omega
    have HBY : Hid (∀ k, k < 2 * M → ∃ x : Nat, x = (pix.data.toList.getD k 0).toNat ∧ x < 256 ∧ ∀ w, (Instr.index 9 (.string pix) (.int .i64 (k : Int))).run Tryd.prog w = .ok (.int .u8 (x : Nat)) w) := Lib.hid fun k hk => by
      have hk2 : k < pix.size := by omega
      refine ⟨_, rfl, UInt8.toNat_lt _, fun w => ?_⟩
      rw [getD_byte pix hk2]
      exact byteR_run hk2 w
    have HM := Lib.hid hM
    clear hr hR1 hTT hVW hps hpl hvl R h0 harea hM
    go_enter Tryd.func14, Tryd.ntmps14
    go_upto_region 1 with (fail)
    rw [← hw1, ← hb1]
    clear hw1 hb1
    obtain ⟨c0, c1, c2, hgl⟩ := HC.out _ (But.refl _ _)
    go_wp2_with fail
    refine (HCK.out _).mono ?_
    rintro e w2 ⟨rfl, hB2⟩
    have HB12 := Lib.hid hB2
    clear hB2 c0 c1 c2 hgl
    obtain ⟨c0, c1, c2, hgl⟩ := HC.out _ HB12.out
    go_wp2_with fail
    go_loopw [5, 6] (fun vv iv wx => ∃ (m i : Nat) (A : Option Addr) (ln c : Nat), Hid (m ≤ M) ∧ iv = .int .i64 (i : Nat) ∧ vv = .slice A ln c ∧ Hid (i = 2 * m) ∧ Hid (ln = m) ∧ Hid (OwnN wx w1.heap.size (.slice A ln c) (VW.take m)) ∧ Hid (But [] w1 wx)) (fun _ iv _ => 2 * M - (intOf iv).toNat)
    case atStart => exact ⟨0, 0, none, 0, 0, Lib.hid (Nat.zero_le _), rfl, rfl, Lib.hid rfl, Lib.hid rfl, Lib.hid (OwnN.nil _ _), HB12⟩
    case round =>
      clear c0 c1 c2 hgl
      obtain ⟨m, i, A, ln, c, HMM, rfl, rfl, HII, HLN, HOW, HBx⟩ := hrel
      obtain ⟨c0, c1, c2, hgl⟩ := HC.out _ HBx.out
      have hm := HMM.out
      have hi := HII.out
      by_cases hml : m < M
      · obtain ⟨x, hx, hx8, kx⟩ := HBY.out i (by omega)
        obtain ⟨i1, hi1⟩ : ∃ z, z = i + 1 := ⟨_, rfl⟩
        have ei1 : (i : Int) + 1 = (i1 : Int) := by omega
        obtain ⟨y, hy, hy8, ky⟩ := HBY.out i1 (by omega)
        obtain ⟨x2, hx2⟩ : ∃ z, z = 256 * x := ⟨_, rfl⟩
        have ex2 : (256 : Int) * (x : Int) = (x2 : Int) := by omega
        obtain ⟨z, hz⟩ : ∃ z, z = x2 + y := ⟨_, rfl⟩
        have ez : (x2 : Int) + (y : Int) = (z : Int) := by omega
        have vi := wrapI_in (show i < 1000000000000000 by omega)
        have vi1 := wrapI_in (show i1 < 1000000000000000 by omega)
        have vx := wrapI_in (show x < 1000000000000000 by omega)
        have vy := wrapI_in (show y < 1000000000000000 by omega)
        have vx2 := wrapI_in (show x2 < 1000000000000000 by omega)
        have vz := wrapI_in (show z < 1000000000000000 by omega)
        have HN2 : Hid (VW.take (m + 1) = VW.take m ++ [z]) := Lib.hid (by rw [HNX.out m hml, ← hi, ← hi1, ← hx, ← hy, hz, hx2])
        have HL2 : Hid ((VW.take m).length = m) := Lib.hid (HVT.out m hm)
        have l1 : decide ((i : Int) < (pix.size : Int)) = true := by simp; omega
        have l2 : decide (i < pix.size) = true := by simp; omega
        have l3 : i < pix.size := by omega
        have hml2 := hml
        have HI1 : Hid (i1 = i + 1) := Lib.hid hi1
        clear hx hy hx2 hz hi1 hi hm
        rw [HLN.out] at HOW
        obtain rfl := HLN.out
        go_upto_region 8 with (fail)
        clear c0 c1 c2 hgl
        refine wp_region_m (S := fun v => But [] w1 v) (R := fun v v' => But [] v v') (fun w => But.refl [] w) (by kernel_rfl) (HBx.out.drew) ?_
        refine wpM_take (fun w => But.refl [] w) (fun x y z h k => h.trans k) (i := 0) (v := .slice A ln c) rfl (by kernel_rfl) (by kernel_rfl) (by kernel_rfl) (fun _ _ _ h => h) (YieldsR.read (fun w => But.refl [] w) ?_ fun w hS => ?_) ?_
        · first | kernel_rfl | go_simp
        · go_simp
        refine wpM_take (fun w => But.refl [] w) (fun x y z h k => h.trans k) (i := 1) (v := .pointer (some ⟨b1, 2, none⟩)) rfl (by kernel_rfl) (by kernel_rfl) (by kernel_rfl) (fun _ _ _ h => h) (YieldsR.read (fun w => But.refl [] w) ?_ fun w hS => ?_) ?_
        · first | kernel_rfl | go_simp
        · go_simp
        refine wpM_take (fun w => But.refl [] w) (fun x y z h k => h.trans k) (i := 2) (v := .string pix) rfl (by kernel_rfl) (by kernel_rfl) (by kernel_rfl) (fun _ _ _ h => h) (YieldsR.read (fun w => But.refl [] w) ?_ fun w hS => ?_) ?_
        · first | kernel_rfl | go_simp
        · obtain ⟨c0, c1, c2, hgl⟩ := HC.out w hS; go_simp
        refine wpM_take (fun w => But.refl [] w) (fun x y z h k => h.trans k) (i := 3) (v := .int .i64 (i : Nat)) rfl (by kernel_rfl) (by kernel_rfl) (by kernel_rfl) (fun _ _ _ h => h) (YieldsR.read (fun w => But.refl [] w) ?_ fun w hS => ?_) ?_
        · first | kernel_rfl | go_simp
        · go_simp
        refine wpM_take (fun w => But.refl [] w) (fun x y z h k => h.trans k) (i := 4) (v := .int .u8 (x : Nat)) rfl (by kernel_rfl) (by kernel_rfl) (by kernel_rfl) (fun _ _ _ h => h) (YieldsR.read (fun w => But.refl [] w) ?_ fun w hS => ?_) ?_
        · first | kernel_rfl | go_simp
        · go_simp
        refine wpM_take (fun w => But.refl [] w) (fun x y z h k => h.trans k) (i := 5) (v := .int .i64 (x : Nat)) rfl (by kernel_rfl) (by kernel_rfl) (by kernel_rfl) (fun _ _ _ h => h) (YieldsR.read (fun w => But.refl [] w) ?_ fun w hS => ?_) ?_
        · first | kernel_rfl | go_simp
        · go_simp
        refine wpM_take (fun w => But.refl [] w) (fun x y z h k => h.trans k) (i := 6) (v := .int .i64 (x2 : Nat)) rfl (by kernel_rfl) (by kernel_rfl) (by kernel_rfl) (fun _ _ _ h => h) (YieldsR.read (fun w => But.refl [] w) ?_ fun w hS => ?_) ?_
        · first | kernel_rfl | go_simp
        · go_simp
        refine wpM_take (fun w => But.refl [] w) (fun x y z h k => h.trans k) (i := 7) (v := .pointer (some ⟨b1, 2, none⟩)) rfl (by kernel_rfl) (by kernel_rfl) (by kernel_rfl) (fun _ _ _ h => h) (YieldsR.read (fun w => But.refl [] w) ?_ fun w hS => ?_) ?_
        · first | kernel_rfl | go_simp
        · go_simp
        refine wpM_take (fun w => But.refl [] w) (fun x y z h k => h.trans k) (i := 8) (v := .string pix) rfl (by kernel_rfl) (by kernel_rfl) (by kernel_rfl) (fun _ _ _ h => h) (YieldsR.read (fun w => But.refl [] w) ?_ fun w hS => ?_) ?_
        · first | kernel_rfl | go_simp
        · obtain ⟨c0, c1, c2, hgl⟩ := HC.out w hS; go_simp
        refine wpM_take (fun w => But.refl [] w) (fun x y z h k => h.trans k) (i := 9) (v := .int .i64 (i : Nat)) rfl (by kernel_rfl) (by kernel_rfl) (by kernel_rfl) (fun _ _ _ h => h) (YieldsR.read (fun w => But.refl [] w) ?_ fun w hS => ?_) ?_
        · first | kernel_rfl | go_simp
        · go_simp
        refine wpM_take (fun w => But.refl [] w) (fun x y z h k => h.trans k) (i := 10) (v := .int .i64 (i1 : Nat)) rfl (by kernel_rfl) (by kernel_rfl) (by kernel_rfl) (fun _ _ _ h => h) (YieldsR.read (fun w => But.refl [] w) ?_ fun w hS => ?_) ?_
        · first | kernel_rfl | go_simp
        · go_simp
        refine wpM_take (fun w => But.refl [] w) (fun x y z h k => h.trans k) (i := 11) (v := .int .u8 (y : Nat)) rfl (by kernel_rfl) (by kernel_rfl) (by kernel_rfl) (fun _ _ _ h => h) (YieldsR.read (fun w => But.refl [] w) ?_ fun w hS => ?_) ?_
        · first | kernel_rfl | go_simp
        · go_simp
        refine wpM_take (fun w => But.refl [] w) (fun x y z h k => h.trans k) (i := 12) (v := .int .i64 (y : Nat)) rfl (by kernel_rfl) (by kernel_rfl) (by kernel_rfl) (fun _ _ _ h => h) (YieldsR.read (fun w => But.refl [] w) ?_ fun w hS => ?_) ?_
        · first | kernel_rfl | go_simp
        · go_simp
        refine wpM_take (fun w => But.refl [] w) (fun x y z h k => h.trans k) (i := 13) (v := .int .i64 (z : Nat)) rfl (by kernel_rfl) (by kernel_rfl) (by kernel_rfl) (fun _ _ _ h => h) (YieldsR.read (fun w => But.refl [] w) ?_ fun w hS => ?_) ?_
        · first | kernel_rfl | go_simp
        · go_simp
        refine wpM_one (i := 14) rfl (by kernel_rfl) fun w6 hR6 hS6 K' hK => ?_
        have HO6 := Lib.hid ((HOW.out.but (((But.refl [] _).drew).trans hR6)).but ((But.refl [] _).alloc (.cells #[.int .i64 (z : Nat)] 3)))
        go_simp
        refine hK _ _ ⟨hS6.alloc _, ?_⟩
        clear hK K'
        refine wpM_one (i := 15) rfl (by kernel_rfl) fun w7 hR7 hS7 K' hK => ?_
        refine step_append_n (w0 := w1) w7 rfl _ _ rfl (.slice A (VW.take ln).length c) (VW.take ln) (by rw [HL2.out]; rfl) (by rw [HL2.out]; exact HO6.out.but hR7) hS7 z (by rfl) ((Is.fresh w6 3 #[.int .i64 (z : Nat)]).but hR7 (by simp)) (by rw [HL2.out]; omega) ?_
        intro A9 c9 w9 HO9 HB9
        refine hK _ _ ⟨HB9.out, ?_⟩
        clear hK K' hR7 hS7 hR6 hS6
        rw [← HN2.out, HL2.out] at HO9
        rw [HL2.out]
        refine wpM_take (fun w => But.refl [] w) (fun x y z h k => h.trans k) (i := 16) (v := .slice A9 (ln + 1) c9) rfl (by kernel_rfl) (by kernel_rfl) (by kernel_rfl) (fun _ _ _ h => h) (YieldsR.read (fun w => But.refl [] w) ?_ fun w hS => ?_) ?_
        · first | kernel_rfl | go_simp
        · go_simp
        refine ⟨by kernel_rfl, fun w8 hR8 hS8 => ?_⟩
        have HO8 := Lib.hid (HO9.out.but hR8)
        have HB8 := Lib.hid hS8
        clear hR8 hS8 HO9 HB9 HO6 kx ky
        go_simp
        obtain ⟨i2, hi2⟩ : ∃ z, z = i + 2 := ⟨_, rfl⟩
        have ei2 : (i : Int) + 2 = (i2 : Int) := by omega
        have vi2 := wrapI_in (show i2 < 1000000000000000 by omega)
        have HI2 : Hid (i2 = 2 * (ln + 1)) := Lib.hid (by have := HII.out; omega)
        have HI3 : Hid (i < 2 * M ∧ i2 = i + 2) := Lib.hid (by have := HII.out; omega)
        clear hi2
        go_wp2
        go_roundw
        case rel => exact ⟨ln + 1, i2, A9, ln + 1, c9, Lib.hid (by omega), by go_num, rfl, HI2, Lib.hid rfl, HO8, HB8⟩
        case measure => have := HI3.out; simp [intOf]; omega
      · obtain rfl : m = M := by omega
        have l1 : decide ((i : Int) < (pix.size : Int)) = false := by simp; omega
        have l2 : decide (i < pix.size) = false := by simp; omega
        have l3 : ¬ i < pix.size := by omega
        obtain rfl := HLN.out
        have HNN : Hid (Nums wr A ln VW ∧ ln ≤ c) := Lib.hid (by
          have h := HOW.out
          rw [HVA.out] at h
          have hl := HVT.out ln (Nat.le_refl _)
          rw [HVA.out] at hl
          have h1 := h.nums
          rw [hl] at h1
          obtain ⟨A', c', e, hc⟩ := h.shape
          rw [hl] at e hc
          injection e with e1 e2 e3
          exact ⟨h1, by omega⟩)
        have HKr := Lib.hid (HPK.out (wr.alloc (.cells #[.int .i64 (-1)] 3)) A (some ⟨wr.heap.size, 0, none⟩) c (HNN.out.1.but ((But.refl [] wr).alloc _)) HNN.out.2 (Zs.is (l := [-1]) (Is.fresh wr 3 #[.int .i64 (-1)])))
        have HBr := Lib.hid (HBx.out.alloc (.cells #[.int .i64 (-1)] 3))
        clear hi hm
        go_wp2_with fail
        refine HKr.out.mono ?_
        rintro e w4 ⟨rfl, hB4⟩
        have HB4 := Lib.hid (HBr.out.trans hB4)
        clear hB4
        go_wp2
        go_ret2
        exact ⟨by rw [HR1.out, HR2.out]; rfl, HB.out.trans HB4.out⟩
  · have HR : Hid (rowsA a b pix = (⟨#[]⟩, r)) := Lib.hid (by unfold rowsA; rw [if_pos (by rw [← hr]; exact h0), hr])
    have HR1 : Hid ((rowsA a b pix).1 = ⟨#[]⟩) := Lib.hid (by rw [HR.out])
    have HR2 : Hid ((rowsA a b pix).2 = r) := Lib.hid (by rw [HR.out])
    obtain ⟨R1, hR1⟩ : ∃ R, R = rowsA a b pix := ⟨_, rfl⟩
    rw [← hR1] at HR1 HR2 ⊢
    have q1 : (r != 0) = true := by simpa using h0
    clear hr hR1 HR
    go_enter Tryd.func14, Tryd.ntmps14
    go_upto_region 1 with (fail)
    rw [← hw1, ← hb1]
    clear hw1 hb1
    obtain ⟨c0, c1, c2, hgl⟩ := HC.out _ (But.refl _ _)
    go_wp2_with fail
    refine (HCK.out _).mono ?_
    rintro e w2 ⟨rfl, hB2⟩
    have HB12 := Lib.hid hB2
    clear hB2 c0 c1 c2 hgl
    go_wp2
    go_ret2
    exact ⟨by rw [HR1.out, HR2.out]; rfl, HB.out.trans HB12.out⟩
theorem rwEP : RwE := fun v _ _ _ hp => erows_any v hp
end Go.Proofs.YtfiedoejdikcgaaDoor
set_option maxRecDepth 100000
set_option linter.unusedVariables false
namespace Go.Proofs.YtfiedoejdikcgaaDoor
set_option maxRecDepth 100000
open Go Go.RowKit Go.ChangeShapes Go.WideShapes
theorem cells_rasterR : Tryd.prog.cellsOf 23 = 3 := by kernel_rfl
theorem cells_intR : Tryd.prog.cellsOf 3 = 1 := by kernel_rfl
theorem cells_strR : Tryd.prog.cellsOf 9 = 1 := by kernel_rfl
/-- A raster that is handed in: two numbers and a string. -/
theorem open_raster {H : Type} {enc : TypeId × Value → H} {W : World} {base : Nat} {v : Value} {d : DataW H} {p : List MemPlace} (hv : Value.okWide Tryd.prog W .any base 23 v)
    (hk : DataW.Trod enc Tryd.prog W 0 (fun _ => true) true 23 v d p) {ts : List TypeId} {ds : List (DataW H)} (hsz : (DataW.weightsEach Tryd.prog ts ds).all (· ≤ reachBytes) = true) {j : Nat} (ht : ts[j]? = some 23) (hd : ds[j]? = some d) :
    ∃ (x y : Int) (a : ByteArray), v = .agg #[.int .i64 x, .int .i64 y, .string a] ∧ a.size ≤ 140737488351232 := by
  obtain ⟨cs, rfl, hcs⟩ := okWide_struct Tryd.underlying23 hv
  obtain ⟨fuel, hf⟩ := hk
  obtain ⟨ys, n', _, hD, hcl, hyl, hfs⟩ := DataW.trod_struct Tryd.underlying23 hf
  rw [cells_rasterR] at hcl
  obtain ⟨xs, hxs⟩ : ∃ xs, xs = (Value.agg cs).cells.toList := ⟨_, rfl⟩
  rw [← hxs] at hcl hfs
  match xs, hcl with
  | [x0, x1, x2], _ =>
    have g0 := hfs 0 _ rfl
    have g1 := hfs 1 _ rfl
    have g2 := hfs 2 _ rfl
    have hy : ys.length = 3 := hyl
    match ys, hy with
    | [y0, y1, y2], _ =>
      obtain ⟨q0, c0, d0, _⟩ := DataW.trod_int Tryd.underlying3 (x := y0) g0
      obtain ⟨q1, c1, d1, _⟩ := DataW.trod_int Tryd.underlying3 (x := y1) g1
      obtain ⟨a, c2, d2, _⟩ := DataW.trod_string Tryd.underlying9 (x := y2) g2
      have c0 : ([x0, x1, x2].drop 0).take (Tryd.prog.cellsOf 3) = [.int .i64 q0] := c0
      have c1 : ([x0, x1, x2].drop 1).take (Tryd.prog.cellsOf 3) = [.int .i64 q1] := c1
      have c2 : ([x0, x1, x2].drop 2).take (Tryd.prog.cellsOf 9) = [.string a] := c2
      rw [cells_intR] at c0 c1
      rw [cells_strR] at c2
      have e0 : x0 = .int .i64 q0 := by simpa using c0
      have e1 : x1 = .int .i64 q1 := by simpa using c1
      have e2 : x2 = .string a := by simpa using c2
      have hDD : d = .agg [.lit (.int .i64 q0), .lit (.int .i64 q1), .lit (.string a.data.toList)] := by
        have hD1 := (Prod.mk.inj hD).1
        rw [hD1, d0, d1, d2]
        rfl
      have hr : reachBytes = 140737488351232 := rfl
      have hww : ∀ k ∈ (d.weights Tryd.prog 23), k ≤ reachBytes := fun k hk => by
        have h3 := List.all_eq_true.1 hsz k (DataW.weights_mem_each ht hd k hk)
        simpa using h3
      have hmem : a.data.toList.length ∈ d.weights Tryd.prog 23 := by
        rw [hDD]
        simp only [DataW.weights, Tryd.underlying23]
        exact List.mem_append.2 (Or.inr (List.mem_append.2 (Or.inr (List.mem_append.2 (Or.inl (List.mem_singleton.2 rfl))))))
      refine ⟨q0, q1, a, ?_, ?_⟩
      · obtain ⟨l⟩ := cs
        simp only [Value.cells] at hxs
        have e : l = [x0, x1, x2] := by simpa using hxs.symm
        rw [e, e0, e1, e2]
      · have := hww _ hmem; rw [hr, Array.length_toList] at this; exact this
end Go.Proofs.YtfiedoejdikcgaaDoor
