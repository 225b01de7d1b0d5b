/- Several texts in one: PxL (what PixelBack reach of them). -/
import Derived.Test.YtfiedoejdikcgaaDoorK01
import Derived.Test.YtfiedoejdikcgaaDoorK02
import Derived.Test.YtfiedoejdikcgaaDoorK03
import Derived.Test.YtfiedoejdikcgaaDoorK05
import Derived.Test.YtfiedoejdikcgaaDoorK06
import Derived.Test.YtfiedoejdikcgaaDoorK07
import Derived.Test.YtfiedoejdikcgaaDoorK08
import Derived.Test.YtfiedoejdikcgaaDoorK11
import Derived.Test.YtfiedoejdikcgaaDoorK19
import Derived.Test.YtfiedoejdikcgaaDoorK21
import Derived.Below
import Derived.BigQuiet
import Derived.BigRegion
import Derived.Deep.AppendLies
import Derived.Deep.CutBlock
import Derived.Deep.CutRange
import Derived.Deep.DeepCutAuto
import Derived.Deep.Draws
import Derived.Deep.QuietTactic
import Derived.Deep.RegionLaw
import Derived.Deep.RegionWith
import Derived.Handy
import Derived.Laws.BitsAllLaws
import Derived.Laws.BitsLemmas
import Derived.Laws.BytesArg
import Derived.Laws.IdiomStrings
import Derived.Laws.MakeOwn
import Derived.Laws.OwnMore
import Derived.Laws.Rows
import Derived.Laws.StructEq
import Derived.Lib.BufferWrite
import Derived.Lib.Hide
import Derived.Maps.AppendAt
import Derived.OrdersHeld
import Derived.OrdersIn
import Derived.Outline
import Derived.OwnWalk
import Derived.OwnWalkIn
import Derived.RangeFuncCalls
import Derived.RegionTactic
import Derived.TacticsInMore
import Derived.Test.YtfiedoejdikcgaaDoorChecked
import Derived.WalkKit
set_option maxRecDepth 100000
set_option linter.unusedVariables false
set_option maxRecDepth 100000
set_option linter.unusedVariables false
namespace Go.Proofs.YtfiedoejdikcgaaDoor
set_option maxRecDepth 100000
open Go Go.RowKit
theorem checkA_cases (a b : Int) (pix : ByteArray) : checkA a b pix = 0 ∨ checkA a b pix = 5 ∨ checkA a b pix = 24 := by
  unfold checkA
  have h := rightH_cases a b 16 6 0
  split
  · rcases h with h | h | h
    · rw [h]; simp
    · exact .inr (.inl h)
    · exact .inr (.inr h)
  · split
    · simp
    · simp
/-- The raster of a raster's packed bytes. -/
theorem rows_back {a b : Int} {pix : ByteArray} (h : checkA a b pix = 0) : imageA a b 16 6 0 ⟨#[]⟩ ⟨#[]⟩ false (rowsA a b pix).1 = ((a, b, pix), 0) ∧ (rowsA a b pix).2 = 0 ∧ (rowsA a b pix).1.size ≤ 140737488351232 := by
  have hr : rowsA a b pix = (strL (rowsT a.toNat b.toNat pix.data.toList), 0) := by unfold rowsA; rw [if_neg (fun k => k h)]
  have h0 : rightH a b 16 6 0 = 0 := by
    unfold checkA at h
    by_cases k : rightH a b 16 6 0 ≠ 0
    · rw [if_pos k] at h; exact absurd h k
    · exact Classical.not_not.1 k
  obtain ⟨W, H, D, C, R⟩ := right_form h0
  have hD : D = 16 := by have := R.dd; omega
  have hC : C = 6 := by have := R.cc; omega
  subst hD hC
  have hpix : pix.data.toList.length = 8 * (W * H) := by
    unfold checkA at h
    rw [if_neg (fun k => k h0)] at h
    by_cases k : (pix.size : Int) ≠ 8 * a * b
    · rw [if_pos k] at h; exact absurd h (by decide)
    · have k2 := Classical.not_not.1 k
      rw [R.wa, R.hb, Int.mul_assoc, ← Int.natCast_mul] at k2
      rw [Array.length_toList]
      show pix.size = _
      omega
  have hwa : a.toNat = W := by rw [R.wa]; rfl
  have hhb : b.toNat = H := by rw [R.hb]; rfl
  have hbase : (baseL 0).filter (someP W H) = plainL := by
    have hs : someP W H ⟨0, 0, 1, 1⟩ = true := by
      unfold someP manyL
      have := R.w1
      have := R.h1
      exact decide_eq_true ⟨by show 0 < (W - 0 + 1 - 1) / 1; omega, by show 0 < (H - 0 + 1 - 1) / 1; omega⟩
    show (plainL).filter (someP W H) = plainL
    unfold plainL
    rw [List.filter_cons_of_pos hs]
    rfl
  have hi : imgA a b 16 6 0 ⟨#[]⟩ ⟨#[]⟩ false (strL (rowsT W H pix.data.toList)) = (pix.data.toList, 0) := by
    rw [imgA_T h0 R, strL_list, hbase]
    exact img_rows hpix
  have hlen : (rowsT W H pix.data.toList).length ≤ 140737488351232 := by
    unfold rowsT
    rw [packI_length]
    have hz := sizeA_J [] [] false h0 R
    rw [hbase] at hz
    have e : sizeJ (rgbaS W H) (jobsL W H plainL) = sizeA a b 16 6 0 := hz.symm
    rw [e]
    unfold sizeA
    have h1 := sizeL_le (a := a) (b := b) (d := 16) (c := 6) (l := 0) (L := passA a b 16 6 0) (fun p hp => by have := passA_small hp; omega)
    have h2 := passA_len a b 16 6 0
    have h3 : (passA a b 16 6 0).length * 8389632 ≤ 7 * 8389632 := Nat.mul_le_mul_right _ h2
    omega
  refine ⟨?_, by rw [hr], ?_⟩
  · rw [hr, hwa, hhb]
    exact (imageA_ok hi).trans (by rw [strL_of])
  · rw [hr, hwa, hhb]
    show (strL _).size ≤ _
    rw [strL_size]
    exact hlen
attribute [local irreducible] checkA imageA rowsA
set_option maxHeartbeats 1000000 in
theorem pixelBack_walk {G : World → Prop} (hL : Lasts G) (haw : Awk12 G) (hc : RwC G) (hi : ImC G) {a b : Int} {pix : ByteArray} {w : World} (hp : pix.size ≤ 140737488351232) (hG : G w) :
    Calls Tryd.prog 6 #[.agg #[.int .i64 a, .int .i64 b, .string pix]] w fun e w' => e = .returned (.bool true) ∧ Below w.heap.size w w' := by
  obtain ⟨b0, hb0⟩ : ∃ g, g = w.heap.size := ⟨_, rfl⟩
  obtain ⟨w1, hw1⟩ : ∃ X, X = w.alloc (.cells #[.int .i64 a, .int .i64 b, .string pix] 23) := ⟨_, rfl⟩
  have hI : Is w1 b0 23 #[.int .i64 a, .int .i64 b, .string pix] := by rw [hw1, hb0]; exact Is.fresh _ _ _
  have hB : But [] w w1 := by rw [hw1]; exact (But.refl [] w).alloc _
  have HB := Lib.hid hB
  have HI := Lib.hid hI
  have HG : Hid (∀ v, But [] w1 v → G v) := Lib.hid fun v hv => hL _ _ (hL _ _ hG hB) hv
  have HA := Lib.hid haw
  by_cases h0 : checkA a b pix ≠ 0
  · obtain ⟨r, hr⟩ : ∃ r, r = checkA a b pix := ⟨_, rfl⟩
    have hR : rowsA a b pix = (⟨#[]⟩, r) := by unfold rowsA; rw [← hr, if_pos (by rw [hr]; exact h0)]
    have HP : Hid (∀ v, But [] w1 v → Calls Tryd.prog 13 #[.agg #[.int .i64 a, .int .i64 b, .string pix]] v fun e w' => e = .returned (.tuple #[.string ⟨#[]⟩, .int .i64 r]) ∧ But [] v w') := Lib.hid fun v hv => by have h := hc v a b pix (HG.out v hv) hp; rw [hR] at h; exact h
    have hcases : r = 5 ∨ r = 24 := by rcases checkA_cases a b pix with h | h | h; exact absurd h h0; exact .inl (hr.trans h); exact .inr (hr.trans h)
    clear hr hR haw hc hi h0
    rcases hcases with rfl | rfl
    · have c0 := HI.out.cell 0
      clear hI hB hG
      go_enter Tryd.func6, Tryd.ntmps6
      go_upto_region 1 with (fail)
      rw [← hw1, ← hb0]
      clear c0 hw1 hb0
      have c0 := (HI.out.but (But.refl [] w1) (by simp)).cell 0
      have c1 := (HI.out.but (But.refl [] w1) (by simp)).cell 1
      have c2 := (HI.out.but (But.refl [] w1) (by simp)).cell 2
      have hgl := (HI.out.but (But.refl [] w1) (by simp)).lt
      go_wp2_with fail
      refine (HP.out _ (But.refl [] _)).mono ?_
      rintro e w2 ⟨rfl, hB2⟩
      have HB2 := Lib.hid hB2
      clear hB2
      clear c0 c1 c2 hgl
      go_wp2_with fail
      refine (HA.out _ (HG.out _ HB2.out)).mono ?_
      rintro e w9 ⟨rfl, hB9⟩
      have HB9 := Lib.hid (HB.out.trans (HB2.out.trans hB9))
      clear hB9
      go_wp2
      go_ret
      exact ⟨rfl, HB9.out.belowP⟩
    · have c0 := HI.out.cell 0
      clear hI hB hG
      go_enter Tryd.func6, Tryd.ntmps6
      go_upto_region 1 with (fail)
      rw [← hw1, ← hb0]
      clear c0 hw1 hb0
      have c0 := (HI.out.but (But.refl [] w1) (by simp)).cell 0
      have c1 := (HI.out.but (But.refl [] w1) (by simp)).cell 1
      have c2 := (HI.out.but (But.refl [] w1) (by simp)).cell 2
      have hgl := (HI.out.but (But.refl [] w1) (by simp)).lt
      go_wp2_with fail
      refine (HP.out _ (But.refl [] _)).mono ?_
      rintro e w2 ⟨rfl, hB2⟩
      have HB2 := Lib.hid hB2
      clear hB2
      clear c0 c1 c2 hgl
      go_wp2_with fail
      refine (HA.out _ (HG.out _ HB2.out)).mono ?_
      rintro e w9 ⟨rfl, hB9⟩
      have HB9 := Lib.hid (HB.out.trans (HB2.out.trans hB9))
      clear hB9
      go_wp2
      go_ret
      exact ⟨rfl, HB9.out.belowP⟩
  have h0 := Classical.not_not.1 h0
  obtain ⟨hb1, hb2, hb3⟩ := rows_back h0
  obtain ⟨s, hs⟩ : ∃ r, r = (rowsA a b pix).1 := ⟨_, rfl⟩
  rw [← hs] at hb1 hb3
  have HP : Hid (∀ v, But [] w1 v → Calls Tryd.prog 13 #[.agg #[.int .i64 a, .int .i64 b, .string pix]] v fun e w' => e = .returned (.tuple #[.string s, .int .i64 0]) ∧ But [] v w') := Lib.hid fun v hv => by have h := hc v a b pix (HG.out v hv) hp; rw [hb2, ← hs] at h; exact h
  have HM : Hid (∀ v, But [] w1 v → Calls Tryd.prog 11 #[.agg #[.int .i64 a, .int .i64 b, .int .i64 16, .int .i64 6, .int .i64 0, .string ⟨#[]⟩, .string ⟨#[]⟩, .bool false], .string s] v fun e w' => e = .returned (.tuple #[.agg #[.int .i64 a, .int .i64 b, .string pix], .int .i64 0]) ∧ But [] v w') := Lib.hid fun v hv => by
    have h := hi v a b 16 6 0 ⟨#[]⟩ ⟨#[]⟩ s false (HG.out v hv) (by decide) (by decide) hb3
    rw [hb1] at h
    exact h
  have keq := fun v => ras_eql v a b pix
  clear hs hb1 hb2 hb3 haw hc hi h0
  have c0 := HI.out.cell 0
  clear hI hB hG
  go_enter Tryd.func6, Tryd.ntmps6
  go_upto_region 1 with (fail)
  rw [← hw1, ← hb0]
  clear c0 hw1 hb0
  have c0 := (HI.out.but (But.refl [] w1) (by simp)).cell 0
  have c1 := (HI.out.but (But.refl [] w1) (by simp)).cell 1
  have c2 := (HI.out.but (But.refl [] w1) (by simp)).cell 2
  have hgl := (HI.out.but (But.refl [] w1) (by simp)).lt
  go_wp2_with fail
  refine (HP.out _ (But.refl [] _)).mono ?_
  rintro e w2 ⟨rfl, hB2⟩
  have HB2 := Lib.hid hB2
  clear hB2
  clear c0 c1 c2 hgl
  have c0 := (HI.out.but HB2.out (by simp)).cell 0
  have c1 := (HI.out.but HB2.out (by simp)).cell 1
  have c2 := (HI.out.but HB2.out (by simp)).cell 2
  have hgl := (HI.out.but HB2.out (by simp)).lt
  go_wp2_with fail
  refine (HM.out _ HB2.out).mono ?_
  rintro e w3 ⟨rfl, hB3⟩
  have HB3 := Lib.hid (HB2.out.trans hB3)
  clear hB3
  clear c0 c1 c2 hgl
  have c0 := (HI.out.but HB3.out (by simp)).cell 0
  have c1 := (HI.out.but HB3.out (by simp)).cell 1
  have c2 := (HI.out.but HB3.out (by simp)).cell 2
  have hgl := (HI.out.but HB3.out (by simp)).lt
  go_upto_region 5 with (fail)
  obtain ⟨b1, hb1⟩ : ∃ g, g = w3.heap.size := ⟨_, rfl⟩
  obtain ⟨w4, hw4⟩ : ∃ X, X = w3.alloc (.cells #[.int .i64 a, .int .i64 b, .string pix] 23) := ⟨_, rfl⟩
  rw [← hw4, ← hb1]
  have HI1 : Hid (Is w4 b1 23 #[.int .i64 a, .int .i64 b, .string pix]) := Lib.hid (by rw [hw4, hb1]; exact Is.fresh _ _ _)
  have HB4 : Hid (But [] w1 w4) := Lib.hid (by rw [hw4]; exact HB3.out.alloc _)
  clear c0 c1 c2 hgl
  clear hb1 hw4
  have c0 := (HI.out.but HB4.out (by simp)).cell 0
  have c1 := (HI.out.but HB4.out (by simp)).cell 1
  have c2 := (HI.out.but HB4.out (by simp)).cell 2
  have hgl := (HI.out.but HB4.out (by simp)).lt
  have e0 := HI1.out.cell 0
  have e1 := HI1.out.cell 1
  have e2 := HI1.out.cell 2
  have hgl1 := HI1.out.lt
  go_wp2_with fail
  refine (HA.out _ (HG.out _ HB4.out)).mono ?_
  rintro e w9 ⟨rfl, hB9⟩
  have HB9 := Lib.hid (HB.out.trans (HB4.out.trans hB9))
  clear hB9
  go_wp2
  go_ret
  exact ⟨rfl, HB9.out.belowP⟩
end Go.Proofs.YtfiedoejdikcgaaDoor
