/- Several texts in one: PxB, PxL, PxI (what PixelImages reach of them). -/
import Derived.Test.YtfiedoejdikcgaaDoorQ01
import Derived.Test.YtfiedoejdikcgaaDoorQ02
import Derived.Test.YtfiedoejdikcgaaDoorQ03
import Derived.Test.YtfiedoejdikcgaaDoorQ05
import Derived.Test.YtfiedoejdikcgaaDoorQ06
import Derived.Test.YtfiedoejdikcgaaDoorQ07
import Derived.Test.YtfiedoejdikcgaaDoorQ08
import Derived.Test.YtfiedoejdikcgaaDoorQ09
import Derived.Test.YtfiedoejdikcgaaDoorQ12
import Derived.Test.YtfiedoejdikcgaaDoorQ17
import Derived.Test.YtfiedoejdikcgaaDoorQ19
import Derived.Test.YtfiedoejdikcgaaDoorQ21
import Derived.Test.YtfiedoejdikcgaaDoorQ28
import Derived.Test.YtfiedoejdikcgaaDoorQ29
import Derived.Test.YtfiedoejdikcgaaDoorQ30
import Derived.Test.YtfiedoejdikcgaaDoorQ31
import Derived.Test.YtfiedoejdikcgaaDoorQ33
import Derived.Below
import Derived.BigQuiet
import Derived.BigRegion
import Derived.Deep.AppendLies
import Derived.Deep.CutBlock
import Derived.Deep.CutRange
import Derived.Deep.DeepCutAuto
import Derived.Deep.Draws
import Derived.Deep.QuietTactic
import Derived.Deep.RegionLaw
import Derived.Deep.RegionWith
import Derived.Deep.Slices
import Derived.Handy
import Derived.Laws.BitsAllLaws
import Derived.Laws.BitsLemmas
import Derived.Laws.BytesArg
import Derived.Laws.Externs
import Derived.Laws.IdiomStrings
import Derived.Laws.MakeOwn
import Derived.Laws.OwnMore
import Derived.Laws.Rows
import Derived.Laws.StructEq
import Derived.Lib.AppendStr
import Derived.Lib.BufferWrite
import Derived.Lib.Hide
import Derived.Lib.UnsafeStr
import Derived.LoopIn
import Derived.LoopNIn
import Derived.Maps.AppendAt
import Derived.OpenShut
import Derived.OrdersHeld
import Derived.OrdersIn
import Derived.Outline
import Derived.OwnWalk
import Derived.OwnWalkIn
import Derived.ProofKit
import Derived.RangeFuncBound
import Derived.RangeFuncCalls
import Derived.RangeFuncLeaves
import Derived.RangeFuncNested
import Derived.RegionTactic
import Derived.Shelf.Abstract
import Derived.Shelf.LaysM
import Derived.Shelf.RegionOpen
import Derived.Shelf.Small.Wraps
import Derived.Shelf.Strconv.Clone
import Derived.Shelf.Strings.Builder1
import Derived.Shelf.Strings.BuilderF
import Derived.Shelf.Strings.Prefix
import Derived.Sort.CutIn
import Derived.TacticsInMore
import Derived.Test.YtfiedoejdikcgaaDoorChecked
import Derived.WalkKit
set_option maxRecDepth 100000
set_option linter.unusedVariables false
set_option maxRecDepth 100000
set_option linter.unusedVariables false
namespace Go.Proofs.YtfiedoejdikcgaaDoor
set_option maxRecDepth 100000
open Go Go.RowKit
set_option maxHeartbeats 1000000 in
theorem eimage_bad (w : World) {a b d c l : Int} {pal tr raw : ByteArray} {has : Bool} (h0 : rightH a b d c l ≠ 0) :
    Calls Tryd.prog 12 #[.agg #[.int .i64 a, .int .i64 b, .int .i64 d, .int .i64 c, .int .i64 l, .string pal, .string tr, .bool has], .string raw] w fun r w' => r = .returned (.tuple #[.agg #[.int .i64 (imageA a b d c l pal tr has raw).1.1, .int .i64 (imageA a b d c l pal tr has raw).1.2.1, .string (imageA a b d c l pal tr has raw).1.2.2], .int .i64 (imageA a b d c l pal tr has raw).2]) ∧ But [] w w' := by
  obtain ⟨b0, hb0⟩ : ∃ g, g = w.heap.size := ⟨_, rfl⟩
  obtain ⟨b4, hb4⟩ : ∃ g, g = w.heap.size + 1 := ⟨_, rfl⟩
  have hB1 := ((But.refl [] w).alloc (.cells #[.int .i64 a, .int .i64 b, .int .i64 d, .int .i64 c, .int .i64 l, .string pal, .string tr, .bool has] 31)).alloc (.cells #[.int .i64 0, .int .i64 0, .string ⟨#[]⟩] 23)
  obtain ⟨w1, hw1⟩ : ∃ X, X = (w.alloc (.cells #[.int .i64 a, .int .i64 b, .int .i64 d, .int .i64 c, .int .i64 l, .string pal, .string tr, .bool has] 31)).alloc (.cells #[.int .i64 0, .int .i64 0, .string ⟨#[]⟩] 23) := ⟨_, rfl⟩
  have HI1 : Hid (ImS b0 b4 #[.int .i64 a, .int .i64 b, .int .i64 d, .int .i64 c, .int .i64 l, .string pal, .string tr, .bool has] w1) := Lib.hid (by
    refine ⟨?_, ?_⟩
    · rw [hw1, hb0]; exact (Is.fresh _ _ _).alloc _
    · rw [hw1, hb4]
      have h := Is.fresh (w.alloc (.cells #[.int .i64 a, .int .i64 b, .int .i64 d, .int .i64 c, .int .i64 l, .string pal, .string tr, .bool has] 31)) 23 #[.int .i64 0, .int .i64 0, .string ⟨#[]⟩]
      rw [show (w.alloc (.cells #[.int .i64 a, .int .i64 b, .int .i64 d, .int .i64 c, .int .i64 l, .string pal, .string tr, .bool has] 31)).heap.size = w.heap.size + 1 by simp] at h
      exact h)
  rw [← hw1] at hB1
  have HB1 := Lib.hid hB1
  have HW4 : Hid (w.heap.size ≤ b4) := Lib.hid (by rw [hb4]; omega)
  clear hB1
  obtain ⟨er, her⟩ : ∃ x, x = rightH a b d c l := ⟨_, rfl⟩
  have HE : Hid (∀ W, Calls Tryd.prog 15 #[.agg #[.int .i64 a, .int .i64 b, .int .i64 d, .int .i64 c, .int .i64 l]] W fun e w' => e = .returned (.int .i64 er) ∧ But [] W w') := Lib.hid fun W => by rw [her]; exact eright_h W a b d c l
  have HR := Lib.hid (imgA_bad (pal := pal) (tr := tr) (has := has) (raw := raw) h0)
  rw [← her] at HR h0
  have q1 : (er != 0) = true := by simpa using h0
  have HR1 : Hid ((imageA a b d c l pal tr has raw).1 = (0, 0, ⟨#[]⟩)) := Lib.hid (by rw [HR.out])
  have HR2 : Hid ((imageA a b d c l pal tr has raw).2 = er) := Lib.hid (by rw [HR.out])
  obtain ⟨R1, hR1⟩ : ∃ R, R = imageA a b d c l pal tr has raw := ⟨_, rfl⟩
  rw [← hR1] at HR1 HR2 ⊢
  clear her hR1 HR
  go_enter Tryd.func12, Tryd.ntmps12
  go_upto_region 1 with (fail)
  rw [← hw1, ← hb4, ← hb0]
  clear hw1 hb0 hb4
  have c0 := HI1.out.1.cell 0
  have c1 := HI1.out.1.cell 1
  have c2 := HI1.out.1.cell 2
  have c3 := HI1.out.1.cell 3
  have c4 := HI1.out.1.cell 4
  have c5 := HI1.out.1.cell 5
  have c6 := HI1.out.1.cell 6
  have c7 := HI1.out.1.cell 7
  have hgl := HI1.out.1.lt
  have hgl4 := HI1.out.2.lt
  go_wp2_with fail
  refine (HE.out _).mono ?_
  rintro e w2 ⟨rfl, hB2⟩
  have HI2 := Lib.hid (HI1.out.but hB2)
  have HB2 := Lib.hid (HB1.out.trans hB2)
  clear hB2
  clear c0 c1 c2 c3 c4 c5 c6 c7 hgl hgl4
  have c0 := HI2.out.1.cell 0
  have c1 := HI2.out.1.cell 1
  have c2 := HI2.out.1.cell 2
  have c3 := HI2.out.1.cell 3
  have c4 := HI2.out.1.cell 4
  have c5 := HI2.out.1.cell 5
  have c6 := HI2.out.1.cell 6
  have c7 := HI2.out.1.cell 7
  have hgl := HI2.out.1.lt
  have hgl4 := HI2.out.2.lt
  have d0 := HI2.out.2.cell 0
  have f0 := HI2.out.2.free 0
  have d1 := HI2.out.2.cell 1
  have f1 := HI2.out.2.free 1
  have d2 := HI2.out.2.cell 2
  have f2 := HI2.out.2.free 2
  go_wp2
  exact img_ret HI2.out.2 HB2.out HW4.out (by rfl) (by rfl) 0 0 ⟨#[]⟩ HR1.out HR2.out
set_option maxHeartbeats 2000000 in
theorem eimage_ok (w : World) {W H D C : Nat} {l : Int} {pal tr raw : ByteArray} {has : Bool} (h0 : rightH (W : Int) H D C l = 0) (R : RightP (W : Int) H D C l W H D C) (hp : pal.size ≤ 140737488351232) (ht : tr.size ≤ 140737488351232) (hr : raw.size ≤ 140737488351232) :
    Calls Tryd.prog 12 #[.agg #[.int .i64 W, .int .i64 H, .int .i64 D, .int .i64 C, .int .i64 l, .string pal, .string tr, .bool has], .string raw] w fun r w' => r = .returned (.tuple #[.agg #[.int .i64 (imageA W H D C l pal tr has raw).1.1, .int .i64 (imageA W H D C l pal tr has raw).1.2.1, .string (imageA W H D C l pal tr has raw).1.2.2], .int .i64 (imageA W H D C l pal tr has raw).2]) ∧ But [] w w' := by
  obtain ⟨b0, hb0⟩ : ∃ g, g = w.heap.size := ⟨_, rfl⟩
  obtain ⟨b4, hb4⟩ : ∃ g, g = w.heap.size + 1 := ⟨_, rfl⟩
  have hB1 := ((But.refl [] w).alloc (.cells #[.int .i64 W, .int .i64 H, .int .i64 D, .int .i64 C, .int .i64 l, .string pal, .string tr, .bool has] 31)).alloc (.cells #[.int .i64 0, .int .i64 0, .string ⟨#[]⟩] 23)
  obtain ⟨w1, hw1⟩ : ∃ X, X = (w.alloc (.cells #[.int .i64 W, .int .i64 H, .int .i64 D, .int .i64 C, .int .i64 l, .string pal, .string tr, .bool has] 31)).alloc (.cells #[.int .i64 0, .int .i64 0, .string ⟨#[]⟩] 23) := ⟨_, rfl⟩
  have HI1 : Hid (ImS b0 b4 #[.int .i64 W, .int .i64 H, .int .i64 D, .int .i64 C, .int .i64 l, .string pal, .string tr, .bool has] w1) := Lib.hid (by
    refine ⟨?_, ?_⟩
    · rw [hw1, hb0]; exact (Is.fresh _ _ _).alloc _
    · rw [hw1, hb4]
      have h := Is.fresh (w.alloc (.cells #[.int .i64 W, .int .i64 H, .int .i64 D, .int .i64 C, .int .i64 l, .string pal, .string tr, .bool has] 31)) 23 #[.int .i64 0, .int .i64 0, .string ⟨#[]⟩]
      rw [show (w.alloc (.cells #[.int .i64 W, .int .i64 H, .int .i64 D, .int .i64 C, .int .i64 l, .string pal, .string tr, .bool has] 31)).heap.size = w.heap.size + 1 by simp] at h
      exact h)
  rw [← hw1] at hB1
  have HB1 := Lib.hid hB1
  have HW4 : Hid (w.heap.size ≤ b4) := Lib.hid (by rw [hb4]; omega)
  clear hB1
  obtain ⟨T, hT⟩ : ∃ T, T = sizeA (W : Int) H D C l := ⟨_, rfl⟩
  have HSZ : Hid (∀ v, Calls Tryd.prog 24 #[.agg #[.int .i64 W, .int .i64 H, .int .i64 D, .int .i64 C, .int .i64 l]] v fun e w' => e = .returned (.int .i64 (T : Nat)) ∧ But [] v w') := Lib.hid fun v => by rw [hT]; exact esize_any v _ _ _ _ _
  have HE : Hid (∀ v, Calls Tryd.prog 15 #[.agg #[.int .i64 W, .int .i64 H, .int .i64 D, .int .i64 C, .int .i64 l]] v fun e w' => e = .returned (.int .i64 0) ∧ But [] v w') := Lib.hid fun v => by have h := eright_h v W H D C l; rw [h0] at h; exact h
  by_cases hsh : raw.size < T
  · have HRs := Lib.hid (imgA_short (pal := pal) (tr := tr) (has := has) (raw := raw) h0 R (by rw [← hT]; exact hsh))
    have HR1 : Hid ((imageA W H D C l pal tr has raw).1 = (0, 0, ⟨#[]⟩)) := Lib.hid (by rw [HRs.out])
    have HR2 : Hid ((imageA W H D C l pal tr has raw).2 = 30) := Lib.hid (by rw [HRs.out])
    obtain ⟨R1, hR1⟩ : ∃ R, R = imageA W H D C l pal tr has raw := ⟨_, rfl⟩
    rw [← hR1] at HR1 HR2 ⊢
    clear hR1 HRs hT R h0
    go_enter Tryd.func12, Tryd.ntmps12
    go_upto_region 1 with (fail)
    rw [← hw1, ← hb4, ← hb0]
    clear hw1 hb0 hb4
    have c0 := HI1.out.1.cell 0
    have c1 := HI1.out.1.cell 1
    have c2 := HI1.out.1.cell 2
    have c3 := HI1.out.1.cell 3
    have c4 := HI1.out.1.cell 4
    have c5 := HI1.out.1.cell 5
    have c6 := HI1.out.1.cell 6
    have c7 := HI1.out.1.cell 7
    have hgl := HI1.out.1.lt
    have hgl4 := HI1.out.2.lt
    go_wp2_with fail
    refine (HE.out _).mono ?_
    rintro e w2 ⟨rfl, hB2⟩
    have HI2 := Lib.hid (HI1.out.but hB2)
    have HB2 := Lib.hid (HB1.out.trans hB2)
    clear hB2
    clear c0 c1 c2 c3 c4 c5 c6 c7 hgl hgl4
    have c0 := HI2.out.1.cell 0
    have c1 := HI2.out.1.cell 1
    have c2 := HI2.out.1.cell 2
    have c3 := HI2.out.1.cell 3
    have c4 := HI2.out.1.cell 4
    have c5 := HI2.out.1.cell 5
    have c6 := HI2.out.1.cell 6
    have c7 := HI2.out.1.cell 7
    have hgl := HI2.out.1.lt
    have hgl4 := HI2.out.2.lt
    go_wp2_with fail
    refine (HSZ.out _).mono ?_
    rintro e w3 ⟨rfl, hB3⟩
    have HI3 := Lib.hid (HI2.out.but hB3)
    have HB3 := Lib.hid (HB2.out.trans hB3)
    clear hB3
    clear c0 c1 c2 c3 c4 c5 c6 c7 hgl hgl4
    have c0 := HI3.out.1.cell 0
    have c1 := HI3.out.1.cell 1
    have c2 := HI3.out.1.cell 2
    have c3 := HI3.out.1.cell 3
    have c4 := HI3.out.1.cell 4
    have c5 := HI3.out.1.cell 5
    have c6 := HI3.out.1.cell 6
    have c7 := HI3.out.1.cell 7
    have hgl := HI3.out.1.lt
    have hgl4 := HI3.out.2.lt
    have d0 := HI3.out.2.cell 0
    have f0 := HI3.out.2.free 0
    have d1 := HI3.out.2.cell 1
    have f1 := HI3.out.2.free 1
    have d2 := HI3.out.2.cell 2
    have f2 := HI3.out.2.free 2
    go_wp2
    exact img_ret HI3.out.2 HB3.out HW4.out (by rfl) (by rfl) 0 0 ⟨#[]⟩ HR1.out HR2.out
  by_cases hlo : T < raw.size
  · have HRs := Lib.hid (imgA_long (pal := pal) (tr := tr) (has := has) (raw := raw) h0 R (by rw [← hT]; exact hlo))
    have HR1 : Hid ((imageA W H D C l pal tr has raw).1 = (0, 0, ⟨#[]⟩)) := Lib.hid (by rw [HRs.out])
    have HR2 : Hid ((imageA W H D C l pal tr has raw).2 = 31) := Lib.hid (by rw [HRs.out])
    obtain ⟨R1, hR1⟩ : ∃ R, R = imageA W H D C l pal tr has raw := ⟨_, rfl⟩
    rw [← hR1] at HR1 HR2 ⊢
    clear hR1 HRs hT R h0
    go_enter Tryd.func12, Tryd.ntmps12
    go_upto_region 1 with (fail)
    rw [← hw1, ← hb4, ← hb0]
    clear hw1 hb0 hb4
    have c0 := HI1.out.1.cell 0
    have c1 := HI1.out.1.cell 1
    have c2 := HI1.out.1.cell 2
    have c3 := HI1.out.1.cell 3
    have c4 := HI1.out.1.cell 4
    have c5 := HI1.out.1.cell 5
    have c6 := HI1.out.1.cell 6
    have c7 := HI1.out.1.cell 7
    have hgl := HI1.out.1.lt
    have hgl4 := HI1.out.2.lt
    go_wp2_with fail
    refine (HE.out _).mono ?_
    rintro e w2 ⟨rfl, hB2⟩
    have HI2 := Lib.hid (HI1.out.but hB2)
    have HB2 := Lib.hid (HB1.out.trans hB2)
    clear hB2
    clear c0 c1 c2 c3 c4 c5 c6 c7 hgl hgl4
    have c0 := HI2.out.1.cell 0
    have c1 := HI2.out.1.cell 1
    have c2 := HI2.out.1.cell 2
    have c3 := HI2.out.1.cell 3
    have c4 := HI2.out.1.cell 4
    have c5 := HI2.out.1.cell 5
    have c6 := HI2.out.1.cell 6
    have c7 := HI2.out.1.cell 7
    have hgl := HI2.out.1.lt
    have hgl4 := HI2.out.2.lt
    go_wp2_with fail
    refine (HSZ.out _).mono ?_
    rintro e w3 ⟨rfl, hB3⟩
    have HI3 := Lib.hid (HI2.out.but hB3)
    have HB3 := Lib.hid (HB2.out.trans hB3)
    clear hB3
    clear c0 c1 c2 c3 c4 c5 c6 c7 hgl hgl4
    have c0 := HI3.out.1.cell 0
    have c1 := HI3.out.1.cell 1
    have c2 := HI3.out.1.cell 2
    have c3 := HI3.out.1.cell 3
    have c4 := HI3.out.1.cell 4
    have c5 := HI3.out.1.cell 5
    have c6 := HI3.out.1.cell 6
    have c7 := HI3.out.1.cell 7
    have hgl := HI3.out.1.lt
    have hgl4 := HI3.out.2.lt
    go_wp2_with fail
    refine (HSZ.out _).mono ?_
    rintro e w4 ⟨rfl, hB4⟩
    have HI4 := Lib.hid (HI3.out.but hB4)
    have HB4 := Lib.hid (HB3.out.trans hB4)
    clear hB4
    clear c0 c1 c2 c3 c4 c5 c6 c7 hgl hgl4
    have c0 := HI4.out.1.cell 0
    have c1 := HI4.out.1.cell 1
    have c2 := HI4.out.1.cell 2
    have c3 := HI4.out.1.cell 3
    have c4 := HI4.out.1.cell 4
    have c5 := HI4.out.1.cell 5
    have c6 := HI4.out.1.cell 6
    have c7 := HI4.out.1.cell 7
    have hgl := HI4.out.1.lt
    have hgl4 := HI4.out.2.lt
    have d0 := HI4.out.2.cell 0
    have f0 := HI4.out.2.free 0
    have d1 := HI4.out.2.cell 1
    have f1 := HI4.out.2.free 1
    have d2 := HI4.out.2.cell 2
    have f2 := HI4.out.2.free 2
    go_wp2
    exact img_ret HI4.out.2 HB4.out HW4.out (by rfl) (by rfl) 0 0 ⟨#[]⟩ HR1.out HR2.out
  have hraw : raw.size = T := by omega
  obtain ⟨SS, hSS⟩ : ∃ SS : ShP, SS = ⟨W, H, D, C, pal.data.toList, tr.data.toList, has⟩ := ⟨_, rfl⟩
  obtain ⟨L0, hL0⟩ : ∃ L0, L0 = (baseL l).filter (someP W H) := ⟨_, rfl⟩
  have hsz := sizeA_J pal.data.toList tr.data.toList has h0 R
  have hrun := imgA_run (pal := pal) (tr := tr) (has := has) h0 R (by rw [← hT]; exact hraw)
  rw [← hSS, ← hL0] at hsz hrun
  obtain ⟨S, hS⟩ : ∃ S, S = samplesN C := ⟨_, rfl⟩
  have s1 : 1 ≤ S := by rw [hS]; exact R.s1
  have s4 : S ≤ 4 := by rw [hS]; exact R.s4
  have w2 := R.w2
  have h2 := R.h2
  have d1 := R.d1
  have d16 := R.d16
  have hDS : D * S ≤ 64 := by show _ ≤ 16 * 4; exact Nat.mul_le_mul d16 s4
  have harea := R.area
  have hcs : samplesI (C : Int) = (S : Int) := by rw [hS]; exact R.sam
  have HSM : Hid (∀ v, Calls Tryd.prog 16 #[.int .i64 C] v fun e w' => e = .returned (.int .i64 (S : Nat)) ∧ v = w') := Lib.hid fun v => by rw [← hcs]; exact esamples_any v C
  obtain ⟨np, hnp⟩ : ∃ np, np = L0.length := ⟨_, rfl⟩
  obtain ⟨P, hP⟩ : ∃ P, P = L0.map (p6 W H) := ⟨_, rfl⟩
  have hnp7 : np ≤ 7 := by
    have h := passA_len (W : Int) H D C l
    rw [passA_base h0 R, ← hL0, List.length_map] at h
    omega
  have HPS : Hid (∀ v, Calls Tryd.prog 25 #[.agg #[.int .i64 W, .int .i64 H, .int .i64 D, .int .i64 C, .int .i64 l]] v fun e w' => ∃ A cap, e = .returned (.slice A np cap) ∧ Pss w' A np P ∧ np ≤ cap ∧ But [] v w') := Lib.hid fun v => by
    have h := epasses_any v (W : Int) H D C l
    rw [passA_base h0 R, ← hL0, ← hP, show P.length = np by rw [hP, List.length_map, hnp]] at h
    exact h
  have HPA : Hid (∀ (i : Nat) (q : P6), P[i]? = some q → ∃ p, L0[i]? = some p ∧ q = p6 W H p ∧ p ∈ baseL l ∧ someP W H p = true) := Lib.hid fun i q hq => by
    rw [hP, List.getElem?_map] at hq
    cases hp : L0[i]? with
    | none => rw [hp] at hq; cases hq
    | some p =>
      rw [hp] at hq
      have hm : p ∈ L0 := List.mem_of_getElem? hp
      rw [hL0] at hm
      exact ⟨p, rfl, (Option.some.inj hq).symm, (List.mem_filter.1 hm).1, (List.mem_filter.1 hm).2⟩
  have HHEAD : Hid (∀ i j, (jobsL W H (L0.drop i)).head? = some j → j.first = true) := Lib.hid fun i => jobs_head _ fun p hp => by
    have h := List.mem_of_mem_drop hp
    rw [hL0] at h
    exact (List.mem_filter.1 h).2
  obtain ⟨n8, hn8⟩ : ∃ n8, n8 = 8 * (W * H) := ⟨_, rfl⟩
  have hn8l : n8 ≤ 32768 := by omega
  obtain ⟨w8, hw8⟩ : ∃ w8, w8 = 8 * W := ⟨_, rfl⟩
  have e1 : (8 : Int) * (W : Int) = (w8 : Int) := by omega
  have e2 : (w8 : Int) * (H : Int) = (n8 : Int) := by rw [hw8, hn8, ← Int.natCast_mul, Nat.mul_assoc]
  have t1 := wrapI_in (show w8 < 1000000000000000 by omega)
  have t2 := wrapI_in (show n8 < 1000000000000000 by omega)
  obtain ⟨bp, hbp⟩ : ∃ bp, bp = max 1 (D * S / 8) := ⟨_, rfl⟩
  have hbp1 : 1 ≤ bp := by omega
  have hbp8 : bp ≤ 8 := by omega
  have HBY : Hid (∀ v, Calls Tryd.prog 28 #[.agg #[.int .i64 W, .int .i64 H, .int .i64 D, .int .i64 C, .int .i64 l]] v fun e w' => e = .returned (.int .i64 (bp : Nat)) ∧ But [] v w') := Lib.hid fun v => by rw [hbp]; exact ebytes_any v hcs d16 s4
  have HBN : Hid (bppN SS = bp) := Lib.hid (by rw [hSS, hbp, hS]; rfl)
  have HROW : Hid (∀ v n, 1 ≤ n → n ≤ 1024 → Calls Tryd.prog 26 #[.agg #[.int .i64 W, .int .i64 H, .int .i64 D, .int .i64 C, .int .i64 l], .int .i64 (n : Nat)] v fun e w' => e = .returned (.int .i64 (rowLen SS n : Nat)) ∧ But [] v w') := Lib.hid fun v n h1 h2 => by
    have h := erow_any v (W : Int) H D C l n
    rw [rowA_len pal.data.toList tr.data.toList has h0 R h1 h2, ← hSS] at h
    exact h
  have HRL : Hid (∀ n, n ≤ 1024 → rowLen SS n = (D * S * n + 7) / 8 ∧ rowLen SS n ≤ 8192) := Lib.hid fun n hn => by
    have e : rowLen SS n = (D * S * n + 7) / 8 := by rw [hSS, hS]; rfl
    have h : D * S * n ≤ 64 * 1024 := Nat.mul_le_mul hDS hn
    exact ⟨e, by rw [e]; omega⟩
  have HUP : Hid (∀ (v : World) (ln : List UInt8) (n : Nat), 1 ≤ n → n ≤ 1024 → ln.length = rowLen SS n → Calls Tryd.prog 29 #[.string (strL ln), .int .i64 D, .int .i64 ((S * n : Nat) : Int)] v fun e w' => ∃ A cap, e = .returned (.tuple #[.slice A (S * n) cap, .int .i64 0]) ∧ Nums w' A (S * n) (unpackT ln D (S * n)) ∧ S * n ≤ cap ∧ But [] v w') := Lib.hid fun v ln n h1 h2 hln => by
    have h := eunpack_any v (s := strL ln) (d := (D : Int)) (n := ((S * n : Nat) : Int)) (by rw [strL_size, hln]; have := (HRL.out n h2).2; omega) (by have : S * n ≤ 4 * 1024 := Nat.mul_le_mul s4 h2; omega)
    have e : unpackA (strL ln) (D : Int) ((S * n : Nat) : Int) = (unpackT ln D (S * n), 0) := by
      have hm : S * n ≤ 4 * 1024 := Nat.mul_le_mul s4 h2
      unfold unpackA
      rw [if_neg (by rintro (h | h | h); rw [R.dep] at h; cases h; omega; omega), if_neg (by
        rw [strL_size, hln, (HRL.out n h2).1, ← Int.natCast_mul]
        have e3 : S * n * D = D * S * n := by rw [Nat.mul_comm, Nat.mul_assoc]
        rw [e3]
        omega), strL_list]
      rfl
    rw [e] at h
    unfold GotN at h
    rw [unpackT_length] at h
    exact h
  have HPX : Hid (∀ (v : World) (A : Option Addr) (cp : Nat) (ln : List UInt8) (x : Nat), Zs v A S ((sampsL SS ln x).map fun y => ((y : Nat) : Int)) → Calls Tryd.prog 30 #[.agg #[.int .i64 W, .int .i64 H, .int .i64 D, .int .i64 C, .int .i64 l, .string pal, .string tr, .bool has], .slice A S cp] v fun r w' => r = .returned (.tuple #[.string (strL (pixS SS (sampsL SS ln x)).1), .int .i64 (pixS SS (sampsL SS ln x)).2]) ∧ But [] v w') := Lib.hid fun v A cp ln x hZ => by
    have hf : ZFit ((sampsL SS ln x).map fun y => ((y : Nat) : Int)) := fun z hz => by
      obtain ⟨y, hy, rfl⟩ := List.mem_map.1 hz
      obtain ⟨k, hk, e⟩ := List.mem_iff_getElem.1 hy
      have h1 := sampsL_lt SS ln x k
      rw [List.getD_eq_getElem?_getD, List.getElem?_eq_getElem hk] at h1
      have h1 : (sampsL SS ln x)[k] < 2 ^ SS.d := h1
      have h2 : 2 ^ SS.d ≤ 2 ^ 16 := Nat.pow_le_pow_right (by decide) (by rw [hSS]; exact d16)
      rw [← e]
      have h3 : (2 : Nat) ^ 16 = 65536 := by decide
      omega
    have h := epixel_any v (a := (W : Int)) (b := (H : Int)) (c := (C : Int)) (d := (D : Int)) (e0 := l) (pal := pal) (tr := tr) (has := has) (cp := cp) hZ hf (by omega) hp ht
    rw [hSS, pixel_samps R ln x, ← hSS] at h
    exact h
  have HCUT : Hid (∀ (ln : List UInt8) (N x : Nat), x < N → ((unpackT ln D (S * N)).drop (S * x)).take S = sampsL SS ln x) := Lib.hid fun ln N x hx => by
    have h := samps_cut (S := SS) (line := ln) hx
    rw [hSS] at h ⊢
    rw [hS]
    exact h
  have HIM : Hid (imgA W H D C l pal tr has raw = runI SS (jobsL W H (L0.drop 0)) raw.data.toList [] (List.replicate n8 0)) := Lib.hid (by rw [List.drop_zero, hn8]; exact hrun)
  have HSJ : Hid (raw.size = sizeJ SS (jobsL W H (L0.drop 0))) := Lib.hid (by rw [List.drop_zero, ← hsz, hraw, hT])
  have HDW : Hid (SS.w = W ∧ SS.h = H ∧ SS.d = D) := Lib.hid (by rw [hSS]; exact ⟨rfl, rfl, rfl⟩)
  obtain ⟨IM, hIM⟩ : ∃ IM, IM = imgA W H D C l pal tr has raw := ⟨_, rfl⟩
  rw [← hIM] at HIM
  have HERR : Hid (∀ e, IM = ([], e) → e ≠ 0 → imageA W H D C l pal tr has raw = ((0, 0, ⟨#[]⟩), e)) := Lib.hid fun e h he => imageA_err (by rw [← hIM]; exact h) he
  have HGOOD : Hid (∀ x, IM = (x, 0) → imageA W H D C l pal tr has raw = (((W : Int), (H : Int), strL x), 0)) := Lib.hid fun x h => imageA_ok (by rw [← hIM]; exact h)
  obtain ⟨R1, hR1⟩ : ∃ R, R = imageA W H D C l pal tr has raw := ⟨_, rfl⟩
  rw [← hR1] at HERR HGOOD ⊢
  have HN8 := Lib.hid hn8
  have HNP := Lib.hid hnp
  have HAREA : Hid (W ≤ 1024 ∧ H ≤ 1024 ∧ W * H ≤ 4096) := Lib.hid ⟨R.w2, R.h2, R.area⟩
  clear hR1 hIM hsz hrun hT R h0 hSS hL0 hS hcs hnp hP hn8 hw8 hbp hraw harea hDS
  go_enter Tryd.func12, Tryd.ntmps12
  go_upto_region 1 with (fail)
  rw [← hw1, ← hb4, ← hb0]
  clear hw1 hb0 hb4
  have c0 := HI1.out.1.cell 0
  have c1 := HI1.out.1.cell 1
  have c2 := HI1.out.1.cell 2
  have c3 := HI1.out.1.cell 3
  have c4 := HI1.out.1.cell 4
  have c5 := HI1.out.1.cell 5
  have c6 := HI1.out.1.cell 6
  have c7 := HI1.out.1.cell 7
  have hgl := HI1.out.1.lt
  have hgl4 := HI1.out.2.lt
  go_wp2_with fail
  refine (HE.out _).mono ?_
  rintro e w2 ⟨rfl, hB2⟩
  have HI2 := Lib.hid (HI1.out.but hB2)
  have HB2 := Lib.hid (HB1.out.trans hB2)
  clear hB2
  clear c0 c1 c2 c3 c4 c5 c6 c7 hgl hgl4
  have c0 := HI2.out.1.cell 0
  have c1 := HI2.out.1.cell 1
  have c2 := HI2.out.1.cell 2
  have c3 := HI2.out.1.cell 3
  have c4 := HI2.out.1.cell 4
  have c5 := HI2.out.1.cell 5
  have c6 := HI2.out.1.cell 6
  have c7 := HI2.out.1.cell 7
  have hgl := HI2.out.1.lt
  have hgl4 := HI2.out.2.lt
  go_wp2_with fail
  refine (HSZ.out _).mono ?_
  rintro e w3 ⟨rfl, hB3⟩
  have HI3 := Lib.hid (HI2.out.but hB3)
  have HB3 := Lib.hid (HB2.out.trans hB3)
  clear hB3
  clear c0 c1 c2 c3 c4 c5 c6 c7 hgl hgl4
  have c0 := HI3.out.1.cell 0
  have c1 := HI3.out.1.cell 1
  have c2 := HI3.out.1.cell 2
  have c3 := HI3.out.1.cell 3
  have c4 := HI3.out.1.cell 4
  have c5 := HI3.out.1.cell 5
  have c6 := HI3.out.1.cell 6
  have c7 := HI3.out.1.cell 7
  have hgl := HI3.out.1.lt
  have hgl4 := HI3.out.2.lt
  go_wp2_with fail
  refine (HSZ.out _).mono ?_
  rintro e w4 ⟨rfl, hB4⟩
  have HI4 := Lib.hid (HI3.out.but hB4)
  have HB4 := Lib.hid (HB3.out.trans hB4)
  clear hB4
  clear c0 c1 c2 c3 c4 c5 c6 c7 hgl hgl4
  have c0 := HI4.out.1.cell 0
  have c1 := HI4.out.1.cell 1
  have c2 := HI4.out.1.cell 2
  have c3 := HI4.out.1.cell 3
  have c4 := HI4.out.1.cell 4
  have c5 := HI4.out.1.cell 5
  have c6 := HI4.out.1.cell 6
  have c7 := HI4.out.1.cell 7
  have hgl := HI4.out.1.lt
  have hgl4 := HI4.out.2.lt
  obtain ⟨gp, hgp⟩ : ∃ g, g = w4.heap.size := ⟨_, rfl⟩
  have km := run_noughts w4 (n := n8) (by omega)
  have hno := noughtsB w4 n8
  have hnb := noughtsF_but w4 n8
  obtain ⟨w5, hw5⟩ : ∃ x, x = noughtsF w4 n8 := ⟨_, rfl⟩
  rw [← hw5] at km hno hnb
  rw [← hgp] at km hno
  have HP5 := Lib.hid hno
  have HI5 := Lib.hid (HI4.out.but hnb)
  have HB5 := Lib.hid (HB4.out.trans hnb)
  have HOFF : Hid (b0 ∉ [gp] ∧ b4 ∉ [gp] ∧ w.heap.size ≤ gp) := Lib.hid (by
    have h1 := HI4.out.1.lt
    have h2 := HI4.out.2.lt
    have h3 := HB4.out.size
    rw [← hgp] at h1 h2 h3
    exact ⟨by rw [List.mem_singleton]; omega, by rw [List.mem_singleton]; omega, h3⟩)
  clear hw5 hgp hno hnb
  clear c0 c1 c2 c3 c4 c5 c6 c7 hgl hgl4
  have c0 := HI4.out.1.cell 0
  have c1 := HI4.out.1.cell 1
  have c2 := HI4.out.1.cell 2
  have c3 := HI4.out.1.cell 3
  have c4 := HI4.out.1.cell 4
  have c5 := HI4.out.1.cell 5
  have c6 := HI4.out.1.cell 6
  have c7 := HI4.out.1.cell 7
  have hgl := HI4.out.1.lt
  have hgl4 := HI4.out.2.lt
  go_upto_region 9 with (fail)
  clear km
  clear c0 c1 c2 c3 c4 c5 c6 c7 hgl hgl4
  have c0 := HI5.out.1.cell 0
  have c1 := HI5.out.1.cell 1
  have c2 := HI5.out.1.cell 2
  have c3 := HI5.out.1.cell 3
  have c4 := HI5.out.1.cell 4
  have c5 := HI5.out.1.cell 5
  have c6 := HI5.out.1.cell 6
  have c7 := HI5.out.1.cell 7
  have hgl := HI5.out.1.lt
  have hgl4 := HI5.out.2.lt
  go_wp2_with fail
  refine (HSM.out _).mono ?_
  rintro e w6 ⟨rfl, rfl⟩
  go_wp2_with fail
  refine (HPS.out _).mono ?_
  rintro e w7 ⟨A9, cap9, rfl, hP7, hcap9, hB7⟩
  have HP7 := Lib.hid hP7
  have HI7 := Lib.hid (HI5.out.but hB7)
  have HB7 := Lib.hid (HB5.out.trans hB7)
  have HX7 := Lib.hid (HP5.out.but hB7 (by simp))
  clear hP7 hB7
  clear c0 c1 c2 c3 c4 c5 c6 c7 hgl hgl4
  have HPS7 : Hid (∀ v, But [gp] w7 v → Pss v A9 np P) := Lib.hid fun v hv => HP7.out.keep HX7.out hv
  go_wp2_with fail
  go_loopw [1, 10] (fun rv iv wr => ∃ (i : Nat) (rw_ : ByteArray) (pix : List UInt8), i ≤ np ∧ iv = .int .i64 i ∧ rv = .string rw_ ∧ Hid (IM = runI SS (jobsL W H (L0.drop i)) rw_.data.toList [] pix) ∧ Hid (rw_.size = sizeJ SS (jobsL W H (L0.drop i))) ∧ Hid (rw_.size ≤ 140737488351232) ∧ Hid (pix.length = n8) ∧ Hid (BytesB wr gp pix) ∧ Hid (But [gp] w7 wr)) (fun _ iv _ => np - (intOf iv).toNat)
  case atStart => exact ⟨0, raw, List.replicate n8 0, Nat.zero_le _, rfl, rfl, HIM, HSJ, Lib.hid hr, Lib.hid (by rw [List.length_replicate]), HX7, Lib.hid (But.refl _ _)⟩
  case round =>
    clear HIM HSJ HX7
    obtain ⟨i, rw_, pix, hi, rfl, rfl, HIM, HSJ, HRW, HPL, HX, HB⟩ := hrel
    have HI := Lib.hid (HI7.out.butP HB.out HOFF.out.1 HOFF.out.2.1)
    by_cases hlt : i < np
    · obtain ⟨g9, o9, q6, hA9, hg9, hq6, m0, m1, m2, m3, m4, m5⟩ := (HPS7.out _ HB.out).at hlt
      subst hA9
      obtain ⟨p, hp9, hq, hbase, hsome⟩ := HPA.out i q6 hq6
      have hsm := of_decide_eq_true hsome
      obtain ⟨⟨hx7, hy7⟩, ⟨hdx1, hdx8⟩, hdy1, hdy8⟩ := base_small hbase
      have hokp := base_ok l p hbase
      have hWle := manyL_le W p.x p.dx hdx1
      have hHle := manyL_le H p.y p.dy hdy1
      have HPLC : Hid (∀ y, y < manyL H p.y p.dy → ∀ x, x < manyL W p.x p.dx → p.x + x * p.dx < W ∧ p.y + y * p.dy < H) := Lib.hid fun y h2 x h1 => place_lt hokp h2 h1
      have HJOB : Hid (∀ y, (jobP W p y).n = manyL W p.x p.dx ∧ (jobP W p y).x = p.x ∧ (jobP W p y).dx = p.dx ∧ (jobP W p y).y = p.y + y * p.dy ∧ ((jobP W p y).first = true ↔ y = 0)) := Lib.hid fun y => ⟨rfl, rfl, rfl, rfl, by show decide (y = 0) = true ↔ y = 0; exact decide_eq_true_iff⟩
      obtain ⟨JS, hJS⟩ : ∃ JS, JS = jobsL W H (L0.drop (i + 1)) := ⟨_, rfl⟩
      have HLS : Hid (leftP W H p 0 ++ JS = jobsL W H (L0.drop i)) := Lib.hid (by rw [hJS]; exact leftJ_start hp9 hsm.1)
      have HLN : Hid (∀ y, y < manyL H p.y p.dy → leftP W H p y ++ JS = jobP W p y :: (leftP W H p (y + 1) ++ JS)) := Lib.hid fun y hy => by rw [leftP_next hy]; rfl
      have HLE : Hid (∀ y, manyL H p.y p.dy ≤ y → leftP W H p y ++ JS = JS) := Lib.hid fun y hy => by rw [leftP_end hy]; rfl
      have HJS := Lib.hid hJS
      have e6 : q6 = (p.x, p.y, p.dx, p.dy, manyL W p.x p.dx, manyL H p.y p.dy) := hq
      subst e6
      dsimp only at m0 m1 m2 m3 m4 m5
      obtain ⟨px, hpx⟩ : ∃ z, z = p.x := ⟨_, rfl⟩
      obtain ⟨py, hpy⟩ : ∃ z, z = p.y := ⟨_, rfl⟩
      obtain ⟨dx, hdx⟩ : ∃ z, z = p.dx := ⟨_, rfl⟩
      obtain ⟨dy, hdy⟩ : ∃ z, z = p.dy := ⟨_, rfl⟩
      obtain ⟨Wp, hWp⟩ : ∃ z, z = manyL W p.x p.dx := ⟨_, rfl⟩
      obtain ⟨Hp, hHp⟩ : ∃ z, z = manyL H p.y p.dy := ⟨_, rfl⟩
      rw [← hWp] at hsm HPLC HJOB hWle m4
      rw [← hHp] at hsm HPLC hHle HLN HLE m5
      rw [← hpx] at HPLC HJOB m0
      rw [← hpy] at HPLC HJOB m1
      rw [← hdx] at HPLC HJOB m2
      rw [← hdy] at HPLC HJOB m3
      obtain ⟨hWp1, hHp1⟩ := hsm
      have i0 : (0 : Int) ≤ (i : Int) := by omega
      have i1 : (i : Int) < (np : Int) := by omega
      obtain ⟨n, hn⟩ : ∃ n, n = rowLen SS Wp := ⟨_, rfl⟩
      have hnl : n ≤ 8192 := by rw [hn]; exact (HRL.out Wp (by omega)).2
      obtain ⟨bB, hbB⟩ : ∃ g, g = wr.heap.size := ⟨_, rfl⟩
      obtain ⟨w9, hw9⟩ : ∃ X, X = wr.alloc (.cells #[.int .i64 px, .int .i64 py, .int .i64 dx, .int .i64 dy, .int .i64 Wp, .int .i64 Hp] 52) := ⟨_, rfl⟩
      have hBBi : Is w9 bB 52 #[.int .i64 px, .int .i64 py, .int .i64 dx, .int .i64 dy, .int .i64 Wp, .int .i64 Hp] := by rw [hw9, hbB]; exact Is.fresh _ _ _
      have hA9 : But [] wr w9 := by rw [hw9]; exact (But.refl [] wr).alloc _
      have HX9 := Lib.hid (HX.out.but hA9 (by simp))
      have HB9 := Lib.hid (HB.out.trans hA9.wide)
      have hnb : bB ∉ [gp] := HX9.out.off (hBBi.cell 0)
      have HSTY : Hid (StY w w9 b0 b4 gp bB n8 S n bp W H D C px py dx dy Wp Hp l pal tr has SS p JS IM R1) := Lib.hid {
        shp := HI7.out.butP HB9.out HOFF.out.1 HOFF.out.2.1
        pas := hBBi
        off := ⟨HOFF.out.1, HOFF.out.2.1, hnb⟩
        le4 := HW4.out
        hide := fun v hv => HB7.out.hide (HB9.out.trans hv) HOFF.out.2.2
        s1 := s1
        s4 := s4
        wl := by omega
        hl := by omega
        wl1 := hWp1
        ww := HAREA.out
        n8E := HN8.out
        ssw := HDW.out.1
        nE := hn
        nl := hnl
        bE := HBN.out
        b1 := hbp1
        b8 := hbp8
        row := fun v => by rw [hn]; exact HROW.out v Wp hWp1 (by omega)
        byt := HBY.out
        unp := fun v ln h => HUP.out v ln Wp hWp1 (by omega) (by rw [h, hn])
        cut := fun ln x hx => HCUT.out ln Wp x hx
        pxl := HPX.out
        pl := HPLC.out
        job := HJOB.out
        nxt := HLN.out
        stop := HLE.out
        err := HERR.out }
      have HLOY : Hid (LoY w9 gp n8 n W H Hp SS p JS IM 0 rw_ ⟨#[]⟩ pix w9) := Lib.hid ⟨Nat.zero_le _, ⟨by rw [HLS.out]; exact HIM.out, by rw [HLS.out]; exact HSJ.out, HRW.out, fun _ => rfl, .inl rfl, HPL.out⟩, HX9.out, But.refl _ _⟩
      have HHEADi := Lib.hid (HHEAD.out (i + 1))
      rw [← hJS] at HHEADi
      clear hJS hn hBBi hA9 hnb hpx hpy hdx hdy hWp hHp hokp hbase hsome hp9 hq6 HIM HSJ HRW hq
      go_upto_region 15 with (fail)
      rw [← hw9, ← hbB]
      clear hw9 hbB m0 m1 m2 m3 m4 m5 hg9 i0 i1
      go_wp2_with fail
      refine imy_loop HSTY.out ?_ ?_ ?_ HLOY.out
      · intro c a d v w h
        cases d <;> exact h
      · intro act w1 h
        exact h
      · intro act wz hX
        refine wxy_open hX ?_
        clear hX
        intro u14 u15 u16 u17 u18 u19 u20 u21 u69 u70 u71 u72 u73 u74 u75 u76 u77 u78 u79 u80 u81 u82 u83 u84 u85 u86 u87 u88 u89 u90 u91 u92 u93 u94 u95 u96 u97 u98 u99 u100 u101 u102 u103 u104 u105 u106 u107 u108 u109 u110 u111 u112 u113 u114 u115 u116 u117 u118 u119 u120 u121 u122 u123 u124 u125 u126 u127 u128 u129 u130 u131 u132 u133 u134 u135 u136 u137 u138 u139 u140 u141 u142 u143 u144 u145 u146 u147 u148 u149 u150 u151 u152 u153 u154 u155 u156 u157 u158 u159 u160 u161 u162 u163 u164 rez abz pixz hz
        have HZ := Lib.hid hz
        have HZB := Lib.hid (HB9.out.trans hz.2.2)
        have HIM2 : Hid (IM = runI SS (jobsL W H (L0.drop (i + 1))) rez.data.toList [] pixz) := Lib.hid (by rw [← HJS.out, ← runI_above HHEADi.out _ abz.data.toList]; exact HZ.out.1.im)
        have HSJ2 : Hid (rez.size = sizeJ SS (jobsL W H (L0.drop (i + 1)))) := Lib.hid (by rw [← HJS.out]; exact HZ.out.1.sj)
        have HRW2 : Hid (rez.size ≤ 140737488351232) := Lib.hid HZ.out.1.big
        have HPL2 := Lib.hid HZ.out.1.pl
        have HX2 := Lib.hid HZ.out.2.1
        clear hz
        go_wp2
        go_roundw
        case rel => exact ⟨i + 1, rez, pixz, by omega, by go_num, rfl, HIM2, HSJ2, HRW2, HPL2, HX2, HZB⟩
        case measure => simp [intOf] <;> omega
    · obtain rfl : np = i := by omega
      have HF : Hid (IM = (pix, 0)) := Lib.hid (by rw [HIM.out, List.drop_of_length_le (by rw [← HNP.out]; exact Nat.le_refl _)]; rfl)
      have HR1 := Lib.hid (HGOOD.out pix HF.out)
      have kt := HX.out.text n8
      rw [HPL.out] at kt
      have c0 := HI.out.1.cell 0
      have c1 := HI.out.1.cell 1
      have c2 := HI.out.1.cell 2
      have c3 := HI.out.1.cell 3
      have c4 := HI.out.1.cell 4
      have c5 := HI.out.1.cell 5
      have c6 := HI.out.1.cell 6
      have c7 := HI.out.1.cell 7
      have hgl := HI.out.1.lt
      have hgl4 := HI.out.2.lt
      have d0 := HI.out.2.cell 0
      have f0 := HI.out.2.free 0
      have d1 := HI.out.2.cell 1
      have f1 := HI.out.2.free 1
      have d2 := HI.out.2.cell 2
      have f2 := HI.out.2.free 2
      have HBW := Lib.hid (HB7.out.hide HB.out HOFF.out.2.2)
      go_wp2
      exact img_ret HI.out.2 HBW.out HW4.out (by rfl) (by rfl) (W : Int) (H : Int) (strL pix) (by rw [HR1.out]) (by rw [HR1.out])
theorem eimage_any (w : World) {a b d c l : Int} {pal tr raw : ByteArray} {has : Bool} (hp : pal.size ≤ 140737488351232) (ht : tr.size ≤ 140737488351232) (hr : raw.size ≤ 140737488351232) :
    Calls Tryd.prog 12 #[.agg #[.int .i64 a, .int .i64 b, .int .i64 d, .int .i64 c, .int .i64 l, .string pal, .string tr, .bool has], .string raw] w fun r w' => r = .returned (.tuple #[.agg #[.int .i64 (imageA a b d c l pal tr has raw).1.1, .int .i64 (imageA a b d c l pal tr has raw).1.2.1, .string (imageA a b d c l pal tr has raw).1.2.2], .int .i64 (imageA a b d c l pal tr has raw).2]) ∧ But [] w w' := by
  by_cases h0 : rightH a b d c l = 0
  · obtain ⟨W, H, D, C, R⟩ := right_form h0
    obtain rfl := R.wa
    obtain rfl := R.hb
    obtain rfl := R.dd
    obtain rfl := R.cc
    exact eimage_ok w h0 R hp ht hr
  · exact eimage_bad w h0
end Go.Proofs.YtfiedoejdikcgaaDoor
set_option maxRecDepth 100000
set_option linter.unusedVariables false
namespace Go.Proofs.YtfiedoejdikcgaaDoor
set_option maxRecDepth 100000
open Go Go.RowKit
def ImE : Prop := ∀ (v : World) (a b d c l : Int) (pal tr raw : ByteArray) (has : Bool), pal.size ≤ 140737488351232 → tr.size ≤ 140737488351232 → raw.size ≤ 140737488351232 → Calls Tryd.prog 12 #[.agg #[.int .i64 a, .int .i64 b, .int .i64 d, .int .i64 c, .int .i64 l, .string pal, .string tr, .bool has], .string raw] v fun r w' => r = .returned (.tuple #[.agg #[.int .i64 (imageA a b d c l pal tr has raw).1.1, .int .i64 (imageA a b d c l pal tr has raw).1.2.1, .string (imageA a b d c l pal tr has raw).1.2.2], .int .i64 (imageA a b d c l pal tr has raw).2]) ∧ But [] v w'
attribute [local irreducible] checkA imageA rowsA
set_option maxHeartbeats 1000000 in
theorem pixelImages_walk {G : World → Prop} (hL : Lasts G) (haw : Awk12 G) (hc : ImC G) (he : ImE) {a b d c l : Int} {pal tr raw : ByteArray} {has : Bool} {w : World} (hp : pal.size ≤ 140737488351232) (ht : tr.size ≤ 140737488351232) (hw : raw.size ≤ 140737488351232) (hG : G w) :
    Calls Tryd.prog 4 #[.agg #[.int .i64 a, .int .i64 b, .int .i64 d, .int .i64 c, .int .i64 l, .string pal, .string tr, .bool has], .string raw] w fun e w' => e = .returned (.bool true) ∧ Below w.heap.size w w' := by
  obtain ⟨b0, hb0⟩ : ∃ g, g = w.heap.size := ⟨_, rfl⟩
  obtain ⟨w1, hw1⟩ : ∃ X, X = w.alloc (.cells #[.int .i64 a, .int .i64 b, .int .i64 d, .int .i64 c, .int .i64 l, .string pal, .string tr, .bool has] 31) := ⟨_, rfl⟩
  have hI : Is w1 b0 31 #[.int .i64 a, .int .i64 b, .int .i64 d, .int .i64 c, .int .i64 l, .string pal, .string tr, .bool has] := by rw [hw1, hb0]; exact Is.fresh _ _ _
  have hB : But [] w w1 := by rw [hw1]; exact (But.refl [] w).alloc _
  have HB := Lib.hid hB
  have HI := Lib.hid hI
  have HG : Hid (∀ v, But [] w1 v → G v) := Lib.hid fun v hv => hL _ _ (hL _ _ hG hB) hv
  obtain ⟨x, hx⟩ : ∃ r, r = (imageA a b d c l pal tr has raw).1.1 := ⟨_, rfl⟩
  obtain ⟨y, hy⟩ : ∃ r, r = (imageA a b d c l pal tr has raw).1.2.1 := ⟨_, rfl⟩
  obtain ⟨s, hs⟩ : ∃ r, r = (imageA a b d c l pal tr has raw).1.2.2 := ⟨_, rfl⟩
  obtain ⟨r, hr⟩ : ∃ r, r = (imageA a b d c l pal tr has raw).2 := ⟨_, rfl⟩
  have HP : Hid (∀ v, But [] w1 v → Calls Tryd.prog 11 #[.agg #[.int .i64 a, .int .i64 b, .int .i64 d, .int .i64 c, .int .i64 l, .string pal, .string tr, .bool has], .string raw] v fun e w' => e = .returned (.tuple #[.agg #[.int .i64 x, .int .i64 y, .string s], .int .i64 r]) ∧ But [] v w') := Lib.hid fun v hv => by rw [hr, hs, hx, hy]; exact hc v a b d c l pal tr raw has (HG.out v hv) hp ht hw
  have HE : Hid (∀ v, Calls Tryd.prog 12 #[.agg #[.int .i64 a, .int .i64 b, .int .i64 d, .int .i64 c, .int .i64 l, .string pal, .string tr, .bool has], .string raw] v fun e w' => e = .returned (.tuple #[.agg #[.int .i64 x, .int .i64 y, .string s], .int .i64 r]) ∧ But [] v w') := Lib.hid fun v => by rw [hr, hs, hx, hy]; exact he v a b d c l pal tr raw has hp ht hw
  have HA := Lib.hid haw
  have keq := fun v => ras_eql v x y s
  clear hr hs hx hy haw hc he
  have c0 := HI.out.cell 0
  clear hI hB hG
  go_enter Tryd.func4, Tryd.ntmps4
  go_upto_region 1 with (fail)
  rw [← hw1, ← hb0]
  clear c0 hw1 hb0
  have c0 := (HI.out.but (But.refl [] w1) (by simp)).cell 0
  have c1 := (HI.out.but (But.refl [] w1) (by simp)).cell 1
  have c2 := (HI.out.but (But.refl [] w1) (by simp)).cell 2
  have c3 := (HI.out.but (But.refl [] w1) (by simp)).cell 3
  have c4 := (HI.out.but (But.refl [] w1) (by simp)).cell 4
  have c5 := (HI.out.but (But.refl [] w1) (by simp)).cell 5
  have c6 := (HI.out.but (But.refl [] w1) (by simp)).cell 6
  have c7 := (HI.out.but (But.refl [] w1) (by simp)).cell 7
  have hgl := (HI.out.but (But.refl [] w1) (by simp)).lt
  go_wp2_with fail
  refine (HP.out _ (But.refl [] _)).mono ?_
  rintro e w2 ⟨rfl, hB2⟩
  have HB2 := Lib.hid hB2
  clear hB2
  clear c0 c1 c2 c3 c4 c5 c6 c7 hgl
  have c0 := (HI.out.but HB2.out (by simp)).cell 0
  have c1 := (HI.out.but HB2.out (by simp)).cell 1
  have c2 := (HI.out.but HB2.out (by simp)).cell 2
  have c3 := (HI.out.but HB2.out (by simp)).cell 3
  have c4 := (HI.out.but HB2.out (by simp)).cell 4
  have c5 := (HI.out.but HB2.out (by simp)).cell 5
  have c6 := (HI.out.but HB2.out (by simp)).cell 6
  have c7 := (HI.out.but HB2.out (by simp)).cell 7
  have hgl := (HI.out.but HB2.out (by simp)).lt
  go_upto_region 2 with (fail)
  obtain ⟨b1, hb1⟩ : ∃ g, g = w2.heap.size := ⟨_, rfl⟩
  obtain ⟨w3, hw3⟩ : ∃ X, X = w2.alloc (.cells #[.int .i64 x, .int .i64 y, .string s] 23) := ⟨_, rfl⟩
  rw [← hw3, ← hb1]
  have HI1 : Hid (Is w3 b1 23 #[.int .i64 x, .int .i64 y, .string s]) := Lib.hid (by rw [hw3, hb1]; exact Is.fresh _ _ _)
  have HB3 : Hid (But [] w1 w3) := Lib.hid (by rw [hw3]; exact HB2.out.alloc _)
  clear c0 c1 c2 c3 c4 c5 c6 c7 hgl
  clear hb1 hw3
  have c0 := (HI.out.but HB3.out (by simp)).cell 0
  have c1 := (HI.out.but HB3.out (by simp)).cell 1
  have c2 := (HI.out.but HB3.out (by simp)).cell 2
  have c3 := (HI.out.but HB3.out (by simp)).cell 3
  have c4 := (HI.out.but HB3.out (by simp)).cell 4
  have c5 := (HI.out.but HB3.out (by simp)).cell 5
  have c6 := (HI.out.but HB3.out (by simp)).cell 6
  have c7 := (HI.out.but HB3.out (by simp)).cell 7
  have hgl := (HI.out.but HB3.out (by simp)).lt
  have hgl1 := HI1.out.lt
  go_wp2_with fail
  refine (HE.out _).mono ?_
  rintro e w4 ⟨rfl, hB4⟩
  have HI2 := Lib.hid (HI1.out.but hB4 (by simp))
  have HB4 := Lib.hid (HB3.out.trans hB4)
  clear hB4 hgl1
  clear c0 c1 c2 c3 c4 c5 c6 c7 hgl
  have e0 := HI2.out.cell 0
  have e1 := HI2.out.cell 1
  have e2 := HI2.out.cell 2
  have hgl1 := HI2.out.lt
  go_upto_region 3 with (fail)
  obtain ⟨b2, hb2⟩ : ∃ g, g = w4.heap.size := ⟨_, rfl⟩
  obtain ⟨w5, hw5⟩ : ∃ X, X = w4.alloc (.cells #[.int .i64 x, .int .i64 y, .string s] 23) := ⟨_, rfl⟩
  rw [← hw5, ← hb2]
  have HI3 : Hid (Is w5 b2 23 #[.int .i64 x, .int .i64 y, .string s]) := Lib.hid (by rw [hw5, hb2]; exact Is.fresh _ _ _)
  have hA5 : But [] w4 w5 := by rw [hw5]; exact (But.refl [] w4).alloc _
  have HI4 := Lib.hid (HI2.out.but hA5 (by simp))
  have HB5 := Lib.hid (HB4.out.trans hA5)
  clear hb2 hw5 hA5 e0 e1 e2 hgl1
  have e0 := HI4.out.cell 0
  have e1 := HI4.out.cell 1
  have e2 := HI4.out.cell 2
  have hgl1 := HI4.out.lt
  have f0 := HI3.out.cell 0
  have f1 := HI3.out.cell 1
  have f2 := HI3.out.cell 2
  have hgl2 := HI3.out.lt
  go_wp2_with fail
  refine (HA.out _ (HG.out _ HB5.out)).mono ?_
  rintro e w9 ⟨rfl, hB9⟩
  have HB9 := Lib.hid (HB.out.trans (HB5.out.trans hB9))
  clear hB9
  go_wp2
  go_ret
  exact ⟨rfl, HB9.out.belowP⟩
end Go.Proofs.YtfiedoejdikcgaaDoor
set_option maxRecDepth 100000
set_option linter.unusedVariables false
namespace Go.Proofs.YtfiedoejdikcgaaDoor
set_option maxRecDepth 100000
open Go Go.RowKit
theorem imEP : ImE := fun v _ _ _ _ _ _ _ _ _ hp ht hr => eimage_any v hp ht hr
end Go.Proofs.YtfiedoejdikcgaaDoor
