/- Several texts in one: PyE (what PixelImages, PixelRows, PixelSame reach of them). -/
import Derived.Test.YtfiedoejdikcgaaDoorQ01
import Derived.Test.YtfiedoejdikcgaaDoorQ02
import Derived.Test.YtfiedoejdikcgaaDoorQ03
import Derived.Test.YtfiedoejdikcgaaDoorQ05
import Derived.Test.YtfiedoejdikcgaaDoorQ06
import Derived.Test.YtfiedoejdikcgaaDoorQ07
import Derived.Test.YtfiedoejdikcgaaDoorQ08
import Derived.Test.YtfiedoejdikcgaaDoorQ09
import Derived.Test.YtfiedoejdikcgaaDoorQ10
import Derived.Test.YtfiedoejdikcgaaDoorQ11
import Derived.Test.YtfiedoejdikcgaaDoorQ12
import Derived.Test.YtfiedoejdikcgaaDoorQ17
import Derived.Below
import Derived.BigQuiet
import Derived.BigRegion
import Derived.Deep.AppendLies
import Derived.Deep.CutBlock
import Derived.Deep.CutRange
import Derived.Deep.DeepCutAuto
import Derived.Deep.Draws
import Derived.Deep.QuietTactic
import Derived.Deep.RegionLaw
import Derived.Deep.RegionWith
import Derived.Handy
import Derived.Laws.BitsAllLaws
import Derived.Laws.BitsLemmas
import Derived.Laws.BytesArg
import Derived.Laws.IdiomStrings
import Derived.Laws.MakeOwn
import Derived.Laws.OwnMore
import Derived.Laws.Rows
import Derived.Laws.StructEq
import Derived.Lib.BufferWrite
import Derived.Lib.Hide
import Derived.LoopIn
import Derived.LoopNIn
import Derived.Maps.AppendAt
import Derived.OrdersHeld
import Derived.OrdersIn
import Derived.Outline
import Derived.OwnWalk
import Derived.OwnWalkIn
import Derived.RangeFuncBound
import Derived.RangeFuncCalls
import Derived.RangeFuncLeaves
import Derived.RangeFuncNested
import Derived.RegionTactic
import Derived.Shelf.Abstract
import Derived.Shelf.RegionOpen
import Derived.Sort.CutIn
import Derived.TacticsInMore
import Derived.Test.YtfiedoejdikcgaaDoorChecked
import Derived.WalkKit
set_option maxRecDepth 100000
set_option linter.unusedVariables false
set_option maxRecDepth 100000
set_option linter.unusedVariables false
namespace Go.Proofs.YtfiedoejdikcgaaDoor
set_option maxRecDepth 100000
open Go Go.RowKit
theorem dataE_bad {a b d c l : Int} {pal tr : ByteArray} {has : Bool} {raw : ByteArray} (h : dataE a b d c l raw.size ≠ 0) : imageA a b d c l pal tr has raw = ((0, 0, ⟨#[]⟩), dataE a b d c l raw.size) := by
  unfold dataE at h ⊢
  by_cases h0 : rightH a b d c l ≠ 0
  · rw [if_pos h0]
    exact imgA_bad h0
  · have h0 := Classical.not_not.1 h0
    rw [if_neg (fun h => h h0)] at h ⊢
    obtain ⟨W, H, D, C, R⟩ := right_form h0
    by_cases h1 : raw.size < sizeA a b d c l
    · rw [if_pos h1]
      exact imgA_short h0 R h1
    · rw [if_neg h1] at h ⊢
      by_cases h2 : sizeA a b d c l < raw.size
      · rw [if_pos h2]
        exact imgA_long h0 R h2
      · rw [if_neg h2] at h
        exact absurd rfl h
theorem dataE_good {a b d c l : Int} {m : Nat} (h : dataE a b d c l m = 0) : rightH a b d c l = 0 ∧ m = sizeA a b d c l := by
  unfold dataE at h
  by_cases h0 : rightH a b d c l ≠ 0
  · rw [if_pos h0] at h
    exact absurd h h0
  · rw [if_neg h0] at h
    by_cases h1 : m < sizeA a b d c l
    · rw [if_pos h1] at h
      exact absurd h (by decide)
    · rw [if_neg h1] at h
      by_cases h2 : sizeA a b d c l < m
      · rw [if_pos h2] at h
        exact absurd h (by decide)
      · exact ⟨Classical.not_not.1 h0, by omega⟩
theorem imgp_ret {w W : World} {b4 : Nat} {tmps : Array Value} {er : Int} (hI : Is W b4 23 #[.int .i64 0, .int .i64 0, .string ⟨#[]⟩]) (hB : But [] w W) (hb : w.heap.size ≤ b4) (ht : tmps[4]? = some (.pointer (some ⟨b4, 0, none⟩))) (h5 : tmps[5]? = some (.int .i64 er)) (x y : Int) (s : ByteArray) {r1 : Int × Int × ByteArray} {r2 : Int} (hr1 : r1 = (x, y, s)) (hr2 : r2 = er) :
    bodyPost Tryd.prog Tryd.f11 (fun e w' => e = .returned (.tuple #[.agg #[.int .i64 r1.1, .int .i64 r1.2.1, .string r1.2.2], .int .i64 r2]) ∧ But [] w w') Exit.ret { tmps := tmps, defers := [] }
      (((W.setCell ⟨b4, 0, none⟩ (.int .i64 x)).setCell ⟨b4, 1, none⟩ (.int .i64 y)).setCell ⟨b4, 2, none⟩ (.string s)) := by
  subst hr1 hr2
  have h0 := hI.put 0 (.int .i64 x)
  have h1 := h0.put 1 (.int .i64 y)
  have h2 := h1.put 2 (.string s)
  have k0 := hB.setCell (p := ⟨b4, 0, none⟩) (.inr hb) (.int .i64 x)
  have k1 := k0.setCell (p := ⟨b4, 1, none⟩) (.inr hb) (.int .i64 y)
  have k2 := k1.setCell (p := ⟨b4, 2, none⟩) (.inr hb) (.string s)
  obtain ⟨V, hV⟩ : ∃ V, V = (((W.setCell ⟨b4, 0, none⟩ (.int .i64 x)).setCell ⟨b4, 1, none⟩ (.int .i64 y)).setCell ⟨b4, 2, none⟩ (.string s)) := ⟨_, rfl⟩
  rw [← hV] at h2 k2 ⊢
  clear h0 h1 k0 k1 hV
  have e0 := h2.cell 0
  have e1 := h2.cell 1
  have e2 := h2.cell 2
  refine bodyPost_ret (v := .tuple #[.agg #[.int .i64 x, .int .i64 y, .string s], .int .i64 r2]) ?_ rfl ⟨rfl, k2⟩
  simp [results, Tryd.results11, go_sem, e0, e1, e2, ht, h5]
/-- Passes lie apart from an image that is built: no six numbers of its memory stand side by side. -/
theorem Pss.off {w : World} {A : Option Addr} {n bm : Nat} {L : List P6} {t : TypeId} {v0 v1 v2 v3 v4 s6 s8 : Value} {s5 : ByteArray} {v7 v9 : Value} (h : Pss w A n L) (hI : Is w bm t #[v0, v1, v2, v3, v4, .string s5, s6, v7, s8, v9]) (h6 : ∀ x, s6 ≠ .int .i64 x) (h8 : ∀ x, s8 ≠ .int .i64 x) (h7 : ∀ x, v7 ≠ .int .i64 x) (h9 : ∀ x, v9 ≠ .int .i64 x) (hn : 0 < n) : ∃ g o, A = some ⟨g, o, none⟩ ∧ g ≠ bm := by
  obtain ⟨g, o, e, hg, hc⟩ := h.2 hn
  refine ⟨g, o, e, ?_⟩
  rintro rfl
  have hl : 0 < L.length := by have := h.1; omega
  have key : ∀ k, k < 6 → ∃ x, w.cell? ⟨g, o + k, none⟩ = some (.int .i64 x) := fun k hk => by
    have h1 := hc 0 k hl hk
    rw [show o + 0 * 6 + k = o + k by omega] at h1
    have hk6 : (p6Cells L[0])[k]? = some (.int .i64 ((p6Cells L[0]).map (fun v => match v with | .int _ x => x | _ => 0))[k]!) ∨ True := .inr trivial
    rw [h1]
    have : k = 0 ∨ k = 1 ∨ k = 2 ∨ k = 3 ∨ k = 4 ∨ k = 5 := by omega
    rcases this with rfl | rfl | rfl | rfl | rfl | rfl <;> exact ⟨_, rfl⟩
  have cell : ∀ i x, w.cell? ⟨g, i, none⟩ = some (.int .i64 x) → (i < 5) := fun i x hi => by
    rw [Is.cell hI] at hi
    refine Nat.lt_of_not_le fun h5 => ?_
    match i, h5 with
    | 5, _ => cases hi
    | 6, _ => exact h6 x (Option.some.inj hi)
    | 7, _ => exact h7 x (Option.some.inj hi)
    | 8, _ => exact h8 x (Option.some.inj hi)
    | 9, _ => exact h9 x (Option.some.inj hi)
    | i + 10, _ => simp at hi
  obtain ⟨x, hx⟩ := key 5 (by decide)
  have := cell _ _ hx
  omega
theorem Pss.keep2 {w w' : World} {A : Option Addr} {n gp bm : Nat} {L : List P6} {l : List UInt8} (h : Pss w A n L) (hb : BytesB w gp l) (hm : 0 < n → ∃ g o, A = some ⟨g, o, none⟩ ∧ g ≠ bm) (hw : But [bm, gp] w w') : Pss w' A n L :=
  ⟨h.1, fun hn => by
    obtain ⟨g, o, e, hg, hc⟩ := h.2 hn
    have h0 : 0 < L.length := by rw [h.1]; exact hn
    have hc0 : w.cell? ⟨g, o + 0 * 6 + 0, none⟩ = some (.int .i64 (L[0].1 : Nat)) := hc 0 0 h0 (by decide)
    have hoff := hb.off hc0
    obtain ⟨g', o', e', hne⟩ := hm hn
    rw [e] at e'
    injection e' with e'
    injection e' with e1 _
    refine ⟨g, o, e, Nat.lt_of_lt_of_le hg hw.size, fun i k hi hk => ?_⟩
    have h1 := hc i k hi hk
    rw [← h1]
    rw [List.mem_singleton] at hoff
    have hb := hw.block g hg (by simp only [List.mem_cons, List.not_mem_nil, or_false]; rintro (h | h); exact hne (e1 ▸ h); exact hoff h)
    simp [World.cell?, hb]⟩
theorem But.hide2 {w w5 w' : World} {bm gp : Nat} (h : But [] w w5) (k : But [bm, gp] w5 w') (hg : w.heap.size ≤ gp) (hm : w.heap.size ≤ bm) : But [] w w' :=
  ⟨k.os.trans h.os, k.tape.trans h.tape, k.output.trans h.output, Nat.le_trans h.size k.size, fun i hi _ => (k.block i (Nat.lt_of_lt_of_le hi h.size) (by simp only [List.mem_cons, List.not_mem_nil, or_false]; omega)).trans (h.block i hi (by simp))⟩
set_option maxHeartbeats 1000000 in
theorem pimage_bad (w : World) (hG : GP w) {a b d c l : Int} {pal tr raw : ByteArray} {has : Bool} (hr : raw.size ≤ 140737488351232) (h0 : dataE a b d c l raw.size ≠ 0) :
    Calls Tryd.prog 11 #[.agg #[.int .i64 a, .int .i64 b, .int .i64 d, .int .i64 c, .int .i64 l, .string pal, .string tr, .bool has], .string raw] w fun r w' => r = .returned (.tuple #[.agg #[.int .i64 (imageA a b d c l pal tr has raw).1.1, .int .i64 (imageA a b d c l pal tr has raw).1.2.1, .string (imageA a b d c l pal tr has raw).1.2.2], .int .i64 (imageA a b d c l pal tr has raw).2]) ∧ But [] w w' := by
  obtain ⟨er, her⟩ : ∃ x, x = dataE a b d c l raw.size := ⟨_, rfl⟩
  have HR := Lib.hid (dataE_bad (pal := pal) (tr := tr) (has := has) h0)
  rw [← her] at HR h0
  have q1 : (er != 0) = true := by simpa using h0
  have HR1 : Hid ((imageA a b d c l pal tr has raw).1 = (0, 0, ⟨#[]⟩)) := Lib.hid (by rw [HR.out])
  have HR2 : Hid ((imageA a b d c l pal tr has raw).2 = er) := Lib.hid (by rw [HR.out])
  obtain ⟨R1, hR1⟩ : ∃ R, R = imageA a b d c l pal tr has raw := ⟨_, rfl⟩
  rw [← hR1] at HR1 HR2 ⊢
  clear hR1 HR
  obtain ⟨b2, hb2⟩ : ∃ g, g = w.heap.size := ⟨_, rfl⟩
  obtain ⟨b4, hb4⟩ : ∃ g, g = w.heap.size + 1 := ⟨_, rfl⟩
  have hB1 := ((But.refl [] w).alloc (.cells #[.int .i64 a, .int .i64 b, .int .i64 d, .int .i64 c, .int .i64 l, .string pal, .string tr, .bool has] 31)).alloc (.cells #[.int .i64 0, .int .i64 0, .string ⟨#[]⟩] 23)
  obtain ⟨w1, hw1⟩ : ∃ X, X = (w.alloc (.cells #[.int .i64 a, .int .i64 b, .int .i64 d, .int .i64 c, .int .i64 l, .string pal, .string tr, .bool has] 31)).alloc (.cells #[.int .i64 0, .int .i64 0, .string ⟨#[]⟩] 23) := ⟨_, rfl⟩
  have HI1 : Hid (ImS b2 b4 #[.int .i64 a, .int .i64 b, .int .i64 d, .int .i64 c, .int .i64 l, .string pal, .string tr, .bool has] w1) := Lib.hid (by
    refine ⟨?_, ?_⟩
    · rw [hw1, hb2]; exact (Is.fresh _ _ _).alloc _
    · rw [hw1, hb4]
      have h := Is.fresh (w.alloc (.cells #[.int .i64 a, .int .i64 b, .int .i64 d, .int .i64 c, .int .i64 l, .string pal, .string tr, .bool has] 31)) 23 #[.int .i64 0, .int .i64 0, .string ⟨#[]⟩]
      rw [show (w.alloc (.cells #[.int .i64 a, .int .i64 b, .int .i64 d, .int .i64 c, .int .i64 l, .string pal, .string tr, .bool has] 31)).heap.size = w.heap.size + 1 by simp] at h
      exact h)
  rw [← hw1] at hB1
  have HB1 := Lib.hid hB1
  have HW4 : Hid (w.heap.size ≤ b4) := Lib.hid (by rw [hb4]; omega)
  have HDE : Hid (∀ v, But [] w1 v → Calls Tryd.prog 21 #[.agg #[.int .i64 a, .int .i64 b, .int .i64 d, .int .i64 c, .int .i64 l], .int .i64 (raw.size : Nat)] v fun e w' => e = .returned (.int .i64 er) ∧ But [] v w') := Lib.hid fun v hv => by rw [her]; exact pdataError_any v ((hG.but hB1).but hv) _ _ _ _ _ hr
  clear her hG hB1
  go_enter Tryd.func11, Tryd.ntmps11
  go_upto_region 1 with (fail)
  rw [← hw1, ← hb4, ← hb2]
  clear hw1 hb2 hb4
  have c0 := HI1.out.1.cell 0
  have c1 := HI1.out.1.cell 1
  have c2 := HI1.out.1.cell 2
  have c3 := HI1.out.1.cell 3
  have c4 := HI1.out.1.cell 4
  have c5 := HI1.out.1.cell 5
  have c6 := HI1.out.1.cell 6
  have c7 := HI1.out.1.cell 7
  have hgl := HI1.out.1.lt
  go_wp2_with fail
  refine (HDE.out _ (But.refl _ _)).mono ?_
  rintro e w2 ⟨rfl, hB2⟩
  have HI2 := Lib.hid (HI1.out.but hB2)
  have HB2 := Lib.hid (HB1.out.trans hB2)
  have HB12 := Lib.hid hB2
  clear hB2
  clear c0 c1 c2 c3 c4 c5 c6 c7 hgl
  have d0 := HI2.out.2.cell 0
  have f0 := HI2.out.2.free 0
  have d1 := HI2.out.2.cell 1
  have f1 := HI2.out.2.free 1
  have d2 := HI2.out.2.cell 2
  have f2 := HI2.out.2.free 2
  have hgl4 := HI2.out.2.lt
  go_wp2
  exact imgp_ret HI2.out.2 HB2.out HW4.out (by rfl) (by rfl) 0 0 ⟨#[]⟩ HR1.out HR2.out
set_option maxHeartbeats 1000000 in
theorem pimage_ok (w : World) (hG : GP w) {W H D C : Nat} {l : Int} {pal tr raw : ByteArray} {has : Bool} (hd0 : dataE (W : Int) H D C l raw.size = 0) (h0 : rightH (W : Int) H D C l = 0) (R : RightP (W : Int) H D C l W H D C) (hp : pal.size ≤ 140737488351232) (ht : tr.size ≤ 140737488351232) (hr : raw.size ≤ 140737488351232) :
    Calls Tryd.prog 11 #[.agg #[.int .i64 W, .int .i64 H, .int .i64 D, .int .i64 C, .int .i64 l, .string pal, .string tr, .bool has], .string raw] w fun r w' => r = .returned (.tuple #[.agg #[.int .i64 (imageA W H D C l pal tr has raw).1.1, .int .i64 (imageA W H D C l pal tr has raw).1.2.1, .string (imageA W H D C l pal tr has raw).1.2.2], .int .i64 (imageA W H D C l pal tr has raw).2]) ∧ But [] w w' := by
  have hraw := (dataE_good hd0).2
  obtain ⟨SS, hSS⟩ : ∃ SS : ShP, SS = ⟨W, H, D, C, pal.data.toList, tr.data.toList, has⟩ := ⟨_, rfl⟩
  obtain ⟨L0, hL0⟩ : ∃ L0, L0 = (baseL l).filter (someP W H) := ⟨_, rfl⟩
  have hsz := sizeA_J pal.data.toList tr.data.toList has h0 R
  have hrun := imgA_run (pal := pal) (tr := tr) (has := has) h0 R hraw
  rw [← hSS, ← hL0] at hsz hrun
  have w2l := R.w2
  have h2l := R.h2
  have harea := R.area
  obtain ⟨np, hnp⟩ : ∃ np, np = L0.length := ⟨_, rfl⟩
  obtain ⟨P, hP⟩ : ∃ P, P = L0.map (p6 W H) := ⟨_, rfl⟩
  have hnp7 : np ≤ 7 := by
    have h := passA_len (W : Int) H D C l
    rw [passA_base h0 R, ← hL0, List.length_map] at h
    omega
  have HPA : Hid (∀ (i : Nat) (q : P6), P[i]? = some q → ∃ p, L0[i]? = some p ∧ q = p6 W H p ∧ p ∈ baseL l ∧ someP W H p = true) := Lib.hid fun i q hq => by
    rw [hP, List.getElem?_map] at hq
    cases hp : L0[i]? with
    | none => rw [hp] at hq; cases hq
    | some p =>
      rw [hp] at hq
      have hm : p ∈ L0 := List.mem_of_getElem? hp
      rw [hL0] at hm
      exact ⟨p, rfl, (Option.some.inj hq).symm, (List.mem_filter.1 hm).1, (List.mem_filter.1 hm).2⟩
  have HHEAD : Hid (∀ i j, (jobsL W H (L0.drop i)).head? = some j → j.first = true) := Lib.hid fun i => jobs_head _ fun p hp => by
    have h := List.mem_of_mem_drop hp
    rw [hL0] at h
    exact (List.mem_filter.1 h).2
  obtain ⟨n8, hn8⟩ : ∃ n8, n8 = 8 * (W * H) := ⟨_, rfl⟩
  have hn8l : n8 ≤ 32768 := by omega
  obtain ⟨w8, hw8⟩ : ∃ w8, w8 = 8 * W := ⟨_, rfl⟩
  have e1 : (8 : Int) * (W : Int) = (w8 : Int) := by omega
  have e2 : (w8 : Int) * (H : Int) = (n8 : Int) := by rw [hw8, hn8, ← Int.natCast_mul, Nat.mul_assoc]
  have t1 := wrapI_in (show w8 < 1000000000000000 by omega)
  have t2 := wrapI_in (show n8 < 1000000000000000 by omega)
  have HIM : Hid (imgA W H D C l pal tr has raw = runI SS (jobsL W H (L0.drop 0)) raw.data.toList [] (List.replicate n8 0)) := Lib.hid (by rw [List.drop_zero, hn8]; exact hrun)
  have HSJ : Hid (raw.size = sizeJ SS (jobsL W H (L0.drop 0))) := Lib.hid (by rw [List.drop_zero, ← hsz, hraw])
  obtain ⟨IM, hIM⟩ : ∃ IM, IM = imgA W H D C l pal tr has raw := ⟨_, rfl⟩
  rw [← hIM] at HIM
  have HERR : Hid (∀ e, IM = ([], e) → e ≠ 0 → imageA W H D C l pal tr has raw = ((0, 0, ⟨#[]⟩), e)) := Lib.hid fun e h he => imageA_err (by rw [← hIM]; exact h) he
  have HGOOD : Hid (∀ x, IM = (x, 0) → imageA W H D C l pal tr has raw = (((W : Int), (H : Int), strL x), 0)) := Lib.hid fun x h => imageA_ok (by rw [← hIM]; exact h)
  obtain ⟨R1, hR1⟩ : ∃ R, R = imageA W H D C l pal tr has raw := ⟨_, rfl⟩
  rw [← hR1] at HERR HGOOD ⊢
  have HNP := Lib.hid hnp
  obtain ⟨er, her⟩ : ∃ x, x = dataE (W : Int) H D C l raw.size := ⟨_, rfl⟩
  obtain ⟨b2, hb2⟩ : ∃ g, g = w.heap.size := ⟨_, rfl⟩
  obtain ⟨b4, hb4⟩ : ∃ g, g = w.heap.size + 1 := ⟨_, rfl⟩
  have hB1 := ((But.refl [] w).alloc (.cells #[.int .i64 W, .int .i64 H, .int .i64 D, .int .i64 C, .int .i64 l, .string pal, .string tr, .bool has] 31)).alloc (.cells #[.int .i64 0, .int .i64 0, .string ⟨#[]⟩] 23)
  obtain ⟨w1, hw1⟩ : ∃ X, X = (w.alloc (.cells #[.int .i64 W, .int .i64 H, .int .i64 D, .int .i64 C, .int .i64 l, .string pal, .string tr, .bool has] 31)).alloc (.cells #[.int .i64 0, .int .i64 0, .string ⟨#[]⟩] 23) := ⟨_, rfl⟩
  have HI1 : Hid (ImS b2 b4 #[.int .i64 W, .int .i64 H, .int .i64 D, .int .i64 C, .int .i64 l, .string pal, .string tr, .bool has] w1) := Lib.hid (by
    refine ⟨?_, ?_⟩
    · rw [hw1, hb2]; exact (Is.fresh _ _ _).alloc _
    · rw [hw1, hb4]
      have h := Is.fresh (w.alloc (.cells #[.int .i64 W, .int .i64 H, .int .i64 D, .int .i64 C, .int .i64 l, .string pal, .string tr, .bool has] 31)) 23 #[.int .i64 0, .int .i64 0, .string ⟨#[]⟩]
      rw [show (w.alloc (.cells #[.int .i64 W, .int .i64 H, .int .i64 D, .int .i64 C, .int .i64 l, .string pal, .string tr, .bool has] 31)).heap.size = w.heap.size + 1 by simp] at h
      exact h)
  rw [← hw1] at hB1
  have HB1 := Lib.hid hB1
  have HW4 : Hid (w.heap.size ≤ b4) := Lib.hid (by rw [hb4]; omega)
  have HDE : Hid (∀ v, But [] w1 v → Calls Tryd.prog 21 #[.agg #[.int .i64 W, .int .i64 H, .int .i64 D, .int .i64 C, .int .i64 l], .int .i64 (raw.size : Nat)] v fun e w' => e = .returned (.int .i64 er) ∧ But [] v w') := Lib.hid fun v hv => by rw [her]; exact pdataError_any v ((hG.but hB1).but hv) _ _ _ _ _ hr
  have HPS : Hid (∀ v, But [] w1 v → Calls Tryd.prog 22 #[.agg #[.int .i64 W, .int .i64 H, .int .i64 D, .int .i64 C, .int .i64 l]] v fun e w' => ∃ A cap, e = .returned (.slice A np cap) ∧ Pss w' A np P ∧ np ≤ cap ∧ But [] v w') := Lib.hid fun v hv => by
    have h := lpasses_any v ((hG.but hB1).but hv) (W : Int) H D C l
    rw [passA_base h0 R, ← hL0, ← hP, show P.length = np by rw [hP, List.length_map, hnp]] at h
    exact h
  have HAP : Hid (∀ (v : World) (bm gp i : Nat) (p : PassL) (re : ByteArray) (pix : List UInt8), L0[i]? = some p → p ∈ baseL l → someP W H p = true → Is v bm 48 #[.int .i64 W, .int .i64 H, .int .i64 D, .int .i64 C, .int .i64 l, .string pal, .string tr, .bool has, .string re, .slice (some ⟨gp, 0, none⟩) n8 n8] → BytesB v gp pix → pix.length = n8 → IM = runI SS (jobsL W H (L0.drop i)) re.data.toList [] pix → re.size = sizeJ SS (jobsL W H (L0.drop i)) → re.size ≤ 140737488351232 →
      Calls Tryd.prog 23 #[.pointer (some ⟨bm, 0, none⟩), .agg #[.int .i64 (p6 W H p).1, .int .i64 (p6 W H p).2.1, .int .i64 (p6 W H p).2.2.1, .int .i64 (p6 W H p).2.2.2.1, .int .i64 (p6 W H p).2.2.2.2.1, .int .i64 (p6 W H p).2.2.2.2.2]] v fun e w' => ∃ er : Int, e = .returned (.int .i64 er) ∧ (er ≠ 0 → IM = ([], er)) ∧ (er = 0 → ∃ (re2 : ByteArray) (pix2 : List UInt8), IM = runI SS (jobsL W H (L0.drop (i + 1))) re2.data.toList [] pix2 ∧ re2.size = sizeJ SS (jobsL W H (L0.drop (i + 1))) ∧ re2.size ≤ 140737488351232 ∧ pix2.length = n8 ∧ Is w' bm 48 #[.int .i64 W, .int .i64 H, .int .i64 D, .int .i64 C, .int .i64 l, .string pal, .string tr, .bool has, .string re2, .slice (some ⟨gp, 0, none⟩) n8 n8] ∧ BytesB w' gp pix2) ∧ But [bm, gp] v w') := Lib.hid fun v bm gp i p re pix k1 k2 k3 k4 k5 k6 k7 k8 k9 => by
    have hs := of_decide_eq_true k3
    have hst : leftP W H p 0 ++ jobsL W H (L0.drop (i + 1)) = jobsL W H (L0.drop i) := leftJ_start k1 hs.1
    refine (paddPass_any (n := rowLen SS (manyL W p.x p.dx)) (JS := jobsL W H (L0.drop (i + 1))) (IM := IM) v hSS h0 R k4 k5 hn8 hp ht k2 k3 rfl ⟨by rw [hst]; exact k7, by rw [hst]; exact k8, k9, fun _ => rfl, .inl rfl, k6⟩).mono ?_
    rintro e w' ⟨er, he, h1, h2, h3⟩
    refine ⟨er, he, h1, fun h => ?_, h3⟩
    obtain ⟨re2, ab, pix2, hl, hi, hx⟩ := h2 h
    exact ⟨re2, pix2, by rw [← runI_above (HHEAD.out (i + 1)) _ ab.data.toList]; exact hl.im, hl.sj, hl.big, hl.pl, hi, hx⟩
  rw [hd0] at her
  subst her
  clear hR1 hIM hsz hrun hL0 hnp hP hn8 hw8 hraw harea R h0 hSS hG hB1 hd0
  go_enter Tryd.func11, Tryd.ntmps11
  go_upto_region 1 with (fail)
  rw [← hw1, ← hb4, ← hb2]
  clear hw1 hb2 hb4
  have c0 := HI1.out.1.cell 0
  have c1 := HI1.out.1.cell 1
  have c2 := HI1.out.1.cell 2
  have c3 := HI1.out.1.cell 3
  have c4 := HI1.out.1.cell 4
  have c5 := HI1.out.1.cell 5
  have c6 := HI1.out.1.cell 6
  have c7 := HI1.out.1.cell 7
  have hgl := HI1.out.1.lt
  go_wp2_with fail
  refine (HDE.out _ (But.refl _ _)).mono ?_
  rintro e w2 ⟨rfl, hB2⟩
  have HI2 := Lib.hid (HI1.out.but hB2)
  have HB2 := Lib.hid (HB1.out.trans hB2)
  have HB12 := Lib.hid hB2
  clear hB2
  clear c0 c1 c2 c3 c4 c5 c6 c7 hgl
  have c0 := HI2.out.1.cell 0
  have c1 := HI2.out.1.cell 1
  have c2 := HI2.out.1.cell 2
  have c3 := HI2.out.1.cell 3
  have c4 := HI2.out.1.cell 4
  have c5 := HI2.out.1.cell 5
  have c6 := HI2.out.1.cell 6
  have c7 := HI2.out.1.cell 7
  have hgl := HI2.out.1.lt
  go_upto_region 4 with (fail)
  refine wp_region_m (S := fun v => But [] w2 v) (R := fun v v' => But [] v v') (fun w => But.refl [] w) (by kernel_rfl) ((But.refl [] w2).drew) ?_
  clear c0 c1 c2 c3 c4 c5 c6 c7 hgl
  refine wpM_take (fun w => But.refl [] w) (fun x y z h k => h.trans k) (i := 0) (v := .agg #[.int .i64 W, .int .i64 H, .int .i64 D, .int .i64 C, .int .i64 l, .string pal, .string tr, .bool has]) rfl (by kernel_rfl) (by kernel_rfl) (by kernel_rfl) (fun _ _ _ h => h) (YieldsR.read (fun w => But.refl [] w) ?_ fun w hS => ?_) ?_
  · first | kernel_rfl | go_simp
  · have hh := HI2.out.but hS; have c0 := hh.1.cell 0; have c1 := hh.1.cell 1; have c2 := hh.1.cell 2; have c3 := hh.1.cell 3; have c4 := hh.1.cell 4; have c5 := hh.1.cell 5; have c6 := hh.1.cell 6; have c7 := hh.1.cell 7; have hgl := hh.1.lt; clear hh; go_simp
  refine wpM_take (fun w => But.refl [] w) (fun x y z h k => h.trans k) (i := 1) (v := .string raw) rfl (by kernel_rfl) (by kernel_rfl) (by kernel_rfl) (fun _ _ _ h => h) (YieldsR.read (fun w => But.refl [] w) ?_ fun w hS => ?_) ?_
  · first | kernel_rfl | go_simp
  · go_simp
  refine wpM_take (fun w => But.refl [] w) (fun x y z h k => h.trans k) (i := 2) (v := .pointer (some ⟨b2, 0, none⟩)) rfl (by kernel_rfl) (by kernel_rfl) (by kernel_rfl) (fun _ _ _ h => h) (YieldsR.read (fun w => But.refl [] w) ?_ fun w hS => ?_) ?_
  · first | kernel_rfl | go_simp
  · go_simp
  refine wpM_take (fun w => But.refl [] w) (fun x y z h k => h.trans k) (i := 3) (v := .pointer (some ⟨b2, 0, none⟩)) rfl (by kernel_rfl) (by kernel_rfl) (by kernel_rfl) (fun _ _ _ h => h) (YieldsR.read (fun w => But.refl [] w) ?_ fun w hS => ?_) ?_
  · first | kernel_rfl | go_simp
  · go_simp
  refine wpM_take (fun w => But.refl [] w) (fun x y z h k => h.trans k) (i := 4) (v := .int .i64 (W : Nat)) rfl (by kernel_rfl) (by kernel_rfl) (by kernel_rfl) (fun _ _ _ h => h) (YieldsR.read (fun w => But.refl [] w) ?_ fun w hS => ?_) ?_
  · first | kernel_rfl | go_simp
  · have hh := HI2.out.but hS; have c0 := hh.1.cell 0; have c1 := hh.1.cell 1; have c2 := hh.1.cell 2; have c3 := hh.1.cell 3; have c4 := hh.1.cell 4; have c5 := hh.1.cell 5; have c6 := hh.1.cell 6; have c7 := hh.1.cell 7; have hgl := hh.1.lt; clear hh; go_simp
  refine wpM_take (fun w => But.refl [] w) (fun x y z h k => h.trans k) (i := 5) (v := .int .i64 (w8 : Nat)) rfl (by kernel_rfl) (by kernel_rfl) (by kernel_rfl) (fun _ _ _ h => h) (YieldsR.read (fun w => But.refl [] w) ?_ fun w hS => ?_) ?_
  · first | kernel_rfl | go_simp
  · go_simp
  refine wpM_take (fun w => But.refl [] w) (fun x y z h k => h.trans k) (i := 6) (v := .pointer (some ⟨b2, 0, none⟩)) rfl (by kernel_rfl) (by kernel_rfl) (by kernel_rfl) (fun _ _ _ h => h) (YieldsR.read (fun w => But.refl [] w) ?_ fun w hS => ?_) ?_
  · first | kernel_rfl | go_simp
  · go_simp
  refine wpM_take (fun w => But.refl [] w) (fun x y z h k => h.trans k) (i := 7) (v := .pointer (some ⟨b2, 1, none⟩)) rfl (by kernel_rfl) (by kernel_rfl) (by kernel_rfl) (fun _ _ _ h => h) (YieldsR.read (fun w => But.refl [] w) ?_ fun w hS => ?_) ?_
  · first | kernel_rfl | go_simp
  · go_simp
  refine wpM_take (fun w => But.refl [] w) (fun x y z h k => h.trans k) (i := 8) (v := .int .i64 (H : Nat)) rfl (by kernel_rfl) (by kernel_rfl) (by kernel_rfl) (fun _ _ _ h => h) (YieldsR.read (fun w => But.refl [] w) ?_ fun w hS => ?_) ?_
  · first | kernel_rfl | go_simp
  · have hh := HI2.out.but hS; have c0 := hh.1.cell 0; have c1 := hh.1.cell 1; have c2 := hh.1.cell 2; have c3 := hh.1.cell 3; have c4 := hh.1.cell 4; have c5 := hh.1.cell 5; have c6 := hh.1.cell 6; have c7 := hh.1.cell 7; have hgl := hh.1.lt; clear hh; go_simp
  refine wpM_take (fun w => But.refl [] w) (fun x y z h k => h.trans k) (i := 9) (v := .int .i64 (n8 : Nat)) rfl (by kernel_rfl) (by kernel_rfl) (by kernel_rfl) (fun _ _ _ h => h) (YieldsR.read (fun w => But.refl [] w) ?_ fun w hS => ?_) ?_
  · first | kernel_rfl | go_simp
  · go_simp
  refine wpM_two (i := 10) (j := 12) rfl rfl (by kernel_rfl) ?_ ?_
  · intro w3 hR3 hS3 K' hK
    have km := run_noughts w3 (n := n8) (by omega)
    have hno := noughtsB w3 n8
    have hnb := noughtsF_but w3 n8
    go_simp
    clear km
    obtain ⟨gp, hgp⟩ : ∃ g, g = w3.heap.size := ⟨_, rfl⟩
    obtain ⟨w5, hw5⟩ : ∃ x, x = noughtsF w3 n8 := ⟨_, rfl⟩
    rw [← hw5] at hno hnb ⊢
    rw [← hgp] at hno ⊢
    have HS5 := Lib.hid (hS3.trans hnb)
    have HX5 := Lib.hid hno
    have HG5 : Hid (w.heap.size ≤ gp ∧ b4 ∉ [gp] ∧ b2 ∉ [gp]) := Lib.hid (by
      have k1 := (HI2.out.but hS3).1.lt
      have k2 := (HI2.out.but hS3).2.lt
      have k3 := (HB2.out.trans hS3).size
      rw [← hgp] at k1 k2 k3
      exact ⟨k3, by rw [List.mem_singleton]; omega, by rw [List.mem_singleton]; omega⟩)
    clear hno hnb hw5 hgp hS3 hR3
    refine hK _ _ ⟨HS5.out, ?_⟩
    clear hK K'
    refine wpM_take (fun w => But.refl [] w) (fun x y z h k => h.trans k) (i := 11) (v := .agg #[.int .i64 W, .int .i64 H, .int .i64 D, .int .i64 C, .int .i64 l, .string pal, .string tr, .bool has, .string raw, .slice (some ⟨gp, 0, none⟩) n8 n8]) rfl (by kernel_rfl) (by kernel_rfl) (by kernel_rfl) (fun _ _ _ h => h) (YieldsR.read (fun w => But.refl [] w) ?_ fun w hS => ?_) ?_
    · first | kernel_rfl | go_simp
    · go_simp
    refine wpM_one (i := 12) rfl (by kernel_rfl) fun w6 hR6 hS6 K' hK => ?_
    go_simp
    obtain ⟨bm, hbm⟩ : ∃ g, g = w6.heap.size := ⟨_, rfl⟩
    have hI6 := Is.fresh w6 48 #[.int .i64 0, .int .i64 0, .int .i64 0, .int .i64 0, .int .i64 0, .string ⟨#[]⟩, .string ⟨#[]⟩, .bool false, .string ⟨#[]⟩, .slice none 0 0]
    have hA6 := (But.refl [] w6).alloc (.cells #[.int .i64 0, .int .i64 0, .int .i64 0, .int .i64 0, .int .i64 0, .string ⟨#[]⟩, .string ⟨#[]⟩, .bool false, .string ⟨#[]⟩, .slice none 0 0] 48)
    obtain ⟨wa, hwa⟩ : ∃ x, x = w6.alloc (.cells #[.int .i64 0, .int .i64 0, .int .i64 0, .int .i64 0, .int .i64 0, .string ⟨#[]⟩, .string ⟨#[]⟩, .bool false, .string ⟨#[]⟩, .slice none 0 0] 48) := ⟨_, rfl⟩
    rw [← hwa, ← hbm] at hI6
    rw [← hwa] at hA6
    have HX6 := Lib.hid ((HX5.out.but hR6 (by simp)).but hA6 (by simp))
    have HI6 := Lib.hid hI6
    have HM6 : Hid (w.heap.size ≤ bm ∧ b4 ≠ bm ∧ gp ≠ bm ∧ b2 ≠ bm ∧ w2.heap.size ≤ bm) := Lib.hid (by
      have k1 := (HI2.out.but hS6).1.lt
      have k2 := (HI2.out.but hS6).2.lt
      have k3 := (HB2.out.trans hS6).size
      have k4 := Is.lt (HX5.out.but hR6 (by simp))
      have k5 := hS6.size
      rw [← hbm] at k1 k2 k3 k4 k5
      exact ⟨k3, by omega, by omega, by omega, k5⟩)
    have HS6 := Lib.hid (hS6.trans hA6)
    rw [← hwa, ← hbm]
    refine hK _ _ ⟨HS6.out, ?_⟩
    clear hK K' hI6 hA6 hwa hbm hS6 hR6
    refine wpM_one (i := 13) rfl (by kernel_rfl) fun w7 hR7 hS7 K' hK => ?_
    have HI7 := Lib.hid (HI6.out.but hR7 (by simp))
    have z0 := HI7.out.cell 0
    have y0 := HI7.out.free 0
    have z1 := HI7.out.cell 1
    have y1 := HI7.out.free 1
    have z2 := HI7.out.cell 2
    have y2 := HI7.out.free 2
    have z3 := HI7.out.cell 3
    have y3 := HI7.out.free 3
    have z4 := HI7.out.cell 4
    have y4 := HI7.out.free 4
    have z5 := HI7.out.cell 5
    have y5 := HI7.out.free 5
    have z6 := HI7.out.cell 6
    have y6 := HI7.out.free 6
    have z7 := HI7.out.cell 7
    have y7 := HI7.out.free 7
    have z8 := HI7.out.cell 8
    have y8 := HI7.out.free 8
    have z9 := HI7.out.cell 9
    have y9 := HI7.out.free 9
    have hgm := HI7.out.lt
    have HX7 := Lib.hid (HX6.out.but hR7 (by simp))
    have HS7 := Lib.hid hS7
    clear hS7 hR7
    go_simp
    have hq0 : Is _ bm 48 #[.int .i64 W, .int .i64 0, .int .i64 0, .int .i64 0, .int .i64 0, .string ⟨#[]⟩, .string ⟨#[]⟩, .bool false, .string ⟨#[]⟩, .slice none 0 0] := (HI7.out).put 0 (.int .i64 W)
    have hr0 := But.setCell (p := ⟨bm, 0, none⟩) (HS7.out) (.inr HM6.out.2.2.2.2) (.int .i64 W)
    have hx0 := (HX7.out).far (p := ⟨bm, 0, none⟩) (by show gp ≠ bm; exact HM6.out.2.2.1) (.int .i64 W)
    have hq1 : Is _ bm 48 #[.int .i64 W, .int .i64 H, .int .i64 0, .int .i64 0, .int .i64 0, .string ⟨#[]⟩, .string ⟨#[]⟩, .bool false, .string ⟨#[]⟩, .slice none 0 0] := (hq0).put 1 (.int .i64 H)
    have hr1 := But.setCell (p := ⟨bm, 1, none⟩) (hr0) (.inr HM6.out.2.2.2.2) (.int .i64 H)
    have hx1 := (hx0).far (p := ⟨bm, 1, none⟩) (by show gp ≠ bm; exact HM6.out.2.2.1) (.int .i64 H)
    have hq2 : Is _ bm 48 #[.int .i64 W, .int .i64 H, .int .i64 D, .int .i64 0, .int .i64 0, .string ⟨#[]⟩, .string ⟨#[]⟩, .bool false, .string ⟨#[]⟩, .slice none 0 0] := (hq1).put 2 (.int .i64 D)
    have hr2 := But.setCell (p := ⟨bm, 2, none⟩) (hr1) (.inr HM6.out.2.2.2.2) (.int .i64 D)
    have hx2 := (hx1).far (p := ⟨bm, 2, none⟩) (by show gp ≠ bm; exact HM6.out.2.2.1) (.int .i64 D)
    have hq3 : Is _ bm 48 #[.int .i64 W, .int .i64 H, .int .i64 D, .int .i64 C, .int .i64 0, .string ⟨#[]⟩, .string ⟨#[]⟩, .bool false, .string ⟨#[]⟩, .slice none 0 0] := (hq2).put 3 (.int .i64 C)
    have hr3 := But.setCell (p := ⟨bm, 3, none⟩) (hr2) (.inr HM6.out.2.2.2.2) (.int .i64 C)
    have hx3 := (hx2).far (p := ⟨bm, 3, none⟩) (by show gp ≠ bm; exact HM6.out.2.2.1) (.int .i64 C)
    have hq4 : Is _ bm 48 #[.int .i64 W, .int .i64 H, .int .i64 D, .int .i64 C, .int .i64 l, .string ⟨#[]⟩, .string ⟨#[]⟩, .bool false, .string ⟨#[]⟩, .slice none 0 0] := (hq3).put 4 (.int .i64 l)
    have hr4 := But.setCell (p := ⟨bm, 4, none⟩) (hr3) (.inr HM6.out.2.2.2.2) (.int .i64 l)
    have hx4 := (hx3).far (p := ⟨bm, 4, none⟩) (by show gp ≠ bm; exact HM6.out.2.2.1) (.int .i64 l)
    have hq5 : Is _ bm 48 #[.int .i64 W, .int .i64 H, .int .i64 D, .int .i64 C, .int .i64 l, .string pal, .string ⟨#[]⟩, .bool false, .string ⟨#[]⟩, .slice none 0 0] := (hq4).put 5 (.string pal)
    have hr5 := But.setCell (p := ⟨bm, 5, none⟩) (hr4) (.inr HM6.out.2.2.2.2) (.string pal)
    have hx5 := (hx4).far (p := ⟨bm, 5, none⟩) (by show gp ≠ bm; exact HM6.out.2.2.1) (.string pal)
    have hq6 : Is _ bm 48 #[.int .i64 W, .int .i64 H, .int .i64 D, .int .i64 C, .int .i64 l, .string pal, .string tr, .bool false, .string ⟨#[]⟩, .slice none 0 0] := (hq5).put 6 (.string tr)
    have hr6 := But.setCell (p := ⟨bm, 6, none⟩) (hr5) (.inr HM6.out.2.2.2.2) (.string tr)
    have hx6 := (hx5).far (p := ⟨bm, 6, none⟩) (by show gp ≠ bm; exact HM6.out.2.2.1) (.string tr)
    have hq7 : Is _ bm 48 #[.int .i64 W, .int .i64 H, .int .i64 D, .int .i64 C, .int .i64 l, .string pal, .string tr, .bool has, .string ⟨#[]⟩, .slice none 0 0] := (hq6).put 7 (.bool has)
    have hr7 := But.setCell (p := ⟨bm, 7, none⟩) (hr6) (.inr HM6.out.2.2.2.2) (.bool has)
    have hx7 := (hx6).far (p := ⟨bm, 7, none⟩) (by show gp ≠ bm; exact HM6.out.2.2.1) (.bool has)
    have hq8 : Is _ bm 48 #[.int .i64 W, .int .i64 H, .int .i64 D, .int .i64 C, .int .i64 l, .string pal, .string tr, .bool has, .string raw, .slice none 0 0] := (hq7).put 8 (.string raw)
    have hr8 := But.setCell (p := ⟨bm, 8, none⟩) (hr7) (.inr HM6.out.2.2.2.2) (.string raw)
    have hx8 := (hx7).far (p := ⟨bm, 8, none⟩) (by show gp ≠ bm; exact HM6.out.2.2.1) (.string raw)
    have hq9 : Is _ bm 48 #[.int .i64 W, .int .i64 H, .int .i64 D, .int .i64 C, .int .i64 l, .string pal, .string tr, .bool has, .string raw, .slice (some ⟨gp, 0, none⟩) n8 n8] := (hq8).put 9 (.slice (some ⟨gp, 0, none⟩) n8 n8)
    have hr9 := But.setCell (p := ⟨bm, 9, none⟩) (hr8) (.inr HM6.out.2.2.2.2) (.slice (some ⟨gp, 0, none⟩) n8 n8)
    have hx9 := (hx8).far (p := ⟨bm, 9, none⟩) (by show gp ≠ bm; exact HM6.out.2.2.1) (.slice (some ⟨gp, 0, none⟩) n8 n8)
    have HQ := Lib.hid hq9
    have HRR := Lib.hid hr9
    have HXX := Lib.hid hx9
    clear hq0 hr0 hx0 z0 y0 hq1 hr1 hx1 z1 y1 hq2 hr2 hx2 z2 y2 hq3 hr3 hx3 z3 y3 hq4 hr4 hx4 z4 y4 hq5 hr5 hx5 z5 y5 hq6 hr6 hx6 z6 y6 hq7 hr7 hx7 z7 y7 hq8 hr8 hx8 z8 y8 hq9 hr9 hx9 z9 y9 hgm
    refine hK _ _ ⟨HRR.out, ?_⟩
    clear hK K'
    refine ⟨by kernel_rfl, fun w8 hR8 hS8 => ?_⟩
    have HI8 : Hid (Is w8 bm 48 #[.int .i64 W, .int .i64 H, .int .i64 D, .int .i64 C, .int .i64 l, .string pal, .string tr, .bool has, .string raw, .slice (some ⟨gp, 0, none⟩) n8 n8]) := Lib.hid (HQ.out.but hR8 (by simp))
    have HX8 : Hid (BytesB w8 gp (List.replicate n8 0)) := Lib.hid (BytesB.but HXX.out hR8 (by simp))
    have HT8 := Lib.hid (HI2.out.but hS8)
    have HB8 := Lib.hid (HB2.out.trans hS8)
    have HB18 := Lib.hid (HB12.out.trans hS8)
    clear hR8 hS8 HQ HRR HXX HX6 HI6 HI7 HX7 HS7
    go_simp
    have c0 := HT8.out.1.cell 0
    have c1 := HT8.out.1.cell 1
    have c2 := HT8.out.1.cell 2
    have c3 := HT8.out.1.cell 3
    have c4 := HT8.out.1.cell 4
    have c5 := HT8.out.1.cell 5
    have c6 := HT8.out.1.cell 6
    have c7 := HT8.out.1.cell 7
    have hgl := HT8.out.1.lt
    go_wp2_with fail
    refine (HPS.out _ HB18.out).mono ?_
    rintro e w9 ⟨A9, cap9, rfl, hP9, hcap9, hB9⟩
    have HP9 := Lib.hid hP9
    have HI9 := Lib.hid (HI8.out.but hB9 (by simp))
    have HX9 := Lib.hid (HX8.out.but hB9 (by simp))
    have HT9 := Lib.hid (HT8.out.but hB9)
    have HB9 := Lib.hid (HB8.out.trans hB9)
    clear hP9 hB9
    clear c0 c1 c2 c3 c4 c5 c6 c7 hgl
    have HPS9 : Hid (∀ v, But [bm, gp] w9 v → Pss v A9 np P) := Lib.hid fun v hv => HP9.out.keep2 HX9.out (fun hn => HP9.out.off HI9.out (fun x h => nomatch h) (fun x h => nomatch h) (fun x h => nomatch h) (fun x h => nomatch h) hn) hv
    have HTT : Hid (∀ v, But [bm, gp] w9 v → ImS b2 b4 #[.int .i64 W, .int .i64 H, .int .i64 D, .int .i64 C, .int .i64 l, .string pal, .string tr, .bool has] v) := Lib.hid fun v hv => by
      have k := HM6.out
      have k2 := HG5.out
      rw [List.mem_singleton] at k2
      have k3 := k2.2.2
      rw [List.mem_singleton] at k3
      exact ⟨HT9.out.1.but hv (by simp only [List.mem_cons, List.not_mem_nil, or_false]; omega), HT9.out.2.but hv (by simp only [List.mem_cons, List.not_mem_nil, or_false]; omega)⟩
    go_wp2_with fail
    go_loopw [36] (fun iv wx => ∃ (i : Nat) (re : ByteArray) (pix : List UInt8), i ≤ np ∧ iv = .int .i64 i ∧ Hid (IM = runI SS (jobsL W H (L0.drop i)) re.data.toList [] pix) ∧ Hid (re.size = sizeJ SS (jobsL W H (L0.drop i))) ∧ Hid (re.size ≤ 140737488351232) ∧ Hid (pix.length = n8) ∧ Hid (Is wx bm 48 #[.int .i64 W, .int .i64 H, .int .i64 D, .int .i64 C, .int .i64 l, .string pal, .string tr, .bool has, .string re, .slice (some ⟨gp, 0, none⟩) n8 n8]) ∧ Hid (BytesB wx gp pix) ∧ Hid (But [bm, gp] w9 wx)) (fun iv _ => np - (intOf iv).toNat)
    case atStart => exact ⟨0, raw, List.replicate n8 0, Nat.zero_le _, rfl, HIM, HSJ, Lib.hid hr, Lib.hid (by rw [List.length_replicate]), HI9, HX9, Lib.hid (But.refl _ _)⟩
    case round =>
      clear HIM HSJ HX9 HI9
      obtain ⟨i, re, pix, hi, rfl, HIM, HSJ, HRW, HPL, HI, HX, HB⟩ := hrel
      by_cases hlt : i < np
      · obtain ⟨g9, o9, q6, hA9, hg9, hq6, m0, m1, m2, m3, m4, m5⟩ := (HPS9.out _ HB.out).at hlt
        subst hA9
        obtain ⟨p, hp9, hq, hbase, hsome⟩ := HPA.out i q6 hq6
        have HAPi := Lib.hid fun (v : World) (k4 : Is v bm 48 #[.int .i64 W, .int .i64 H, .int .i64 D, .int .i64 C, .int .i64 l, .string pal, .string tr, .bool has, .string re, .slice (some ⟨gp, 0, none⟩) n8 n8]) (k5 : BytesB v gp pix) => HAP.out v bm gp i p re pix hp9 hbase hsome k4 k5 HPL.out HIM.out HSJ.out HRW.out
        rw [← hq] at HAPi
        obtain ⟨x0, x1, x2, x3, x4, x5⟩ := q6
        dsimp only at m0 m1 m2 m3 m4 m5
        have i0 : (0 : Int) ≤ (i : Int) := by omega
        have i1 : (i : Int) < (np : Int) := by omega
        clear hq6 hp9 hq hbase hsome
        obtain ⟨bB, hbB⟩ : ∃ g, g = wr.heap.size := ⟨_, rfl⟩
        obtain ⟨wz, hwz⟩ : ∃ X, X = wr.alloc (.cells #[.int .i64 x0, .int .i64 x1, .int .i64 x2, .int .i64 x3, .int .i64 x4, .int .i64 x5] 52) := ⟨_, rfl⟩
        have HBB : Hid (Is wz bB 52 #[.int .i64 x0, .int .i64 x1, .int .i64 x2, .int .i64 x3, .int .i64 x4, .int .i64 x5]) := Lib.hid (by rw [hwz, hbB]; exact Is.fresh _ _ _)
        have hAz : But [] wr wz := by rw [hwz]; exact (But.refl [] wr).alloc _
        have HIz := Lib.hid (HI.out.but hAz (by simp))
        have HXz := Lib.hid (HX.out.but hAz (by simp))
        have HBz := Lib.hid (HB.out.trans hAz.w2)
        clear hAz
        go_upto_region 8 with (fail)
        rw [← hwz, ← hbB]
        clear hwz hbB m0 m1 m2 m3 m4 m5 hg9
        have n0 := HBB.out.cell 0
        have n1 := HBB.out.cell 1
        have n2 := HBB.out.cell 2
        have n3 := HBB.out.cell 3
        have n4 := HBB.out.cell 4
        have n5 := HBB.out.cell 5
        have hgB := HBB.out.lt
        go_wp2_with fail
        refine (HAPi.out _ HIz.out HXz.out).mono ?_
        rintro e wy ⟨er, rfl, hE1, hE2, hBy⟩
        have HE1 := Lib.hid hE1
        have HE2 := Lib.hid hE2
        have HBy := Lib.hid (HBz.out.trans hBy)
        clear hE1 hE2 hBy n0 n1 n2 n3 n4 n5 hgB
        by_cases her : er = 0
        · subst her
          obtain ⟨re2, pix2, g1, g2, g3, g4, g5, g6⟩ := HE2.out rfl
          have G1 := Lib.hid g1
          have G2 := Lib.hid g2
          have G3 := Lib.hid g3
          have G4 := Lib.hid g4
          have G5 := Lib.hid g5
          have G6 := Lib.hid g6
          clear g1 g2 g3 g4 g5 g6
          go_wp2
          go_roundw
          case rel => exact ⟨i + 1, re2, pix2, by omega, by go_num, G1, G2, G3, G4, G5, G6, HBy⟩
          case measure => simp [intOf] <;> omega
        · have q1 : (er != 0) = true := by simpa using her
          have HRE := Lib.hid (HERR.out er (HE1.out her) her)
          have HTy := Lib.hid (HTT.out _ HBy.out)
          have HBW := Lib.hid (HB9.out.hide2 HBy.out HG5.out.1 HM6.out.1)
          have d0 := HTy.out.2.cell 0
          have f0 := HTy.out.2.free 0
          have d1 := HTy.out.2.cell 1
          have f1 := HTy.out.2.free 1
          have d2 := HTy.out.2.cell 2
          have f2 := HTy.out.2.free 2
          have hgl4 := HTy.out.2.lt
          go_wp2
          exact imgp_ret HTy.out.2 HBW.out HW4.out (by rfl) (by rfl) 0 0 ⟨#[]⟩ (by rw [HRE.out]) (by rw [HRE.out])
      · obtain rfl : np = i := by omega
        have HF : Hid (IM = (pix, 0)) := Lib.hid (by rw [HIM.out, List.drop_of_length_le (by rw [← HNP.out]; exact Nat.le_refl _)]; rfl)
        have HR1 := Lib.hid (HGOOD.out pix HF.out)
        have kt := HX.out.text n8
        rw [HPL.out] at kt
        have HTy := Lib.hid (HTT.out _ HB.out)
        have hg9 := HI.out.cell 9
        have hgm := HI.out.lt
        have c0 := HTy.out.1.cell 0
        have c1 := HTy.out.1.cell 1
        have c2 := HTy.out.1.cell 2
        have c3 := HTy.out.1.cell 3
        have c4 := HTy.out.1.cell 4
        have c5 := HTy.out.1.cell 5
        have c6 := HTy.out.1.cell 6
        have c7 := HTy.out.1.cell 7
        have hgl := HTy.out.1.lt
        have d0 := HTy.out.2.cell 0
        have f0 := HTy.out.2.free 0
        have d1 := HTy.out.2.cell 1
        have f1 := HTy.out.2.free 1
        have d2 := HTy.out.2.cell 2
        have f2 := HTy.out.2.free 2
        have hgl4 := HTy.out.2.lt
        have HBW := Lib.hid (HB9.out.hide2 HB.out HG5.out.1 HM6.out.1)
        go_wp2
        exact imgp_ret HTy.out.2 HBW.out HW4.out (by rfl) (by rfl) (W : Int) (H : Int) (strL pix) (by rw [HR1.out]) (by rw [HR1.out])
  · intro w3 hR3 hS3 K' hK
    go_simp
    obtain ⟨bm, hbm⟩ : ∃ g, g = w3.heap.size := ⟨_, rfl⟩
    have hI6 := Is.fresh w3 48 #[.int .i64 0, .int .i64 0, .int .i64 0, .int .i64 0, .int .i64 0, .string ⟨#[]⟩, .string ⟨#[]⟩, .bool false, .string ⟨#[]⟩, .slice none 0 0]
    have hA6 := (But.refl [] w3).alloc (.cells #[.int .i64 0, .int .i64 0, .int .i64 0, .int .i64 0, .int .i64 0, .string ⟨#[]⟩, .string ⟨#[]⟩, .bool false, .string ⟨#[]⟩, .slice none 0 0] 48)
    obtain ⟨wa, hwa⟩ : ∃ x, x = w3.alloc (.cells #[.int .i64 0, .int .i64 0, .int .i64 0, .int .i64 0, .int .i64 0, .string ⟨#[]⟩, .string ⟨#[]⟩, .bool false, .string ⟨#[]⟩, .slice none 0 0] 48) := ⟨_, rfl⟩
    rw [← hwa, ← hbm] at hI6
    rw [← hwa] at hA6
    have HJ6 := Lib.hid hI6
    have HM6 : Hid (w.heap.size ≤ bm ∧ b4 ≠ bm ∧ b2 ≠ bm ∧ w2.heap.size ≤ bm) := Lib.hid (by
      have k1 := (HI2.out.but hS3).1.lt
      have k2 := (HI2.out.but hS3).2.lt
      have k3 := (HB2.out.trans hS3).size
      have k5 := hS3.size
      rw [← hbm] at k1 k2 k3 k5
      exact ⟨k3, by omega, by omega, k5⟩)
    have HS6 := Lib.hid (hS3.trans hA6)
    rw [← hwa, ← hbm]
    refine hK _ _ ⟨HS6.out, ?_⟩
    clear hK K' hI6 hA6 hwa hbm hS3 hR3
    refine wpM_one (i := 10) rfl (by kernel_rfl) ?_
    intro w4 hR3 hS3 K' hK
    have km := run_noughts w4 (n := n8) (by omega)
    have hno := noughtsB w4 n8
    have hnb := noughtsF_but w4 n8
    go_simp
    clear km
    obtain ⟨gp, hgp⟩ : ∃ g, g = w4.heap.size := ⟨_, rfl⟩
    obtain ⟨w5, hw5⟩ : ∃ x, x = noughtsF w4 n8 := ⟨_, rfl⟩
    rw [← hw5] at hno hnb ⊢
    rw [← hgp] at hno ⊢
    have HS5 := Lib.hid (hS3.trans hnb)
    have HX5 := Lib.hid hno
    have HG5 : Hid (w.heap.size ≤ gp ∧ b4 ∉ [gp] ∧ b2 ∉ [gp]) := Lib.hid (by
      have k1 := (HI2.out.but hS3).1.lt
      have k2 := (HI2.out.but hS3).2.lt
      have k3 := (HB2.out.trans hS3).size
      rw [← hgp] at k1 k2 k3
      exact ⟨k3, by rw [List.mem_singleton]; omega, by rw [List.mem_singleton]; omega⟩)
    have HI6 := Lib.hid ((HJ6.out.but hR3 (by simp)).but hnb (by simp))
    have HX6 := Lib.hid hno
    have HN6 : Hid (gp ≠ bm) := Lib.hid (by
      have k1 := (HJ6.out.but hR3 (by simp)).lt
      rw [← hgp] at k1
      omega)
    have HM6 : Hid (w.heap.size ≤ bm ∧ b4 ≠ bm ∧ gp ≠ bm ∧ b2 ≠ bm ∧ w2.heap.size ≤ bm) := Lib.hid ⟨HM6.out.1, HM6.out.2.1, HN6.out, HM6.out.2.2.1, HM6.out.2.2.2⟩
    clear hno hnb hw5 hgp hS3 hR3
    refine hK _ _ ⟨HS5.out, ?_⟩
    clear hK K'
    refine wpM_take (fun w => But.refl [] w) (fun x y z h k => h.trans k) (i := 11) (v := .agg #[.int .i64 W, .int .i64 H, .int .i64 D, .int .i64 C, .int .i64 l, .string pal, .string tr, .bool has, .string raw, .slice (some ⟨gp, 0, none⟩) n8 n8]) rfl (by kernel_rfl) (by kernel_rfl) (by kernel_rfl) (fun _ _ _ h => h) (YieldsR.read (fun w => But.refl [] w) ?_ fun w hS => ?_) ?_
    · first | kernel_rfl | go_simp
    · go_simp
    refine wpM_one (i := 13) rfl (by kernel_rfl) fun w7 hR7 hS7 K' hK => ?_
    have HI7 := Lib.hid (HI6.out.but hR7 (by simp))
    have z0 := HI7.out.cell 0
    have y0 := HI7.out.free 0
    have z1 := HI7.out.cell 1
    have y1 := HI7.out.free 1
    have z2 := HI7.out.cell 2
    have y2 := HI7.out.free 2
    have z3 := HI7.out.cell 3
    have y3 := HI7.out.free 3
    have z4 := HI7.out.cell 4
    have y4 := HI7.out.free 4
    have z5 := HI7.out.cell 5
    have y5 := HI7.out.free 5
    have z6 := HI7.out.cell 6
    have y6 := HI7.out.free 6
    have z7 := HI7.out.cell 7
    have y7 := HI7.out.free 7
    have z8 := HI7.out.cell 8
    have y8 := HI7.out.free 8
    have z9 := HI7.out.cell 9
    have y9 := HI7.out.free 9
    have hgm := HI7.out.lt
    have HX7 := Lib.hid (HX6.out.but hR7 (by simp))
    have HS7 := Lib.hid hS7
    clear hS7 hR7
    go_simp
    have hq0 : Is _ bm 48 #[.int .i64 W, .int .i64 0, .int .i64 0, .int .i64 0, .int .i64 0, .string ⟨#[]⟩, .string ⟨#[]⟩, .bool false, .string ⟨#[]⟩, .slice none 0 0] := (HI7.out).put 0 (.int .i64 W)
    have hr0 := But.setCell (p := ⟨bm, 0, none⟩) (HS7.out) (.inr HM6.out.2.2.2.2) (.int .i64 W)
    have hx0 := (HX7.out).far (p := ⟨bm, 0, none⟩) (by show gp ≠ bm; exact HM6.out.2.2.1) (.int .i64 W)
    have hq1 : Is _ bm 48 #[.int .i64 W, .int .i64 H, .int .i64 0, .int .i64 0, .int .i64 0, .string ⟨#[]⟩, .string ⟨#[]⟩, .bool false, .string ⟨#[]⟩, .slice none 0 0] := (hq0).put 1 (.int .i64 H)
    have hr1 := But.setCell (p := ⟨bm, 1, none⟩) (hr0) (.inr HM6.out.2.2.2.2) (.int .i64 H)
    have hx1 := (hx0).far (p := ⟨bm, 1, none⟩) (by show gp ≠ bm; exact HM6.out.2.2.1) (.int .i64 H)
    have hq2 : Is _ bm 48 #[.int .i64 W, .int .i64 H, .int .i64 D, .int .i64 0, .int .i64 0, .string ⟨#[]⟩, .string ⟨#[]⟩, .bool false, .string ⟨#[]⟩, .slice none 0 0] := (hq1).put 2 (.int .i64 D)
    have hr2 := But.setCell (p := ⟨bm, 2, none⟩) (hr1) (.inr HM6.out.2.2.2.2) (.int .i64 D)
    have hx2 := (hx1).far (p := ⟨bm, 2, none⟩) (by show gp ≠ bm; exact HM6.out.2.2.1) (.int .i64 D)
    have hq3 : Is _ bm 48 #[.int .i64 W, .int .i64 H, .int .i64 D, .int .i64 C, .int .i64 0, .string ⟨#[]⟩, .string ⟨#[]⟩, .bool false, .string ⟨#[]⟩, .slice none 0 0] := (hq2).put 3 (.int .i64 C)
    have hr3 := But.setCell (p := ⟨bm, 3, none⟩) (hr2) (.inr HM6.out.2.2.2.2) (.int .i64 C)
    have hx3 := (hx2).far (p := ⟨bm, 3, none⟩) (by show gp ≠ bm; exact HM6.out.2.2.1) (.int .i64 C)
    have hq4 : Is _ bm 48 #[.int .i64 W, .int .i64 H, .int .i64 D, .int .i64 C, .int .i64 l, .string ⟨#[]⟩, .string ⟨#[]⟩, .bool false, .string ⟨#[]⟩, .slice none 0 0] := (hq3).put 4 (.int .i64 l)
    have hr4 := But.setCell (p := ⟨bm, 4, none⟩) (hr3) (.inr HM6.out.2.2.2.2) (.int .i64 l)
    have hx4 := (hx3).far (p := ⟨bm, 4, none⟩) (by show gp ≠ bm; exact HM6.out.2.2.1) (.int .i64 l)
    have hq5 : Is _ bm 48 #[.int .i64 W, .int .i64 H, .int .i64 D, .int .i64 C, .int .i64 l, .string pal, .string ⟨#[]⟩, .bool false, .string ⟨#[]⟩, .slice none 0 0] := (hq4).put 5 (.string pal)
    have hr5 := But.setCell (p := ⟨bm, 5, none⟩) (hr4) (.inr HM6.out.2.2.2.2) (.string pal)
    have hx5 := (hx4).far (p := ⟨bm, 5, none⟩) (by show gp ≠ bm; exact HM6.out.2.2.1) (.string pal)
    have hq6 : Is _ bm 48 #[.int .i64 W, .int .i64 H, .int .i64 D, .int .i64 C, .int .i64 l, .string pal, .string tr, .bool false, .string ⟨#[]⟩, .slice none 0 0] := (hq5).put 6 (.string tr)
    have hr6 := But.setCell (p := ⟨bm, 6, none⟩) (hr5) (.inr HM6.out.2.2.2.2) (.string tr)
    have hx6 := (hx5).far (p := ⟨bm, 6, none⟩) (by show gp ≠ bm; exact HM6.out.2.2.1) (.string tr)
    have hq7 : Is _ bm 48 #[.int .i64 W, .int .i64 H, .int .i64 D, .int .i64 C, .int .i64 l, .string pal, .string tr, .bool has, .string ⟨#[]⟩, .slice none 0 0] := (hq6).put 7 (.bool has)
    have hr7 := But.setCell (p := ⟨bm, 7, none⟩) (hr6) (.inr HM6.out.2.2.2.2) (.bool has)
    have hx7 := (hx6).far (p := ⟨bm, 7, none⟩) (by show gp ≠ bm; exact HM6.out.2.2.1) (.bool has)
    have hq8 : Is _ bm 48 #[.int .i64 W, .int .i64 H, .int .i64 D, .int .i64 C, .int .i64 l, .string pal, .string tr, .bool has, .string raw, .slice none 0 0] := (hq7).put 8 (.string raw)
    have hr8 := But.setCell (p := ⟨bm, 8, none⟩) (hr7) (.inr HM6.out.2.2.2.2) (.string raw)
    have hx8 := (hx7).far (p := ⟨bm, 8, none⟩) (by show gp ≠ bm; exact HM6.out.2.2.1) (.string raw)
    have hq9 : Is _ bm 48 #[.int .i64 W, .int .i64 H, .int .i64 D, .int .i64 C, .int .i64 l, .string pal, .string tr, .bool has, .string raw, .slice (some ⟨gp, 0, none⟩) n8 n8] := (hq8).put 9 (.slice (some ⟨gp, 0, none⟩) n8 n8)
    have hr9 := But.setCell (p := ⟨bm, 9, none⟩) (hr8) (.inr HM6.out.2.2.2.2) (.slice (some ⟨gp, 0, none⟩) n8 n8)
    have hx9 := (hx8).far (p := ⟨bm, 9, none⟩) (by show gp ≠ bm; exact HM6.out.2.2.1) (.slice (some ⟨gp, 0, none⟩) n8 n8)
    have HQ := Lib.hid hq9
    have HRR := Lib.hid hr9
    have HXX := Lib.hid hx9
    clear hq0 hr0 hx0 z0 y0 hq1 hr1 hx1 z1 y1 hq2 hr2 hx2 z2 y2 hq3 hr3 hx3 z3 y3 hq4 hr4 hx4 z4 y4 hq5 hr5 hx5 z5 y5 hq6 hr6 hx6 z6 y6 hq7 hr7 hx7 z7 y7 hq8 hr8 hx8 z8 y8 hq9 hr9 hx9 z9 y9 hgm
    refine hK _ _ ⟨HRR.out, ?_⟩
    clear hK K'
    refine ⟨by kernel_rfl, fun w8 hR8 hS8 => ?_⟩
    have HI8 : Hid (Is w8 bm 48 #[.int .i64 W, .int .i64 H, .int .i64 D, .int .i64 C, .int .i64 l, .string pal, .string tr, .bool has, .string raw, .slice (some ⟨gp, 0, none⟩) n8 n8]) := Lib.hid (HQ.out.but hR8 (by simp))
    have HX8 : Hid (BytesB w8 gp (List.replicate n8 0)) := Lib.hid (BytesB.but HXX.out hR8 (by simp))
    have HT8 := Lib.hid (HI2.out.but hS8)
    have HB8 := Lib.hid (HB2.out.trans hS8)
    have HB18 := Lib.hid (HB12.out.trans hS8)
    clear hR8 hS8 HQ HRR HXX HX6 HI6 HI7 HX7 HS7
    go_simp
    have c0 := HT8.out.1.cell 0
    have c1 := HT8.out.1.cell 1
    have c2 := HT8.out.1.cell 2
    have c3 := HT8.out.1.cell 3
    have c4 := HT8.out.1.cell 4
    have c5 := HT8.out.1.cell 5
    have c6 := HT8.out.1.cell 6
    have c7 := HT8.out.1.cell 7
    have hgl := HT8.out.1.lt
    go_wp2_with fail
    refine (HPS.out _ HB18.out).mono ?_
    rintro e w9 ⟨A9, cap9, rfl, hP9, hcap9, hB9⟩
    have HP9 := Lib.hid hP9
    have HI9 := Lib.hid (HI8.out.but hB9 (by simp))
    have HX9 := Lib.hid (HX8.out.but hB9 (by simp))
    have HT9 := Lib.hid (HT8.out.but hB9)
    have HB9 := Lib.hid (HB8.out.trans hB9)
    clear hP9 hB9
    clear c0 c1 c2 c3 c4 c5 c6 c7 hgl
    have HPS9 : Hid (∀ v, But [bm, gp] w9 v → Pss v A9 np P) := Lib.hid fun v hv => HP9.out.keep2 HX9.out (fun hn => HP9.out.off HI9.out (fun x h => nomatch h) (fun x h => nomatch h) (fun x h => nomatch h) (fun x h => nomatch h) hn) hv
    have HTT : Hid (∀ v, But [bm, gp] w9 v → ImS b2 b4 #[.int .i64 W, .int .i64 H, .int .i64 D, .int .i64 C, .int .i64 l, .string pal, .string tr, .bool has] v) := Lib.hid fun v hv => by
      have k := HM6.out
      have k2 := HG5.out
      rw [List.mem_singleton] at k2
      have k3 := k2.2.2
      rw [List.mem_singleton] at k3
      exact ⟨HT9.out.1.but hv (by simp only [List.mem_cons, List.not_mem_nil, or_false]; omega), HT9.out.2.but hv (by simp only [List.mem_cons, List.not_mem_nil, or_false]; omega)⟩
    go_wp2_with fail
    go_loopw [36] (fun iv wx => ∃ (i : Nat) (re : ByteArray) (pix : List UInt8), i ≤ np ∧ iv = .int .i64 i ∧ Hid (IM = runI SS (jobsL W H (L0.drop i)) re.data.toList [] pix) ∧ Hid (re.size = sizeJ SS (jobsL W H (L0.drop i))) ∧ Hid (re.size ≤ 140737488351232) ∧ Hid (pix.length = n8) ∧ Hid (Is wx bm 48 #[.int .i64 W, .int .i64 H, .int .i64 D, .int .i64 C, .int .i64 l, .string pal, .string tr, .bool has, .string re, .slice (some ⟨gp, 0, none⟩) n8 n8]) ∧ Hid (BytesB wx gp pix) ∧ Hid (But [bm, gp] w9 wx)) (fun iv _ => np - (intOf iv).toNat)
    case atStart => exact ⟨0, raw, List.replicate n8 0, Nat.zero_le _, rfl, HIM, HSJ, Lib.hid hr, Lib.hid (by rw [List.length_replicate]), HI9, HX9, Lib.hid (But.refl _ _)⟩
    case round =>
      clear HIM HSJ HX9 HI9
      obtain ⟨i, re, pix, hi, rfl, HIM, HSJ, HRW, HPL, HI, HX, HB⟩ := hrel
      by_cases hlt : i < np
      · obtain ⟨g9, o9, q6, hA9, hg9, hq6, m0, m1, m2, m3, m4, m5⟩ := (HPS9.out _ HB.out).at hlt
        subst hA9
        obtain ⟨p, hp9, hq, hbase, hsome⟩ := HPA.out i q6 hq6
        have HAPi := Lib.hid fun (v : World) (k4 : Is v bm 48 #[.int .i64 W, .int .i64 H, .int .i64 D, .int .i64 C, .int .i64 l, .string pal, .string tr, .bool has, .string re, .slice (some ⟨gp, 0, none⟩) n8 n8]) (k5 : BytesB v gp pix) => HAP.out v bm gp i p re pix hp9 hbase hsome k4 k5 HPL.out HIM.out HSJ.out HRW.out
        rw [← hq] at HAPi
        obtain ⟨x0, x1, x2, x3, x4, x5⟩ := q6
        dsimp only at m0 m1 m2 m3 m4 m5
        have i0 : (0 : Int) ≤ (i : Int) := by omega
        have i1 : (i : Int) < (np : Int) := by omega
        clear hq6 hp9 hq hbase hsome
        obtain ⟨bB, hbB⟩ : ∃ g, g = wr.heap.size := ⟨_, rfl⟩
        obtain ⟨wz, hwz⟩ : ∃ X, X = wr.alloc (.cells #[.int .i64 x0, .int .i64 x1, .int .i64 x2, .int .i64 x3, .int .i64 x4, .int .i64 x5] 52) := ⟨_, rfl⟩
        have HBB : Hid (Is wz bB 52 #[.int .i64 x0, .int .i64 x1, .int .i64 x2, .int .i64 x3, .int .i64 x4, .int .i64 x5]) := Lib.hid (by rw [hwz, hbB]; exact Is.fresh _ _ _)
        have hAz : But [] wr wz := by rw [hwz]; exact (But.refl [] wr).alloc _
        have HIz := Lib.hid (HI.out.but hAz (by simp))
        have HXz := Lib.hid (HX.out.but hAz (by simp))
        have HBz := Lib.hid (HB.out.trans hAz.w2)
        clear hAz
        go_upto_region 8 with (fail)
        rw [← hwz, ← hbB]
        clear hwz hbB m0 m1 m2 m3 m4 m5 hg9
        have n0 := HBB.out.cell 0
        have n1 := HBB.out.cell 1
        have n2 := HBB.out.cell 2
        have n3 := HBB.out.cell 3
        have n4 := HBB.out.cell 4
        have n5 := HBB.out.cell 5
        have hgB := HBB.out.lt
        go_wp2_with fail
        refine (HAPi.out _ HIz.out HXz.out).mono ?_
        rintro e wy ⟨er, rfl, hE1, hE2, hBy⟩
        have HE1 := Lib.hid hE1
        have HE2 := Lib.hid hE2
        have HBy := Lib.hid (HBz.out.trans hBy)
        clear hE1 hE2 hBy n0 n1 n2 n3 n4 n5 hgB
        by_cases her : er = 0
        · subst her
          obtain ⟨re2, pix2, g1, g2, g3, g4, g5, g6⟩ := HE2.out rfl
          have G1 := Lib.hid g1
          have G2 := Lib.hid g2
          have G3 := Lib.hid g3
          have G4 := Lib.hid g4
          have G5 := Lib.hid g5
          have G6 := Lib.hid g6
          clear g1 g2 g3 g4 g5 g6
          go_wp2
          go_roundw
          case rel => exact ⟨i + 1, re2, pix2, by omega, by go_num, G1, G2, G3, G4, G5, G6, HBy⟩
          case measure => simp [intOf] <;> omega
        · have q1 : (er != 0) = true := by simpa using her
          have HRE := Lib.hid (HERR.out er (HE1.out her) her)
          have HTy := Lib.hid (HTT.out _ HBy.out)
          have HBW := Lib.hid (HB9.out.hide2 HBy.out HG5.out.1 HM6.out.1)
          have d0 := HTy.out.2.cell 0
          have f0 := HTy.out.2.free 0
          have d1 := HTy.out.2.cell 1
          have f1 := HTy.out.2.free 1
          have d2 := HTy.out.2.cell 2
          have f2 := HTy.out.2.free 2
          have hgl4 := HTy.out.2.lt
          go_wp2
          exact imgp_ret HTy.out.2 HBW.out HW4.out (by rfl) (by rfl) 0 0 ⟨#[]⟩ (by rw [HRE.out]) (by rw [HRE.out])
      · obtain rfl : np = i := by omega
        have HF : Hid (IM = (pix, 0)) := Lib.hid (by rw [HIM.out, List.drop_of_length_le (by rw [← HNP.out]; exact Nat.le_refl _)]; rfl)
        have HR1 := Lib.hid (HGOOD.out pix HF.out)
        have kt := HX.out.text n8
        rw [HPL.out] at kt
        have HTy := Lib.hid (HTT.out _ HB.out)
        have hg9 := HI.out.cell 9
        have hgm := HI.out.lt
        have c0 := HTy.out.1.cell 0
        have c1 := HTy.out.1.cell 1
        have c2 := HTy.out.1.cell 2
        have c3 := HTy.out.1.cell 3
        have c4 := HTy.out.1.cell 4
        have c5 := HTy.out.1.cell 5
        have c6 := HTy.out.1.cell 6
        have c7 := HTy.out.1.cell 7
        have hgl := HTy.out.1.lt
        have d0 := HTy.out.2.cell 0
        have f0 := HTy.out.2.free 0
        have d1 := HTy.out.2.cell 1
        have f1 := HTy.out.2.free 1
        have d2 := HTy.out.2.cell 2
        have f2 := HTy.out.2.free 2
        have hgl4 := HTy.out.2.lt
        have HBW := Lib.hid (HB9.out.hide2 HB.out HG5.out.1 HM6.out.1)
        go_wp2
        exact imgp_ret HTy.out.2 HBW.out HW4.out (by rfl) (by rfl) (W : Int) (H : Int) (strL pix) (by rw [HR1.out]) (by rw [HR1.out])
theorem pimage_any (w : World) (hG : GP w) {a b d c l : Int} {pal tr raw : ByteArray} {has : Bool} (hp : pal.size ≤ 140737488351232) (ht : tr.size ≤ 140737488351232) (hr : raw.size ≤ 140737488351232) :
    Calls Tryd.prog 11 #[.agg #[.int .i64 a, .int .i64 b, .int .i64 d, .int .i64 c, .int .i64 l, .string pal, .string tr, .bool has], .string raw] w fun r w' => r = .returned (.tuple #[.agg #[.int .i64 (imageA a b d c l pal tr has raw).1.1, .int .i64 (imageA a b d c l pal tr has raw).1.2.1, .string (imageA a b d c l pal tr has raw).1.2.2], .int .i64 (imageA a b d c l pal tr has raw).2]) ∧ But [] w w' := by
  by_cases hd0 : dataE a b d c l raw.size = 0
  · have h0 := (dataE_good hd0).1
    obtain ⟨W, H, D, C, R⟩ := right_form h0
    obtain rfl := R.wa
    obtain rfl := R.hb
    obtain rfl := R.dd
    obtain rfl := R.cc
    exact pimage_ok w hG hd0 h0 R hp ht hr
  · exact pimage_bad w hG hr hd0
end Go.Proofs.YtfiedoejdikcgaaDoor
