/- Several texts in one: PyC (what PixelImages, PixelRows, PixelSame reach of them). -/
import Derived.Test.YtfiedoejdikcgaaDoorQ01
import Derived.Test.YtfiedoejdikcgaaDoorQ02
import Derived.Test.YtfiedoejdikcgaaDoorQ03
import Derived.Test.YtfiedoejdikcgaaDoorQ04
import Derived.Test.YtfiedoejdikcgaaDoorQ05
import Derived.Test.YtfiedoejdikcgaaDoorQ06
import Derived.Test.YtfiedoejdikcgaaDoorQ07
import Derived.Test.YtfiedoejdikcgaaDoorQ08
import Derived.Test.YtfiedoejdikcgaaDoorQ09
import Derived.Test.YtfiedoejdikcgaaDoorQ12
import Derived.Test.YtfiedoejdikcgaaDoorQ15
import Derived.Below
import Derived.BigQuiet
import Derived.BigRegion
import Derived.Deep.AppendLies
import Derived.Deep.CutBlock
import Derived.Deep.CutRange
import Derived.Deep.DeepCutAuto
import Derived.Deep.Draws
import Derived.Deep.QuietTactic
import Derived.Deep.RegionLaw
import Derived.Deep.RegionWith
import Derived.Handy
import Derived.Laws.BitsAllLaws
import Derived.Laws.BitsLemmas
import Derived.Laws.BytesArg
import Derived.Laws.IdiomStrings
import Derived.Laws.MakeOwn
import Derived.Laws.OwnMore
import Derived.Laws.Rows
import Derived.Laws.StructEq
import Derived.Lib.BufferWrite
import Derived.Lib.Hide
import Derived.LoopIn
import Derived.LoopNIn
import Derived.Maps.AppendAt
import Derived.OrdersHeld
import Derived.OrdersIn
import Derived.Outline
import Derived.OwnWalk
import Derived.OwnWalkIn
import Derived.RangeFuncBound
import Derived.RangeFuncCalls
import Derived.RangeFuncLeaves
import Derived.RangeFuncNested
import Derived.RegionTactic
import Derived.Shelf.Abstract
import Derived.Shelf.RegionOpen
import Derived.Sort.CutIn
import Derived.TacticsInMore
import Derived.Test.YtfiedoejdikcgaaDoorChecked
import Derived.WalkKit
set_option maxRecDepth 100000
set_option linter.unusedVariables false
set_option maxRecDepth 100000
set_option linter.unusedVariables false
namespace Go.Proofs.YtfiedoejdikcgaaDoor
set_option maxRecDepth 100000
open Go Go.RowKit
theorem sizeOf_int1 (w : World) : (Go.sizeOf 3).run Tryd.prog w = .ok 1 w := by kernel_rfl
theorem sizeOf_byte1 (w : World) : (Go.sizeOf 5).run Tryd.prog w = .ok 1 w := by kernel_rfl
theorem slice_win (W : World) (g o len cap lo hi : Nat) (hlh : lo < hi) (hh : hi ≤ cap) :
    (Instr.slice 37 (.slice (some ⟨g, o, none⟩) len cap) (some (.int .i64 (lo : Int))) (some (.int .i64 (hi : Int))) none).run Tryd.prog W = .ok (.slice (some ⟨g, o + lo, none⟩) (hi - lo) (cap - lo)) W := by
  have ht : Tryd.prog.underlying 37 = some (.slice 3) := Tryd.underlying37
  have ht' : Tryd.prog.underlying 37 = some (.slice (Tryd.prog.elem 37)) := by simp [Program.elem, ht]
  have he : Tryd.prog.elem 37 = 3 := by simp [Program.elem, ht]
  rw [run_slice_lh W _ _ _ _ ht' .i64 .i64 _ _ (by omega) (by omega) (by omega), he, sizeOf_int1]
  have hne : ¬ cap = lo := by omega
  by_cases h0 : lo = 0
  · subst h0
    simp [Result.andThen, sliced, Addr.add, hne]
  · simp [Result.andThen, sliced, Addr.add, hne, h0]
theorem slice_fromB (W : World) (g n k : Nat) (hk : k < n) :
    (Instr.slice 45 (.slice (some ⟨g, 0, none⟩) n n) (some (.int .i64 (k : Int))) none none).run Tryd.prog W = .ok (.slice (some ⟨g, k, none⟩) (n - k) (n - k)) W := by
  have ht : Tryd.prog.underlying 45 = some (.slice 5) := Tryd.underlying45
  have ht' : Tryd.prog.underlying 45 = some (.slice (Tryd.prog.elem 45)) := by simp [Program.elem, ht]
  have he : Tryd.prog.elem 45 = 5 := by simp [Program.elem, ht]
  rw [run_slice_l W _ _ _ _ ht' .i64 _ (by omega) (by omega), he, sizeOf_byte1]
  have hne : ¬ n = k := by omega
  by_cases h0 : k = 0
  · subst h0
    simp [Result.andThen, sliced, Addr.add, hne]
  · simp [Result.andThen, sliced, Addr.add, hne, h0]
/-- Bytes of a string copied into a block, as one operation. -/
theorem oper_copyB (w : World) {ops : Array Oper} {E : Prop} {o : Oper} {a : Act} {K : Act → World → Prop} {Q : Exit → Act → World → Prop} (hgd : o.guard = none) (d s : Operand)
    (ho : o.op = .call { callee := .builtin .copy, args := #[d, s], argTypes := #[45, 9] }) {g k dLen dCap : Nat} {str : ByteArray} {l : List UInt8}
    (hd : a.eval d = .slice (some ⟨g, k, none⟩) dLen dCap) (hs : a.eval s = .string str) (hb : BytesB w g l) (hle : str.size ≤ dLen) (hfit : k + str.size ≤ l.length)
    (h : ∀ w', Hid (BytesB w' g (setN l k str.data.toList)) → Hid (But [g] w w') → K (a.put o.dst (goInt str.size)) w') : if Region.wanted o (yielded ops a.tmps) = true then Oper.wp Tryd.prog o a w K Q else E := by
  rw [if_pos (show Region.wanted o (yielded ops a.tmps) = true by simp [Region.wanted, hgd])]
  obtain ⟨w', hrun, h1, h2⟩ := run_copyB hb hle hfit o.type
  unfold Oper.wp
  simp [execOp, ho, resolve, invoke, builtin, hd, hs, Result.andThen]
  rw [hrun]
  exact h w' (Lib.hid h1) (Lib.hid h2)
/-- The pixel at a place of a row lies in the image. -/
theorem place_room {W H a b n8 : Nat} (ha : a < W) (hb : b < H) (h8 : n8 = 8 * (W * H)) : 8 * (b * W + a) + 8 ≤ n8 := by
  have : (b + 1) * W ≤ H * W := Nat.mul_le_mul_right _ hb
  rw [Nat.add_mul, Nat.one_mul] at this
  rw [h8, Nat.mul_comm W]
  omega
theorem pixGo_step {SS : ShP} {ln : List UInt8} {j : RowJ} {N x : Nat} {pix : List UInt8} (hx : x < N) (h : (pixS SS (sampsL SS ln x)).2 = 0) : pixGo SS ln j (N - x) x pix = pixGo SS ln j (N - (x + 1)) (x + 1) (setN pix (8 * (j.y * SS.w + (j.x + x * j.dx))) (pixS SS (sampsL SS ln x)).1) := by
  rw [show N - x = (N - (x + 1)) + 1 by omega]
  exact pixGo_go h
theorem pixGo_stop {SS : ShP} {ln : List UInt8} {j : RowJ} {N x : Nat} {pix : List UInt8} (hx : x < N) (h : (pixS SS (sampsL SS ln x)).2 ≠ 0) : pixGo SS ln j (N - x) x pix = ([], (pixS SS (sampsL SS ln x)).2) := by
  rw [show N - x = (N - (x + 1)) + 1 by omega]
  exact pixGo_err h
set_option maxHeartbeats 4000000 in
theorem paddRow_any (w : World) {W H D C : Nat} {l : Int} {pal tr rest : ByteArray} {has : Bool} {bm gp n8 px py dx dy Wp Hp y : Nat} {SS : ShP} {ln pix : List UInt8} {j : RowJ} (hSS : SS = ⟨W, H, D, C, pal.data.toList, tr.data.toList, has⟩) (R : RightP (W : Int) H D C l W H D C) (hI : Is w bm 48 #[.int .i64 W, .int .i64 H, .int .i64 D, .int .i64 C, .int .i64 l, .string pal, .string tr, .bool has, .string rest, .slice (some ⟨gp, 0, none⟩) n8 n8]) (hX : BytesB w gp pix) (hPL : pix.length = n8) (hn8 : n8 = 8 * (W * H))
    (hp : pal.size ≤ 140737488351232) (ht : tr.size ≤ 140737488351232) (hm1 : 1 ≤ Wp) (hm2 : Wp ≤ 1024) (hln : ln.length = rowLen SS Wp) (hj : j.n = Wp ∧ j.x = px ∧ j.dx = dx ∧ j.y = py + y * dy) (hpl : ∀ x, x < Wp → px + x * dx < W ∧ py + y * dy < H) :
    Calls Tryd.prog 44 #[.pointer (some ⟨bm, 0, none⟩), .agg #[.int .i64 px, .int .i64 py, .int .i64 dx, .int .i64 dy, .int .i64 Wp, .int .i64 Hp], .int .i64 (y : Nat), .string (strL ln)] w fun e w' => e = .returned (.int .i64 (pixGo SS ln j j.n 0 pix).2) ∧ ((pixGo SS ln j j.n 0 pix).2 = 0 → BytesB w' gp (pixGo SS ln j j.n 0 pix).1 ∧ (pixGo SS ln j j.n 0 pix).1.length = n8) ∧ But [gp] w w' := by
  obtain ⟨S, hS⟩ : ∃ S, S = samplesN C := ⟨_, rfl⟩
  have s1 : 1 ≤ S := by rw [hS]; exact R.s1
  have s4 : S ≤ 4 := by rw [hS]; exact R.s4
  have w2 := R.w2
  have h2 := R.h2
  have d16 := R.d16
  have hcs : samplesI (C : Int) = (S : Int) := by rw [hS]; exact R.sam
  have HSM : Hid (∀ v, Calls Tryd.prog 63 #[.int .i64 C] v fun e w' => e = .returned (.int .i64 (S : Nat)) ∧ v = w') := Lib.hid fun v => by rw [← hcs]; exact psamples_any v C
  have hrl : rowLen SS Wp = (D * S * Wp + 7) / 8 := by rw [hSS, hS]; rfl
  have hrl2 : rowLen SS Wp ≤ 8192 := by rw [hSS]; exact rowLen_le R _ _ _ hm2
  obtain ⟨nv, hnv⟩ : ∃ z, z = S * Wp := ⟨_, rfl⟩
  have hnvl : nv ≤ 4096 := by rw [hnv]; show _ ≤ 4 * 1024; exact Nat.mul_le_mul s4 hm2
  have env : (S : Int) * (Wp : Int) = (nv : Int) := by rw [hnv, Int.natCast_mul]
  have vnv := wrapI_in (show nv < 1000000000000000 by omega)
  obtain ⟨V, hV⟩ : ∃ V, V = unpackT ln D nv := ⟨_, rfl⟩
  obtain ⟨ls, hls⟩ : ∃ z, z = strL ln := ⟨_, rfl⟩
  have HUP : Hid (∀ v, Calls Tryd.prog 64 #[.string ls, .int .i64 D, .int .i64 (nv : Nat)] v fun e w' => ∃ A cap, e = .returned (.tuple #[.slice A nv cap, .int .i64 0]) ∧ Nums w' A nv V ∧ nv ≤ cap ∧ But [] v w') := Lib.hid fun v => by
    have h := punpack_any v (s := strL ln) (d := (D : Int)) (n := (nv : Int)) (by rw [strL_size, hln]; omega)
    have e : unpackA (strL ln) (D : Int) (nv : Int) = (unpackT ln D nv, 0) := by
      unfold unpackA
      rw [if_neg (by rintro (h | h | h); rw [R.dep] at h; cases h; omega; omega), if_neg (by
        rw [strL_size, hln, hrl, ← Int.natCast_mul, hnv]
        have e3 : S * Wp * D = D * S * Wp := by rw [Nat.mul_comm, Nat.mul_assoc]
        rw [e3]
        omega), strL_list]
      rfl
    rw [e] at h
    unfold GotN at h
    rw [unpackT_length, ← hV, ← hls] at h
    exact h
  have HPX : Hid (∀ (v : World) (A : Option Addr) (cp x : Nat), S ≤ cp → Zs v A S ((sampsL SS ln x).map fun y => ((y : Nat) : Int)) → Calls Tryd.prog 65 #[.agg #[.int .i64 W, .int .i64 H, .int .i64 D, .int .i64 C, .int .i64 l, .string pal, .string tr, .bool has], .slice A S cp] v fun r w' => r = .returned (.tuple #[.string (strL (pixS SS (sampsL SS ln x)).1), .int .i64 (pixS SS (sampsL SS ln x)).2]) ∧ But [] v w') := Lib.hid fun v A cp x hcp hZ => by
    have h := ppixel_any v (a := (W : Int)) (b := (H : Int)) (c := (C : Int)) (d := (D : Int)) (e0 := l) (pal := pal) (tr := tr) (has := has) (cp := cp) hZ (by omega) hcp hp ht
    rw [hSS, pixel_samps R ln x, ← hSS] at h
    exact h
  have HCUT : Hid (∀ x, x < Wp → (V.drop (S * x)).take S = sampsL SS ln x) := Lib.hid fun x hx => by
    have h := samps_cut (S := SS) (line := ln) hx
    rw [hSS] at h ⊢
    rw [hV, hnv, hS]
    exact h
  have HDW : Hid (SS.w = W) := Lib.hid (by rw [hSS])
  obtain ⟨GO, hGO⟩ : ∃ GO, GO = pixGo SS ln j j.n 0 pix := ⟨_, rfl⟩
  have HGO : Hid (GO = pixGo SS ln j (Wp - 0) 0 pix) := Lib.hid (by rw [hGO, hj.1, Nat.sub_zero])
  rw [← hls, ← hGO]
  have HJ := Lib.hid hj
  have HPLC := Lib.hid hpl
  have HPL := Lib.hid hPL
  have HN8 := Lib.hid hn8
  have hn8l : n8 ≤ 32768 := by rw [hn8]; have := R.area; omega
  obtain ⟨yd, hyd⟩ : ∃ z, z = y * dy := ⟨_, rfl⟩
  have eyd : (y : Int) * (dy : Int) = (yd : Int) := by rw [hyd, Int.natCast_mul]
  obtain ⟨yy, hyy⟩ : ∃ z, z = py + yd := ⟨_, rfl⟩
  have eyy : (py : Int) + (yd : Int) = (yy : Int) := by rw [hyy]; omega
  have hyl : yy < H := by have h := (hpl 0 (by omega)).2; omega
  have vyd := wrapI_in (show yd < 1000000000000000 by omega)
  have vyy := wrapI_in (show yy < 1000000000000000 by omega)
  have HYY : Hid (yy = py + y * dy) := Lib.hid (by rw [hyy, hyd])
  obtain ⟨b5, hb5⟩ : ∃ g, g = w.heap.size := ⟨_, rfl⟩
  obtain ⟨w1, hw1⟩ : ∃ X, X = w.alloc (.cells #[.int .i64 px, .int .i64 py, .int .i64 dx, .int .i64 dy, .int .i64 Wp, .int .i64 Hp] 52) := ⟨_, rfl⟩
  have hP5 : Is w1 b5 52 #[.int .i64 px, .int .i64 py, .int .i64 dx, .int .i64 dy, .int .i64 Wp, .int .i64 Hp] := by rw [hw1, hb5]; exact Is.fresh _ _ _
  have hB1 : But [] w w1 := by rw [hw1]; exact (But.refl [] w).alloc _
  have hX1 := hX.but hB1 (by simp)
  have hI1 := hI.but hB1 (by simp)
  have HOFF : Hid (bm ∉ [gp] ∧ b5 ∉ [gp]) := Lib.hid ⟨hX.off (hI.cell 0), hX1.off (hP5.cell 0)⟩
  have HX1 := Lib.hid hX1
  have HB1 := Lib.hid hB1
  have HM : Hid (∀ v, But [gp] w1 v → v.cell? ⟨bm, 0, none⟩ = some (.int .i64 W) ∧ v.cell? ⟨bm, 1, none⟩ = some (.int .i64 H) ∧ v.cell? ⟨bm, 2, none⟩ = some (.int .i64 D) ∧ v.cell? ⟨bm, 3, none⟩ = some (.int .i64 C) ∧ v.cell? ⟨bm, 4, none⟩ = some (.int .i64 l) ∧ v.cell? ⟨bm, 5, none⟩ = some (.string pal) ∧ v.cell? ⟨bm, 6, none⟩ = some (.string tr) ∧ v.cell? ⟨bm, 7, none⟩ = some (.bool has) ∧ v.cell? ⟨bm, 8, none⟩ = some (.string rest) ∧ v.cell? ⟨bm, 9, none⟩ = some (.slice (some ⟨gp, 0, none⟩) n8 n8) ∧ bm < v.heap.size) := Lib.hid fun v hv => by
    have hh := hI1.but hv HOFF.out.1
    exact ⟨hh.cell 0, hh.cell 1, hh.cell 2, hh.cell 3, hh.cell 4, hh.cell 5, hh.cell 6, hh.cell 7, hh.cell 8, hh.cell 9, hh.lt⟩
  have HP : Hid (∀ v, But [gp] w1 v → v.cell? ⟨b5, 0, none⟩ = some (.int .i64 px) ∧ v.cell? ⟨b5, 1, none⟩ = some (.int .i64 py) ∧ v.cell? ⟨b5, 2, none⟩ = some (.int .i64 dx) ∧ v.cell? ⟨b5, 3, none⟩ = some (.int .i64 dy) ∧ v.cell? ⟨b5, 4, none⟩ = some (.int .i64 Wp) ∧ v.cell? ⟨b5, 5, none⟩ = some (.int .i64 Hp) ∧ b5 < v.heap.size) := Lib.hid fun v hv => by
    have hh := hP5.but hv HOFF.out.2
    exact ⟨hh.cell 0, hh.cell 1, hh.cell 2, hh.cell 3, hh.cell 4, hh.cell 5, hh.lt⟩
  have HNV := Lib.hid hnv
  clear hSS hX hI hP5 hB1 hX1 hI1 hPL hn8 hln hj hpl hS hcs hrl hrl2 hnv hV hls hGO hyd hyy R
  go_enter Tryd.func44, Tryd.ntmps44
  go_upto_region 1 with (fail)
  rw [← hw1, ← hb5]
  clear hw1 hb5
  obtain ⟨c0, c1, c2, c3, c4, c5, c6, c7, c8, c9, hgm⟩ := HM.out _ (But.refl _ _)
  go_wp2_with fail
  refine (HSM.out _).mono ?_
  rintro e w2 ⟨rfl, rfl⟩
  clear c0 c1 c2 c3 c4 c5 c6 c7 c8 c9 hgm
  go_upto_region 2 with (fail)
  refine wp_region_m (S := fun v => But [] w1 v) (R := fun v v' => But [] v v') (fun w => But.refl [] w) (by kernel_rfl) ((But.refl [] w1).drew) ?_
  refine wpM_take (fun w => But.refl [] w) (fun x y z h k => h.trans k) (i := 0) (v := .string ls) rfl (by kernel_rfl) (by kernel_rfl) (by kernel_rfl) (fun _ _ _ h => h) (YieldsR.read (fun w => But.refl [] w) ?_ fun w hS => ?_) ?_
  · first | kernel_rfl | go_simp
  · go_simp
  refine wpM_take (fun w => But.refl [] w) (fun x y z h k => h.trans k) (i := 1) (v := .pointer (some ⟨bm, 0, none⟩)) rfl (by kernel_rfl) (by kernel_rfl) (by kernel_rfl) (fun _ _ _ h => h) (YieldsR.read (fun w => But.refl [] w) ?_ fun w hS => ?_) ?_
  · first | kernel_rfl | go_simp
  · go_simp
  refine wpM_take (fun w => But.refl [] w) (fun x y z h k => h.trans k) (i := 2) (v := .pointer (some ⟨bm, 0, none⟩)) rfl (by kernel_rfl) (by kernel_rfl) (by kernel_rfl) (fun _ _ _ h => h) (YieldsR.read (fun w => But.refl [] w) ?_ fun w hS => ?_) ?_
  · first | kernel_rfl | go_simp
  · go_simp
  refine wpM_take (fun w => But.refl [] w) (fun x y z h k => h.trans k) (i := 3) (v := .pointer (some ⟨bm, 0, none⟩)) rfl (by kernel_rfl) (by kernel_rfl) (by kernel_rfl) (fun _ _ _ h => h) (YieldsR.read (fun w => But.refl [] w) ?_ fun w hS => ?_) ?_
  · first | kernel_rfl | go_simp
  · go_simp
  refine wpM_take (fun w => But.refl [] w) (fun x y z h k => h.trans k) (i := 4) (v := .pointer (some ⟨bm, 0, none⟩)) rfl (by kernel_rfl) (by kernel_rfl) (by kernel_rfl) (fun _ _ _ h => h) (YieldsR.read (fun w => But.refl [] w) ?_ fun w hS => ?_) ?_
  · first | kernel_rfl | go_simp
  · go_simp
  refine wpM_take (fun w => But.refl [] w) (fun x y z h k => h.trans k) (i := 5) (v := .pointer (some ⟨bm, 2, none⟩)) rfl (by kernel_rfl) (by kernel_rfl) (by kernel_rfl) (fun _ _ _ h => h) (YieldsR.read (fun w => But.refl [] w) ?_ fun w hS => ?_) ?_
  · first | kernel_rfl | go_simp
  · go_simp
  refine wpM_take (fun w => But.refl [] w) (fun x y z h k => h.trans k) (i := 6) (v := .int .i64 (D : Nat)) rfl (by kernel_rfl) (by kernel_rfl) (by kernel_rfl) (fun _ _ _ h => h) (YieldsR.read (fun w => But.refl [] w) ?_ fun w hS => ?_) ?_
  · first | kernel_rfl | go_simp
  · obtain ⟨c0, c1, c2, c3, c4, c5, c6, c7, c8, c9, hgm⟩ := HM.out w hS.wide; go_simp
  refine wpM_take (fun w => But.refl [] w) (fun x y z h k => h.trans k) (i := 7) (v := .int .i64 (S : Nat)) rfl (by kernel_rfl) (by kernel_rfl) (by kernel_rfl) (fun _ _ _ h => h) (YieldsR.read (fun w => But.refl [] w) ?_ fun w hS => ?_) ?_
  · first | kernel_rfl | go_simp
  · go_simp
  refine wpM_take (fun w => But.refl [] w) (fun x y z h k => h.trans k) (i := 8) (v := .pointer (some ⟨b5, 4, none⟩)) rfl (by kernel_rfl) (by kernel_rfl) (by kernel_rfl) (fun _ _ _ h => h) (YieldsR.read (fun w => But.refl [] w) ?_ fun w hS => ?_) ?_
  · first | kernel_rfl | go_simp
  · go_simp
  refine wpM_take (fun w => But.refl [] w) (fun x y z h k => h.trans k) (i := 9) (v := .int .i64 (Wp : Nat)) rfl (by kernel_rfl) (by kernel_rfl) (by kernel_rfl) (fun _ _ _ h => h) (YieldsR.read (fun w => But.refl [] w) ?_ fun w hS => ?_) ?_
  · first | kernel_rfl | go_simp
  · obtain ⟨p0, p1, p2, p3, p4, p5, hgp5⟩ := HP.out w hS.wide; go_simp
  refine wpM_take (fun w => But.refl [] w) (fun x y z h k => h.trans k) (i := 10) (v := .int .i64 (nv : Nat)) rfl (by kernel_rfl) (by kernel_rfl) (by kernel_rfl) (fun _ _ _ h => h) (YieldsR.read (fun w => But.refl [] w) ?_ fun w hS => ?_) ?_
  · first | kernel_rfl | go_simp
  · go_simp
  refine wpM_one (i := 11) rfl (by kernel_rfl) fun w3 hR3 hS3 K' hK => ?_
  go_simp
  refine (HUP.out w3).mono ?_
  rintro e w4 ⟨A4, cv, rfl, hV4, hcv, hB4⟩
  have HV4 := Lib.hid hV4
  refine hK _ _ ⟨hS3.trans hB4, ?_⟩
  clear hK K' hV4
  refine wpM_take (fun w => But.refl [] w) (fun x y z h k => h.trans k) (i := 12) (v := .tuple #[.slice A4 nv cv, .int .i64 0]) rfl (by kernel_rfl) (by kernel_rfl) (by kernel_rfl) (fun _ _ _ h => h) (YieldsR.read (fun w => But.refl [] w) ?_ fun w hS => ?_) ?_
  · first | kernel_rfl | go_simp
  · go_simp
  refine wpM_take (fun w => But.refl [] w) (fun x y z h k => h.trans k) (i := 13) (v := .slice A4 nv cv) rfl (by kernel_rfl) (by kernel_rfl) (by kernel_rfl) (fun _ _ _ h => h) (YieldsR.read (fun w => But.refl [] w) ?_ fun w hS => ?_) ?_
  · first | kernel_rfl | go_simp
  · go_simp
  refine wpM_take (fun w => But.refl [] w) (fun x y z h k => h.trans k) (i := 14) (v := .int .i64 0) rfl (by kernel_rfl) (by kernel_rfl) (by kernel_rfl) (fun _ _ _ h => h) (YieldsR.read (fun w => But.refl [] w) ?_ fun w hS => ?_) ?_
  · first | kernel_rfl | go_simp
  · go_simp
  refine wpM_take (fun w => But.refl [] w) (fun x y z h k => h.trans k) (i := 15) (v := .slice A4 nv cv) rfl (by kernel_rfl) (by kernel_rfl) (by kernel_rfl) (fun _ _ _ h => h) (YieldsR.read (fun w => But.refl [] w) ?_ fun w hS => ?_) ?_
  · first | kernel_rfl | go_simp
  · go_simp
  refine wpM_take (fun w => But.refl [] w) (fun x y z h k => h.trans k) (i := 16) (v := .int .i64 0) rfl (by kernel_rfl) (by kernel_rfl) (by kernel_rfl) (fun _ _ _ h => h) (YieldsR.read (fun w => But.refl [] w) ?_ fun w hS => ?_) ?_
  · first | kernel_rfl | go_simp
  · go_simp
  refine ⟨by kernel_rfl, fun wb hRb hSb => ?_⟩
  have HBb := Lib.hid hSb
  have HXb := Lib.hid (HX1.out.but hSb (by simp))
  have HVb := Lib.hid (HV4.out.but hRb)
  have HVV : Hid (∀ v, But [gp] wb v → Nums v A4 nv V) := Lib.hid fun v hv => HVb.out.keep HXb.out hv
  clear hRb hSb hS3 hR3 hB4
  go_simp
  obtain ⟨p0, p1, p2, p3, p4, p5, hgp5⟩ := HP.out _ HBb.out.wide
  go_wp2_with fail
  go_loopw [51] (fun xv wx => ∃ (x : Nat) (pix : List UInt8), x ≤ Wp ∧ xv = .int .i64 x ∧ Hid (GO = pixGo SS ln j (Wp - x) x pix) ∧ Hid (pix.length = n8) ∧ Hid (BytesB wx gp pix) ∧ Hid (But [gp] wb wx)) (fun xv _ => Wp - (intOf xv).toNat)
  case atStart => exact ⟨0, pix, Nat.zero_le _, rfl, HGO, HPL, HXb, Lib.hid (But.refl _ _)⟩
  case round =>
    clear HGO HPL HXb p0 p1 p2 p3 p4 p5 hgp5
    obtain ⟨x, pix1, hx, rfl, HGO, HPL, HX, HB⟩ := hrel
    by_cases hxl : x < Wp
    · obtain ⟨kx, hkx⟩ : ∃ z, z = S * x := ⟨_, rfl⟩
      obtain ⟨kx1, hkx1⟩ : ∃ z, z = kx + S := ⟨_, rfl⟩
      have ekx : (S : Int) * (x : Int) = (kx : Int) := by rw [hkx, Int.natCast_mul]
      have ekx1 : (kx : Int) + (S : Int) = (kx1 : Int) := by omega
      have hk1 : kx1 ≤ nv := by
        rw [hkx1, hkx, HNV.out]
        have : S * (x + 1) ≤ S * Wp := Nat.mul_le_mul_left _ hxl
        rw [Nat.mul_add, Nat.mul_one] at this
        exact this
      have vkx := wrapI_in (show kx < 1000000000000000 by omega)
      have vkx1 := wrapI_in (show kx1 < 1000000000000000 by omega)
      obtain ⟨g, o, hA, _⟩ := (HVb.out).part (lo := kx) (k := S) (by omega) (by omega)
      subst hA
      have HN : Hid (∀ v, But [gp] wb v → Zs v (some ⟨g, o + kx, none⟩) S ((sampsL SS ln x).map fun y => ((y : Nat) : Int))) := Lib.hid fun v hv => by
        obtain ⟨g', o', e, h⟩ := (HVV.out v hv).part (lo := kx) (k := S) (by omega) (by omega)
        injection e with e
        injection e with e1 e2
        subst e1 e2
        rw [hkx, HCUT.out x hxl] at h
        rw [hkx]
        exact h.zs
      have ks : ∀ v, (Instr.slice 37 (.slice (some ⟨g, o, none⟩) nv cv) (some (.int .i64 (kx : Int))) (some (.int .i64 (kx1 : Int))) none).run Tryd.prog v = .ok (.slice (some ⟨g, o + kx, none⟩) S (cv - kx)) v := fun v => by
        have h := slice_win v g o nv cv kx kx1 (by omega) (by omega)
        rw [show kx1 - kx = S by omega] at h
        exact h
      obtain ⟨ps, hps⟩ : ∃ z, z = pixS SS (sampsL SS ln x) := ⟨_, rfl⟩
      obtain ⟨qs, hqs⟩ : ∃ z, z = strL ps.1 := ⟨_, rfl⟩
      obtain ⟨er, her⟩ : ∃ z, z = ps.2 := ⟨_, rfl⟩
      have HPXx : Hid (∀ v, But [gp] wb v → Calls Tryd.prog 65 #[.agg #[.int .i64 W, .int .i64 H, .int .i64 D, .int .i64 C, .int .i64 l, .string pal, .string tr, .bool has], .slice (some ⟨g, o + kx, none⟩) S (cv - kx)] v fun r w' => r = .returned (.tuple #[.string qs, .int .i64 er]) ∧ But [] v w') := Lib.hid fun v hv => by
        have h := HPX.out v (some ⟨g, o + kx, none⟩) (cv - kx) x (by omega) (HN.out v hv)
        rw [← hps, ← hqs, ← her] at h
        exact h
      have HPS := Lib.hid hps
      have HQS := Lib.hid hqs
      have HER := Lib.hid her
      have i0 : (0 : Int) ≤ (x : Int) := by omega
      have i1 : (x : Int) < (Wp : Int) := by omega
      clear hps hqs her hkx hkx1
      go_upto_region 9 with (fail)
      refine wp_region_m (S := fun v => But [] wr v) (R := fun v v' => But [] v v') (fun w => But.refl [] w) (by kernel_rfl) ((But.refl [] wr).drew) ?_
      refine wpM_take (fun w => But.refl [] w) (fun x y z h k => h.trans k) (i := 0) (v := .pointer (some ⟨bm, 0, none⟩)) rfl (by kernel_rfl) (by kernel_rfl) (by kernel_rfl) (fun _ _ _ h => h) (YieldsR.read (fun w => But.refl [] w) ?_ fun w hS => ?_) ?_
      · first | kernel_rfl | go_simp
      · go_simp
      refine wpM_take (fun w => But.refl [] w) (fun x y z h k => h.trans k) (i := 1) (v := .pointer (some ⟨bm, 0, none⟩)) rfl (by kernel_rfl) (by kernel_rfl) (by kernel_rfl) (fun _ _ _ h => h) (YieldsR.read (fun w => But.refl [] w) ?_ fun w hS => ?_) ?_
      · first | kernel_rfl | go_simp
      · go_simp
      refine wpM_take (fun w => But.refl [] w) (fun x y z h k => h.trans k) (i := 2) (v := .pointer (some ⟨bm, 0, none⟩)) rfl (by kernel_rfl) (by kernel_rfl) (by kernel_rfl) (fun _ _ _ h => h) (YieldsR.read (fun w => But.refl [] w) ?_ fun w hS => ?_) ?_
      · first | kernel_rfl | go_simp
      · go_simp
      refine wpM_take (fun w => But.refl [] w) (fun x y z h k => h.trans k) (i := 3) (v := .agg #[.int .i64 W, .int .i64 H, .int .i64 D, .int .i64 C, .int .i64 l, .string pal, .string tr, .bool has]) rfl (by kernel_rfl) (by kernel_rfl) (by kernel_rfl) (fun _ _ _ h => h) (YieldsR.read (fun w => But.refl [] w) ?_ fun w hS => ?_) ?_
      · first | kernel_rfl | go_simp
      · obtain ⟨c0, c1, c2, c3, c4, c5, c6, c7, c8, c9, hgm⟩ := HM.out w (HBb.out.wide.trans (HB.out.trans hS.wide)); go_simp
      refine wpM_take (fun w => But.refl [] w) (fun x y z h k => h.trans k) (i := 4) (v := .slice (some ⟨g, o, none⟩) nv cv) rfl (by kernel_rfl) (by kernel_rfl) (by kernel_rfl) (fun _ _ _ h => h) (YieldsR.read (fun w => But.refl [] w) ?_ fun w hS => ?_) ?_
      · first | kernel_rfl | go_simp
      · go_simp
      refine wpM_take (fun w => But.refl [] w) (fun x y z h k => h.trans k) (i := 5) (v := .int .i64 (S : Nat)) rfl (by kernel_rfl) (by kernel_rfl) (by kernel_rfl) (fun _ _ _ h => h) (YieldsR.read (fun w => But.refl [] w) ?_ fun w hS => ?_) ?_
      · first | kernel_rfl | go_simp
      · go_simp
      refine wpM_take (fun w => But.refl [] w) (fun x y z h k => h.trans k) (i := 6) (v := .int .i64 (x : Nat)) rfl (by kernel_rfl) (by kernel_rfl) (by kernel_rfl) (fun _ _ _ h => h) (YieldsR.read (fun w => But.refl [] w) ?_ fun w hS => ?_) ?_
      · first | kernel_rfl | go_simp
      · go_simp
      refine wpM_take (fun w => But.refl [] w) (fun x y z h k => h.trans k) (i := 7) (v := .int .i64 (kx : Nat)) rfl (by kernel_rfl) (by kernel_rfl) (by kernel_rfl) (fun _ _ _ h => h) (YieldsR.read (fun w => But.refl [] w) ?_ fun w hS => ?_) ?_
      · first | kernel_rfl | go_simp
      · go_simp
      refine wpM_take (fun w => But.refl [] w) (fun x y z h k => h.trans k) (i := 8) (v := .int .i64 (S : Nat)) rfl (by kernel_rfl) (by kernel_rfl) (by kernel_rfl) (fun _ _ _ h => h) (YieldsR.read (fun w => But.refl [] w) ?_ fun w hS => ?_) ?_
      · first | kernel_rfl | go_simp
      · go_simp
      refine wpM_take (fun w => But.refl [] w) (fun x y z h k => h.trans k) (i := 9) (v := .int .i64 (x : Nat)) rfl (by kernel_rfl) (by kernel_rfl) (by kernel_rfl) (fun _ _ _ h => h) (YieldsR.read (fun w => But.refl [] w) ?_ fun w hS => ?_) ?_
      · first | kernel_rfl | go_simp
      · go_simp
      refine wpM_take (fun w => But.refl [] w) (fun x y z h k => h.trans k) (i := 10) (v := .int .i64 (kx : Nat)) rfl (by kernel_rfl) (by kernel_rfl) (by kernel_rfl) (fun _ _ _ h => h) (YieldsR.read (fun w => But.refl [] w) ?_ fun w hS => ?_) ?_
      · first | kernel_rfl | go_simp
      · go_simp
      refine wpM_take (fun w => But.refl [] w) (fun x y z h k => h.trans k) (i := 11) (v := .int .i64 (S : Nat)) rfl (by kernel_rfl) (by kernel_rfl) (by kernel_rfl) (fun _ _ _ h => h) (YieldsR.read (fun w => But.refl [] w) ?_ fun w hS => ?_) ?_
      · first | kernel_rfl | go_simp
      · go_simp
      refine wpM_take (fun w => But.refl [] w) (fun x y z h k => h.trans k) (i := 12) (v := .int .i64 (kx1 : Nat)) rfl (by kernel_rfl) (by kernel_rfl) (by kernel_rfl) (fun _ _ _ h => h) (YieldsR.read (fun w => But.refl [] w) ?_ fun w hS => ?_) ?_
      · first | kernel_rfl | go_simp
      · go_simp
      refine wpM_take (fun w => But.refl [] w) (fun x y z h k => h.trans k) (i := 13) (v := .slice (some ⟨g, o + kx, none⟩) S (cv - kx)) rfl (by kernel_rfl) (by kernel_rfl) (by kernel_rfl) (fun _ _ _ h => h) (YieldsR.read (fun w => But.refl [] w) ?_ fun w hS => ?_) ?_
      · first | kernel_rfl | go_simp
      · go_simp
      refine wpM_take (fun w => But.refl [] w) (fun x y z h k => h.trans k) (i := 14) (v := .tuple #[.string qs, .int .i64 er]) rfl (by kernel_rfl) (by kernel_rfl) (by kernel_rfl) (fun _ _ _ h => h) (.inl ⟨?_, fun w hS => .inr ⟨_, _, ?_, (HPXx.out w (HB.out.trans hS.wide)).mono ?_⟩⟩) ?_
      · go_simp
      · go_simp
      · rintro e wy ⟨rfl, hB⟩; exact ⟨rfl, hS.trans hB, hB⟩
      refine wpM_take (fun w => But.refl [] w) (fun x y z h k => h.trans k) (i := 15) (v := .tuple #[.string qs, .int .i64 er]) rfl (by kernel_rfl) (by kernel_rfl) (by kernel_rfl) (fun _ _ _ h => h) (YieldsR.read (fun w => But.refl [] w) ?_ fun w hS => ?_) ?_
      · first | kernel_rfl | go_simp
      · go_simp
      refine wpM_take (fun w => But.refl [] w) (fun x y z h k => h.trans k) (i := 16) (v := .string qs) rfl (by kernel_rfl) (by kernel_rfl) (by kernel_rfl) (fun _ _ _ h => h) (YieldsR.read (fun w => But.refl [] w) ?_ fun w hS => ?_) ?_
      · first | kernel_rfl | go_simp
      · go_simp
      refine wpM_take (fun w => But.refl [] w) (fun x y z h k => h.trans k) (i := 17) (v := .int .i64 er) rfl (by kernel_rfl) (by kernel_rfl) (by kernel_rfl) (fun _ _ _ h => h) (YieldsR.read (fun w => But.refl [] w) ?_ fun w hS => ?_) ?_
      · first | kernel_rfl | go_simp
      · go_simp
      refine wpM_take (fun w => But.refl [] w) (fun x y z h k => h.trans k) (i := 18) (v := .string qs) rfl (by kernel_rfl) (by kernel_rfl) (by kernel_rfl) (fun _ _ _ h => h) (YieldsR.read (fun w => But.refl [] w) ?_ fun w hS => ?_) ?_
      · first | kernel_rfl | go_simp
      · go_simp
      refine wpM_take (fun w => But.refl [] w) (fun x y z h k => h.trans k) (i := 19) (v := .int .i64 er) rfl (by kernel_rfl) (by kernel_rfl) (by kernel_rfl) (fun _ _ _ h => h) (YieldsR.read (fun w => But.refl [] w) ?_ fun w hS => ?_) ?_
      · first | kernel_rfl | go_simp
      · go_simp
      refine ⟨by kernel_rfl, fun w5 hR5 hS5 => ?_⟩
      have HX5 := Lib.hid (HX.out.but hS5 (by simp))
      have HB5 := Lib.hid (HB.out.trans hS5.wide)
      clear hR5 hS5 ks
      go_simp
      by_cases her : er = 0
      · subst her
        have HGO2 := Lib.hid (HGO.out.trans (pixGo_step hxl (by rw [← HPS.out, ← HER.out])))
        have h8 : ps.1.length = 8 := by
          rcases pixS_cases SS (sampsL SS ln x) with h | h
          · rw [HPS.out]; exact h.2
          · have h9 := HER.out; rw [HPS.out, h] at h9; exact absurd h9 (by decide)
        have hq8 : qs.size = 8 := by rw [HQS.out, strL_size, h8]
        obtain ⟨xd, hxd⟩ : ∃ z, z = x * dx := ⟨_, rfl⟩
        have exd : (x : Int) * (dx : Int) = (xd : Int) := by rw [hxd, Int.natCast_mul]
        obtain ⟨xx, hxx⟩ : ∃ z, z = px + xd := ⟨_, rfl⟩
        have exx : (px : Int) + (xd : Int) = (xx : Int) := by rw [hxx]; omega
        have hxxl : xx < W := by have h := (HPLC.out x hxl).1; omega
        obtain ⟨yw, hyw⟩ : ∃ z, z = yy * W := ⟨_, rfl⟩
        have eyw : (yy : Int) * (W : Int) = (yw : Int) := by rw [hyw, Int.natCast_mul]
        obtain ⟨at_, hat⟩ : ∃ z, z = yw + xx := ⟨_, rfl⟩
        have eat : (yw : Int) + (xx : Int) = (at_ : Int) := by rw [hat]; omega
        obtain ⟨k, hk⟩ : ∃ z, z = 8 * at_ := ⟨_, rfl⟩
        have ek : (8 : Int) * (at_ : Int) = (k : Int) := by omega
        have hroom : k + 8 ≤ n8 := by
          have h := place_room hxxl hyl HN8.out
          rw [hk, hat, hyw]
          exact h
        have vxd := wrapI_in (show xd < 1000000000000000 by omega)
        have vxx := wrapI_in (show xx < 1000000000000000 by omega)
        have vyw := wrapI_in (show yw < 1000000000000000 by omega)
        have vat := wrapI_in (show at_ < 1000000000000000 by omega)
        have vk := wrapI_in (show k < 1000000000000000 by omega)
        have HK : Hid (k = 8 * (j.y * SS.w + (j.x + x * j.dx))) := Lib.hid (by
          rw [hk, hat, hyw, hxx, hxd, HYY.out, HJ.out.2.2.2, HJ.out.2.1, HJ.out.2.2.1, HDW.out])
        have kf := fun v => slice_fromB v gp n8 k (by omega)
        have HSL : Hid (setN pix1 k qs.data.toList = setN pix1 (8 * (j.y * SS.w + (j.x + x * j.dx))) (pixS SS (sampsL SS ln x)).1) := Lib.hid (by rw [HK.out, HQS.out, strL_list, HPS.out])
        have HQ8 := Lib.hid hq8
        clear hxd hxx hyw hat hk h8 hq8
        obtain ⟨p0, p1, p2, p3, p4, p5, hgp5⟩ := HP.out _ (HBb.out.wide.trans HB5.out)
        go_upto_region 13 with (fail)
        clear p0 p1 p2 p3 p4 p5 hgp5
        refine wp_region_m (S := fun v => But [gp] w5 v) (R := fun v v' => But [] v v') (fun w => But.refl [] w) (by kernel_rfl) ((But.refl [gp] w5).drew) ?_
        refine wpM_take (fun w => But.refl [] w) (fun x y z h k => h.trans k) (i := 0) (v := .pointer (some ⟨bm, 0, none⟩)) rfl (by kernel_rfl) (by kernel_rfl) (by kernel_rfl) (fun _ _ _ h => h) (YieldsR.read (fun w => But.refl [] w) ?_ fun w hS => ?_) ?_
        · first | kernel_rfl | go_simp
        · go_simp
        refine wpM_take (fun w => But.refl [] w) (fun x y z h k => h.trans k) (i := 1) (v := .pointer (some ⟨bm, 0, none⟩)) rfl (by kernel_rfl) (by kernel_rfl) (by kernel_rfl) (fun _ _ _ h => h) (YieldsR.read (fun w => But.refl [] w) ?_ fun w hS => ?_) ?_
        · first | kernel_rfl | go_simp
        · go_simp
        refine wpM_take (fun w => But.refl [] w) (fun x y z h k => h.trans k) (i := 2) (v := .pointer (some ⟨bm, 9, none⟩)) rfl (by kernel_rfl) (by kernel_rfl) (by kernel_rfl) (fun _ _ _ h => h) (YieldsR.read (fun w => But.refl [] w) ?_ fun w hS => ?_) ?_
        · first | kernel_rfl | go_simp
        · go_simp
        refine wpM_take (fun w => But.refl [] w) (fun x y z h k => h.trans k) (i := 3) (v := .slice (some ⟨gp, 0, none⟩) n8 n8) rfl (by kernel_rfl) (by kernel_rfl) (by kernel_rfl) (fun _ _ _ h => h) (YieldsR.read (fun w => But.refl [] w) ?_ fun w hS => ?_) ?_
        · first | kernel_rfl | go_simp
        · obtain ⟨c0, c1, c2, c3, c4, c5, c6, c7, c8, c9, hgm⟩ := HM.out w (HBb.out.wide.trans (HB5.out.trans hS)); go_simp
        refine wpM_take (fun w => But.refl [] w) (fun x y z h k => h.trans k) (i := 4) (v := .int .i64 (yy : Nat)) rfl (by kernel_rfl) (by kernel_rfl) (by kernel_rfl) (fun _ _ _ h => h) (YieldsR.read (fun w => But.refl [] w) ?_ fun w hS => ?_) ?_
        · first | kernel_rfl | go_simp
        · go_simp
        refine wpM_take (fun w => But.refl [] w) (fun x y z h k => h.trans k) (i := 5) (v := .pointer (some ⟨bm, 0, none⟩)) rfl (by kernel_rfl) (by kernel_rfl) (by kernel_rfl) (fun _ _ _ h => h) (YieldsR.read (fun w => But.refl [] w) ?_ fun w hS => ?_) ?_
        · first | kernel_rfl | go_simp
        · go_simp
        refine wpM_take (fun w => But.refl [] w) (fun x y z h k => h.trans k) (i := 6) (v := .pointer (some ⟨bm, 0, none⟩)) rfl (by kernel_rfl) (by kernel_rfl) (by kernel_rfl) (fun _ _ _ h => h) (YieldsR.read (fun w => But.refl [] w) ?_ fun w hS => ?_) ?_
        · first | kernel_rfl | go_simp
        · go_simp
        refine wpM_take (fun w => But.refl [] w) (fun x y z h k => h.trans k) (i := 7) (v := .pointer (some ⟨bm, 0, none⟩)) rfl (by kernel_rfl) (by kernel_rfl) (by kernel_rfl) (fun _ _ _ h => h) (YieldsR.read (fun w => But.refl [] w) ?_ fun w hS => ?_) ?_
        · first | kernel_rfl | go_simp
        · go_simp
        refine wpM_take (fun w => But.refl [] w) (fun x y z h k => h.trans k) (i := 8) (v := .pointer (some ⟨bm, 0, none⟩)) rfl (by kernel_rfl) (by kernel_rfl) (by kernel_rfl) (fun _ _ _ h => h) (YieldsR.read (fun w => But.refl [] w) ?_ fun w hS => ?_) ?_
        · first | kernel_rfl | go_simp
        · go_simp
        refine wpM_take (fun w => But.refl [] w) (fun x y z h k => h.trans k) (i := 9) (v := .pointer (some ⟨bm, 0, none⟩)) rfl (by kernel_rfl) (by kernel_rfl) (by kernel_rfl) (fun _ _ _ h => h) (YieldsR.read (fun w => But.refl [] w) ?_ fun w hS => ?_) ?_
        · first | kernel_rfl | go_simp
        · go_simp
        refine wpM_take (fun w => But.refl [] w) (fun x y z h k => h.trans k) (i := 10) (v := .int .i64 (W : Nat)) rfl (by kernel_rfl) (by kernel_rfl) (by kernel_rfl) (fun _ _ _ h => h) (YieldsR.read (fun w => But.refl [] w) ?_ fun w hS => ?_) ?_
        · first | kernel_rfl | go_simp
        · obtain ⟨c0, c1, c2, c3, c4, c5, c6, c7, c8, c9, hgm⟩ := HM.out w (HBb.out.wide.trans (HB5.out.trans hS)); go_simp
        refine wpM_take (fun w => But.refl [] w) (fun x y z h k => h.trans k) (i := 11) (v := .int .i64 (yw : Nat)) rfl (by kernel_rfl) (by kernel_rfl) (by kernel_rfl) (fun _ _ _ h => h) (YieldsR.read (fun w => But.refl [] w) ?_ fun w hS => ?_) ?_
        · first | kernel_rfl | go_simp
        · go_simp
        refine wpM_take (fun w => But.refl [] w) (fun x y z h k => h.trans k) (i := 12) (v := .int .i64 (xx : Nat)) rfl (by kernel_rfl) (by kernel_rfl) (by kernel_rfl) (fun _ _ _ h => h) (YieldsR.read (fun w => But.refl [] w) ?_ fun w hS => ?_) ?_
        · first | kernel_rfl | go_simp
        · go_simp
        refine wpM_take (fun w => But.refl [] w) (fun x y z h k => h.trans k) (i := 13) (v := .int .i64 (at_ : Nat)) rfl (by kernel_rfl) (by kernel_rfl) (by kernel_rfl) (fun _ _ _ h => h) (YieldsR.read (fun w => But.refl [] w) ?_ fun w hS => ?_) ?_
        · first | kernel_rfl | go_simp
        · go_simp
        refine wpM_take (fun w => But.refl [] w) (fun x y z h k => h.trans k) (i := 14) (v := .int .i64 (k : Nat)) rfl (by kernel_rfl) (by kernel_rfl) (by kernel_rfl) (fun _ _ _ h => h) (YieldsR.read (fun w => But.refl [] w) ?_ fun w hS => ?_) ?_
        · first | kernel_rfl | go_simp
        · go_simp
        refine wpM_take (fun w => But.refl [] w) (fun x y z h k => h.trans k) (i := 15) (v := .slice (some ⟨gp, k, none⟩) (n8 - k) (n8 - k)) rfl (by kernel_rfl) (by kernel_rfl) (by kernel_rfl) (fun _ _ _ h => h) (YieldsR.read (fun w => But.refl [] w) ?_ fun w hS => ?_) ?_
        · first | kernel_rfl | go_simp
        · go_simp
        refine wpM_take (fun w => But.refl [] w) (fun x y z h k => h.trans k) (i := 16) (v := .string qs) rfl (by kernel_rfl) (by kernel_rfl) (by kernel_rfl) (fun _ _ _ h => h) (YieldsR.read (fun w => But.refl [] w) ?_ fun w hS => ?_) ?_
        · first | kernel_rfl | go_simp
        · go_simp
        refine wpM_one (i := 17) rfl (by kernel_rfl) fun w6 hR6 hS6 K' hK => ?_
        refine oper_copyB (g := gp) (k := k) (dLen := n8 - k) (dCap := n8 - k) (str := qs) (l := pix1) w6 rfl (Operand.tmp 97) (Operand.tmp 98) rfl (by kernel_rfl) (by kernel_rfl) (HX5.out.but ((But.refl [] w5).drew.trans hR6) (by simp)) (by rw [HQ8.out]; omega) (by rw [HQ8.out, HPL.out]; exact hroom) ?_
        intro w7 HX7 HB7
        refine hK _ _ ⟨hS6.trans HB7.out, ?_⟩
        clear hK K'
        refine ⟨by kernel_rfl, fun w8 hR8 hS8 => ?_⟩
        rw [HSL.out] at HX7
        have HX8 := Lib.hid (HX7.out.but hR8 (by simp))
        have HB8 := Lib.hid (HB5.out.trans hS8)
        have HPL8 : Hid ((setN pix1 (8 * (j.y * SS.w + (j.x + x * j.dx))) (pixS SS (sampsL SS ln x)).1).length = n8) := Lib.hid (by
          rw [← HSL.out, setN_length (by rw [Array.length_toList]; show _ + qs.size ≤ _; rw [HQ8.out, HPL.out]; exact hroom), HPL.out])
        clear hR6 hS6 hR8 hS8 HB7 HX7
        go_simp
        go_wp2
        go_roundw
        case rel => exact ⟨x + 1, _, by omega, by go_num, HGO2, HPL8, HX8, HB8⟩
        case measure => simp [intOf] <;> omega
      · have q1 : (er != 0) = true := by simpa using her
        have HGO2 := Lib.hid (HGO.out.trans (pixGo_stop hxl (by rw [← HPS.out, ← HER.out]; exact her)))
        have HE2 : Hid (GO.2 = er) := Lib.hid (by rw [HGO2.out, HER.out, HPS.out])
        have HE3 : Hid (GO.2 ≠ 0) := Lib.hid (by rw [HE2.out]; exact her)
        go_wp2
        go_ret
        exact ⟨by rw [HE2.out]; rfl, fun h => absurd h HE3.out, HB1.out.wide.trans (HBb.out.wide.trans HB5.out)⟩
    · obtain rfl : Wp = x := by omega
      have HE : Hid (GO = (pix1, 0)) := Lib.hid (by rw [HGO.out, Nat.sub_self]; rfl)
      have HE2 : Hid (GO.2 = 0) := Lib.hid (by rw [HE.out])
      have HXe : Hid (BytesB wr gp GO.1 ∧ GO.1.length = n8) := Lib.hid (by rw [HE.out]; exact ⟨HX.out, HPL.out⟩)
      go_wp2
      go_ret
      exact ⟨by rw [HE2.out]; rfl, fun _ => HXe.out, HB1.out.wide.trans (HBb.out.wide.trans HB.out)⟩
end Go.Proofs.YtfiedoejdikcgaaDoor
