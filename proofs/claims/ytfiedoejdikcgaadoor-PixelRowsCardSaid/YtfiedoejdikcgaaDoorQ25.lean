/- Several texts in one: PkB (what PixelRows, PixelSame reach of them). -/
import Derived.Test.YtfiedoejdikcgaaDoorQ01
import Derived.Test.YtfiedoejdikcgaaDoorQ02
import Derived.Test.YtfiedoejdikcgaaDoorQ03
import Derived.Test.YtfiedoejdikcgaaDoorQ05
import Derived.Test.YtfiedoejdikcgaaDoorQ06
import Derived.Test.YtfiedoejdikcgaaDoorQ07
import Derived.Test.YtfiedoejdikcgaaDoorQ08
import Derived.Test.YtfiedoejdikcgaaDoorQ09
import Derived.Test.YtfiedoejdikcgaaDoorQ12
import Derived.Test.YtfiedoejdikcgaaDoorQ16
import Derived.Test.YtfiedoejdikcgaaDoorQ19
import Derived.Test.YtfiedoejdikcgaaDoorQ24
import Derived.Below
import Derived.BigQuiet
import Derived.BigRegion
import Derived.Deep.AppendLies
import Derived.Deep.CutBlock
import Derived.Deep.CutRange
import Derived.Deep.DeepCutAuto
import Derived.Deep.Draws
import Derived.Deep.QuietTactic
import Derived.Deep.RegionLaw
import Derived.Deep.RegionWith
import Derived.Handy
import Derived.Laws.BitsAllLaws
import Derived.Laws.BitsLemmas
import Derived.Laws.BytesArg
import Derived.Laws.IdiomStrings
import Derived.Laws.MakeOwn
import Derived.Laws.OwnMore
import Derived.Laws.Rows
import Derived.Laws.StructEq
import Derived.Lib.AppendStr
import Derived.Lib.BufferWrite
import Derived.Lib.Hide
import Derived.LoopIn
import Derived.LoopNIn
import Derived.Maps.AppendAt
import Derived.OrdersHeld
import Derived.OrdersIn
import Derived.Outline
import Derived.OwnWalk
import Derived.OwnWalkIn
import Derived.RangeFuncBound
import Derived.RangeFuncCalls
import Derived.RangeFuncLeaves
import Derived.RangeFuncNested
import Derived.RegionTactic
import Derived.Shelf.Abstract
import Derived.Shelf.RegionOpen
import Derived.Sort.CutIn
import Derived.TacticsInMore
import Derived.Test.YtfiedoejdikcgaaDoorChecked
import Derived.WalkKit
set_option maxRecDepth 100000
set_option linter.unusedVariables false
set_option maxRecDepth 1000000
set_option linter.unusedVariables false
namespace Go.Proofs.YtfiedoejdikcgaaDoor
set_option maxRecDepth 100000
open Go Go.RowKit
def pkFirst : Code → Option Code
  | .loop c => some c
  | .seq a b => match pkFirst a with
    | some c => some c
    | none => pkFirst b
  | .block _ c => pkFirst c
  | .scope c => pkFirst c
  | .cond _ a b => match pkFirst a with
    | some c => some c
    | none => pkFirst b
  | _ => none
noncomputable def pkBodyI : Code := (Tryd.f17.body.bind pkFirst).getD .skip
noncomputable def pkBodyY : Code := (pkFirst pkBodyI).getD .skip
noncomputable def pkBodyX : Code := (pkFirst pkBodyY).getD .skip
/-- What stands throughout a row. -/
structure SkX (wb : World) (b3 b12 nV cV S y W H D C px py dx dy Wp Hp : Nat) (l : Int) (A1 : Option Addr) (V : List Nat) (SS : ShP) (j : RowJ) : Prop where
  head : Is wb b3 29 #[.int .i64 W, .int .i64 H, .int .i64 D, .int .i64 C, .int .i64 l]
  pas : Is wb b12 52 #[.int .i64 px, .int .i64 py, .int .i64 dx, .int .i64 dy, .int .i64 Wp, .int .i64 Hp]
  num : Nums wb A1 nV V
  nvc : nV ≤ cV
  nvE : nV = S * (W * H)
  sE : samplesN SS.c = S
  s1 : 1 ≤ S
  s4 : S ≤ 4
  jj : j.n = Wp ∧ j.x = px ∧ j.dx = dx ∧ j.y = py + y * dy
  pl : ∀ x, x < Wp → px + x * dx < W ∧ py + y * dy < H
  wl : Wp ≤ 1024
  ww : W ≤ 1024 ∧ H ≤ 1024 ∧ W * H ≤ 4096
  ssw : SS.w = W
/-- What holds ahead of each pixel. -/
structure LkX (wb : World) (Wp : Nat) (V : List Nat) (SS : ShP) (j : RowJ) (x : Nat) (RA : Option Addr) (rl rc : Nat) (wr : World) : Prop where
  le : x ≤ Wp
  rlE : rl = (rowTo SS V j x).length
  own : OwnN wr wb.heap.size (.slice RA rl rc) (rowTo SS V j x)
  but : But [] wb wr
def MkX (n : Nat) (a : Act) (_ : World) : Nat := n - (intOf (a.tmps.getD 16 undef)).toNat
theorem place_cut {W H a b S nV : Nat} (ha : a < W) (hb : b < H) (h : nV = S * (W * H)) : S * (b * W + a) + S ≤ nV := by
  have h1 : (b + 1) * W ≤ H * W := Nat.mul_le_mul_right _ hb
  rw [Nat.add_mul, Nat.one_mul] at h1
  have h2 : S * (b * W + a + 1) ≤ S * (W * H) := Nat.mul_le_mul_left _ (by rw [Nat.mul_comm W]; omega)
  rw [Nat.mul_add, Nat.mul_one] at h2
  omega
def KIX (wb : World) (b3 b12 nV cV S y Wp : Nat) (A1 : Option Addr) (V : List Nat) (SS : ShP) (j : RowJ) (c0 c2 c4 c5 c6 c7 c9 c10 c11 c13 c18 c19 c20 c21 c22 c23 c24 c25 c26 c27 c28 c29 c30 c31 c32 c33 c34 c35 c36 c37 c38 c39 c40 c41 c42 c43 c78 c79 c80 c81 c82 c83 c84 c85 c86 c87 c88 c89 c90 c91 c92 c93 c94 c95 c96 c97 c98 c99 c100 c101 c102 c103 c104 c105 c106 c107 c108 c109 c110 c111 c112 c113 c114 c115 c116 c117 c118 c119 c120 c121 c122 c123 : Value) (act : Act) (w1 : World) : Prop :=
  ∃ (u17 u44 u45 u46 u47 u48 u49 u50 u51 u52 u53 u54 u55 u56 u57 u58 u59 u60 u61 u62 u63 u64 u65 u66 u67 u68 u69 u70 u71 u72 u73 u74 u75 u76 u77 : Value) (x : Nat) (RA : Option Addr) (rl rc : Nat), LkX wb Wp V SS j x RA rl rc w1 ∧ act = ⟨#[c0, .slice A1 nV cV, c2, .pointer (some ⟨b3, 0, none⟩), c4, c5, c6, c7, .int .i64 (S : Nat), c9, c10, c11, .pointer (some ⟨b12, 0, none⟩), c13, .int .i64 (y : Nat), .slice RA rl rc, .int .i64 (x : Nat), u17, c18, c19, c20, c21, c22, c23, c24, c25, c26, c27, c28, c29, c30, c31, c32, c33, c34, c35, c36, c37, c38, c39, c40, c41, c42, c43, u44, u45, u46, u47, u48, u49, u50, u51, u52, u53, u54, u55, u56, u57, u58, u59, u60, u61, u62, u63, u64, u65, u66, u67, u68, u69, u70, u71, u72, u73, u74, u75, u76, u77, c78, c79, c80, c81, c82, c83, c84, c85, c86, c87, c88, c89, c90, c91, c92, c93, c94, c95, c96, c97, c98, c99, c100, c101, c102, c103, c104, c105, c106, c107, c108, c109, c110, c111, c112, c113, c114, c115, c116, c117, c118, c119, c120, c121, c122, c123], []⟩
def KXX (wb : World) (b3 b12 nV cV S y Wp : Nat) (A1 : Option Addr) (V : List Nat) (SS : ShP) (j : RowJ) (c0 c2 c4 c5 c6 c7 c9 c10 c11 c13 c18 c19 c20 c21 c22 c23 c24 c25 c26 c27 c28 c29 c30 c31 c32 c33 c34 c35 c36 c37 c38 c39 c40 c41 c42 c43 c78 c79 c80 c81 c82 c83 c84 c85 c86 c87 c88 c89 c90 c91 c92 c93 c94 c95 c96 c97 c98 c99 c100 c101 c102 c103 c104 c105 c106 c107 c108 c109 c110 c111 c112 c113 c114 c115 c116 c117 c118 c119 c120 c121 c122 c123 : Value) (act : Act) (w1 : World) : Prop :=
  ∃ (u17 u44 u45 u46 u47 u48 u49 u50 u51 u52 u53 u54 u55 u56 u57 u58 u59 u60 u61 u62 u63 u64 u65 u66 u67 u68 u69 u70 u71 u72 u73 u74 u75 u76 u77 : Value) (RA : Option Addr) (rl rc : Nat), LkX wb Wp V SS j Wp RA rl rc w1 ∧ act = ⟨#[c0, .slice A1 nV cV, c2, .pointer (some ⟨b3, 0, none⟩), c4, c5, c6, c7, .int .i64 (S : Nat), c9, c10, c11, .pointer (some ⟨b12, 0, none⟩), c13, .int .i64 (y : Nat), .slice RA rl rc, .int .i64 (Wp : Nat), u17, c18, c19, c20, c21, c22, c23, c24, c25, c26, c27, c28, c29, c30, c31, c32, c33, c34, c35, c36, c37, c38, c39, c40, c41, c42, c43, u44, u45, u46, u47, u48, u49, u50, u51, u52, u53, u54, u55, u56, u57, u58, u59, u60, u61, u62, u63, u64, u65, u66, u67, u68, u69, u70, u71, u72, u73, u74, u75, u76, u77, c78, c79, c80, c81, c82, c83, c84, c85, c86, c87, c88, c89, c90, c91, c92, c93, c94, c95, c96, c97, c98, c99, c100, c101, c102, c103, c104, c105, c106, c107, c108, c109, c110, c111, c112, c113, c114, c115, c116, c117, c118, c119, c120, c121, c122, c123], []⟩
section
variable {wb wr : World} {b3 b12 nV cV S y W H D C px py dx dy Wp Hp : Nat} {l : Int} {A1 : Option Addr} {V : List Nat} {SS : ShP} {j : RowJ} {Q0 : Exit → Act → World → Prop} {x : Nat} {RA : Option Addr} {rl rc : Nat}
variable {c0 c2 c4 c5 c6 c7 c9 c10 c11 c13 c18 c19 c20 c21 c22 c23 c24 c25 c26 c27 c28 c29 c30 c31 c32 c33 c34 c35 c36 c37 c38 c39 c40 c41 c42 c43 c78 c79 c80 c81 c82 c83 c84 c85 c86 c87 c88 c89 c90 c91 c92 c93 c94 c95 c96 c97 c98 c99 c100 c101 c102 c103 c104 c105 c106 c107 c108 c109 c110 c111 c112 c113 c114 c115 c116 c117 c118 c119 c120 c121 c122 c123 : Value}
variable {u17 u44 u45 u46 u47 u48 u49 u50 u51 u52 u53 u54 u55 u56 u57 u58 u59 u60 u61 u62 u63 u64 u65 u66 u67 u68 u69 u70 u71 u72 u73 u74 u75 u76 u77 : Value}
set_option maxHeartbeats 1000000 in
theorem pkx_end (hT : SkX wb b3 b12 nV cV S y W H D C px py dx dy Wp Hp l A1 V SS j) (hS : LkX wb Wp V SS j x RA rl rc wr) (hx : Hid (¬ x < Wp)) (hexit : ∀ act w1, KXX wb b3 b12 nV cV S y Wp A1 V SS j c0 c2 c4 c5 c6 c7 c9 c10 c11 c13 c18 c19 c20 c21 c22 c23 c24 c25 c26 c27 c28 c29 c30 c31 c32 c33 c34 c35 c36 c37 c38 c39 c40 c41 c42 c43 c78 c79 c80 c81 c82 c83 c84 c85 c86 c87 c88 c89 c90 c91 c92 c93 c94 c95 c96 c97 c98 c99 c100 c101 c102 c103 c104 c105 c106 c107 c108 c109 c110 c111 c112 c113 c114 c115 c116 c117 c118 c119 c120 c121 c122 c123 act w1 → Q0 (.exit 4) act w1) :
    Code.wp Tryd.prog pkBodyX (Exit.then (fun act w1 => KIX wb b3 b12 nV cV S y Wp A1 V SS j c0 c2 c4 c5 c6 c7 c9 c10 c11 c13 c18 c19 c20 c21 c22 c23 c24 c25 c26 c27 c28 c29 c30 c31 c32 c33 c34 c35 c36 c37 c38 c39 c40 c41 c42 c43 c78 c79 c80 c81 c82 c83 c84 c85 c86 c87 c88 c89 c90 c91 c92 c93 c94 c95 c96 c97 c98 c99 c100 c101 c102 c103 c104 c105 c106 c107 c108 c109 c110 c111 c112 c113 c114 c115 c116 c117 c118 c119 c120 c121 c122 c123 act w1 ∧ MkX Wp act w1 < MkX Wp ⟨#[c0, .slice A1 nV cV, c2, .pointer (some ⟨b3, 0, none⟩), c4, c5, c6, c7, .int .i64 (S : Nat), c9, c10, c11, .pointer (some ⟨b12, 0, none⟩), c13, .int .i64 (y : Nat), .slice RA rl rc, .int .i64 (x : Nat), u17, c18, c19, c20, c21, c22, c23, c24, c25, c26, c27, c28, c29, c30, c31, c32, c33, c34, c35, c36, c37, c38, c39, c40, c41, c42, c43, u44, u45, u46, u47, u48, u49, u50, u51, u52, u53, u54, u55, u56, u57, u58, u59, u60, u61, u62, u63, u64, u65, u66, u67, u68, u69, u70, u71, u72, u73, u74, u75, u76, u77, c78, c79, c80, c81, c82, c83, c84, c85, c86, c87, c88, c89, c90, c91, c92, c93, c94, c95, c96, c97, c98, c99, c100, c101, c102, c103, c104, c105, c106, c107, c108, c109, c110, c111, c112, c113, c114, c115, c116, c117, c118, c119, c120, c121, c122, c123], []⟩ wr) Q0) ⟨#[c0, .slice A1 nV cV, c2, .pointer (some ⟨b3, 0, none⟩), c4, c5, c6, c7, .int .i64 (S : Nat), c9, c10, c11, .pointer (some ⟨b12, 0, none⟩), c13, .int .i64 (y : Nat), .slice RA rl rc, .int .i64 (x : Nat), u17, c18, c19, c20, c21, c22, c23, c24, c25, c26, c27, c28, c29, c30, c31, c32, c33, c34, c35, c36, c37, c38, c39, c40, c41, c42, c43, u44, u45, u46, u47, u48, u49, u50, u51, u52, u53, u54, u55, u56, u57, u58, u59, u60, u61, u62, u63, u64, u65, u66, u67, u68, u69, u70, u71, u72, u73, u74, u75, u76, u77, c78, c79, c80, c81, c82, c83, c84, c85, c86, c87, c88, c89, c90, c91, c92, c93, c94, c95, c96, c97, c98, c99, c100, c101, c102, c103, c104, c105, c106, c107, c108, c109, c110, c111, c112, c113, c114, c115, c116, c117, c118, c119, c120, c121, c122, c123], []⟩ wr := by
  conv => arg 2; whnf
  have HT := Lib.hid hT
  have HS := Lib.hid hS
  have hp12 := hT.pas.but hS.but (by simp)
  have p0 := hp12.cell 0
  have p1 := hp12.cell 1
  have p2 := hp12.cell 2
  have p3 := hp12.cell 3
  have p4 := hp12.cell 4
  have p5 := hp12.cell 5
  have hgp := hp12.lt
  have wl := hT.wl
  clear hT hS hp12
  have i1 : ¬ (x : Int) < (Wp : Int) := by have := hx.out; omega
  obtain rfl : Wp = x := by have := hx.out; have := HS.out.le; omega
  clear hx
  go_wp2
  unfold KXX
  exact ⟨_, _, _, _, _, _, _, _, _, _, _, _, _, _, _, _, _, _, _, _, _, _, _, _, _, _, _, _, _, _, _, _, _, _, _, RA, rl, rc, HS.out, rfl⟩
set_option maxHeartbeats 1000000 in
theorem pkx_go (hT : SkX wb b3 b12 nV cV S y W H D C px py dx dy Wp Hp l A1 V SS j) (hS : LkX wb Wp V SS j x RA rl rc wr) (hx : Hid (x < Wp)) :
    Code.wp Tryd.prog pkBodyX (Exit.then (fun act w1 => KIX wb b3 b12 nV cV S y Wp A1 V SS j c0 c2 c4 c5 c6 c7 c9 c10 c11 c13 c18 c19 c20 c21 c22 c23 c24 c25 c26 c27 c28 c29 c30 c31 c32 c33 c34 c35 c36 c37 c38 c39 c40 c41 c42 c43 c78 c79 c80 c81 c82 c83 c84 c85 c86 c87 c88 c89 c90 c91 c92 c93 c94 c95 c96 c97 c98 c99 c100 c101 c102 c103 c104 c105 c106 c107 c108 c109 c110 c111 c112 c113 c114 c115 c116 c117 c118 c119 c120 c121 c122 c123 act w1 ∧ MkX Wp act w1 < MkX Wp ⟨#[c0, .slice A1 nV cV, c2, .pointer (some ⟨b3, 0, none⟩), c4, c5, c6, c7, .int .i64 (S : Nat), c9, c10, c11, .pointer (some ⟨b12, 0, none⟩), c13, .int .i64 (y : Nat), .slice RA rl rc, .int .i64 (x : Nat), u17, c18, c19, c20, c21, c22, c23, c24, c25, c26, c27, c28, c29, c30, c31, c32, c33, c34, c35, c36, c37, c38, c39, c40, c41, c42, c43, u44, u45, u46, u47, u48, u49, u50, u51, u52, u53, u54, u55, u56, u57, u58, u59, u60, u61, u62, u63, u64, u65, u66, u67, u68, u69, u70, u71, u72, u73, u74, u75, u76, u77, c78, c79, c80, c81, c82, c83, c84, c85, c86, c87, c88, c89, c90, c91, c92, c93, c94, c95, c96, c97, c98, c99, c100, c101, c102, c103, c104, c105, c106, c107, c108, c109, c110, c111, c112, c113, c114, c115, c116, c117, c118, c119, c120, c121, c122, c123], []⟩ wr) Q0) ⟨#[c0, .slice A1 nV cV, c2, .pointer (some ⟨b3, 0, none⟩), c4, c5, c6, c7, .int .i64 (S : Nat), c9, c10, c11, .pointer (some ⟨b12, 0, none⟩), c13, .int .i64 (y : Nat), .slice RA rl rc, .int .i64 (x : Nat), u17, c18, c19, c20, c21, c22, c23, c24, c25, c26, c27, c28, c29, c30, c31, c32, c33, c34, c35, c36, c37, c38, c39, c40, c41, c42, c43, u44, u45, u46, u47, u48, u49, u50, u51, u52, u53, u54, u55, u56, u57, u58, u59, u60, u61, u62, u63, u64, u65, u66, u67, u68, u69, u70, u71, u72, u73, u74, u75, u76, u77, c78, c79, c80, c81, c82, c83, c84, c85, c86, c87, c88, c89, c90, c91, c92, c93, c94, c95, c96, c97, c98, c99, c100, c101, c102, c103, c104, c105, c106, c107, c108, c109, c110, c111, c112, c113, c114, c115, c116, c117, c118, c119, c120, c121, c122, c123], []⟩ wr := by
  conv => arg 2; whnf
  have HT := Lib.hid hT
  have HS := Lib.hid hS
  have hp12 := hT.pas.but hS.but (by simp)
  have p0 := hp12.cell 0
  have p1 := hp12.cell 1
  have p2 := hp12.cell 2
  have p3 := hp12.cell 3
  have p4 := hp12.cell 4
  have p5 := hp12.cell 5
  have hgp := hp12.lt
  have wl := hT.wl
  clear hT hS hp12
  have hh3 := HT.out.head.but HS.out.but (by simp)
  have c0 := hh3.cell 0
  have hg3 := hh3.lt
  clear hh3
  have hxl := hx.out
  have ww := HT.out.ww.1
  have s1 := HT.out.s1
  have s4 := HT.out.s4
  have nvc := HT.out.nvc
  obtain ⟨yd, hyd⟩ : ∃ z, z = y * dy := ⟨_, rfl⟩
  have eyd : (y : Int) * (dy : Int) = (yd : Int) := by rw [hyd, Int.natCast_mul]
  obtain ⟨yy, hyy⟩ : ∃ z, z = py + yd := ⟨_, rfl⟩
  have eyy : (py : Int) + (yd : Int) = (yy : Int) := by rw [hyy]; omega
  have hyl : yy < H := by have h := (HT.out.pl x hxl).2; omega
  obtain ⟨xd, hxd⟩ : ∃ z, z = x * dx := ⟨_, rfl⟩
  have exd : (x : Int) * (dx : Int) = (xd : Int) := by rw [hxd, Int.natCast_mul]
  have hxxl : px + xd < W := by have h := (HT.out.pl x hxl).1; omega
  obtain ⟨yw, hyw⟩ : ∃ z, z = yy * W := ⟨_, rfl⟩
  have eyw : (yy : Int) * (W : Int) = (yw : Int) := by rw [hyw, Int.natCast_mul]
  obtain ⟨a1, ha1⟩ : ∃ z, z = yw + px := ⟨_, rfl⟩
  have ea1 : (yw : Int) + (px : Int) = (a1 : Int) := by rw [ha1]; omega
  obtain ⟨a2, ha2⟩ : ∃ z, z = a1 + xd := ⟨_, rfl⟩
  have ea2 : (a1 : Int) + (xd : Int) = (a2 : Int) := by rw [ha2]; omega
  obtain ⟨k, hk⟩ : ∃ z, z = S * a2 := ⟨_, rfl⟩
  have ek : (S : Int) * (a2 : Int) = (k : Int) := by rw [hk, Int.natCast_mul]
  obtain ⟨k1, hk1⟩ : ∃ z, z = k + S := ⟨_, rfl⟩
  have ek1 : (k : Int) + (S : Int) = (k1 : Int) := by omega
  have hroom : k1 ≤ nV := by
    have h := place_cut hxxl hyl HT.out.nvE
    rw [hk1, hk, ha2, ha1, hyw]
    rw [← Nat.add_assoc] at h
    exact h
  have hn8 : nV ≤ 16384 := by
    have h1 := HT.out.nvE
    have h3 : S * (W * H) ≤ 4 * 4096 := Nat.mul_le_mul s4 HT.out.ww.2.2
    omega
  have vyd := wrapI_in (show yd < 1000000000000000 by have := HT.out.ww.2.1; omega)
  have vyy := wrapI_in (show yy < 1000000000000000 by have := HT.out.ww.2.1; omega)
  have vxd := wrapI_in (show xd < 1000000000000000 by omega)
  have vyw : IntKind.i64.wrap (yw : Int) = (yw : Int) := wrapI_in (by
    have h3 : yy * W ≤ 1024 * 1024 := Nat.mul_le_mul (by have := HT.out.ww.2.1; omega) ww
    omega)
  have va1 := wrapI_in (show a1 < 1000000000000000 by
    have h3 : yy * W ≤ 1024 * 1024 := Nat.mul_le_mul (by have := HT.out.ww.2.1; omega) ww
    omega)
  have va2 := wrapI_in (show a2 < 1000000000000000 by
    have h3 : yy * W ≤ 1024 * 1024 := Nat.mul_le_mul (by have := HT.out.ww.2.1; omega) ww
    omega)
  have vk := wrapI_in (show k < 1000000000000000 by omega)
  have vk1 := wrapI_in (show k1 < 1000000000000000 by omega)
  obtain ⟨g, o, hA, hpart⟩ := (HT.out.num.but HS.out.but).part (lo := k) (k := S) (by omega) (by omega)
  subst hA
  have HPART : Hid (Nums wr (some ⟨g, o + k, none⟩) S (valsV SS V (j.x + x * j.dx) j.y)) := Lib.hid (by
    rw [valsV_cut (by rw [HT.out.sE, HT.out.ssw, HT.out.jj.2.2.2, HT.out.jj.2.1, HT.out.jj.2.2.1, HT.out.num.1]; have h := place_cut hxxl hyl HT.out.nvE; rw [hyy, hyd, hxd] at h; exact h), HT.out.sE, HT.out.ssw, HT.out.jj.2.2.2, HT.out.jj.2.1, HT.out.jj.2.2.1]
    have e : S * ((py + y * dy) * W + (px + x * dx)) = k := by rw [hk, ha2, ha1, hyw, hyy, hyd, hxd, Nat.add_assoc]
    rw [e]
    exact hpart)
  have ks : ∀ v, (Instr.slice 37 (.slice (some ⟨g, o, none⟩) nV cV) (some (.int .i64 (k : Int))) (some (.int .i64 (k1 : Int))) none).run Tryd.prog v = .ok (.slice (some ⟨g, o + k, none⟩) S (cV - k)) v := fun v => by
    have h := slice_win v g o nV cV k k1 (by omega) (by omega)
    rw [show k1 - k = S by omega] at h
    exact h
  have hrl : (rowTo SS V j x).length ≤ 4096 := by
    rw [rowTo_length, HT.out.sE]
    have h3 : S * x ≤ 4 * 1024 := Nat.mul_le_mul s4 (by omega)
    exact h3
  have HRL := Lib.hid hrl
  have HRE := Lib.hid HS.out.rlE
  have i1 : (x : Int) < (Wp : Int) := by omega
  have HSI := Lib.hid s1
  clear hyd hyy hxd hyw ha1 ha2 hk hk1 hroom hpart hx hrl hxxl hyl
  go_wp2_with (at_builtin; refine wpList_append_nP (w0 := wb) _ rfl (Operand.tmp 70) (Operand.tmp 76) rfl (.slice RA rl rc) (rowTo SS V j x) (by kernel_rfl) HS.out.own HS.out.but (g := g) (o2 := o + k) (m := S) (c := cV - k) (by kernel_rfl) HPART.out (by have := HSI.out; omega) (by have := HRL.out; omega) ?_)
  intro A9 c9 w9 HO9 HB9
  have HE9 : Hid ((rowTo SS V j x).length + S = (rowTo SS V j (x + 1)).length) := Lib.hid (by rw [rowTo_length, rowTo_length, HT.out.sE, Nat.mul_add, Nat.mul_one])
  rw [← rowTo_next] at HO9
  go_wp2
  refine ⟨?_, ?_⟩
  · unfold KIX
    exact ⟨_, _, _, _, _, _, _, _, _, _, _, _, _, _, _, _, _, _, _, _, _, _, _, _, _, _, _, _, _, _, _, _, _, _, _, x + 1, A9, _, c9, ⟨by omega, HE9.out, HO9.out, HB9.out⟩, rfl⟩
  · show Wp - (intOf (.int .i64 ((x : Int) + 1))).toNat < Wp - (intOf (.int .i64 (x : Int))).toNat
    simp [intOf]; omega
theorem pkx_round {act : Act} (hT : SkX wb b3 b12 nV cV S y W H D C px py dx dy Wp Hp l A1 V SS j) (hexit : ∀ act w1, KXX wb b3 b12 nV cV S y Wp A1 V SS j c0 c2 c4 c5 c6 c7 c9 c10 c11 c13 c18 c19 c20 c21 c22 c23 c24 c25 c26 c27 c28 c29 c30 c31 c32 c33 c34 c35 c36 c37 c38 c39 c40 c41 c42 c43 c78 c79 c80 c81 c82 c83 c84 c85 c86 c87 c88 c89 c90 c91 c92 c93 c94 c95 c96 c97 c98 c99 c100 c101 c102 c103 c104 c105 c106 c107 c108 c109 c110 c111 c112 c113 c114 c115 c116 c117 c118 c119 c120 c121 c122 c123 act w1 → Q0 (.exit 4) act w1) (hI : KIX wb b3 b12 nV cV S y Wp A1 V SS j c0 c2 c4 c5 c6 c7 c9 c10 c11 c13 c18 c19 c20 c21 c22 c23 c24 c25 c26 c27 c28 c29 c30 c31 c32 c33 c34 c35 c36 c37 c38 c39 c40 c41 c42 c43 c78 c79 c80 c81 c82 c83 c84 c85 c86 c87 c88 c89 c90 c91 c92 c93 c94 c95 c96 c97 c98 c99 c100 c101 c102 c103 c104 c105 c106 c107 c108 c109 c110 c111 c112 c113 c114 c115 c116 c117 c118 c119 c120 c121 c122 c123 act wr) :
    Code.wp Tryd.prog pkBodyX (Exit.then (fun act' w1 => KIX wb b3 b12 nV cV S y Wp A1 V SS j c0 c2 c4 c5 c6 c7 c9 c10 c11 c13 c18 c19 c20 c21 c22 c23 c24 c25 c26 c27 c28 c29 c30 c31 c32 c33 c34 c35 c36 c37 c38 c39 c40 c41 c42 c43 c78 c79 c80 c81 c82 c83 c84 c85 c86 c87 c88 c89 c90 c91 c92 c93 c94 c95 c96 c97 c98 c99 c100 c101 c102 c103 c104 c105 c106 c107 c108 c109 c110 c111 c112 c113 c114 c115 c116 c117 c118 c119 c120 c121 c122 c123 act' w1 ∧ MkX Wp act' w1 < MkX Wp act wr) Q0) act wr := by
  unfold KIX at hI
  cases hI with
  | intro u17 hI =>
  cases hI with
  | intro u44 hI =>
  cases hI with
  | intro u45 hI =>
  cases hI with
  | intro u46 hI =>
  cases hI with
  | intro u47 hI =>
  cases hI with
  | intro u48 hI =>
  cases hI with
  | intro u49 hI =>
  cases hI with
  | intro u50 hI =>
  cases hI with
  | intro u51 hI =>
  cases hI with
  | intro u52 hI =>
  cases hI with
  | intro u53 hI =>
  cases hI with
  | intro u54 hI =>
  cases hI with
  | intro u55 hI =>
  cases hI with
  | intro u56 hI =>
  cases hI with
  | intro u57 hI =>
  cases hI with
  | intro u58 hI =>
  cases hI with
  | intro u59 hI =>
  cases hI with
  | intro u60 hI =>
  cases hI with
  | intro u61 hI =>
  cases hI with
  | intro u62 hI =>
  cases hI with
  | intro u63 hI =>
  cases hI with
  | intro u64 hI =>
  cases hI with
  | intro u65 hI =>
  cases hI with
  | intro u66 hI =>
  cases hI with
  | intro u67 hI =>
  cases hI with
  | intro u68 hI =>
  cases hI with
  | intro u69 hI =>
  cases hI with
  | intro u70 hI =>
  cases hI with
  | intro u71 hI =>
  cases hI with
  | intro u72 hI =>
  cases hI with
  | intro u73 hI =>
  cases hI with
  | intro u74 hI =>
  cases hI with
  | intro u75 hI =>
  cases hI with
  | intro u76 hI =>
  cases hI with
  | intro u77 hI =>
  cases hI with
  | intro x hI =>
  cases hI with
  | intro RA hI =>
  cases hI with
  | intro rl hI =>
  cases hI with
  | intro rc hI =>
  have hS := hI.1
  have he := hI.2
  subst he
  by_cases hx : x < Wp
  · exact pkx_go hT hS (Lib.hid hx)
  · exact pkx_end hT hS (Lib.hid hx) hexit
/-- The loop. -/
theorem pkx_loop (hT : SkX wb b3 b12 nV cV S y W H D C px py dx dy Wp Hp l A1 V SS j) (hexit : ∀ act w1, KXX wb b3 b12 nV cV S y Wp A1 V SS j c0 c2 c4 c5 c6 c7 c9 c10 c11 c13 c18 c19 c20 c21 c22 c23 c24 c25 c26 c27 c28 c29 c30 c31 c32 c33 c34 c35 c36 c37 c38 c39 c40 c41 c42 c43 c78 c79 c80 c81 c82 c83 c84 c85 c86 c87 c88 c89 c90 c91 c92 c93 c94 c95 c96 c97 c98 c99 c100 c101 c102 c103 c104 c105 c106 c107 c108 c109 c110 c111 c112 c113 c114 c115 c116 c117 c118 c119 c120 c121 c122 c123 act w1 → Q0 (.exit 4) act w1) (hS : LkX wb Wp V SS j x RA rl rc wr) :
    Code.wp Tryd.prog (Code.loop pkBodyX) Q0 ⟨#[c0, .slice A1 nV cV, c2, .pointer (some ⟨b3, 0, none⟩), c4, c5, c6, c7, .int .i64 (S : Nat), c9, c10, c11, .pointer (some ⟨b12, 0, none⟩), c13, .int .i64 (y : Nat), .slice RA rl rc, .int .i64 (x : Nat), u17, c18, c19, c20, c21, c22, c23, c24, c25, c26, c27, c28, c29, c30, c31, c32, c33, c34, c35, c36, c37, c38, c39, c40, c41, c42, c43, u44, u45, u46, u47, u48, u49, u50, u51, u52, u53, u54, u55, u56, u57, u58, u59, u60, u61, u62, u63, u64, u65, u66, u67, u68, u69, u70, u71, u72, u73, u74, u75, u76, u77, c78, c79, c80, c81, c82, c83, c84, c85, c86, c87, c88, c89, c90, c91, c92, c93, c94, c95, c96, c97, c98, c99, c100, c101, c102, c103, c104, c105, c106, c107, c108, c109, c110, c111, c112, c113, c114, c115, c116, c117, c118, c119, c120, c121, c122, c123], []⟩ wr := by
  refine wp_loop (KIX wb b3 b12 nV cV S y Wp A1 V SS j c0 c2 c4 c5 c6 c7 c9 c10 c11 c13 c18 c19 c20 c21 c22 c23 c24 c25 c26 c27 c28 c29 c30 c31 c32 c33 c34 c35 c36 c37 c38 c39 c40 c41 c42 c43 c78 c79 c80 c81 c82 c83 c84 c85 c86 c87 c88 c89 c90 c91 c92 c93 c94 c95 c96 c97 c98 c99 c100 c101 c102 c103 c104 c105 c106 c107 c108 c109 c110 c111 c112 c113 c114 c115 c116 c117 c118 c119 c120 c121 c122 c123) (MkX Wp) ?_ (fun act w1 hI => pkx_round hT hexit hI)
  unfold KIX
  exact ⟨_, _, _, _, _, _, _, _, _, _, _, _, _, _, _, _, _, _, _, _, _, _, _, _, _, _, _, _, _, _, _, _, _, _, _, x, RA, rl, rc, hS, rfl⟩
/-- The end of the loop, laid open. -/
theorem kxx_open {act : Act} {G : Act → World → Prop} (hX : KXX wb b3 b12 nV cV S y Wp A1 V SS j c0 c2 c4 c5 c6 c7 c9 c10 c11 c13 c18 c19 c20 c21 c22 c23 c24 c25 c26 c27 c28 c29 c30 c31 c32 c33 c34 c35 c36 c37 c38 c39 c40 c41 c42 c43 c78 c79 c80 c81 c82 c83 c84 c85 c86 c87 c88 c89 c90 c91 c92 c93 c94 c95 c96 c97 c98 c99 c100 c101 c102 c103 c104 c105 c106 c107 c108 c109 c110 c111 c112 c113 c114 c115 c116 c117 c118 c119 c120 c121 c122 c123 act wr)
    (k : ∀ (u17 u44 u45 u46 u47 u48 u49 u50 u51 u52 u53 u54 u55 u56 u57 u58 u59 u60 u61 u62 u63 u64 u65 u66 u67 u68 u69 u70 u71 u72 u73 u74 u75 u76 u77 : Value) (RA : Option Addr) (rl rc : Nat), LkX wb Wp V SS j Wp RA rl rc wr → G ⟨#[c0, .slice A1 nV cV, c2, .pointer (some ⟨b3, 0, none⟩), c4, c5, c6, c7, .int .i64 (S : Nat), c9, c10, c11, .pointer (some ⟨b12, 0, none⟩), c13, .int .i64 (y : Nat), .slice RA rl rc, .int .i64 (Wp : Nat), u17, c18, c19, c20, c21, c22, c23, c24, c25, c26, c27, c28, c29, c30, c31, c32, c33, c34, c35, c36, c37, c38, c39, c40, c41, c42, c43, u44, u45, u46, u47, u48, u49, u50, u51, u52, u53, u54, u55, u56, u57, u58, u59, u60, u61, u62, u63, u64, u65, u66, u67, u68, u69, u70, u71, u72, u73, u74, u75, u76, u77, c78, c79, c80, c81, c82, c83, c84, c85, c86, c87, c88, c89, c90, c91, c92, c93, c94, c95, c96, c97, c98, c99, c100, c101, c102, c103, c104, c105, c106, c107, c108, c109, c110, c111, c112, c113, c114, c115, c116, c117, c118, c119, c120, c121, c122, c123], []⟩ wr) : G act wr := by
  unfold KXX at hX
  cases hX with
  | intro u17 hX =>
  cases hX with
  | intro u44 hX =>
  cases hX with
  | intro u45 hX =>
  cases hX with
  | intro u46 hX =>
  cases hX with
  | intro u47 hX =>
  cases hX with
  | intro u48 hX =>
  cases hX with
  | intro u49 hX =>
  cases hX with
  | intro u50 hX =>
  cases hX with
  | intro u51 hX =>
  cases hX with
  | intro u52 hX =>
  cases hX with
  | intro u53 hX =>
  cases hX with
  | intro u54 hX =>
  cases hX with
  | intro u55 hX =>
  cases hX with
  | intro u56 hX =>
  cases hX with
  | intro u57 hX =>
  cases hX with
  | intro u58 hX =>
  cases hX with
  | intro u59 hX =>
  cases hX with
  | intro u60 hX =>
  cases hX with
  | intro u61 hX =>
  cases hX with
  | intro u62 hX =>
  cases hX with
  | intro u63 hX =>
  cases hX with
  | intro u64 hX =>
  cases hX with
  | intro u65 hX =>
  cases hX with
  | intro u66 hX =>
  cases hX with
  | intro u67 hX =>
  cases hX with
  | intro u68 hX =>
  cases hX with
  | intro u69 hX =>
  cases hX with
  | intro u70 hX =>
  cases hX with
  | intro u71 hX =>
  cases hX with
  | intro u72 hX =>
  cases hX with
  | intro u73 hX =>
  cases hX with
  | intro u74 hX =>
  cases hX with
  | intro u75 hX =>
  cases hX with
  | intro u76 hX =>
  cases hX with
  | intro u77 hX =>
  cases hX with
  | intro RA hX =>
  cases hX with
  | intro rl hX =>
  cases hX with
  | intro rc hX =>
  have he := hX.2
  subst he
  exact k _ _ _ _ _ _ _ _ _ _ _ _ _ _ _ _ _ _ _ _ _ _ _ _ _ _ _ _ _ _ _ _ _ _ _ RA rl rc hX.1
end
end Go.Proofs.YtfiedoejdikcgaaDoor
