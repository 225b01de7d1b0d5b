/- Several texts in one: PxD (what PixelImages reach of them). -/
import Derived.Test.YtfiedoejdikcgaaDoorQ01
import Derived.Test.YtfiedoejdikcgaaDoorQ02
import Derived.Test.YtfiedoejdikcgaaDoorQ03
import Derived.Test.YtfiedoejdikcgaaDoorQ05
import Derived.Test.YtfiedoejdikcgaaDoorQ06
import Derived.Test.YtfiedoejdikcgaaDoorQ07
import Derived.Test.YtfiedoejdikcgaaDoorQ08
import Derived.Test.YtfiedoejdikcgaaDoorQ09
import Derived.Test.YtfiedoejdikcgaaDoorQ12
import Derived.Test.YtfiedoejdikcgaaDoorQ16
import Derived.Test.YtfiedoejdikcgaaDoorQ28
import Derived.Test.YtfiedoejdikcgaaDoorQ29
import Derived.Test.YtfiedoejdikcgaaDoorQ31
import Derived.Below
import Derived.BigQuiet
import Derived.BigRegion
import Derived.Deep.AppendLies
import Derived.Deep.CutBlock
import Derived.Deep.CutRange
import Derived.Deep.DeepCutAuto
import Derived.Deep.Draws
import Derived.Deep.QuietTactic
import Derived.Deep.RegionLaw
import Derived.Deep.RegionWith
import Derived.Handy
import Derived.Laws.BitsAllLaws
import Derived.Laws.BitsLemmas
import Derived.Laws.BytesArg
import Derived.Laws.IdiomStrings
import Derived.Laws.MakeOwn
import Derived.Laws.OwnMore
import Derived.Laws.Rows
import Derived.Laws.StructEq
import Derived.Lib.BufferWrite
import Derived.Lib.Hide
import Derived.LoopIn
import Derived.LoopNIn
import Derived.Maps.AppendAt
import Derived.OrdersHeld
import Derived.OrdersIn
import Derived.Outline
import Derived.OwnWalk
import Derived.OwnWalkIn
import Derived.RangeFuncBound
import Derived.RangeFuncCalls
import Derived.RangeFuncLeaves
import Derived.RangeFuncNested
import Derived.RegionTactic
import Derived.Shelf.Abstract
import Derived.Shelf.RegionOpen
import Derived.Sort.CutIn
import Derived.TacticsInMore
import Derived.Test.YtfiedoejdikcgaaDoorChecked
import Derived.WalkKit
set_option maxRecDepth 100000
set_option linter.unusedVariables false
set_option maxRecDepth 1000000
set_option linter.unusedVariables false
namespace Go.Proofs.YtfiedoejdikcgaaDoor
set_option maxRecDepth 100000
open Go Go.RowKit
def imFirst : Code → Option Code
  | .loop c => some c
  | .seq a b => match imFirst a with
    | some c => some c
    | none => imFirst b
  | .block _ c => imFirst c
  | .scope c => imFirst c
  | .cond _ a b => match imFirst a with
    | some c => some c
    | none => imFirst b
  | _ => none
noncomputable def imBodyI : Code := (Tryd.f12.body.bind imFirst).getD .skip
noncomputable def imBodyY : Code := (imFirst imBodyI).getD .skip
noncomputable def imBodyX : Code := (imFirst imBodyY).getD .skip
/-- What stands throughout a row. -/
structure StX (w wb : World) (b0 b4 gp bB n8 S nv cv y W H D C px py dx dy Wp Hp : Nat) (l : Int) (pal tr : ByteArray) (has : Bool) (AV : Option Addr) (V : List Nat) (SS : ShP) (ln : List UInt8) (j : RowJ) (GO : List UInt8 × Int) (R1 : (Int × Int × ByteArray) × Int) : Prop where
  shp : ImS b0 b4 #[.int .i64 W, .int .i64 H, .int .i64 D, .int .i64 C, .int .i64 l, .string pal, .string tr, .bool has] wb
  pas : Is wb bB 52 #[.int .i64 px, .int .i64 py, .int .i64 dx, .int .i64 dy, .int .i64 Wp, .int .i64 Hp]
  num : Nums wb AV nv V
  nums : ∀ v, But [gp] wb v → Nums v AV nv V
  off : b0 ∉ [gp] ∧ b4 ∉ [gp] ∧ bB ∉ [gp]
  le4 : w.heap.size ≤ b4
  hide : ∀ v, But [gp] wb v → But [] w v
  nvE : nv = S * Wp
  nvc : nv ≤ cv
  nvl : nv ≤ 4096
  s1 : 1 ≤ S
  s4 : S ≤ 4
  cut : ∀ x, x < Wp → (V.drop (S * x)).take S = sampsL SS ln x
  jj : j.n = Wp ∧ j.x = px ∧ j.dx = dx ∧ j.y = py + y * dy
  pl : ∀ x, x < Wp → px + x * dx < W ∧ py + y * dy < H
  wl : Wp ≤ 1024
  ww : W ≤ 1024 ∧ H ≤ 1024 ∧ W * H ≤ 4096
  n8E : n8 = 8 * (W * H)
  ssw : SS.w = W
  pxl : ∀ (v : World) (A : Option Addr) (cp x : Nat), Zs v A S ((sampsL SS ln x).map fun y => ((y : Nat) : Int)) → Calls Tryd.prog 30 #[.agg #[.int .i64 W, .int .i64 H, .int .i64 D, .int .i64 C, .int .i64 l, .string pal, .string tr, .bool has], .slice A S cp] v fun r w' => r = .returned (.tuple #[.string (strL (pixS SS (sampsL SS ln x)).1), .int .i64 (pixS SS (sampsL SS ln x)).2]) ∧ But [] v w'
  err : ∀ e, GO = ([], e) → e ≠ 0 → R1 = ((0, 0, ⟨#[]⟩), e)
/-- What holds ahead of each pixel. -/
structure LoX (wb : World) (gp n8 Wp : Nat) (SS : ShP) (ln : List UInt8) (j : RowJ) (GO : List UInt8 × Int) (x : Nat) (pix : List UInt8) (wr : World) : Prop where
  le : x ≤ Wp
  go : GO = pixGo SS ln j (Wp - x) x pix
  pl : pix.length = n8
  blk : BytesB wr gp pix
  but : But [gp] wb wr
def MuX (n : Nat) (a : Act) (_ : World) : Nat := n - (intOf (a.tmps.getD 19 undef)).toNat
def WIX (wb : World) (b0 b4 gp bB n8 S nv cv y Wp : Nat) (AV : Option Addr) (SS : ShP) (ln : List UInt8) (j : RowJ) (GO : List UInt8 × Int) (c0 c1 c3 c5 c6 c9 c10 c12 c14 c15 c16 c18 c22 c23 c24 c25 c26 c27 c28 c29 c30 c31 c32 c33 c34 c35 c36 c37 c38 c39 c40 c41 c42 c43 c44 c45 c46 c47 c48 c49 c50 c51 c52 c53 c54 c55 c56 c57 c58 c59 c60 c61 c62 c63 c64 c65 c66 c67 c68 c69 c70 c71 c72 c73 c74 c75 c76 c77 c78 c79 c80 c81 c82 c83 c84 c85 c86 c87 c88 c89 c90 c91 c92 c93 c94 c95 c96 c97 c98 c99 c100 c101 c102 c103 c104 c105 c106 c107 c108 c109 c110 c111 c112 c113 c114 c115 c165 c166 c167 c168 c169 c170 c171 c172 c173 : Value) (act : Act) (w1 : World) : Prop :=
  ∃ (u20 u21 u116 u117 u118 u119 u120 u121 u122 u123 u124 u125 u126 u127 u128 u129 u130 u131 u132 u133 u134 u135 u136 u137 u138 u139 u140 u141 u142 u143 u144 u145 u146 u147 u148 u149 u150 u151 u152 u153 u154 u155 u156 u157 u158 u159 u160 u161 u162 u163 u164 : Value) (x : Nat) (pix : List UInt8), LoX wb gp n8 Wp SS ln j GO x pix w1 ∧ act = ⟨#[c0, c1, .pointer (some ⟨b0, 0, none⟩), c3, .pointer (some ⟨b4, 0, none⟩), c5, c6, .slice (some ⟨gp, 0, none⟩) n8 n8, .int .i64 (S : Nat), c9, c10, .pointer (some ⟨bB, 0, none⟩), c12, .int .i64 (y : Nat), c14, c15, c16, .slice AV nv cv, c18, .int .i64 (x : Nat), u20, u21, c22, c23, c24, c25, c26, c27, c28, c29, c30, c31, c32, c33, c34, c35, c36, c37, c38, c39, c40, c41, c42, c43, c44, c45, c46, c47, c48, c49, c50, c51, c52, c53, c54, c55, c56, c57, c58, c59, c60, c61, c62, c63, c64, c65, c66, c67, c68, c69, c70, c71, c72, c73, c74, c75, c76, c77, c78, c79, c80, c81, c82, c83, c84, c85, c86, c87, c88, c89, c90, c91, c92, c93, c94, c95, c96, c97, c98, c99, c100, c101, c102, c103, c104, c105, c106, c107, c108, c109, c110, c111, c112, c113, c114, c115, u116, u117, u118, u119, u120, u121, u122, u123, u124, u125, u126, u127, u128, u129, u130, u131, u132, u133, u134, u135, u136, u137, u138, u139, u140, u141, u142, u143, u144, u145, u146, u147, u148, u149, u150, u151, u152, u153, u154, u155, u156, u157, u158, u159, u160, u161, u162, u163, u164, c165, c166, c167, c168, c169, c170, c171, c172, c173], []⟩
def WXX (wb : World) (b0 b4 gp bB n8 S nv cv y Wp : Nat) (AV : Option Addr) (SS : ShP) (ln : List UInt8) (j : RowJ) (GO : List UInt8 × Int) (c0 c1 c3 c5 c6 c9 c10 c12 c14 c15 c16 c18 c22 c23 c24 c25 c26 c27 c28 c29 c30 c31 c32 c33 c34 c35 c36 c37 c38 c39 c40 c41 c42 c43 c44 c45 c46 c47 c48 c49 c50 c51 c52 c53 c54 c55 c56 c57 c58 c59 c60 c61 c62 c63 c64 c65 c66 c67 c68 c69 c70 c71 c72 c73 c74 c75 c76 c77 c78 c79 c80 c81 c82 c83 c84 c85 c86 c87 c88 c89 c90 c91 c92 c93 c94 c95 c96 c97 c98 c99 c100 c101 c102 c103 c104 c105 c106 c107 c108 c109 c110 c111 c112 c113 c114 c115 c165 c166 c167 c168 c169 c170 c171 c172 c173 : Value) (act : Act) (w1 : World) : Prop :=
  ∃ (u20 u21 u116 u117 u118 u119 u120 u121 u122 u123 u124 u125 u126 u127 u128 u129 u130 u131 u132 u133 u134 u135 u136 u137 u138 u139 u140 u141 u142 u143 u144 u145 u146 u147 u148 u149 u150 u151 u152 u153 u154 u155 u156 u157 u158 u159 u160 u161 u162 u163 u164 : Value) (pix : List UInt8), (GO = (pix, 0) ∧ pix.length = n8 ∧ BytesB w1 gp pix ∧ But [gp] wb w1) ∧ act = ⟨#[c0, c1, .pointer (some ⟨b0, 0, none⟩), c3, .pointer (some ⟨b4, 0, none⟩), c5, c6, .slice (some ⟨gp, 0, none⟩) n8 n8, .int .i64 (S : Nat), c9, c10, .pointer (some ⟨bB, 0, none⟩), c12, .int .i64 (y : Nat), c14, c15, c16, .slice AV nv cv, c18, .int .i64 (Wp : Nat), u20, u21, c22, c23, c24, c25, c26, c27, c28, c29, c30, c31, c32, c33, c34, c35, c36, c37, c38, c39, c40, c41, c42, c43, c44, c45, c46, c47, c48, c49, c50, c51, c52, c53, c54, c55, c56, c57, c58, c59, c60, c61, c62, c63, c64, c65, c66, c67, c68, c69, c70, c71, c72, c73, c74, c75, c76, c77, c78, c79, c80, c81, c82, c83, c84, c85, c86, c87, c88, c89, c90, c91, c92, c93, c94, c95, c96, c97, c98, c99, c100, c101, c102, c103, c104, c105, c106, c107, c108, c109, c110, c111, c112, c113, c114, c115, u116, u117, u118, u119, u120, u121, u122, u123, u124, u125, u126, u127, u128, u129, u130, u131, u132, u133, u134, u135, u136, u137, u138, u139, u140, u141, u142, u143, u144, u145, u146, u147, u148, u149, u150, u151, u152, u153, u154, u155, u156, u157, u158, u159, u160, u161, u162, u163, u164, c165, c166, c167, c168, c169, c170, c171, c172, c173], []⟩
attribute [local irreducible] strL
section
variable {w wb wr : World} {b0 b4 gp bB n8 S nv cv y W H D C px py dx dy Wp Hp : Nat} {l : Int} {pal tr : ByteArray} {has : Bool} {AV : Option Addr} {V : List Nat} {SS : ShP} {ln pix : List UInt8} {j : RowJ} {GO : List UInt8 × Int} {R1 : (Int × Int × ByteArray) × Int} {Q0 : Exit → Act → World → Prop} {x : Nat}
variable {c0 c1 c3 c5 c6 c9 c10 c12 c14 c15 c16 c18 c22 c23 c24 c25 c26 c27 c28 c29 c30 c31 c32 c33 c34 c35 c36 c37 c38 c39 c40 c41 c42 c43 c44 c45 c46 c47 c48 c49 c50 c51 c52 c53 c54 c55 c56 c57 c58 c59 c60 c61 c62 c63 c64 c65 c66 c67 c68 c69 c70 c71 c72 c73 c74 c75 c76 c77 c78 c79 c80 c81 c82 c83 c84 c85 c86 c87 c88 c89 c90 c91 c92 c93 c94 c95 c96 c97 c98 c99 c100 c101 c102 c103 c104 c105 c106 c107 c108 c109 c110 c111 c112 c113 c114 c115 c165 c166 c167 c168 c169 c170 c171 c172 c173 : Value}
variable {u20 u21 u116 u117 u118 u119 u120 u121 u122 u123 u124 u125 u126 u127 u128 u129 u130 u131 u132 u133 u134 u135 u136 u137 u138 u139 u140 u141 u142 u143 u144 u145 u146 u147 u148 u149 u150 u151 u152 u153 u154 u155 u156 u157 u158 u159 u160 u161 u162 u163 u164 : Value}
set_option maxHeartbeats 1000000 in
theorem imx_end (hT : StX w wb b0 b4 gp bB n8 S nv cv y W H D C px py dx dy Wp Hp l pal tr has AV V SS ln j GO R1) (hpan : ∀ (c : List PanicEntry) (a : Act) (d : Option Tmp) (v : Value) (w : World), Q0 (.panic c) (a.put d v) w → Q0 (.panic c) a w) (hret : ∀ act w1, bodyPost Tryd.prog Tryd.f12 (fun e w' => e = .returned (.tuple #[.agg #[.int .i64 R1.1.1, .int .i64 R1.1.2.1, .string R1.1.2.2], .int .i64 R1.2]) ∧ But [] w w') Exit.ret act w1 → Q0 .ret act w1) (hS : LoX wb gp n8 Wp SS ln j GO x pix wr) (hx : Hid (¬ x < Wp)) (hexit : ∀ act w1, WXX wb b0 b4 gp bB n8 S nv cv y Wp AV SS ln j GO c0 c1 c3 c5 c6 c9 c10 c12 c14 c15 c16 c18 c22 c23 c24 c25 c26 c27 c28 c29 c30 c31 c32 c33 c34 c35 c36 c37 c38 c39 c40 c41 c42 c43 c44 c45 c46 c47 c48 c49 c50 c51 c52 c53 c54 c55 c56 c57 c58 c59 c60 c61 c62 c63 c64 c65 c66 c67 c68 c69 c70 c71 c72 c73 c74 c75 c76 c77 c78 c79 c80 c81 c82 c83 c84 c85 c86 c87 c88 c89 c90 c91 c92 c93 c94 c95 c96 c97 c98 c99 c100 c101 c102 c103 c104 c105 c106 c107 c108 c109 c110 c111 c112 c113 c114 c115 c165 c166 c167 c168 c169 c170 c171 c172 c173 act w1 → Q0 (.exit 4) act w1) :
    Code.wp Tryd.prog imBodyX (Exit.then (fun act w1 => WIX wb b0 b4 gp bB n8 S nv cv y Wp AV SS ln j GO c0 c1 c3 c5 c6 c9 c10 c12 c14 c15 c16 c18 c22 c23 c24 c25 c26 c27 c28 c29 c30 c31 c32 c33 c34 c35 c36 c37 c38 c39 c40 c41 c42 c43 c44 c45 c46 c47 c48 c49 c50 c51 c52 c53 c54 c55 c56 c57 c58 c59 c60 c61 c62 c63 c64 c65 c66 c67 c68 c69 c70 c71 c72 c73 c74 c75 c76 c77 c78 c79 c80 c81 c82 c83 c84 c85 c86 c87 c88 c89 c90 c91 c92 c93 c94 c95 c96 c97 c98 c99 c100 c101 c102 c103 c104 c105 c106 c107 c108 c109 c110 c111 c112 c113 c114 c115 c165 c166 c167 c168 c169 c170 c171 c172 c173 act w1 ∧ MuX Wp act w1 < MuX Wp ⟨#[c0, c1, .pointer (some ⟨b0, 0, none⟩), c3, .pointer (some ⟨b4, 0, none⟩), c5, c6, .slice (some ⟨gp, 0, none⟩) n8 n8, .int .i64 (S : Nat), c9, c10, .pointer (some ⟨bB, 0, none⟩), c12, .int .i64 (y : Nat), c14, c15, c16, .slice AV nv cv, c18, .int .i64 (x : Nat), u20, u21, c22, c23, c24, c25, c26, c27, c28, c29, c30, c31, c32, c33, c34, c35, c36, c37, c38, c39, c40, c41, c42, c43, c44, c45, c46, c47, c48, c49, c50, c51, c52, c53, c54, c55, c56, c57, c58, c59, c60, c61, c62, c63, c64, c65, c66, c67, c68, c69, c70, c71, c72, c73, c74, c75, c76, c77, c78, c79, c80, c81, c82, c83, c84, c85, c86, c87, c88, c89, c90, c91, c92, c93, c94, c95, c96, c97, c98, c99, c100, c101, c102, c103, c104, c105, c106, c107, c108, c109, c110, c111, c112, c113, c114, c115, u116, u117, u118, u119, u120, u121, u122, u123, u124, u125, u126, u127, u128, u129, u130, u131, u132, u133, u134, u135, u136, u137, u138, u139, u140, u141, u142, u143, u144, u145, u146, u147, u148, u149, u150, u151, u152, u153, u154, u155, u156, u157, u158, u159, u160, u161, u162, u163, u164, c165, c166, c167, c168, c169, c170, c171, c172, c173], []⟩ wr) Q0) ⟨#[c0, c1, .pointer (some ⟨b0, 0, none⟩), c3, .pointer (some ⟨b4, 0, none⟩), c5, c6, .slice (some ⟨gp, 0, none⟩) n8 n8, .int .i64 (S : Nat), c9, c10, .pointer (some ⟨bB, 0, none⟩), c12, .int .i64 (y : Nat), c14, c15, c16, .slice AV nv cv, c18, .int .i64 (x : Nat), u20, u21, c22, c23, c24, c25, c26, c27, c28, c29, c30, c31, c32, c33, c34, c35, c36, c37, c38, c39, c40, c41, c42, c43, c44, c45, c46, c47, c48, c49, c50, c51, c52, c53, c54, c55, c56, c57, c58, c59, c60, c61, c62, c63, c64, c65, c66, c67, c68, c69, c70, c71, c72, c73, c74, c75, c76, c77, c78, c79, c80, c81, c82, c83, c84, c85, c86, c87, c88, c89, c90, c91, c92, c93, c94, c95, c96, c97, c98, c99, c100, c101, c102, c103, c104, c105, c106, c107, c108, c109, c110, c111, c112, c113, c114, c115, u116, u117, u118, u119, u120, u121, u122, u123, u124, u125, u126, u127, u128, u129, u130, u131, u132, u133, u134, u135, u136, u137, u138, u139, u140, u141, u142, u143, u144, u145, u146, u147, u148, u149, u150, u151, u152, u153, u154, u155, u156, u157, u158, u159, u160, u161, u162, u163, u164, c165, c166, c167, c168, c169, c170, c171, c172, c173], []⟩ wr := by
  conv => arg 2; whnf
  have HT := Lib.hid hT
  have HS := Lib.hid hS
  have HPC : Hid (∀ v, But [gp] wb v → v.cell? ⟨bB, 0, none⟩ = some (.int .i64 px) ∧ v.cell? ⟨bB, 1, none⟩ = some (.int .i64 py) ∧ v.cell? ⟨bB, 2, none⟩ = some (.int .i64 dx) ∧ v.cell? ⟨bB, 3, none⟩ = some (.int .i64 dy) ∧ v.cell? ⟨bB, 4, none⟩ = some (.int .i64 Wp) ∧ v.cell? ⟨bB, 5, none⟩ = some (.int .i64 Hp) ∧ bB < v.heap.size) := Lib.hid fun v hv => by
    have hh := HT.out.pas.but hv HT.out.off.2.2
    exact ⟨hh.cell 0, hh.cell 1, hh.cell 2, hh.cell 3, hh.cell 4, hh.cell 5, hh.lt⟩
  have wl := hT.wl
  have ww := hT.ww.1
  clear hT hS
  obtain ⟨p0, p1, p2, p3, p4, p5, hpl⟩ := HPC.out _ HS.out.but
  have i1 : ¬ (x : Int) < (Wp : Int) := by have := hx.out; omega
  obtain rfl : Wp = x := by have := hx.out; have := HS.out.le; omega
  have HE := Lib.hid (show GO = (pix, 0) by have h := HS.out.go; rw [Nat.sub_self] at h; rw [h]; rfl)
  clear hx
  go_wp2
  unfold WXX
  exact ⟨_, _, _, _, _, _, _, _, _, _, _, _, _, _, _, _, _, _, _, _, _, _, _, _, _, _, _, _, _, _, _, _, _, _, _, _, _, _, _, _, _, _, _, _, _, _, _, _, _, _, _, pix, ⟨HE.out, HS.out.pl, HS.out.blk, HS.out.but⟩, rfl⟩
set_option maxHeartbeats 1000000 in
theorem imx_err (hT : StX w wb b0 b4 gp bB n8 S nv cv y W H D C px py dx dy Wp Hp l pal tr has AV V SS ln j GO R1) (hpan : ∀ (c : List PanicEntry) (a : Act) (d : Option Tmp) (v : Value) (w : World), Q0 (.panic c) (a.put d v) w → Q0 (.panic c) a w) (hret : ∀ act w1, bodyPost Tryd.prog Tryd.f12 (fun e w' => e = .returned (.tuple #[.agg #[.int .i64 R1.1.1, .int .i64 R1.1.2.1, .string R1.1.2.2], .int .i64 R1.2]) ∧ But [] w w') Exit.ret act w1 → Q0 .ret act w1) (hS : LoX wb gp n8 Wp SS ln j GO x pix wr) (hx : Hid (x < Wp)) (he : Hid ((pixS SS (sampsL SS ln x)).2 ≠ 0)) :
    Code.wp Tryd.prog imBodyX (Exit.then (fun act w1 => WIX wb b0 b4 gp bB n8 S nv cv y Wp AV SS ln j GO c0 c1 c3 c5 c6 c9 c10 c12 c14 c15 c16 c18 c22 c23 c24 c25 c26 c27 c28 c29 c30 c31 c32 c33 c34 c35 c36 c37 c38 c39 c40 c41 c42 c43 c44 c45 c46 c47 c48 c49 c50 c51 c52 c53 c54 c55 c56 c57 c58 c59 c60 c61 c62 c63 c64 c65 c66 c67 c68 c69 c70 c71 c72 c73 c74 c75 c76 c77 c78 c79 c80 c81 c82 c83 c84 c85 c86 c87 c88 c89 c90 c91 c92 c93 c94 c95 c96 c97 c98 c99 c100 c101 c102 c103 c104 c105 c106 c107 c108 c109 c110 c111 c112 c113 c114 c115 c165 c166 c167 c168 c169 c170 c171 c172 c173 act w1 ∧ MuX Wp act w1 < MuX Wp ⟨#[c0, c1, .pointer (some ⟨b0, 0, none⟩), c3, .pointer (some ⟨b4, 0, none⟩), c5, c6, .slice (some ⟨gp, 0, none⟩) n8 n8, .int .i64 (S : Nat), c9, c10, .pointer (some ⟨bB, 0, none⟩), c12, .int .i64 (y : Nat), c14, c15, c16, .slice AV nv cv, c18, .int .i64 (x : Nat), u20, u21, c22, c23, c24, c25, c26, c27, c28, c29, c30, c31, c32, c33, c34, c35, c36, c37, c38, c39, c40, c41, c42, c43, c44, c45, c46, c47, c48, c49, c50, c51, c52, c53, c54, c55, c56, c57, c58, c59, c60, c61, c62, c63, c64, c65, c66, c67, c68, c69, c70, c71, c72, c73, c74, c75, c76, c77, c78, c79, c80, c81, c82, c83, c84, c85, c86, c87, c88, c89, c90, c91, c92, c93, c94, c95, c96, c97, c98, c99, c100, c101, c102, c103, c104, c105, c106, c107, c108, c109, c110, c111, c112, c113, c114, c115, u116, u117, u118, u119, u120, u121, u122, u123, u124, u125, u126, u127, u128, u129, u130, u131, u132, u133, u134, u135, u136, u137, u138, u139, u140, u141, u142, u143, u144, u145, u146, u147, u148, u149, u150, u151, u152, u153, u154, u155, u156, u157, u158, u159, u160, u161, u162, u163, u164, c165, c166, c167, c168, c169, c170, c171, c172, c173], []⟩ wr) Q0) ⟨#[c0, c1, .pointer (some ⟨b0, 0, none⟩), c3, .pointer (some ⟨b4, 0, none⟩), c5, c6, .slice (some ⟨gp, 0, none⟩) n8 n8, .int .i64 (S : Nat), c9, c10, .pointer (some ⟨bB, 0, none⟩), c12, .int .i64 (y : Nat), c14, c15, c16, .slice AV nv cv, c18, .int .i64 (x : Nat), u20, u21, c22, c23, c24, c25, c26, c27, c28, c29, c30, c31, c32, c33, c34, c35, c36, c37, c38, c39, c40, c41, c42, c43, c44, c45, c46, c47, c48, c49, c50, c51, c52, c53, c54, c55, c56, c57, c58, c59, c60, c61, c62, c63, c64, c65, c66, c67, c68, c69, c70, c71, c72, c73, c74, c75, c76, c77, c78, c79, c80, c81, c82, c83, c84, c85, c86, c87, c88, c89, c90, c91, c92, c93, c94, c95, c96, c97, c98, c99, c100, c101, c102, c103, c104, c105, c106, c107, c108, c109, c110, c111, c112, c113, c114, c115, u116, u117, u118, u119, u120, u121, u122, u123, u124, u125, u126, u127, u128, u129, u130, u131, u132, u133, u134, u135, u136, u137, u138, u139, u140, u141, u142, u143, u144, u145, u146, u147, u148, u149, u150, u151, u152, u153, u154, u155, u156, u157, u158, u159, u160, u161, u162, u163, u164, c165, c166, c167, c168, c169, c170, c171, c172, c173], []⟩ wr := by
  conv => arg 2; whnf
  have HT := Lib.hid hT
  have HS := Lib.hid hS
  have HPC : Hid (∀ v, But [gp] wb v → v.cell? ⟨bB, 0, none⟩ = some (.int .i64 px) ∧ v.cell? ⟨bB, 1, none⟩ = some (.int .i64 py) ∧ v.cell? ⟨bB, 2, none⟩ = some (.int .i64 dx) ∧ v.cell? ⟨bB, 3, none⟩ = some (.int .i64 dy) ∧ v.cell? ⟨bB, 4, none⟩ = some (.int .i64 Wp) ∧ v.cell? ⟨bB, 5, none⟩ = some (.int .i64 Hp) ∧ bB < v.heap.size) := Lib.hid fun v hv => by
    have hh := HT.out.pas.but hv HT.out.off.2.2
    exact ⟨hh.cell 0, hh.cell 1, hh.cell 2, hh.cell 3, hh.cell 4, hh.cell 5, hh.lt⟩
  have wl := hT.wl
  have ww := hT.ww.1
  clear hT hS
  obtain ⟨p0, p1, p2, p3, p4, p5, hpl⟩ := HPC.out _ HS.out.but
  have hxl := hx.out
  have HSC : Hid (∀ v, But [gp] wb v → v.cell? ⟨b0, 0, none⟩ = some (.int .i64 W) ∧ v.cell? ⟨b0, 1, none⟩ = some (.int .i64 H) ∧ v.cell? ⟨b0, 2, none⟩ = some (.int .i64 D) ∧ v.cell? ⟨b0, 3, none⟩ = some (.int .i64 C) ∧ v.cell? ⟨b0, 4, none⟩ = some (.int .i64 l) ∧ v.cell? ⟨b0, 5, none⟩ = some (.string pal) ∧ v.cell? ⟨b0, 6, none⟩ = some (.string tr) ∧ v.cell? ⟨b0, 7, none⟩ = some (.bool has) ∧ b0 < v.heap.size) := Lib.hid fun v hv => by
    have hh := HT.out.shp.1.but hv HT.out.off.1
    exact ⟨hh.cell 0, hh.cell 1, hh.cell 2, hh.cell 3, hh.cell 4, hh.cell 5, hh.cell 6, hh.cell 7, hh.lt⟩
  obtain ⟨kx, hkx⟩ : ∃ z, z = S * x := ⟨_, rfl⟩
  obtain ⟨kx1, hkx1⟩ : ∃ z, z = kx + S := ⟨_, rfl⟩
  have s1 := HT.out.s1
  have s4 := HT.out.s4
  have nvl := HT.out.nvl
  have nvc := HT.out.nvc
  have ekx : (S : Int) * (x : Int) = (kx : Int) := by rw [hkx, Int.natCast_mul]
  have ekx1 : (kx : Int) + (S : Int) = (kx1 : Int) := by omega
  have hk1 : kx1 ≤ nv := by
    rw [hkx1, hkx, HT.out.nvE]
    have : S * (x + 1) ≤ S * Wp := Nat.mul_le_mul_left _ hxl
    rw [Nat.mul_add, Nat.mul_one] at this
    exact this
  have vkx := wrapI_in (show kx < 1000000000000000 by omega)
  have vkx1 := wrapI_in (show kx1 < 1000000000000000 by omega)
  obtain ⟨g, o, hA, _⟩ := HT.out.num.part (lo := kx) (k := S) (by omega) (by omega)
  subst hA
  have HN : Hid (∀ v, But [gp] wb v → Zs v (some ⟨g, o + kx, none⟩) S ((sampsL SS ln x).map fun y => ((y : Nat) : Int))) := Lib.hid fun v hv => by
    obtain ⟨g', o', e, h⟩ := (HT.out.nums v hv).part (lo := kx) (k := S) (by omega) (by omega)
    injection e with e
    injection e with e1 e2
    subst e1 e2
    rw [hkx, HT.out.cut x hxl] at h
    rw [hkx]
    exact h.zs
  have ks : ∀ v, (Instr.slice 37 (.slice (some ⟨g, o, none⟩) nv cv) (some (.int .i64 (kx : Int))) (some (.int .i64 (kx1 : Int))) none).run Tryd.prog v = .ok (.slice (some ⟨g, o + kx, none⟩) S (cv - kx)) v := fun v => by
    have h := slice_win v g o nv cv kx kx1 (by omega) (by omega)
    rw [show kx1 - kx = S by omega] at h
    exact h
  obtain ⟨ps, hps⟩ : ∃ z, z = pixS SS (sampsL SS ln x) := ⟨_, rfl⟩
  obtain ⟨qs, hqs⟩ : ∃ z, z = strL ps.1 := ⟨_, rfl⟩
  obtain ⟨er, her⟩ : ∃ z, z = ps.2 := ⟨_, rfl⟩
  have HPXx : Hid (∀ v, But [gp] wb v → Calls Tryd.prog 30 #[.agg #[.int .i64 W, .int .i64 H, .int .i64 D, .int .i64 C, .int .i64 l, .string pal, .string tr, .bool has], .slice (some ⟨g, o + kx, none⟩) S (cv - kx)] v fun r w' => r = .returned (.tuple #[.string qs, .int .i64 er]) ∧ But [] v w') := Lib.hid fun v hv => by
    have h := HT.out.pxl v (some ⟨g, o + kx, none⟩) (cv - kx) x (HN.out v hv)
    rw [← hps, ← hqs, ← her] at h
    exact h
  have HPS := Lib.hid hps
  have HQS := Lib.hid hqs
  have HER := Lib.hid her
  have i0 : (0 : Int) ≤ (x : Int) := by omega
  have i1 : (x : Int) < (Wp : Int) := by omega
  clear hps hqs her hkx hkx1
  go_upto_region 29 with (fail)
  clear p0 p1 p2 p3 p4 p5 hpl
  refine wp_region_m (S := fun v => But [] wr v) (R := fun v v' => But [] v v') (fun w => But.refl [] w) (by kernel_rfl) ((But.refl [] wr).drew) ?_
  refine wpM_take (fun w => But.refl [] w) (fun x y z h k => h.trans k) (i := 0) (v := .agg #[.int .i64 W, .int .i64 H, .int .i64 D, .int .i64 C, .int .i64 l, .string pal, .string tr, .bool has]) rfl (by kernel_rfl) (by kernel_rfl) (by kernel_rfl) (fun c a w h => hpan c a _ _ w h) (YieldsR.read (fun w => But.refl [] w) ?_ fun w hS => ?_) ?_
  · first | kernel_rfl | go_simp
  · obtain ⟨c0, c1, c2, c3, c4, c5, c6, c7, hgm⟩ := HSC.out w (HS.out.but.trans hS.wide); go_simp
  refine wpM_take (fun w => But.refl [] w) (fun x y z h k => h.trans k) (i := 1) (v := .slice (some ⟨g, o, none⟩) nv cv) rfl (by kernel_rfl) (by kernel_rfl) (by kernel_rfl) (fun c a w h => hpan c a _ _ w h) (YieldsR.read (fun w => But.refl [] w) ?_ fun w hS => ?_) ?_
  · first | kernel_rfl | go_simp
  · go_simp
  refine wpM_take (fun w => But.refl [] w) (fun x y z h k => h.trans k) (i := 2) (v := .int .i64 (S : Nat)) rfl (by kernel_rfl) (by kernel_rfl) (by kernel_rfl) (fun c a w h => hpan c a _ _ w h) (YieldsR.read (fun w => But.refl [] w) ?_ fun w hS => ?_) ?_
  · first | kernel_rfl | go_simp
  · go_simp
  refine wpM_take (fun w => But.refl [] w) (fun x y z h k => h.trans k) (i := 3) (v := .int .i64 (x : Nat)) rfl (by kernel_rfl) (by kernel_rfl) (by kernel_rfl) (fun c a w h => hpan c a _ _ w h) (YieldsR.read (fun w => But.refl [] w) ?_ fun w hS => ?_) ?_
  · first | kernel_rfl | go_simp
  · go_simp
  refine wpM_take (fun w => But.refl [] w) (fun x y z h k => h.trans k) (i := 4) (v := .int .i64 (kx : Nat)) rfl (by kernel_rfl) (by kernel_rfl) (by kernel_rfl) (fun c a w h => hpan c a _ _ w h) (YieldsR.read (fun w => But.refl [] w) ?_ fun w hS => ?_) ?_
  · first | kernel_rfl | go_simp
  · go_simp
  refine wpM_take (fun w => But.refl [] w) (fun x y z h k => h.trans k) (i := 5) (v := .int .i64 (S : Nat)) rfl (by kernel_rfl) (by kernel_rfl) (by kernel_rfl) (fun c a w h => hpan c a _ _ w h) (YieldsR.read (fun w => But.refl [] w) ?_ fun w hS => ?_) ?_
  · first | kernel_rfl | go_simp
  · go_simp
  refine wpM_take (fun w => But.refl [] w) (fun x y z h k => h.trans k) (i := 6) (v := .int .i64 (x : Nat)) rfl (by kernel_rfl) (by kernel_rfl) (by kernel_rfl) (fun c a w h => hpan c a _ _ w h) (YieldsR.read (fun w => But.refl [] w) ?_ fun w hS => ?_) ?_
  · first | kernel_rfl | go_simp
  · go_simp
  refine wpM_take (fun w => But.refl [] w) (fun x y z h k => h.trans k) (i := 7) (v := .int .i64 (kx : Nat)) rfl (by kernel_rfl) (by kernel_rfl) (by kernel_rfl) (fun c a w h => hpan c a _ _ w h) (YieldsR.read (fun w => But.refl [] w) ?_ fun w hS => ?_) ?_
  · first | kernel_rfl | go_simp
  · go_simp
  refine wpM_take (fun w => But.refl [] w) (fun x y z h k => h.trans k) (i := 8) (v := .int .i64 (S : Nat)) rfl (by kernel_rfl) (by kernel_rfl) (by kernel_rfl) (fun c a w h => hpan c a _ _ w h) (YieldsR.read (fun w => But.refl [] w) ?_ fun w hS => ?_) ?_
  · first | kernel_rfl | go_simp
  · go_simp
  refine wpM_take (fun w => But.refl [] w) (fun x y z h k => h.trans k) (i := 9) (v := .int .i64 (kx1 : Nat)) rfl (by kernel_rfl) (by kernel_rfl) (by kernel_rfl) (fun c a w h => hpan c a _ _ w h) (YieldsR.read (fun w => But.refl [] w) ?_ fun w hS => ?_) ?_
  · first | kernel_rfl | go_simp
  · go_simp
  refine wpM_take (fun w => But.refl [] w) (fun x y z h k => h.trans k) (i := 10) (v := .slice (some ⟨g, o + kx, none⟩) S (cv - kx)) rfl (by kernel_rfl) (by kernel_rfl) (by kernel_rfl) (fun c a w h => hpan c a _ _ w h) (YieldsR.read (fun w => But.refl [] w) ?_ fun w hS => ?_) ?_
  · first | kernel_rfl | go_simp
  · go_simp
  refine wpM_take (fun w => But.refl [] w) (fun x y z h k => h.trans k) (i := 11) (v := .tuple #[.string qs, .int .i64 er]) rfl (by kernel_rfl) (by kernel_rfl) (by kernel_rfl) (fun c a w h => hpan c a _ _ w h) (.inl ⟨?_, fun w hS => .inr ⟨_, _, ?_, (HPXx.out w (HS.out.but.trans hS.wide)).mono ?_⟩⟩) ?_
  · go_simp
  · go_simp
  · rintro e wy ⟨rfl, hB⟩; exact ⟨rfl, hS.trans hB, hB⟩
  refine wpM_take (fun w => But.refl [] w) (fun x y z h k => h.trans k) (i := 12) (v := .tuple #[.string qs, .int .i64 er]) rfl (by kernel_rfl) (by kernel_rfl) (by kernel_rfl) (fun c a w h => hpan c a _ _ w h) (YieldsR.read (fun w => But.refl [] w) ?_ fun w hS => ?_) ?_
  · first | kernel_rfl | go_simp
  · go_simp
  refine wpM_take (fun w => But.refl [] w) (fun x y z h k => h.trans k) (i := 13) (v := .string qs) rfl (by kernel_rfl) (by kernel_rfl) (by kernel_rfl) (fun c a w h => hpan c a _ _ w h) (YieldsR.read (fun w => But.refl [] w) ?_ fun w hS => ?_) ?_
  · first | kernel_rfl | go_simp
  · go_simp
  refine wpM_take (fun w => But.refl [] w) (fun x y z h k => h.trans k) (i := 14) (v := .int .i64 er) rfl (by kernel_rfl) (by kernel_rfl) (by kernel_rfl) (fun c a w h => hpan c a _ _ w h) (YieldsR.read (fun w => But.refl [] w) ?_ fun w hS => ?_) ?_
  · first | kernel_rfl | go_simp
  · go_simp
  refine wpM_take (fun w => But.refl [] w) (fun x y z h k => h.trans k) (i := 15) (v := .string qs) rfl (by kernel_rfl) (by kernel_rfl) (by kernel_rfl) (fun c a w h => hpan c a _ _ w h) (YieldsR.read (fun w => But.refl [] w) ?_ fun w hS => ?_) ?_
  · first | kernel_rfl | go_simp
  · go_simp
  refine wpM_take (fun w => But.refl [] w) (fun x y z h k => h.trans k) (i := 16) (v := .int .i64 er) rfl (by kernel_rfl) (by kernel_rfl) (by kernel_rfl) (fun c a w h => hpan c a _ _ w h) (YieldsR.read (fun w => But.refl [] w) ?_ fun w hS => ?_) ?_
  · first | kernel_rfl | go_simp
  · go_simp
  refine ⟨by kernel_rfl, fun w5 hR5 hS5 => ?_⟩
  have HX5 := Lib.hid (HS.out.blk.but hS5 (by simp))
  have HB5 := Lib.hid (HS.out.but.trans hS5.wide)
  clear hR5 hS5 ks
  go_simp
  have her : er ≠ 0 := by rw [HER.out, HPS.out]; exact he.out
  have q1 : (er != 0) = true := by simpa using her
  have HGO2 := Lib.hid (HS.out.go.trans (pixGo_stop hxl (by rw [← HPS.out, ← HER.out]; exact her)))
  have HRE := Lib.hid (HT.out.err er (by rw [HGO2.out, HER.out, HPS.out]) her)
  have HI11 := Lib.hid (HT.out.shp.butP HB5.out HT.out.off.1 HT.out.off.2.1)
  have d0 := HI11.out.2.cell 0
  have f0 := HI11.out.2.free 0
  have d1 := HI11.out.2.cell 1
  have f1 := HI11.out.2.free 1
  have d2 := HI11.out.2.cell 2
  have f2 := HI11.out.2.free 2
  have hgl4 := HI11.out.2.lt
  have HBF := Lib.hid (HT.out.hide _ HB5.out)
  have HW4 := Lib.hid HT.out.le4
  go_wp2
  exact img_ret HI11.out.2 HBF.out HW4.out (by rfl) (by rfl) 0 0 ⟨#[]⟩ (by rw [HRE.out]) (by rw [HRE.out])
set_option maxHeartbeats 1000000 in
theorem imx_go (hT : StX w wb b0 b4 gp bB n8 S nv cv y W H D C px py dx dy Wp Hp l pal tr has AV V SS ln j GO R1) (hpan : ∀ (c : List PanicEntry) (a : Act) (d : Option Tmp) (v : Value) (w : World), Q0 (.panic c) (a.put d v) w → Q0 (.panic c) a w) (hret : ∀ act w1, bodyPost Tryd.prog Tryd.f12 (fun e w' => e = .returned (.tuple #[.agg #[.int .i64 R1.1.1, .int .i64 R1.1.2.1, .string R1.1.2.2], .int .i64 R1.2]) ∧ But [] w w') Exit.ret act w1 → Q0 .ret act w1) (hS : LoX wb gp n8 Wp SS ln j GO x pix wr) (hx : Hid (x < Wp)) (he : Hid ((pixS SS (sampsL SS ln x)).2 = 0)) :
    Code.wp Tryd.prog imBodyX (Exit.then (fun act w1 => WIX wb b0 b4 gp bB n8 S nv cv y Wp AV SS ln j GO c0 c1 c3 c5 c6 c9 c10 c12 c14 c15 c16 c18 c22 c23 c24 c25 c26 c27 c28 c29 c30 c31 c32 c33 c34 c35 c36 c37 c38 c39 c40 c41 c42 c43 c44 c45 c46 c47 c48 c49 c50 c51 c52 c53 c54 c55 c56 c57 c58 c59 c60 c61 c62 c63 c64 c65 c66 c67 c68 c69 c70 c71 c72 c73 c74 c75 c76 c77 c78 c79 c80 c81 c82 c83 c84 c85 c86 c87 c88 c89 c90 c91 c92 c93 c94 c95 c96 c97 c98 c99 c100 c101 c102 c103 c104 c105 c106 c107 c108 c109 c110 c111 c112 c113 c114 c115 c165 c166 c167 c168 c169 c170 c171 c172 c173 act w1 ∧ MuX Wp act w1 < MuX Wp ⟨#[c0, c1, .pointer (some ⟨b0, 0, none⟩), c3, .pointer (some ⟨b4, 0, none⟩), c5, c6, .slice (some ⟨gp, 0, none⟩) n8 n8, .int .i64 (S : Nat), c9, c10, .pointer (some ⟨bB, 0, none⟩), c12, .int .i64 (y : Nat), c14, c15, c16, .slice AV nv cv, c18, .int .i64 (x : Nat), u20, u21, c22, c23, c24, c25, c26, c27, c28, c29, c30, c31, c32, c33, c34, c35, c36, c37, c38, c39, c40, c41, c42, c43, c44, c45, c46, c47, c48, c49, c50, c51, c52, c53, c54, c55, c56, c57, c58, c59, c60, c61, c62, c63, c64, c65, c66, c67, c68, c69, c70, c71, c72, c73, c74, c75, c76, c77, c78, c79, c80, c81, c82, c83, c84, c85, c86, c87, c88, c89, c90, c91, c92, c93, c94, c95, c96, c97, c98, c99, c100, c101, c102, c103, c104, c105, c106, c107, c108, c109, c110, c111, c112, c113, c114, c115, u116, u117, u118, u119, u120, u121, u122, u123, u124, u125, u126, u127, u128, u129, u130, u131, u132, u133, u134, u135, u136, u137, u138, u139, u140, u141, u142, u143, u144, u145, u146, u147, u148, u149, u150, u151, u152, u153, u154, u155, u156, u157, u158, u159, u160, u161, u162, u163, u164, c165, c166, c167, c168, c169, c170, c171, c172, c173], []⟩ wr) Q0) ⟨#[c0, c1, .pointer (some ⟨b0, 0, none⟩), c3, .pointer (some ⟨b4, 0, none⟩), c5, c6, .slice (some ⟨gp, 0, none⟩) n8 n8, .int .i64 (S : Nat), c9, c10, .pointer (some ⟨bB, 0, none⟩), c12, .int .i64 (y : Nat), c14, c15, c16, .slice AV nv cv, c18, .int .i64 (x : Nat), u20, u21, c22, c23, c24, c25, c26, c27, c28, c29, c30, c31, c32, c33, c34, c35, c36, c37, c38, c39, c40, c41, c42, c43, c44, c45, c46, c47, c48, c49, c50, c51, c52, c53, c54, c55, c56, c57, c58, c59, c60, c61, c62, c63, c64, c65, c66, c67, c68, c69, c70, c71, c72, c73, c74, c75, c76, c77, c78, c79, c80, c81, c82, c83, c84, c85, c86, c87, c88, c89, c90, c91, c92, c93, c94, c95, c96, c97, c98, c99, c100, c101, c102, c103, c104, c105, c106, c107, c108, c109, c110, c111, c112, c113, c114, c115, u116, u117, u118, u119, u120, u121, u122, u123, u124, u125, u126, u127, u128, u129, u130, u131, u132, u133, u134, u135, u136, u137, u138, u139, u140, u141, u142, u143, u144, u145, u146, u147, u148, u149, u150, u151, u152, u153, u154, u155, u156, u157, u158, u159, u160, u161, u162, u163, u164, c165, c166, c167, c168, c169, c170, c171, c172, c173], []⟩ wr := by
  conv => arg 2; whnf
  have HT := Lib.hid hT
  have HS := Lib.hid hS
  have HPC : Hid (∀ v, But [gp] wb v → v.cell? ⟨bB, 0, none⟩ = some (.int .i64 px) ∧ v.cell? ⟨bB, 1, none⟩ = some (.int .i64 py) ∧ v.cell? ⟨bB, 2, none⟩ = some (.int .i64 dx) ∧ v.cell? ⟨bB, 3, none⟩ = some (.int .i64 dy) ∧ v.cell? ⟨bB, 4, none⟩ = some (.int .i64 Wp) ∧ v.cell? ⟨bB, 5, none⟩ = some (.int .i64 Hp) ∧ bB < v.heap.size) := Lib.hid fun v hv => by
    have hh := HT.out.pas.but hv HT.out.off.2.2
    exact ⟨hh.cell 0, hh.cell 1, hh.cell 2, hh.cell 3, hh.cell 4, hh.cell 5, hh.lt⟩
  have wl := hT.wl
  have ww := hT.ww.1
  clear hT hS
  obtain ⟨p0, p1, p2, p3, p4, p5, hpl⟩ := HPC.out _ HS.out.but
  have hxl := hx.out
  have HSC : Hid (∀ v, But [gp] wb v → v.cell? ⟨b0, 0, none⟩ = some (.int .i64 W) ∧ v.cell? ⟨b0, 1, none⟩ = some (.int .i64 H) ∧ v.cell? ⟨b0, 2, none⟩ = some (.int .i64 D) ∧ v.cell? ⟨b0, 3, none⟩ = some (.int .i64 C) ∧ v.cell? ⟨b0, 4, none⟩ = some (.int .i64 l) ∧ v.cell? ⟨b0, 5, none⟩ = some (.string pal) ∧ v.cell? ⟨b0, 6, none⟩ = some (.string tr) ∧ v.cell? ⟨b0, 7, none⟩ = some (.bool has) ∧ b0 < v.heap.size) := Lib.hid fun v hv => by
    have hh := HT.out.shp.1.but hv HT.out.off.1
    exact ⟨hh.cell 0, hh.cell 1, hh.cell 2, hh.cell 3, hh.cell 4, hh.cell 5, hh.cell 6, hh.cell 7, hh.lt⟩
  obtain ⟨kx, hkx⟩ : ∃ z, z = S * x := ⟨_, rfl⟩
  obtain ⟨kx1, hkx1⟩ : ∃ z, z = kx + S := ⟨_, rfl⟩
  have s1 := HT.out.s1
  have s4 := HT.out.s4
  have nvl := HT.out.nvl
  have nvc := HT.out.nvc
  have ekx : (S : Int) * (x : Int) = (kx : Int) := by rw [hkx, Int.natCast_mul]
  have ekx1 : (kx : Int) + (S : Int) = (kx1 : Int) := by omega
  have hk1 : kx1 ≤ nv := by
    rw [hkx1, hkx, HT.out.nvE]
    have : S * (x + 1) ≤ S * Wp := Nat.mul_le_mul_left _ hxl
    rw [Nat.mul_add, Nat.mul_one] at this
    exact this
  have vkx := wrapI_in (show kx < 1000000000000000 by omega)
  have vkx1 := wrapI_in (show kx1 < 1000000000000000 by omega)
  obtain ⟨g, o, hA, _⟩ := HT.out.num.part (lo := kx) (k := S) (by omega) (by omega)
  subst hA
  have HN : Hid (∀ v, But [gp] wb v → Zs v (some ⟨g, o + kx, none⟩) S ((sampsL SS ln x).map fun y => ((y : Nat) : Int))) := Lib.hid fun v hv => by
    obtain ⟨g', o', e, h⟩ := (HT.out.nums v hv).part (lo := kx) (k := S) (by omega) (by omega)
    injection e with e
    injection e with e1 e2
    subst e1 e2
    rw [hkx, HT.out.cut x hxl] at h
    rw [hkx]
    exact h.zs
  have ks : ∀ v, (Instr.slice 37 (.slice (some ⟨g, o, none⟩) nv cv) (some (.int .i64 (kx : Int))) (some (.int .i64 (kx1 : Int))) none).run Tryd.prog v = .ok (.slice (some ⟨g, o + kx, none⟩) S (cv - kx)) v := fun v => by
    have h := slice_win v g o nv cv kx kx1 (by omega) (by omega)
    rw [show kx1 - kx = S by omega] at h
    exact h
  obtain ⟨ps, hps⟩ : ∃ z, z = pixS SS (sampsL SS ln x) := ⟨_, rfl⟩
  obtain ⟨qs, hqs⟩ : ∃ z, z = strL ps.1 := ⟨_, rfl⟩
  obtain ⟨er, her⟩ : ∃ z, z = ps.2 := ⟨_, rfl⟩
  have HPXx : Hid (∀ v, But [gp] wb v → Calls Tryd.prog 30 #[.agg #[.int .i64 W, .int .i64 H, .int .i64 D, .int .i64 C, .int .i64 l, .string pal, .string tr, .bool has], .slice (some ⟨g, o + kx, none⟩) S (cv - kx)] v fun r w' => r = .returned (.tuple #[.string qs, .int .i64 er]) ∧ But [] v w') := Lib.hid fun v hv => by
    have h := HT.out.pxl v (some ⟨g, o + kx, none⟩) (cv - kx) x (HN.out v hv)
    rw [← hps, ← hqs, ← her] at h
    exact h
  have HPS := Lib.hid hps
  have HQS := Lib.hid hqs
  have HER := Lib.hid her
  have i0 : (0 : Int) ≤ (x : Int) := by omega
  have i1 : (x : Int) < (Wp : Int) := by omega
  clear hps hqs her hkx hkx1
  go_upto_region 29 with (fail)
  clear p0 p1 p2 p3 p4 p5 hpl
  refine wp_region_m (S := fun v => But [] wr v) (R := fun v v' => But [] v v') (fun w => But.refl [] w) (by kernel_rfl) ((But.refl [] wr).drew) ?_
  refine wpM_take (fun w => But.refl [] w) (fun x y z h k => h.trans k) (i := 0) (v := .agg #[.int .i64 W, .int .i64 H, .int .i64 D, .int .i64 C, .int .i64 l, .string pal, .string tr, .bool has]) rfl (by kernel_rfl) (by kernel_rfl) (by kernel_rfl) (fun c a w h => hpan c a _ _ w h) (YieldsR.read (fun w => But.refl [] w) ?_ fun w hS => ?_) ?_
  · first | kernel_rfl | go_simp
  · obtain ⟨c0, c1, c2, c3, c4, c5, c6, c7, hgm⟩ := HSC.out w (HS.out.but.trans hS.wide); go_simp
  refine wpM_take (fun w => But.refl [] w) (fun x y z h k => h.trans k) (i := 1) (v := .slice (some ⟨g, o, none⟩) nv cv) rfl (by kernel_rfl) (by kernel_rfl) (by kernel_rfl) (fun c a w h => hpan c a _ _ w h) (YieldsR.read (fun w => But.refl [] w) ?_ fun w hS => ?_) ?_
  · first | kernel_rfl | go_simp
  · go_simp
  refine wpM_take (fun w => But.refl [] w) (fun x y z h k => h.trans k) (i := 2) (v := .int .i64 (S : Nat)) rfl (by kernel_rfl) (by kernel_rfl) (by kernel_rfl) (fun c a w h => hpan c a _ _ w h) (YieldsR.read (fun w => But.refl [] w) ?_ fun w hS => ?_) ?_
  · first | kernel_rfl | go_simp
  · go_simp
  refine wpM_take (fun w => But.refl [] w) (fun x y z h k => h.trans k) (i := 3) (v := .int .i64 (x : Nat)) rfl (by kernel_rfl) (by kernel_rfl) (by kernel_rfl) (fun c a w h => hpan c a _ _ w h) (YieldsR.read (fun w => But.refl [] w) ?_ fun w hS => ?_) ?_
  · first | kernel_rfl | go_simp
  · go_simp
  refine wpM_take (fun w => But.refl [] w) (fun x y z h k => h.trans k) (i := 4) (v := .int .i64 (kx : Nat)) rfl (by kernel_rfl) (by kernel_rfl) (by kernel_rfl) (fun c a w h => hpan c a _ _ w h) (YieldsR.read (fun w => But.refl [] w) ?_ fun w hS => ?_) ?_
  · first | kernel_rfl | go_simp
  · go_simp
  refine wpM_take (fun w => But.refl [] w) (fun x y z h k => h.trans k) (i := 5) (v := .int .i64 (S : Nat)) rfl (by kernel_rfl) (by kernel_rfl) (by kernel_rfl) (fun c a w h => hpan c a _ _ w h) (YieldsR.read (fun w => But.refl [] w) ?_ fun w hS => ?_) ?_
  · first | kernel_rfl | go_simp
  · go_simp
  refine wpM_take (fun w => But.refl [] w) (fun x y z h k => h.trans k) (i := 6) (v := .int .i64 (x : Nat)) rfl (by kernel_rfl) (by kernel_rfl) (by kernel_rfl) (fun c a w h => hpan c a _ _ w h) (YieldsR.read (fun w => But.refl [] w) ?_ fun w hS => ?_) ?_
  · first | kernel_rfl | go_simp
  · go_simp
  refine wpM_take (fun w => But.refl [] w) (fun x y z h k => h.trans k) (i := 7) (v := .int .i64 (kx : Nat)) rfl (by kernel_rfl) (by kernel_rfl) (by kernel_rfl) (fun c a w h => hpan c a _ _ w h) (YieldsR.read (fun w => But.refl [] w) ?_ fun w hS => ?_) ?_
  · first | kernel_rfl | go_simp
  · go_simp
  refine wpM_take (fun w => But.refl [] w) (fun x y z h k => h.trans k) (i := 8) (v := .int .i64 (S : Nat)) rfl (by kernel_rfl) (by kernel_rfl) (by kernel_rfl) (fun c a w h => hpan c a _ _ w h) (YieldsR.read (fun w => But.refl [] w) ?_ fun w hS => ?_) ?_
  · first | kernel_rfl | go_simp
  · go_simp
  refine wpM_take (fun w => But.refl [] w) (fun x y z h k => h.trans k) (i := 9) (v := .int .i64 (kx1 : Nat)) rfl (by kernel_rfl) (by kernel_rfl) (by kernel_rfl) (fun c a w h => hpan c a _ _ w h) (YieldsR.read (fun w => But.refl [] w) ?_ fun w hS => ?_) ?_
  · first | kernel_rfl | go_simp
  · go_simp
  refine wpM_take (fun w => But.refl [] w) (fun x y z h k => h.trans k) (i := 10) (v := .slice (some ⟨g, o + kx, none⟩) S (cv - kx)) rfl (by kernel_rfl) (by kernel_rfl) (by kernel_rfl) (fun c a w h => hpan c a _ _ w h) (YieldsR.read (fun w => But.refl [] w) ?_ fun w hS => ?_) ?_
  · first | kernel_rfl | go_simp
  · go_simp
  refine wpM_take (fun w => But.refl [] w) (fun x y z h k => h.trans k) (i := 11) (v := .tuple #[.string qs, .int .i64 er]) rfl (by kernel_rfl) (by kernel_rfl) (by kernel_rfl) (fun c a w h => hpan c a _ _ w h) (.inl ⟨?_, fun w hS => .inr ⟨_, _, ?_, (HPXx.out w (HS.out.but.trans hS.wide)).mono ?_⟩⟩) ?_
  · go_simp
  · go_simp
  · rintro e wy ⟨rfl, hB⟩; exact ⟨rfl, hS.trans hB, hB⟩
  refine wpM_take (fun w => But.refl [] w) (fun x y z h k => h.trans k) (i := 12) (v := .tuple #[.string qs, .int .i64 er]) rfl (by kernel_rfl) (by kernel_rfl) (by kernel_rfl) (fun c a w h => hpan c a _ _ w h) (YieldsR.read (fun w => But.refl [] w) ?_ fun w hS => ?_) ?_
  · first | kernel_rfl | go_simp
  · go_simp
  refine wpM_take (fun w => But.refl [] w) (fun x y z h k => h.trans k) (i := 13) (v := .string qs) rfl (by kernel_rfl) (by kernel_rfl) (by kernel_rfl) (fun c a w h => hpan c a _ _ w h) (YieldsR.read (fun w => But.refl [] w) ?_ fun w hS => ?_) ?_
  · first | kernel_rfl | go_simp
  · go_simp
  refine wpM_take (fun w => But.refl [] w) (fun x y z h k => h.trans k) (i := 14) (v := .int .i64 er) rfl (by kernel_rfl) (by kernel_rfl) (by kernel_rfl) (fun c a w h => hpan c a _ _ w h) (YieldsR.read (fun w => But.refl [] w) ?_ fun w hS => ?_) ?_
  · first | kernel_rfl | go_simp
  · go_simp
  refine wpM_take (fun w => But.refl [] w) (fun x y z h k => h.trans k) (i := 15) (v := .string qs) rfl (by kernel_rfl) (by kernel_rfl) (by kernel_rfl) (fun c a w h => hpan c a _ _ w h) (YieldsR.read (fun w => But.refl [] w) ?_ fun w hS => ?_) ?_
  · first | kernel_rfl | go_simp
  · go_simp
  refine wpM_take (fun w => But.refl [] w) (fun x y z h k => h.trans k) (i := 16) (v := .int .i64 er) rfl (by kernel_rfl) (by kernel_rfl) (by kernel_rfl) (fun c a w h => hpan c a _ _ w h) (YieldsR.read (fun w => But.refl [] w) ?_ fun w hS => ?_) ?_
  · first | kernel_rfl | go_simp
  · go_simp
  refine ⟨by kernel_rfl, fun w5 hR5 hS5 => ?_⟩
  have HX5 := Lib.hid (HS.out.blk.but hS5 (by simp))
  have HB5 := Lib.hid (HS.out.but.trans hS5.wide)
  clear hR5 hS5 ks
  go_simp
  have her : er = 0 := by rw [HER.out, HPS.out]; exact he.out
  subst her
  have HGO2 := Lib.hid (HS.out.go.trans (pixGo_step hxl (by rw [← HPS.out, ← HER.out])))
  have h8 : ps.1.length = 8 := by
    rcases pixS_cases SS (sampsL SS ln x) with h | h
    · rw [HPS.out]; exact h.2
    · have h9 := HER.out; rw [HPS.out, h] at h9; exact absurd h9 (by decide)
  have hq8 : qs.size = 8 := by rw [HQS.out, strL_size, h8]
  obtain ⟨yd, hyd⟩ : ∃ z, z = y * dy := ⟨_, rfl⟩
  have eyd : (y : Int) * (dy : Int) = (yd : Int) := by rw [hyd, Int.natCast_mul]
  obtain ⟨yy, hyy⟩ : ∃ z, z = py + yd := ⟨_, rfl⟩
  have eyy : (py : Int) + (yd : Int) = (yy : Int) := by rw [hyy]; omega
  have hyl : yy < H := by have h := (HT.out.pl x hxl).2; omega
  obtain ⟨xd, hxd⟩ : ∃ z, z = x * dx := ⟨_, rfl⟩
  have exd : (x : Int) * (dx : Int) = (xd : Int) := by rw [hxd, Int.natCast_mul]
  have hxxl : px + xd < W := by have h := (HT.out.pl x hxl).1; omega
  obtain ⟨yw, hyw⟩ : ∃ z, z = yy * W := ⟨_, rfl⟩
  have eyw : (yy : Int) * (W : Int) = (yw : Int) := by rw [hyw, Int.natCast_mul]
  obtain ⟨a1, ha1⟩ : ∃ z, z = yw + px := ⟨_, rfl⟩
  have ea1 : (yw : Int) + (px : Int) = (a1 : Int) := by rw [ha1]; omega
  obtain ⟨a2, ha2⟩ : ∃ z, z = a1 + xd := ⟨_, rfl⟩
  have ea2 : (a1 : Int) + (xd : Int) = (a2 : Int) := by rw [ha2]; omega
  obtain ⟨k, hk⟩ : ∃ z, z = 8 * a2 := ⟨_, rfl⟩
  have ek : (8 : Int) * (a2 : Int) = (k : Int) := by omega
  have hroom : k + 8 ≤ n8 := by
    have h := place_room hxxl hyl HT.out.n8E
    rw [hk, ha2, ha1, hyw]
    omega
  have hn8 : n8 ≤ 32768 := by have h1 := HT.out.n8E; have h2 := HT.out.ww.2.2; omega
  have vyd := wrapI_in (show yd < 1000000000000000 by have := HT.out.ww.2.1; omega)
  have vyy := wrapI_in (show yy < 1000000000000000 by have := HT.out.ww.2.1; omega)
  have vxd := wrapI_in (show xd < 1000000000000000 by omega)
  have vyw := wrapI_in (show yw < 1000000000000000 by omega)
  have va1 := wrapI_in (show a1 < 1000000000000000 by omega)
  have va2 := wrapI_in (show a2 < 1000000000000000 by omega)
  have vk := wrapI_in (show k < 1000000000000000 by omega)
  have HK : Hid (k = 8 * (j.y * SS.w + (j.x + x * j.dx))) := Lib.hid (by
    rw [hk, ha2, ha1, hyw, hyy, hyd, hxd, HT.out.jj.2.2.2, HT.out.jj.2.1, HT.out.jj.2.2.1, HT.out.ssw, Nat.add_assoc])
  have kf := fun v => slice_fromB v gp n8 k (by omega)
  have HSL : Hid (setN pix k qs.data.toList = setN pix (8 * (j.y * SS.w + (j.x + x * j.dx))) (pixS SS (sampsL SS ln x)).1) := Lib.hid (by rw [HK.out, HQS.out, strL_list, HPS.out])
  have HQ8 := Lib.hid hq8
  clear hyd hyy hxd hyw ha1 ha2 hk h8 hq8 hxl hx he
  obtain ⟨p0, p1, p2, p3, p4, p5, hpl⟩ := HPC.out _ HB5.out
  obtain ⟨c0, c1, c2, c3, c4, c5, c6, c7, hgl⟩ := HSC.out _ HB5.out
  obtain ⟨w7, hcp, hX7, hB7⟩ := run_copyB (k := k) (dLen := n8 - k) (dCap := n8 - k) (s := qs) HX5.out (by rw [HQ8.out]; omega) (by rw [HQ8.out, HS.out.pl]; exact hroom) 3
  have HX7 := Lib.hid hX7
  have HB7 := Lib.hid hB7
  clear hX7 hB7
  rw [HSL.out] at HX7
  have HB8 := Lib.hid (HB5.out.trans HB7.out)
  have HPL8 : Hid ((setN pix (8 * (j.y * SS.w + (j.x + x * j.dx))) (pixS SS (sampsL SS ln x)).1).length = n8) := Lib.hid (by
    rw [← HSL.out, setN_length (by rw [Array.length_toList]; show _ + qs.size ≤ _; rw [HQ8.out, HS.out.pl]; exact hroom), HS.out.pl])
  clear HB7
  go_wp2
  refine ⟨?_, ?_⟩
  · unfold WIX
    exact ⟨_, _, _, _, _, _, _, _, _, _, _, _, _, _, _, _, _, _, _, _, _, _, _, _, _, _, _, _, _, _, _, _, _, _, _, _, _, _, _, _, _, _, _, _, _, _, _, _, _, _, _, x + 1, _, ⟨by omega, HGO2.out, HPL8.out, HX7.out, HB8.out⟩, rfl⟩
  · show Wp - (intOf (.int .i64 ((x : Int) + 1))).toNat < Wp - (intOf (.int .i64 (x : Int))).toNat
    simp [intOf]; omega
theorem imx_round {act : Act} (hT : StX w wb b0 b4 gp bB n8 S nv cv y W H D C px py dx dy Wp Hp l pal tr has AV V SS ln j GO R1) (hpan : ∀ (c : List PanicEntry) (a : Act) (d : Option Tmp) (v : Value) (w : World), Q0 (.panic c) (a.put d v) w → Q0 (.panic c) a w) (hret : ∀ act w1, bodyPost Tryd.prog Tryd.f12 (fun e w' => e = .returned (.tuple #[.agg #[.int .i64 R1.1.1, .int .i64 R1.1.2.1, .string R1.1.2.2], .int .i64 R1.2]) ∧ But [] w w') Exit.ret act w1 → Q0 .ret act w1) (hexit : ∀ act w1, WXX wb b0 b4 gp bB n8 S nv cv y Wp AV SS ln j GO c0 c1 c3 c5 c6 c9 c10 c12 c14 c15 c16 c18 c22 c23 c24 c25 c26 c27 c28 c29 c30 c31 c32 c33 c34 c35 c36 c37 c38 c39 c40 c41 c42 c43 c44 c45 c46 c47 c48 c49 c50 c51 c52 c53 c54 c55 c56 c57 c58 c59 c60 c61 c62 c63 c64 c65 c66 c67 c68 c69 c70 c71 c72 c73 c74 c75 c76 c77 c78 c79 c80 c81 c82 c83 c84 c85 c86 c87 c88 c89 c90 c91 c92 c93 c94 c95 c96 c97 c98 c99 c100 c101 c102 c103 c104 c105 c106 c107 c108 c109 c110 c111 c112 c113 c114 c115 c165 c166 c167 c168 c169 c170 c171 c172 c173 act w1 → Q0 (.exit 4) act w1) (hI : WIX wb b0 b4 gp bB n8 S nv cv y Wp AV SS ln j GO c0 c1 c3 c5 c6 c9 c10 c12 c14 c15 c16 c18 c22 c23 c24 c25 c26 c27 c28 c29 c30 c31 c32 c33 c34 c35 c36 c37 c38 c39 c40 c41 c42 c43 c44 c45 c46 c47 c48 c49 c50 c51 c52 c53 c54 c55 c56 c57 c58 c59 c60 c61 c62 c63 c64 c65 c66 c67 c68 c69 c70 c71 c72 c73 c74 c75 c76 c77 c78 c79 c80 c81 c82 c83 c84 c85 c86 c87 c88 c89 c90 c91 c92 c93 c94 c95 c96 c97 c98 c99 c100 c101 c102 c103 c104 c105 c106 c107 c108 c109 c110 c111 c112 c113 c114 c115 c165 c166 c167 c168 c169 c170 c171 c172 c173 act wr) :
    Code.wp Tryd.prog imBodyX (Exit.then (fun act' w1 => WIX wb b0 b4 gp bB n8 S nv cv y Wp AV SS ln j GO c0 c1 c3 c5 c6 c9 c10 c12 c14 c15 c16 c18 c22 c23 c24 c25 c26 c27 c28 c29 c30 c31 c32 c33 c34 c35 c36 c37 c38 c39 c40 c41 c42 c43 c44 c45 c46 c47 c48 c49 c50 c51 c52 c53 c54 c55 c56 c57 c58 c59 c60 c61 c62 c63 c64 c65 c66 c67 c68 c69 c70 c71 c72 c73 c74 c75 c76 c77 c78 c79 c80 c81 c82 c83 c84 c85 c86 c87 c88 c89 c90 c91 c92 c93 c94 c95 c96 c97 c98 c99 c100 c101 c102 c103 c104 c105 c106 c107 c108 c109 c110 c111 c112 c113 c114 c115 c165 c166 c167 c168 c169 c170 c171 c172 c173 act' w1 ∧ MuX Wp act' w1 < MuX Wp act wr) Q0) act wr := by
  unfold WIX at hI
  cases hI with
  | intro u20 hI =>
  cases hI with
  | intro u21 hI =>
  cases hI with
  | intro u116 hI =>
  cases hI with
  | intro u117 hI =>
  cases hI with
  | intro u118 hI =>
  cases hI with
  | intro u119 hI =>
  cases hI with
  | intro u120 hI =>
  cases hI with
  | intro u121 hI =>
  cases hI with
  | intro u122 hI =>
  cases hI with
  | intro u123 hI =>
  cases hI with
  | intro u124 hI =>
  cases hI with
  | intro u125 hI =>
  cases hI with
  | intro u126 hI =>
  cases hI with
  | intro u127 hI =>
  cases hI with
  | intro u128 hI =>
  cases hI with
  | intro u129 hI =>
  cases hI with
  | intro u130 hI =>
  cases hI with
  | intro u131 hI =>
  cases hI with
  | intro u132 hI =>
  cases hI with
  | intro u133 hI =>
  cases hI with
  | intro u134 hI =>
  cases hI with
  | intro u135 hI =>
  cases hI with
  | intro u136 hI =>
  cases hI with
  | intro u137 hI =>
  cases hI with
  | intro u138 hI =>
  cases hI with
  | intro u139 hI =>
  cases hI with
  | intro u140 hI =>
  cases hI with
  | intro u141 hI =>
  cases hI with
  | intro u142 hI =>
  cases hI with
  | intro u143 hI =>
  cases hI with
  | intro u144 hI =>
  cases hI with
  | intro u145 hI =>
  cases hI with
  | intro u146 hI =>
  cases hI with
  | intro u147 hI =>
  cases hI with
  | intro u148 hI =>
  cases hI with
  | intro u149 hI =>
  cases hI with
  | intro u150 hI =>
  cases hI with
  | intro u151 hI =>
  cases hI with
  | intro u152 hI =>
  cases hI with
  | intro u153 hI =>
  cases hI with
  | intro u154 hI =>
  cases hI with
  | intro u155 hI =>
  cases hI with
  | intro u156 hI =>
  cases hI with
  | intro u157 hI =>
  cases hI with
  | intro u158 hI =>
  cases hI with
  | intro u159 hI =>
  cases hI with
  | intro u160 hI =>
  cases hI with
  | intro u161 hI =>
  cases hI with
  | intro u162 hI =>
  cases hI with
  | intro u163 hI =>
  cases hI with
  | intro u164 hI =>
  cases hI with
  | intro x hI =>
  cases hI with
  | intro pix hI =>
  have hS := hI.1
  have he := hI.2
  subst he
  by_cases hx : x < Wp
  · by_cases he : (pixS SS (sampsL SS ln x)).2 = 0
    · exact imx_go hT hpan hret hS (Lib.hid hx) (Lib.hid he)
    · exact imx_err hT hpan hret hS (Lib.hid hx) (Lib.hid he)
  · exact imx_end hT hpan hret hS (Lib.hid hx) hexit
/-- The loop. -/
theorem imx_loop (hT : StX w wb b0 b4 gp bB n8 S nv cv y W H D C px py dx dy Wp Hp l pal tr has AV V SS ln j GO R1) (hpan : ∀ (c : List PanicEntry) (a : Act) (d : Option Tmp) (v : Value) (w : World), Q0 (.panic c) (a.put d v) w → Q0 (.panic c) a w) (hret : ∀ act w1, bodyPost Tryd.prog Tryd.f12 (fun e w' => e = .returned (.tuple #[.agg #[.int .i64 R1.1.1, .int .i64 R1.1.2.1, .string R1.1.2.2], .int .i64 R1.2]) ∧ But [] w w') Exit.ret act w1 → Q0 .ret act w1) (hexit : ∀ act w1, WXX wb b0 b4 gp bB n8 S nv cv y Wp AV SS ln j GO c0 c1 c3 c5 c6 c9 c10 c12 c14 c15 c16 c18 c22 c23 c24 c25 c26 c27 c28 c29 c30 c31 c32 c33 c34 c35 c36 c37 c38 c39 c40 c41 c42 c43 c44 c45 c46 c47 c48 c49 c50 c51 c52 c53 c54 c55 c56 c57 c58 c59 c60 c61 c62 c63 c64 c65 c66 c67 c68 c69 c70 c71 c72 c73 c74 c75 c76 c77 c78 c79 c80 c81 c82 c83 c84 c85 c86 c87 c88 c89 c90 c91 c92 c93 c94 c95 c96 c97 c98 c99 c100 c101 c102 c103 c104 c105 c106 c107 c108 c109 c110 c111 c112 c113 c114 c115 c165 c166 c167 c168 c169 c170 c171 c172 c173 act w1 → Q0 (.exit 4) act w1) (hS : LoX wb gp n8 Wp SS ln j GO x pix wr) :
    Code.wp Tryd.prog (Code.loop imBodyX) Q0 ⟨#[c0, c1, .pointer (some ⟨b0, 0, none⟩), c3, .pointer (some ⟨b4, 0, none⟩), c5, c6, .slice (some ⟨gp, 0, none⟩) n8 n8, .int .i64 (S : Nat), c9, c10, .pointer (some ⟨bB, 0, none⟩), c12, .int .i64 (y : Nat), c14, c15, c16, .slice AV nv cv, c18, .int .i64 (x : Nat), u20, u21, c22, c23, c24, c25, c26, c27, c28, c29, c30, c31, c32, c33, c34, c35, c36, c37, c38, c39, c40, c41, c42, c43, c44, c45, c46, c47, c48, c49, c50, c51, c52, c53, c54, c55, c56, c57, c58, c59, c60, c61, c62, c63, c64, c65, c66, c67, c68, c69, c70, c71, c72, c73, c74, c75, c76, c77, c78, c79, c80, c81, c82, c83, c84, c85, c86, c87, c88, c89, c90, c91, c92, c93, c94, c95, c96, c97, c98, c99, c100, c101, c102, c103, c104, c105, c106, c107, c108, c109, c110, c111, c112, c113, c114, c115, u116, u117, u118, u119, u120, u121, u122, u123, u124, u125, u126, u127, u128, u129, u130, u131, u132, u133, u134, u135, u136, u137, u138, u139, u140, u141, u142, u143, u144, u145, u146, u147, u148, u149, u150, u151, u152, u153, u154, u155, u156, u157, u158, u159, u160, u161, u162, u163, u164, c165, c166, c167, c168, c169, c170, c171, c172, c173], []⟩ wr := by
  refine wp_loop (WIX wb b0 b4 gp bB n8 S nv cv y Wp AV SS ln j GO c0 c1 c3 c5 c6 c9 c10 c12 c14 c15 c16 c18 c22 c23 c24 c25 c26 c27 c28 c29 c30 c31 c32 c33 c34 c35 c36 c37 c38 c39 c40 c41 c42 c43 c44 c45 c46 c47 c48 c49 c50 c51 c52 c53 c54 c55 c56 c57 c58 c59 c60 c61 c62 c63 c64 c65 c66 c67 c68 c69 c70 c71 c72 c73 c74 c75 c76 c77 c78 c79 c80 c81 c82 c83 c84 c85 c86 c87 c88 c89 c90 c91 c92 c93 c94 c95 c96 c97 c98 c99 c100 c101 c102 c103 c104 c105 c106 c107 c108 c109 c110 c111 c112 c113 c114 c115 c165 c166 c167 c168 c169 c170 c171 c172 c173) (MuX Wp) ?_ (fun act w1 hI => imx_round hT hpan hret hexit hI)
  unfold WIX
  exact ⟨_, _, _, _, _, _, _, _, _, _, _, _, _, _, _, _, _, _, _, _, _, _, _, _, _, _, _, _, _, _, _, _, _, _, _, _, _, _, _, _, _, _, _, _, _, _, _, _, _, _, _, x, pix, hS, rfl⟩
/-- The end of the loop, laid open. -/
theorem wxx_open {act : Act} {G : Act → World → Prop} (hX : WXX wb b0 b4 gp bB n8 S nv cv y Wp AV SS ln j GO c0 c1 c3 c5 c6 c9 c10 c12 c14 c15 c16 c18 c22 c23 c24 c25 c26 c27 c28 c29 c30 c31 c32 c33 c34 c35 c36 c37 c38 c39 c40 c41 c42 c43 c44 c45 c46 c47 c48 c49 c50 c51 c52 c53 c54 c55 c56 c57 c58 c59 c60 c61 c62 c63 c64 c65 c66 c67 c68 c69 c70 c71 c72 c73 c74 c75 c76 c77 c78 c79 c80 c81 c82 c83 c84 c85 c86 c87 c88 c89 c90 c91 c92 c93 c94 c95 c96 c97 c98 c99 c100 c101 c102 c103 c104 c105 c106 c107 c108 c109 c110 c111 c112 c113 c114 c115 c165 c166 c167 c168 c169 c170 c171 c172 c173 act wr)
    (k : ∀ (u20 u21 u116 u117 u118 u119 u120 u121 u122 u123 u124 u125 u126 u127 u128 u129 u130 u131 u132 u133 u134 u135 u136 u137 u138 u139 u140 u141 u142 u143 u144 u145 u146 u147 u148 u149 u150 u151 u152 u153 u154 u155 u156 u157 u158 u159 u160 u161 u162 u163 u164 : Value) (pix : List UInt8), (GO = (pix, 0) ∧ pix.length = n8 ∧ BytesB wr gp pix ∧ But [gp] wb wr) → G ⟨#[c0, c1, .pointer (some ⟨b0, 0, none⟩), c3, .pointer (some ⟨b4, 0, none⟩), c5, c6, .slice (some ⟨gp, 0, none⟩) n8 n8, .int .i64 (S : Nat), c9, c10, .pointer (some ⟨bB, 0, none⟩), c12, .int .i64 (y : Nat), c14, c15, c16, .slice AV nv cv, c18, .int .i64 (Wp : Nat), u20, u21, c22, c23, c24, c25, c26, c27, c28, c29, c30, c31, c32, c33, c34, c35, c36, c37, c38, c39, c40, c41, c42, c43, c44, c45, c46, c47, c48, c49, c50, c51, c52, c53, c54, c55, c56, c57, c58, c59, c60, c61, c62, c63, c64, c65, c66, c67, c68, c69, c70, c71, c72, c73, c74, c75, c76, c77, c78, c79, c80, c81, c82, c83, c84, c85, c86, c87, c88, c89, c90, c91, c92, c93, c94, c95, c96, c97, c98, c99, c100, c101, c102, c103, c104, c105, c106, c107, c108, c109, c110, c111, c112, c113, c114, c115, u116, u117, u118, u119, u120, u121, u122, u123, u124, u125, u126, u127, u128, u129, u130, u131, u132, u133, u134, u135, u136, u137, u138, u139, u140, u141, u142, u143, u144, u145, u146, u147, u148, u149, u150, u151, u152, u153, u154, u155, u156, u157, u158, u159, u160, u161, u162, u163, u164, c165, c166, c167, c168, c169, c170, c171, c172, c173], []⟩ wr) : G act wr := by
  unfold WXX at hX
  cases hX with
  | intro u20 hX =>
  cases hX with
  | intro u21 hX =>
  cases hX with
  | intro u116 hX =>
  cases hX with
  | intro u117 hX =>
  cases hX with
  | intro u118 hX =>
  cases hX with
  | intro u119 hX =>
  cases hX with
  | intro u120 hX =>
  cases hX with
  | intro u121 hX =>
  cases hX with
  | intro u122 hX =>
  cases hX with
  | intro u123 hX =>
  cases hX with
  | intro u124 hX =>
  cases hX with
  | intro u125 hX =>
  cases hX with
  | intro u126 hX =>
  cases hX with
  | intro u127 hX =>
  cases hX with
  | intro u128 hX =>
  cases hX with
  | intro u129 hX =>
  cases hX with
  | intro u130 hX =>
  cases hX with
  | intro u131 hX =>
  cases hX with
  | intro u132 hX =>
  cases hX with
  | intro u133 hX =>
  cases hX with
  | intro u134 hX =>
  cases hX with
  | intro u135 hX =>
  cases hX with
  | intro u136 hX =>
  cases hX with
  | intro u137 hX =>
  cases hX with
  | intro u138 hX =>
  cases hX with
  | intro u139 hX =>
  cases hX with
  | intro u140 hX =>
  cases hX with
  | intro u141 hX =>
  cases hX with
  | intro u142 hX =>
  cases hX with
  | intro u143 hX =>
  cases hX with
  | intro u144 hX =>
  cases hX with
  | intro u145 hX =>
  cases hX with
  | intro u146 hX =>
  cases hX with
  | intro u147 hX =>
  cases hX with
  | intro u148 hX =>
  cases hX with
  | intro u149 hX =>
  cases hX with
  | intro u150 hX =>
  cases hX with
  | intro u151 hX =>
  cases hX with
  | intro u152 hX =>
  cases hX with
  | intro u153 hX =>
  cases hX with
  | intro u154 hX =>
  cases hX with
  | intro u155 hX =>
  cases hX with
  | intro u156 hX =>
  cases hX with
  | intro u157 hX =>
  cases hX with
  | intro u158 hX =>
  cases hX with
  | intro u159 hX =>
  cases hX with
  | intro u160 hX =>
  cases hX with
  | intro u161 hX =>
  cases hX with
  | intro u162 hX =>
  cases hX with
  | intro u163 hX =>
  cases hX with
  | intro u164 hX =>
  cases hX with
  | intro pix hX =>
  have he := hX.2
  subst he
  exact k _ _ _ _ _ _ _ _ _ _ _ _ _ _ _ _ _ _ _ _ _ _ _ _ _ _ _ _ _ _ _ _ _ _ _ _ _ _ _ _ _ _ _ _ _ _ _ _ _ _ _ pix hX.1
end
end Go.Proofs.YtfiedoejdikcgaaDoor
