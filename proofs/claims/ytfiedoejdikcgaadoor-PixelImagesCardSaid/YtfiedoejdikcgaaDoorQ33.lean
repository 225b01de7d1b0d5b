/- Several texts in one: PxE (what PixelImages reach of them). -/
import Derived.Test.YtfiedoejdikcgaaDoorQ01
import Derived.Test.YtfiedoejdikcgaaDoorQ02
import Derived.Test.YtfiedoejdikcgaaDoorQ03
import Derived.Test.YtfiedoejdikcgaaDoorQ05
import Derived.Test.YtfiedoejdikcgaaDoorQ06
import Derived.Test.YtfiedoejdikcgaaDoorQ07
import Derived.Test.YtfiedoejdikcgaaDoorQ08
import Derived.Test.YtfiedoejdikcgaaDoorQ09
import Derived.Test.YtfiedoejdikcgaaDoorQ12
import Derived.Test.YtfiedoejdikcgaaDoorQ17
import Derived.Test.YtfiedoejdikcgaaDoorQ28
import Derived.Test.YtfiedoejdikcgaaDoorQ29
import Derived.Test.YtfiedoejdikcgaaDoorQ31
import Derived.Test.YtfiedoejdikcgaaDoorQ32
import Derived.Below
import Derived.BigQuiet
import Derived.BigRegion
import Derived.Deep.AppendLies
import Derived.Deep.CutBlock
import Derived.Deep.CutRange
import Derived.Deep.DeepCutAuto
import Derived.Deep.Draws
import Derived.Deep.QuietTactic
import Derived.Deep.RegionLaw
import Derived.Deep.RegionWith
import Derived.Handy
import Derived.Laws.BitsAllLaws
import Derived.Laws.BitsLemmas
import Derived.Laws.BytesArg
import Derived.Laws.IdiomStrings
import Derived.Laws.MakeOwn
import Derived.Laws.OwnMore
import Derived.Laws.Rows
import Derived.Laws.StructEq
import Derived.Lib.BufferWrite
import Derived.Lib.Hide
import Derived.LoopIn
import Derived.LoopNIn
import Derived.Maps.AppendAt
import Derived.OrdersHeld
import Derived.OrdersIn
import Derived.Outline
import Derived.OwnWalk
import Derived.OwnWalkIn
import Derived.RangeFuncBound
import Derived.RangeFuncCalls
import Derived.RangeFuncLeaves
import Derived.RangeFuncNested
import Derived.RegionTactic
import Derived.Shelf.Abstract
import Derived.Shelf.RegionOpen
import Derived.Sort.CutIn
import Derived.TacticsInMore
import Derived.Test.YtfiedoejdikcgaaDoorChecked
import Derived.WalkKit
set_option maxRecDepth 100000
set_option linter.unusedVariables false
set_option maxRecDepth 1000000
set_option linter.unusedVariables false
namespace Go.Proofs.YtfiedoejdikcgaaDoor
set_option maxRecDepth 100000
open Go Go.RowKit
/-- What stands throughout a pass. -/
structure StY (w w9 : World) (b0 b4 gp bB n8 S n bp W H D C px py dx dy Wp Hp : Nat) (l : Int) (pal tr : ByteArray) (has : Bool) (SS : ShP) (p : PassL) (JS : List RowJ) (IM : List UInt8 × Int) (R1 : (Int × Int × ByteArray) × Int) : Prop where
  shp : ImS b0 b4 #[.int .i64 W, .int .i64 H, .int .i64 D, .int .i64 C, .int .i64 l, .string pal, .string tr, .bool has] w9
  pas : Is w9 bB 52 #[.int .i64 px, .int .i64 py, .int .i64 dx, .int .i64 dy, .int .i64 Wp, .int .i64 Hp]
  off : b0 ∉ [gp] ∧ b4 ∉ [gp] ∧ bB ∉ [gp]
  le4 : w.heap.size ≤ b4
  hide : ∀ v, But [gp] w9 v → But [] w v
  s1 : 1 ≤ S
  s4 : S ≤ 4
  wl : Wp ≤ 1024
  hl : Hp ≤ 1024
  wl1 : 1 ≤ Wp
  ww : W ≤ 1024 ∧ H ≤ 1024 ∧ W * H ≤ 4096
  n8E : n8 = 8 * (W * H)
  ssw : SS.w = W
  nE : n = rowLen SS Wp
  nl : n ≤ 8192
  bE : bppN SS = bp
  b1 : 1 ≤ bp
  b8 : bp ≤ 8
  row : ∀ v, Calls Tryd.prog 26 #[.agg #[.int .i64 W, .int .i64 H, .int .i64 D, .int .i64 C, .int .i64 l], .int .i64 (Wp : Nat)] v fun e w' => e = .returned (.int .i64 (n : Nat)) ∧ But [] v w'
  byt : ∀ v, Calls Tryd.prog 28 #[.agg #[.int .i64 W, .int .i64 H, .int .i64 D, .int .i64 C, .int .i64 l]] v fun e w' => e = .returned (.int .i64 (bp : Nat)) ∧ But [] v w'
  unp : ∀ (v : World) (ln : List UInt8), ln.length = n → Calls Tryd.prog 29 #[.string (strL ln), .int .i64 D, .int .i64 ((S * Wp : Nat) : Int)] v fun e w' => ∃ A cap, e = .returned (.tuple #[.slice A (S * Wp) cap, .int .i64 0]) ∧ Nums w' A (S * Wp) (unpackT ln D (S * Wp)) ∧ S * Wp ≤ cap ∧ But [] v w'
  cut : ∀ (ln : List UInt8) x, x < Wp → ((unpackT ln D (S * Wp)).drop (S * x)).take S = sampsL SS ln x
  pxl : ∀ (v : World) (A : Option Addr) (cp : Nat) (ln : List UInt8) (x : Nat), Zs v A S ((sampsL SS ln x).map fun y => ((y : Nat) : Int)) → Calls Tryd.prog 30 #[.agg #[.int .i64 W, .int .i64 H, .int .i64 D, .int .i64 C, .int .i64 l, .string pal, .string tr, .bool has], .slice A S cp] v fun r w' => r = .returned (.tuple #[.string (strL (pixS SS (sampsL SS ln x)).1), .int .i64 (pixS SS (sampsL SS ln x)).2]) ∧ But [] v w'
  pl : ∀ y, y < Hp → ∀ x, x < Wp → px + x * dx < W ∧ py + y * dy < H
  job : ∀ y, (jobP W p y).n = Wp ∧ (jobP W p y).x = px ∧ (jobP W p y).dx = dx ∧ (jobP W p y).y = py + y * dy ∧ ((jobP W p y).first = true ↔ y = 0)
  nxt : ∀ y, y < Hp → leftP W H p y ++ JS = jobP W p y :: (leftP W H p (y + 1) ++ JS)
  stop : ∀ y, Hp ≤ y → leftP W H p y ++ JS = JS
  err : ∀ e, IM = ([], e) → e ≠ 0 → R1 = ((0, 0, ⟨#[]⟩), e)
/-- What holds ahead of each row. -/
structure LoY (w9 : World) (gp n8 n W H Hp : Nat) (SS : ShP) (p : PassL) (JS : List RowJ) (IM : List UInt8 × Int) (y : Nat) (re ab : ByteArray) (pix : List UInt8) (wr : World) : Prop where
  le : y ≤ Hp
  lf : LeftS IM SS (leftP W H p y ++ JS) n n8 (y = 0) re ab pix
  blk : BytesB wr gp pix
  but : But [gp] w9 wr
def MuY (n : Nat) (a : Act) (_ : World) : Nat := n - (intOf (a.tmps.getD 13 undef)).toNat
def WIY (w9 : World) (b0 b4 gp bB n8 S n W H Hp : Nat) (SS : ShP) (p : PassL) (JS : List RowJ) (IM : List UInt8 × Int) (c0 c3 c5 c6 c9 c10 c22 c23 c24 c25 c26 c27 c28 c29 c30 c31 c32 c33 c34 c35 c36 c37 c38 c39 c40 c41 c42 c43 c44 c45 c46 c47 c48 c49 c50 c51 c52 c53 c54 c55 c56 c57 c58 c59 c60 c61 c62 c63 c64 c65 c66 c67 c68 c165 c166 c167 c168 c169 c170 c171 c172 c173 : Value) (act : Act) (w1 : World) : Prop :=
  ∃ (u14 u15 u16 u17 u18 u19 u20 u21 u69 u70 u71 u72 u73 u74 u75 u76 u77 u78 u79 u80 u81 u82 u83 u84 u85 u86 u87 u88 u89 u90 u91 u92 u93 u94 u95 u96 u97 u98 u99 u100 u101 u102 u103 u104 u105 u106 u107 u108 u109 u110 u111 u112 u113 u114 u115 u116 u117 u118 u119 u120 u121 u122 u123 u124 u125 u126 u127 u128 u129 u130 u131 u132 u133 u134 u135 u136 u137 u138 u139 u140 u141 u142 u143 u144 u145 u146 u147 u148 u149 u150 u151 u152 u153 u154 u155 u156 u157 u158 u159 u160 u161 u162 u163 u164 : Value) (y : Nat) (re ab : ByteArray) (pix : List UInt8), LoY w9 gp n8 n W H Hp SS p JS IM y re ab pix w1 ∧ act = ⟨#[c0, .string re, .pointer (some ⟨b0, 0, none⟩), c3, .pointer (some ⟨b4, 0, none⟩), c5, c6, .slice (some ⟨gp, 0, none⟩) n8 n8, .int .i64 (S : Nat), c9, c10, .pointer (some ⟨bB, 0, none⟩), .string ab, .int .i64 (y : Nat), u14, u15, u16, u17, u18, u19, u20, u21, c22, c23, c24, c25, c26, c27, c28, c29, c30, c31, c32, c33, c34, c35, c36, c37, c38, c39, c40, c41, c42, c43, c44, c45, c46, c47, c48, c49, c50, c51, c52, c53, c54, c55, c56, c57, c58, c59, c60, c61, c62, c63, c64, c65, c66, c67, c68, u69, u70, u71, u72, u73, u74, u75, u76, u77, u78, u79, u80, u81, u82, u83, u84, u85, u86, u87, u88, u89, u90, u91, u92, u93, u94, u95, u96, u97, u98, u99, u100, u101, u102, u103, u104, u105, u106, u107, u108, u109, u110, u111, u112, u113, u114, u115, u116, u117, u118, u119, u120, u121, u122, u123, u124, u125, u126, u127, u128, u129, u130, u131, u132, u133, u134, u135, u136, u137, u138, u139, u140, u141, u142, u143, u144, u145, u146, u147, u148, u149, u150, u151, u152, u153, u154, u155, u156, u157, u158, u159, u160, u161, u162, u163, u164, c165, c166, c167, c168, c169, c170, c171, c172, c173], []⟩
def WXY (w9 : World) (b0 b4 gp bB n8 S n W H Hp : Nat) (SS : ShP) (p : PassL) (JS : List RowJ) (IM : List UInt8 × Int) (c0 c3 c5 c6 c9 c10 c22 c23 c24 c25 c26 c27 c28 c29 c30 c31 c32 c33 c34 c35 c36 c37 c38 c39 c40 c41 c42 c43 c44 c45 c46 c47 c48 c49 c50 c51 c52 c53 c54 c55 c56 c57 c58 c59 c60 c61 c62 c63 c64 c65 c66 c67 c68 c165 c166 c167 c168 c169 c170 c171 c172 c173 : Value) (act : Act) (w1 : World) : Prop :=
  ∃ (u14 u15 u16 u17 u18 u19 u20 u21 u69 u70 u71 u72 u73 u74 u75 u76 u77 u78 u79 u80 u81 u82 u83 u84 u85 u86 u87 u88 u89 u90 u91 u92 u93 u94 u95 u96 u97 u98 u99 u100 u101 u102 u103 u104 u105 u106 u107 u108 u109 u110 u111 u112 u113 u114 u115 u116 u117 u118 u119 u120 u121 u122 u123 u124 u125 u126 u127 u128 u129 u130 u131 u132 u133 u134 u135 u136 u137 u138 u139 u140 u141 u142 u143 u144 u145 u146 u147 u148 u149 u150 u151 u152 u153 u154 u155 u156 u157 u158 u159 u160 u161 u162 u163 u164 : Value) (re ab : ByteArray) (pix : List UInt8), (LeftS IM SS JS n n8 False re ab pix ∧ BytesB w1 gp pix ∧ But [gp] w9 w1) ∧ act = ⟨#[c0, .string re, .pointer (some ⟨b0, 0, none⟩), c3, .pointer (some ⟨b4, 0, none⟩), c5, c6, .slice (some ⟨gp, 0, none⟩) n8 n8, .int .i64 (S : Nat), c9, c10, .pointer (some ⟨bB, 0, none⟩), .string ab, .int .i64 (Hp : Nat), u14, u15, u16, u17, u18, u19, u20, u21, c22, c23, c24, c25, c26, c27, c28, c29, c30, c31, c32, c33, c34, c35, c36, c37, c38, c39, c40, c41, c42, c43, c44, c45, c46, c47, c48, c49, c50, c51, c52, c53, c54, c55, c56, c57, c58, c59, c60, c61, c62, c63, c64, c65, c66, c67, c68, u69, u70, u71, u72, u73, u74, u75, u76, u77, u78, u79, u80, u81, u82, u83, u84, u85, u86, u87, u88, u89, u90, u91, u92, u93, u94, u95, u96, u97, u98, u99, u100, u101, u102, u103, u104, u105, u106, u107, u108, u109, u110, u111, u112, u113, u114, u115, u116, u117, u118, u119, u120, u121, u122, u123, u124, u125, u126, u127, u128, u129, u130, u131, u132, u133, u134, u135, u136, u137, u138, u139, u140, u141, u142, u143, u144, u145, u146, u147, u148, u149, u150, u151, u152, u153, u154, u155, u156, u157, u158, u159, u160, u161, u162, u163, u164, c165, c166, c167, c168, c169, c170, c171, c172, c173], []⟩
attribute [local irreducible] strL
section
variable {w w9 wr : World} {b0 b4 gp bB n8 S n bp W H D C px py dx dy Wp Hp : Nat} {l : Int} {pal tr : ByteArray} {has : Bool} {SS : ShP} {p : PassL} {JS : List RowJ} {IM : List UInt8 × Int} {R1 : (Int × Int × ByteArray) × Int} {Q0 : Exit → Act → World → Prop} {y : Nat} {re ab : ByteArray} {pix : List UInt8}
variable {c0 c3 c5 c6 c9 c10 c22 c23 c24 c25 c26 c27 c28 c29 c30 c31 c32 c33 c34 c35 c36 c37 c38 c39 c40 c41 c42 c43 c44 c45 c46 c47 c48 c49 c50 c51 c52 c53 c54 c55 c56 c57 c58 c59 c60 c61 c62 c63 c64 c65 c66 c67 c68 c165 c166 c167 c168 c169 c170 c171 c172 c173 : Value}
variable {u14 u15 u16 u17 u18 u19 u20 u21 u69 u70 u71 u72 u73 u74 u75 u76 u77 u78 u79 u80 u81 u82 u83 u84 u85 u86 u87 u88 u89 u90 u91 u92 u93 u94 u95 u96 u97 u98 u99 u100 u101 u102 u103 u104 u105 u106 u107 u108 u109 u110 u111 u112 u113 u114 u115 u116 u117 u118 u119 u120 u121 u122 u123 u124 u125 u126 u127 u128 u129 u130 u131 u132 u133 u134 u135 u136 u137 u138 u139 u140 u141 u142 u143 u144 u145 u146 u147 u148 u149 u150 u151 u152 u153 u154 u155 u156 u157 u158 u159 u160 u161 u162 u163 u164 : Value}
set_option maxHeartbeats 1000000 in
theorem imy_end (hT : StY w w9 b0 b4 gp bB n8 S n bp W H D C px py dx dy Wp Hp l pal tr has SS p JS IM R1) (hpan : ∀ (c : List PanicEntry) (a : Act) (d : Option Tmp) (v : Value) (w : World), Q0 (.panic c) (a.put d v) w → Q0 (.panic c) a w) (hret : ∀ act w1, bodyPost Tryd.prog Tryd.f12 (fun e w' => e = .returned (.tuple #[.agg #[.int .i64 R1.1.1, .int .i64 R1.1.2.1, .string R1.1.2.2], .int .i64 R1.2]) ∧ But [] w w') Exit.ret act w1 → Q0 .ret act w1) (hS : LoY w9 gp n8 n W H Hp SS p JS IM y re ab pix wr) (hy : Hid (¬ y < Hp)) (hexit : ∀ act w1, WXY w9 b0 b4 gp bB n8 S n W H Hp SS p JS IM c0 c3 c5 c6 c9 c10 c22 c23 c24 c25 c26 c27 c28 c29 c30 c31 c32 c33 c34 c35 c36 c37 c38 c39 c40 c41 c42 c43 c44 c45 c46 c47 c48 c49 c50 c51 c52 c53 c54 c55 c56 c57 c58 c59 c60 c61 c62 c63 c64 c65 c66 c67 c68 c165 c166 c167 c168 c169 c170 c171 c172 c173 act w1 → Q0 (.exit 2) act w1) :
    Code.wp Tryd.prog imBodyY (Exit.then (fun act w1 => WIY w9 b0 b4 gp bB n8 S n W H Hp SS p JS IM c0 c3 c5 c6 c9 c10 c22 c23 c24 c25 c26 c27 c28 c29 c30 c31 c32 c33 c34 c35 c36 c37 c38 c39 c40 c41 c42 c43 c44 c45 c46 c47 c48 c49 c50 c51 c52 c53 c54 c55 c56 c57 c58 c59 c60 c61 c62 c63 c64 c65 c66 c67 c68 c165 c166 c167 c168 c169 c170 c171 c172 c173 act w1 ∧ MuY Hp act w1 < MuY Hp ⟨#[c0, .string re, .pointer (some ⟨b0, 0, none⟩), c3, .pointer (some ⟨b4, 0, none⟩), c5, c6, .slice (some ⟨gp, 0, none⟩) n8 n8, .int .i64 (S : Nat), c9, c10, .pointer (some ⟨bB, 0, none⟩), .string ab, .int .i64 (y : Nat), u14, u15, u16, u17, u18, u19, u20, u21, c22, c23, c24, c25, c26, c27, c28, c29, c30, c31, c32, c33, c34, c35, c36, c37, c38, c39, c40, c41, c42, c43, c44, c45, c46, c47, c48, c49, c50, c51, c52, c53, c54, c55, c56, c57, c58, c59, c60, c61, c62, c63, c64, c65, c66, c67, c68, u69, u70, u71, u72, u73, u74, u75, u76, u77, u78, u79, u80, u81, u82, u83, u84, u85, u86, u87, u88, u89, u90, u91, u92, u93, u94, u95, u96, u97, u98, u99, u100, u101, u102, u103, u104, u105, u106, u107, u108, u109, u110, u111, u112, u113, u114, u115, u116, u117, u118, u119, u120, u121, u122, u123, u124, u125, u126, u127, u128, u129, u130, u131, u132, u133, u134, u135, u136, u137, u138, u139, u140, u141, u142, u143, u144, u145, u146, u147, u148, u149, u150, u151, u152, u153, u154, u155, u156, u157, u158, u159, u160, u161, u162, u163, u164, c165, c166, c167, c168, c169, c170, c171, c172, c173], []⟩ wr) Q0) ⟨#[c0, .string re, .pointer (some ⟨b0, 0, none⟩), c3, .pointer (some ⟨b4, 0, none⟩), c5, c6, .slice (some ⟨gp, 0, none⟩) n8 n8, .int .i64 (S : Nat), c9, c10, .pointer (some ⟨bB, 0, none⟩), .string ab, .int .i64 (y : Nat), u14, u15, u16, u17, u18, u19, u20, u21, c22, c23, c24, c25, c26, c27, c28, c29, c30, c31, c32, c33, c34, c35, c36, c37, c38, c39, c40, c41, c42, c43, c44, c45, c46, c47, c48, c49, c50, c51, c52, c53, c54, c55, c56, c57, c58, c59, c60, c61, c62, c63, c64, c65, c66, c67, c68, u69, u70, u71, u72, u73, u74, u75, u76, u77, u78, u79, u80, u81, u82, u83, u84, u85, u86, u87, u88, u89, u90, u91, u92, u93, u94, u95, u96, u97, u98, u99, u100, u101, u102, u103, u104, u105, u106, u107, u108, u109, u110, u111, u112, u113, u114, u115, u116, u117, u118, u119, u120, u121, u122, u123, u124, u125, u126, u127, u128, u129, u130, u131, u132, u133, u134, u135, u136, u137, u138, u139, u140, u141, u142, u143, u144, u145, u146, u147, u148, u149, u150, u151, u152, u153, u154, u155, u156, u157, u158, u159, u160, u161, u162, u163, u164, c165, c166, c167, c168, c169, c170, c171, c172, c173], []⟩ wr := by
  conv => arg 2; whnf
  have HT := Lib.hid hT
  have HS := Lib.hid hS
  have HPC : Hid (∀ v, But [gp] w9 v → v.cell? ⟨bB, 0, none⟩ = some (.int .i64 px) ∧ v.cell? ⟨bB, 1, none⟩ = some (.int .i64 py) ∧ v.cell? ⟨bB, 2, none⟩ = some (.int .i64 dx) ∧ v.cell? ⟨bB, 3, none⟩ = some (.int .i64 dy) ∧ v.cell? ⟨bB, 4, none⟩ = some (.int .i64 Wp) ∧ v.cell? ⟨bB, 5, none⟩ = some (.int .i64 Hp) ∧ bB < v.heap.size) := Lib.hid fun v hv => by
    have hh := HT.out.pas.but hv HT.out.off.2.2
    exact ⟨hh.cell 0, hh.cell 1, hh.cell 2, hh.cell 3, hh.cell 4, hh.cell 5, hh.lt⟩
  have wl := hT.wl
  have hhl := hT.hl
  have nl := hT.nl
  clear hT hS
  obtain ⟨p0, p1, p2, p3, p4, p5, hpl⟩ := HPC.out _ HS.out.but
  have i1 : ¬ (y : Int) < (Hp : Int) := by have := hy.out; omega
  obtain rfl : Hp = y := by have := hy.out; have := HS.out.le; omega
  have HL5 : Hid (LeftS IM SS JS n n8 False re ab pix) := Lib.hid (by
    have h := HS.out.lf
    rw [HT.out.stop Hp (Nat.le_refl _)] at h
    exact ⟨h.im, h.sj, h.big, fun h => h.elim, h.abn, h.pl⟩)
  clear hy
  go_wp2
  unfold WXY
  exact ⟨_, _, _, _, _, _, _, _, _, _, _, _, _, _, _, _, _, _, _, _, _, _, _, _, _, _, _, _, _, _, _, _, _, _, _, _, _, _, _, _, _, _, _, _, _, _, _, _, _, _, _, _, _, _, _, _, _, _, _, _, _, _, _, _, _, _, _, _, _, _, _, _, _, _, _, _, _, _, _, _, _, _, _, _, _, _, _, _, _, _, _, _, _, _, _, _, _, _, _, _, _, _, _, _, re, ab, pix, ⟨HL5.out, HS.out.blk, HS.out.but⟩, rfl⟩
set_option maxHeartbeats 1000000 in
theorem imy_bad (hT : StY w w9 b0 b4 gp bB n8 S n bp W H D C px py dx dy Wp Hp l pal tr has SS p JS IM R1) (hpan : ∀ (c : List PanicEntry) (a : Act) (d : Option Tmp) (v : Value) (w : World), Q0 (.panic c) (a.put d v) w → Q0 (.panic c) a w) (hret : ∀ act w1, bodyPost Tryd.prog Tryd.f12 (fun e w' => e = .returned (.tuple #[.agg #[.int .i64 R1.1.1, .int .i64 R1.1.2.1, .string R1.1.2.2], .int .i64 R1.2]) ∧ But [] w w') Exit.ret act w1 → Q0 .ret act w1) (hS : LoY w9 gp n8 n W H Hp SS p JS IM y re ab pix wr) (hy : Hid (y < Hp)) (hk : Hid (4 < kindJ re.data.toList)) :
    Code.wp Tryd.prog imBodyY (Exit.then (fun act w1 => WIY w9 b0 b4 gp bB n8 S n W H Hp SS p JS IM c0 c3 c5 c6 c9 c10 c22 c23 c24 c25 c26 c27 c28 c29 c30 c31 c32 c33 c34 c35 c36 c37 c38 c39 c40 c41 c42 c43 c44 c45 c46 c47 c48 c49 c50 c51 c52 c53 c54 c55 c56 c57 c58 c59 c60 c61 c62 c63 c64 c65 c66 c67 c68 c165 c166 c167 c168 c169 c170 c171 c172 c173 act w1 ∧ MuY Hp act w1 < MuY Hp ⟨#[c0, .string re, .pointer (some ⟨b0, 0, none⟩), c3, .pointer (some ⟨b4, 0, none⟩), c5, c6, .slice (some ⟨gp, 0, none⟩) n8 n8, .int .i64 (S : Nat), c9, c10, .pointer (some ⟨bB, 0, none⟩), .string ab, .int .i64 (y : Nat), u14, u15, u16, u17, u18, u19, u20, u21, c22, c23, c24, c25, c26, c27, c28, c29, c30, c31, c32, c33, c34, c35, c36, c37, c38, c39, c40, c41, c42, c43, c44, c45, c46, c47, c48, c49, c50, c51, c52, c53, c54, c55, c56, c57, c58, c59, c60, c61, c62, c63, c64, c65, c66, c67, c68, u69, u70, u71, u72, u73, u74, u75, u76, u77, u78, u79, u80, u81, u82, u83, u84, u85, u86, u87, u88, u89, u90, u91, u92, u93, u94, u95, u96, u97, u98, u99, u100, u101, u102, u103, u104, u105, u106, u107, u108, u109, u110, u111, u112, u113, u114, u115, u116, u117, u118, u119, u120, u121, u122, u123, u124, u125, u126, u127, u128, u129, u130, u131, u132, u133, u134, u135, u136, u137, u138, u139, u140, u141, u142, u143, u144, u145, u146, u147, u148, u149, u150, u151, u152, u153, u154, u155, u156, u157, u158, u159, u160, u161, u162, u163, u164, c165, c166, c167, c168, c169, c170, c171, c172, c173], []⟩ wr) Q0) ⟨#[c0, .string re, .pointer (some ⟨b0, 0, none⟩), c3, .pointer (some ⟨b4, 0, none⟩), c5, c6, .slice (some ⟨gp, 0, none⟩) n8 n8, .int .i64 (S : Nat), c9, c10, .pointer (some ⟨bB, 0, none⟩), .string ab, .int .i64 (y : Nat), u14, u15, u16, u17, u18, u19, u20, u21, c22, c23, c24, c25, c26, c27, c28, c29, c30, c31, c32, c33, c34, c35, c36, c37, c38, c39, c40, c41, c42, c43, c44, c45, c46, c47, c48, c49, c50, c51, c52, c53, c54, c55, c56, c57, c58, c59, c60, c61, c62, c63, c64, c65, c66, c67, c68, u69, u70, u71, u72, u73, u74, u75, u76, u77, u78, u79, u80, u81, u82, u83, u84, u85, u86, u87, u88, u89, u90, u91, u92, u93, u94, u95, u96, u97, u98, u99, u100, u101, u102, u103, u104, u105, u106, u107, u108, u109, u110, u111, u112, u113, u114, u115, u116, u117, u118, u119, u120, u121, u122, u123, u124, u125, u126, u127, u128, u129, u130, u131, u132, u133, u134, u135, u136, u137, u138, u139, u140, u141, u142, u143, u144, u145, u146, u147, u148, u149, u150, u151, u152, u153, u154, u155, u156, u157, u158, u159, u160, u161, u162, u163, u164, c165, c166, c167, c168, c169, c170, c171, c172, c173], []⟩ wr := by
  conv => arg 2; whnf
  have HT := Lib.hid hT
  have HS := Lib.hid hS
  have HPC : Hid (∀ v, But [gp] w9 v → v.cell? ⟨bB, 0, none⟩ = some (.int .i64 px) ∧ v.cell? ⟨bB, 1, none⟩ = some (.int .i64 py) ∧ v.cell? ⟨bB, 2, none⟩ = some (.int .i64 dx) ∧ v.cell? ⟨bB, 3, none⟩ = some (.int .i64 dy) ∧ v.cell? ⟨bB, 4, none⟩ = some (.int .i64 Wp) ∧ v.cell? ⟨bB, 5, none⟩ = some (.int .i64 Hp) ∧ bB < v.heap.size) := Lib.hid fun v hv => by
    have hh := HT.out.pas.but hv HT.out.off.2.2
    exact ⟨hh.cell 0, hh.cell 1, hh.cell 2, hh.cell 3, hh.cell 4, hh.cell 5, hh.lt⟩
  have wl := hT.wl
  have hhl := hT.hl
  have nl := hT.nl
  clear hT hS
  obtain ⟨p0, p1, p2, p3, p4, p5, hpl⟩ := HPC.out _ HS.out.but
  have hyl := hy.out
  have HSC : Hid (∀ v, But [gp] w9 v → v.cell? ⟨b0, 0, none⟩ = some (.int .i64 W) ∧ v.cell? ⟨b0, 1, none⟩ = some (.int .i64 H) ∧ v.cell? ⟨b0, 2, none⟩ = some (.int .i64 D) ∧ v.cell? ⟨b0, 3, none⟩ = some (.int .i64 C) ∧ v.cell? ⟨b0, 4, none⟩ = some (.int .i64 l) ∧ v.cell? ⟨b0, 5, none⟩ = some (.string pal) ∧ v.cell? ⟨b0, 6, none⟩ = some (.string tr) ∧ v.cell? ⟨b0, 7, none⟩ = some (.bool has) ∧ b0 < v.heap.size) := Lib.hid fun v hv => by
    have hh := HT.out.shp.1.but hv HT.out.off.1
    exact ⟨hh.cell 0, hh.cell 1, hh.cell 2, hh.cell 3, hh.cell 4, hh.cell 5, hh.cell 6, hh.cell 7, hh.lt⟩
  obtain ⟨j, hj⟩ : ∃ j, j = jobP W p y := ⟨_, rfl⟩
  have HJ : Hid (j.n = Wp ∧ j.x = px ∧ j.dx = dx ∧ j.y = py + y * dy ∧ (j.first = true ↔ y = 0)) := Lib.hid (by rw [hj]; exact HT.out.job y)
  have HLNy : Hid (leftP W H p y ++ JS = j :: (leftP W H p (y + 1) ++ JS)) := Lib.hid (by rw [hj]; exact HT.out.nxt y hyl)
  obtain ⟨J2, hJ2⟩ : ∃ J2, J2 = leftP W H p (y + 1) ++ JS := ⟨_, rfl⟩
  rw [← hJ2] at HLNy
  have HJ2 := Lib.hid hJ2
  have hsz2 : re.size = 1 + n + sizeJ SS J2 := by rw [HS.out.lf.sj, HLNy.out, sizeJ_cons, HJ.out.1, HT.out.nE]
  have HSZ2 := Lib.hid hsz2
  obtain ⟨n1, hn1⟩ : ∃ z, z = 1 + n := ⟨_, rfl⟩
  have en1 : (1 : Int) + (n : Int) = (n1 : Int) := by omega
  have vn1 := wrapI_in (show n1 < 1000000000000000 by omega)
  have vn := wrapI_in (show n < 1000000000000000 by omega)
  have hn1l : n1 ≤ re.size := by omega
  have h0l : 0 < re.size := by omega
  obtain ⟨kd, hkd⟩ : ∃ z, z = kindJ re.data.toList := ⟨_, rfl⟩
  have hkd2 : kd = re[0].toNat := by rw [hkd]; unfold kindJ; rw [getD_byte re h0l]
  have kdl : kd < 256 := by rw [hkd2]; exact re[0].toNat_lt
  have kx : ∀ w, (Instr.index 9 (.string re) (.int .i64 0)).run Tryd.prog w = .ok (.int .u8 (kd : Nat)) w := fun w => by rw [hkd2]; exact byteR_run (k := 0) h0l w
  have vkd := wrapI_in (show kd < 1000000000000000 by omega)
  obtain ⟨seg, hseg⟩ : ∃ z, z = strL ((re.data.toList.drop 1).take n) := ⟨_, rfl⟩
  have hrl : re.data.toList.length = re.size := by rw [Array.length_toList]; rfl
  have hsegl : seg.size = n := by rw [hseg, strL_size, List.length_take, List.length_drop, hrl]; omega
  have ks : ∀ w, (Instr.slice 9 (.string re) (some (.int .i64 1)) (some (.int .i64 (n1 : Nat))) none).run Tryd.prog w = .ok (.string seg) w := fun w => by
    have h := cutMid_run re (i := 1) (j := n1) (by omega) w hn1l
    rw [show n1 - 1 = n by omega, ← hseg] at h
    exact h
  obtain ⟨ln, hln⟩ : ∃ z, z = lineJ SS j re.data.toList ab.data.toList := ⟨_, rfl⟩
  have hln2 : ln = undoF (kd : Nat) bp seg.data.toList ab.data.toList := by
    rw [hln]
    unfold lineJ
    have hfa : (if j.first = true then [] else ab.data.toList) = ab.data.toList := by
      by_cases hf : j.first = true
      · rw [if_pos hf, HS.out.lf.ab0 (HJ.out.2.2.2.2.1 hf)]
      · rw [if_neg hf]
    rw [hfa, HT.out.bE, hkd, hseg, strL_list, HJ.out.1, HT.out.nE]
  have hlnl : ln.length = n := by rw [hln2, undoF_length, Array.length_toList]; exact hsegl
  have hw0 : wrongP (bp : Int) seg ab = 0 := by
    unfold wrongP
    have h1 := HT.out.b1
    have h8 := HT.out.b8
    refine if_neg ?_
    rintro (h | h | ⟨h, h'⟩)
    · omega
    · omega
    · rcases HS.out.lf.abn with h2 | h2
      · exact h h2
      · exact h' (by rw [h2, hsegl])
  have HUN0 := Lib.hid fun (v : World) => eundo_any v (bp : Int) (kd : Int) seg ab (by rw [hsegl]; omega) (by rcases HS.out.lf.abn with h2 | h2 <;> omega)
  obtain ⟨us, hus⟩ : ∃ z, z = strL (undoA (bp : Int) (kd : Int) seg ab) := ⟨_, rfl⟩
  obtain ⟨er, her⟩ : ∃ z, z = wrongF (bp : Int) (kd : Int) seg ab := ⟨_, rfl⟩
  rw [← her, ← hus] at HUN0
  have HER4 : Hid (4 < kd → er = 28) := Lib.hid fun hk => by
    rw [her]
    unfold wrongF
    rw [hw0, if_neg (fun h => h rfl), if_pos (by omega)]
  have HER0 : Hid (¬ 4 < kd → er = 0 ∧ us = strL ln) := Lib.hid fun hk => by
    have her0 : wrongF (bp : Int) (kd : Int) seg ab = 0 := by
      unfold wrongF
      rw [hw0, if_neg (fun h => h rfl), if_neg (by omega)]
    exact ⟨by rw [her, her0], by rw [hus, undoA_ok her0, hln2]⟩
  have HKD0 : Hid (kd = kindJ re.data.toList) := Lib.hid hkd
  have HLNl := Lib.hid hlnl
  have HLNe := Lib.hid hln
  have HN1 : Hid (n1 = 1 + n) := Lib.hid hn1
  have i0 : (0 : Int) ≤ (y : Int) := by omega
  have i1 : (y : Int) < (Hp : Int) := by omega
  have HRLE := Lib.hid hrl
  clear hus her hln hln2 hlnl hkd hkd2 hsz2 hsegl hw0 hn1 hj hJ2 hseg hrl hy
  obtain ⟨c0, c1, c2, c3, c4, c5, c6, c7, hgl⟩ := HSC.out _ HS.out.but
  go_wp2_with fail
  refine (HT.out.row _).mono ?_
  rintro e w10 ⟨rfl, hB10⟩
  have HX10 := Lib.hid (HS.out.blk.but hB10 (by simp))
  have HB10 := Lib.hid (HS.out.but.trans hB10.wide)
  clear hB10 p0 p1 p2 p3 p4 p5 hpl c0 c1 c2 c3 c4 c5 c6 c7 hgl
  go_upto_region 20 with (fail)
  refine wp_region_m (S := fun v => But [] w10 v) (R := fun v v' => But [] v v') (fun w => But.refl [] w) (by kernel_rfl) ((But.refl [] w10).drew) ?_
  refine wpM_take (fun w => But.refl [] w) (fun x y z h k => h.trans k) (i := 0) (v := .pointer (some ⟨b0, 0, none⟩)) rfl (by kernel_rfl) (by kernel_rfl) (by kernel_rfl) (fun c a w h => hpan c a _ _ w h) (YieldsR.read (fun w => But.refl [] w) ?_ fun w hS => ?_) ?_
  · first | kernel_rfl | go_simp
  · go_simp
  refine wpM_take (fun w => But.refl [] w) (fun x y z h k => h.trans k) (i := 1) (v := .agg #[.int .i64 W, .int .i64 H, .int .i64 D, .int .i64 C, .int .i64 l]) rfl (by kernel_rfl) (by kernel_rfl) (by kernel_rfl) (fun c a w h => hpan c a _ _ w h) (YieldsR.read (fun w => But.refl [] w) ?_ fun w hS => ?_) ?_
  · first | kernel_rfl | go_simp
  · obtain ⟨c0, c1, c2, c3, c4, c5, c6, c7, hgl⟩ := HSC.out w (HB10.out.trans hS.wide); go_simp
  refine wpM_take (fun w => But.refl [] w) (fun x y z h k => h.trans k) (i := 2) (v := .int .i64 (bp : Nat)) rfl (by kernel_rfl) (by kernel_rfl) (by kernel_rfl) (fun c a w h => hpan c a _ _ w h) (.inl ⟨?_, fun w hS => .inr ⟨_, _, ?_, (HT.out.byt w).mono ?_⟩⟩) ?_
  · go_simp
  · go_simp
  · rintro e wy ⟨rfl, hB⟩; exact ⟨rfl, hS.trans hB, hB⟩
  refine wpM_take (fun w => But.refl [] w) (fun x y z h k => h.trans k) (i := 3) (v := .string re) rfl (by kernel_rfl) (by kernel_rfl) (by kernel_rfl) (fun c a w h => hpan c a _ _ w h) (YieldsR.read (fun w => But.refl [] w) ?_ fun w hS => ?_) ?_
  · first | kernel_rfl | go_simp
  · go_simp
  refine wpM_take (fun w => But.refl [] w) (fun x y z h k => h.trans k) (i := 4) (v := .int .u8 (kd : Nat)) rfl (by kernel_rfl) (by kernel_rfl) (by kernel_rfl) (fun c a w h => hpan c a _ _ w h) (YieldsR.read (fun w => But.refl [] w) ?_ fun w hS => ?_) ?_
  · first | kernel_rfl | go_simp
  · go_simp
  refine wpM_take (fun w => But.refl [] w) (fun x y z h k => h.trans k) (i := 5) (v := .int .i64 (kd : Nat)) rfl (by kernel_rfl) (by kernel_rfl) (by kernel_rfl) (fun c a w h => hpan c a _ _ w h) (YieldsR.read (fun w => But.refl [] w) ?_ fun w hS => ?_) ?_
  · first | kernel_rfl | go_simp
  · go_simp
  refine wpM_take (fun w => But.refl [] w) (fun x y z h k => h.trans k) (i := 6) (v := .string re) rfl (by kernel_rfl) (by kernel_rfl) (by kernel_rfl) (fun c a w h => hpan c a _ _ w h) (YieldsR.read (fun w => But.refl [] w) ?_ fun w hS => ?_) ?_
  · first | kernel_rfl | go_simp
  · go_simp
  refine wpM_take (fun w => But.refl [] w) (fun x y z h k => h.trans k) (i := 7) (v := .int .i64 (n : Nat)) rfl (by kernel_rfl) (by kernel_rfl) (by kernel_rfl) (fun c a w h => hpan c a _ _ w h) (YieldsR.read (fun w => But.refl [] w) ?_ fun w hS => ?_) ?_
  · first | kernel_rfl | go_simp
  · go_simp
  refine wpM_take (fun w => But.refl [] w) (fun x y z h k => h.trans k) (i := 8) (v := .int .i64 (n1 : Nat)) rfl (by kernel_rfl) (by kernel_rfl) (by kernel_rfl) (fun c a w h => hpan c a _ _ w h) (YieldsR.read (fun w => But.refl [] w) ?_ fun w hS => ?_) ?_
  · first | kernel_rfl | go_simp
  · go_simp
  refine wpM_take (fun w => But.refl [] w) (fun x y z h k => h.trans k) (i := 9) (v := .string seg) rfl (by kernel_rfl) (by kernel_rfl) (by kernel_rfl) (fun c a w h => hpan c a _ _ w h) (YieldsR.read (fun w => But.refl [] w) ?_ fun w hS => ?_) ?_
  · first | kernel_rfl | go_simp
  · go_simp
  refine wpM_take (fun w => But.refl [] w) (fun x y z h k => h.trans k) (i := 10) (v := .string ab) rfl (by kernel_rfl) (by kernel_rfl) (by kernel_rfl) (fun c a w h => hpan c a _ _ w h) (YieldsR.read (fun w => But.refl [] w) ?_ fun w hS => ?_) ?_
  · first | kernel_rfl | go_simp
  · go_simp
  refine wpM_take (fun w => But.refl [] w) (fun x y z h k => h.trans k) (i := 11) (v := .tuple #[.string us, .int .i64 er]) rfl (by kernel_rfl) (by kernel_rfl) (by kernel_rfl) (fun c a w h => hpan c a _ _ w h) (.inl ⟨?_, fun w hS => .inr ⟨_, _, ?_, (HUN0.out w).mono ?_⟩⟩) ?_
  · go_simp
  · go_simp
  · rintro e wy ⟨rfl, hB⟩; exact ⟨rfl, hS.trans hB, hB⟩
  refine wpM_take (fun w => But.refl [] w) (fun x y z h k => h.trans k) (i := 12) (v := .tuple #[.string us, .int .i64 er]) rfl (by kernel_rfl) (by kernel_rfl) (by kernel_rfl) (fun c a w h => hpan c a _ _ w h) (YieldsR.read (fun w => But.refl [] w) ?_ fun w hS => ?_) ?_
  · first | kernel_rfl | go_simp
  · go_simp
  refine wpM_take (fun w => But.refl [] w) (fun x y z h k => h.trans k) (i := 13) (v := .string us) rfl (by kernel_rfl) (by kernel_rfl) (by kernel_rfl) (fun c a w h => hpan c a _ _ w h) (YieldsR.read (fun w => But.refl [] w) ?_ fun w hS => ?_) ?_
  · first | kernel_rfl | go_simp
  · go_simp
  refine wpM_take (fun w => But.refl [] w) (fun x y z h k => h.trans k) (i := 14) (v := .int .i64 er) rfl (by kernel_rfl) (by kernel_rfl) (by kernel_rfl) (fun c a w h => hpan c a _ _ w h) (YieldsR.read (fun w => But.refl [] w) ?_ fun w hS => ?_) ?_
  · first | kernel_rfl | go_simp
  · go_simp
  refine wpM_take (fun w => But.refl [] w) (fun x y z h k => h.trans k) (i := 15) (v := .string us) rfl (by kernel_rfl) (by kernel_rfl) (by kernel_rfl) (fun c a w h => hpan c a _ _ w h) (YieldsR.read (fun w => But.refl [] w) ?_ fun w hS => ?_) ?_
  · first | kernel_rfl | go_simp
  · go_simp
  refine wpM_take (fun w => But.refl [] w) (fun x y z h k => h.trans k) (i := 16) (v := .int .i64 er) rfl (by kernel_rfl) (by kernel_rfl) (by kernel_rfl) (fun c a w h => hpan c a _ _ w h) (YieldsR.read (fun w => But.refl [] w) ?_ fun w hS => ?_) ?_
  · first | kernel_rfl | go_simp
  · go_simp
  refine ⟨by kernel_rfl, fun w11 hR11 hS11 => ?_⟩
  have HX11 := Lib.hid (HX10.out.but hS11 (by simp))
  have HB11 := Lib.hid (HB10.out.trans hS11.wide)
  clear hR11 hS11 HX10 HB10 HUN0 kx ks
  go_simp
  have hk4 : 4 < kd := by rw [HKD0.out]; exact hk.out
  obtain rfl := HER4.out hk4
  have HRE := Lib.hid (HT.out.err 28 (by rw [HS.out.lf.im, HLNy.out]; exact runI_bad hk.out) (by decide))
  have HI11 := Lib.hid (HT.out.shp.butP HB11.out HT.out.off.1 HT.out.off.2.1)
  have d0 := HI11.out.2.cell 0
  have f0 := HI11.out.2.free 0
  have d1 := HI11.out.2.cell 1
  have f1 := HI11.out.2.free 1
  have d2 := HI11.out.2.cell 2
  have f2 := HI11.out.2.free 2
  have hgl4 := HI11.out.2.lt
  have HBF := Lib.hid (HT.out.hide _ HB11.out)
  have HW4 := Lib.hid HT.out.le4
  go_wp2
  exact img_ret HI11.out.2 HBF.out HW4.out (by rfl) (by rfl) 0 0 ⟨#[]⟩ (by rw [HRE.out]) (by rw [HRE.out])
set_option maxHeartbeats 1000000 in
theorem imy_go (hT : StY w w9 b0 b4 gp bB n8 S n bp W H D C px py dx dy Wp Hp l pal tr has SS p JS IM R1) (hpan : ∀ (c : List PanicEntry) (a : Act) (d : Option Tmp) (v : Value) (w : World), Q0 (.panic c) (a.put d v) w → Q0 (.panic c) a w) (hret : ∀ act w1, bodyPost Tryd.prog Tryd.f12 (fun e w' => e = .returned (.tuple #[.agg #[.int .i64 R1.1.1, .int .i64 R1.1.2.1, .string R1.1.2.2], .int .i64 R1.2]) ∧ But [] w w') Exit.ret act w1 → Q0 .ret act w1) (hS : LoY w9 gp n8 n W H Hp SS p JS IM y re ab pix wr) (hy : Hid (y < Hp)) (hy2 : Hid (y < Hp)) (hk : Hid (¬ 4 < kindJ re.data.toList)) :
    Code.wp Tryd.prog imBodyY (Exit.then (fun act w1 => WIY w9 b0 b4 gp bB n8 S n W H Hp SS p JS IM c0 c3 c5 c6 c9 c10 c22 c23 c24 c25 c26 c27 c28 c29 c30 c31 c32 c33 c34 c35 c36 c37 c38 c39 c40 c41 c42 c43 c44 c45 c46 c47 c48 c49 c50 c51 c52 c53 c54 c55 c56 c57 c58 c59 c60 c61 c62 c63 c64 c65 c66 c67 c68 c165 c166 c167 c168 c169 c170 c171 c172 c173 act w1 ∧ MuY Hp act w1 < MuY Hp ⟨#[c0, .string re, .pointer (some ⟨b0, 0, none⟩), c3, .pointer (some ⟨b4, 0, none⟩), c5, c6, .slice (some ⟨gp, 0, none⟩) n8 n8, .int .i64 (S : Nat), c9, c10, .pointer (some ⟨bB, 0, none⟩), .string ab, .int .i64 (y : Nat), u14, u15, u16, u17, u18, u19, u20, u21, c22, c23, c24, c25, c26, c27, c28, c29, c30, c31, c32, c33, c34, c35, c36, c37, c38, c39, c40, c41, c42, c43, c44, c45, c46, c47, c48, c49, c50, c51, c52, c53, c54, c55, c56, c57, c58, c59, c60, c61, c62, c63, c64, c65, c66, c67, c68, u69, u70, u71, u72, u73, u74, u75, u76, u77, u78, u79, u80, u81, u82, u83, u84, u85, u86, u87, u88, u89, u90, u91, u92, u93, u94, u95, u96, u97, u98, u99, u100, u101, u102, u103, u104, u105, u106, u107, u108, u109, u110, u111, u112, u113, u114, u115, u116, u117, u118, u119, u120, u121, u122, u123, u124, u125, u126, u127, u128, u129, u130, u131, u132, u133, u134, u135, u136, u137, u138, u139, u140, u141, u142, u143, u144, u145, u146, u147, u148, u149, u150, u151, u152, u153, u154, u155, u156, u157, u158, u159, u160, u161, u162, u163, u164, c165, c166, c167, c168, c169, c170, c171, c172, c173], []⟩ wr) Q0) ⟨#[c0, .string re, .pointer (some ⟨b0, 0, none⟩), c3, .pointer (some ⟨b4, 0, none⟩), c5, c6, .slice (some ⟨gp, 0, none⟩) n8 n8, .int .i64 (S : Nat), c9, c10, .pointer (some ⟨bB, 0, none⟩), .string ab, .int .i64 (y : Nat), u14, u15, u16, u17, u18, u19, u20, u21, c22, c23, c24, c25, c26, c27, c28, c29, c30, c31, c32, c33, c34, c35, c36, c37, c38, c39, c40, c41, c42, c43, c44, c45, c46, c47, c48, c49, c50, c51, c52, c53, c54, c55, c56, c57, c58, c59, c60, c61, c62, c63, c64, c65, c66, c67, c68, u69, u70, u71, u72, u73, u74, u75, u76, u77, u78, u79, u80, u81, u82, u83, u84, u85, u86, u87, u88, u89, u90, u91, u92, u93, u94, u95, u96, u97, u98, u99, u100, u101, u102, u103, u104, u105, u106, u107, u108, u109, u110, u111, u112, u113, u114, u115, u116, u117, u118, u119, u120, u121, u122, u123, u124, u125, u126, u127, u128, u129, u130, u131, u132, u133, u134, u135, u136, u137, u138, u139, u140, u141, u142, u143, u144, u145, u146, u147, u148, u149, u150, u151, u152, u153, u154, u155, u156, u157, u158, u159, u160, u161, u162, u163, u164, c165, c166, c167, c168, c169, c170, c171, c172, c173], []⟩ wr := by
  conv => arg 2; whnf
  have HT := Lib.hid hT
  have HS := Lib.hid hS
  have HPC : Hid (∀ v, But [gp] w9 v → v.cell? ⟨bB, 0, none⟩ = some (.int .i64 px) ∧ v.cell? ⟨bB, 1, none⟩ = some (.int .i64 py) ∧ v.cell? ⟨bB, 2, none⟩ = some (.int .i64 dx) ∧ v.cell? ⟨bB, 3, none⟩ = some (.int .i64 dy) ∧ v.cell? ⟨bB, 4, none⟩ = some (.int .i64 Wp) ∧ v.cell? ⟨bB, 5, none⟩ = some (.int .i64 Hp) ∧ bB < v.heap.size) := Lib.hid fun v hv => by
    have hh := HT.out.pas.but hv HT.out.off.2.2
    exact ⟨hh.cell 0, hh.cell 1, hh.cell 2, hh.cell 3, hh.cell 4, hh.cell 5, hh.lt⟩
  have wl := hT.wl
  have hhl := hT.hl
  have nl := hT.nl
  clear hT hS
  obtain ⟨p0, p1, p2, p3, p4, p5, hpl⟩ := HPC.out _ HS.out.but
  have hyl := hy.out
  have HSC : Hid (∀ v, But [gp] w9 v → v.cell? ⟨b0, 0, none⟩ = some (.int .i64 W) ∧ v.cell? ⟨b0, 1, none⟩ = some (.int .i64 H) ∧ v.cell? ⟨b0, 2, none⟩ = some (.int .i64 D) ∧ v.cell? ⟨b0, 3, none⟩ = some (.int .i64 C) ∧ v.cell? ⟨b0, 4, none⟩ = some (.int .i64 l) ∧ v.cell? ⟨b0, 5, none⟩ = some (.string pal) ∧ v.cell? ⟨b0, 6, none⟩ = some (.string tr) ∧ v.cell? ⟨b0, 7, none⟩ = some (.bool has) ∧ b0 < v.heap.size) := Lib.hid fun v hv => by
    have hh := HT.out.shp.1.but hv HT.out.off.1
    exact ⟨hh.cell 0, hh.cell 1, hh.cell 2, hh.cell 3, hh.cell 4, hh.cell 5, hh.cell 6, hh.cell 7, hh.lt⟩
  obtain ⟨j, hj⟩ : ∃ j, j = jobP W p y := ⟨_, rfl⟩
  have HJ : Hid (j.n = Wp ∧ j.x = px ∧ j.dx = dx ∧ j.y = py + y * dy ∧ (j.first = true ↔ y = 0)) := Lib.hid (by rw [hj]; exact HT.out.job y)
  have HLNy : Hid (leftP W H p y ++ JS = j :: (leftP W H p (y + 1) ++ JS)) := Lib.hid (by rw [hj]; exact HT.out.nxt y hyl)
  obtain ⟨J2, hJ2⟩ : ∃ J2, J2 = leftP W H p (y + 1) ++ JS := ⟨_, rfl⟩
  rw [← hJ2] at HLNy
  have HJ2 := Lib.hid hJ2
  have hsz2 : re.size = 1 + n + sizeJ SS J2 := by rw [HS.out.lf.sj, HLNy.out, sizeJ_cons, HJ.out.1, HT.out.nE]
  have HSZ2 := Lib.hid hsz2
  obtain ⟨n1, hn1⟩ : ∃ z, z = 1 + n := ⟨_, rfl⟩
  have en1 : (1 : Int) + (n : Int) = (n1 : Int) := by omega
  have vn1 := wrapI_in (show n1 < 1000000000000000 by omega)
  have vn := wrapI_in (show n < 1000000000000000 by omega)
  have hn1l : n1 ≤ re.size := by omega
  have h0l : 0 < re.size := by omega
  obtain ⟨kd, hkd⟩ : ∃ z, z = kindJ re.data.toList := ⟨_, rfl⟩
  have hkd2 : kd = re[0].toNat := by rw [hkd]; unfold kindJ; rw [getD_byte re h0l]
  have kdl : kd < 256 := by rw [hkd2]; exact re[0].toNat_lt
  have kx : ∀ w, (Instr.index 9 (.string re) (.int .i64 0)).run Tryd.prog w = .ok (.int .u8 (kd : Nat)) w := fun w => by rw [hkd2]; exact byteR_run (k := 0) h0l w
  have vkd := wrapI_in (show kd < 1000000000000000 by omega)
  obtain ⟨seg, hseg⟩ : ∃ z, z = strL ((re.data.toList.drop 1).take n) := ⟨_, rfl⟩
  have hrl : re.data.toList.length = re.size := by rw [Array.length_toList]; rfl
  have hsegl : seg.size = n := by rw [hseg, strL_size, List.length_take, List.length_drop, hrl]; omega
  have ks : ∀ w, (Instr.slice 9 (.string re) (some (.int .i64 1)) (some (.int .i64 (n1 : Nat))) none).run Tryd.prog w = .ok (.string seg) w := fun w => by
    have h := cutMid_run re (i := 1) (j := n1) (by omega) w hn1l
    rw [show n1 - 1 = n by omega, ← hseg] at h
    exact h
  obtain ⟨ln, hln⟩ : ∃ z, z = lineJ SS j re.data.toList ab.data.toList := ⟨_, rfl⟩
  have hln2 : ln = undoF (kd : Nat) bp seg.data.toList ab.data.toList := by
    rw [hln]
    unfold lineJ
    have hfa : (if j.first = true then [] else ab.data.toList) = ab.data.toList := by
      by_cases hf : j.first = true
      · rw [if_pos hf, HS.out.lf.ab0 (HJ.out.2.2.2.2.1 hf)]
      · rw [if_neg hf]
    rw [hfa, HT.out.bE, hkd, hseg, strL_list, HJ.out.1, HT.out.nE]
  have hlnl : ln.length = n := by rw [hln2, undoF_length, Array.length_toList]; exact hsegl
  have hw0 : wrongP (bp : Int) seg ab = 0 := by
    unfold wrongP
    have h1 := HT.out.b1
    have h8 := HT.out.b8
    refine if_neg ?_
    rintro (h | h | ⟨h, h'⟩)
    · omega
    · omega
    · rcases HS.out.lf.abn with h2 | h2
      · exact h h2
      · exact h' (by rw [h2, hsegl])
  have HUN0 := Lib.hid fun (v : World) => eundo_any v (bp : Int) (kd : Int) seg ab (by rw [hsegl]; omega) (by rcases HS.out.lf.abn with h2 | h2 <;> omega)
  obtain ⟨us, hus⟩ : ∃ z, z = strL (undoA (bp : Int) (kd : Int) seg ab) := ⟨_, rfl⟩
  obtain ⟨er, her⟩ : ∃ z, z = wrongF (bp : Int) (kd : Int) seg ab := ⟨_, rfl⟩
  rw [← her, ← hus] at HUN0
  have HER4 : Hid (4 < kd → er = 28) := Lib.hid fun hk => by
    rw [her]
    unfold wrongF
    rw [hw0, if_neg (fun h => h rfl), if_pos (by omega)]
  have HER0 : Hid (¬ 4 < kd → er = 0 ∧ us = strL ln) := Lib.hid fun hk => by
    have her0 : wrongF (bp : Int) (kd : Int) seg ab = 0 := by
      unfold wrongF
      rw [hw0, if_neg (fun h => h rfl), if_neg (by omega)]
    exact ⟨by rw [her, her0], by rw [hus, undoA_ok her0, hln2]⟩
  have HKD0 : Hid (kd = kindJ re.data.toList) := Lib.hid hkd
  have HLNl := Lib.hid hlnl
  have HLNe := Lib.hid hln
  have HN1 : Hid (n1 = 1 + n) := Lib.hid hn1
  have i0 : (0 : Int) ≤ (y : Int) := by omega
  have i1 : (y : Int) < (Hp : Int) := by omega
  have HRLE := Lib.hid hrl
  clear hus her hln hln2 hlnl hkd hkd2 hsz2 hsegl hw0 hn1 hj hJ2 hseg hrl hy
  obtain ⟨c0, c1, c2, c3, c4, c5, c6, c7, hgl⟩ := HSC.out _ HS.out.but
  go_wp2_with fail
  refine (HT.out.row _).mono ?_
  rintro e w10 ⟨rfl, hB10⟩
  have HX10 := Lib.hid (HS.out.blk.but hB10 (by simp))
  have HB10 := Lib.hid (HS.out.but.trans hB10.wide)
  clear hB10 p0 p1 p2 p3 p4 p5 hpl c0 c1 c2 c3 c4 c5 c6 c7 hgl
  go_upto_region 20 with (fail)
  refine wp_region_m (S := fun v => But [] w10 v) (R := fun v v' => But [] v v') (fun w => But.refl [] w) (by kernel_rfl) ((But.refl [] w10).drew) ?_
  refine wpM_take (fun w => But.refl [] w) (fun x y z h k => h.trans k) (i := 0) (v := .pointer (some ⟨b0, 0, none⟩)) rfl (by kernel_rfl) (by kernel_rfl) (by kernel_rfl) (fun c a w h => hpan c a _ _ w h) (YieldsR.read (fun w => But.refl [] w) ?_ fun w hS => ?_) ?_
  · first | kernel_rfl | go_simp
  · go_simp
  refine wpM_take (fun w => But.refl [] w) (fun x y z h k => h.trans k) (i := 1) (v := .agg #[.int .i64 W, .int .i64 H, .int .i64 D, .int .i64 C, .int .i64 l]) rfl (by kernel_rfl) (by kernel_rfl) (by kernel_rfl) (fun c a w h => hpan c a _ _ w h) (YieldsR.read (fun w => But.refl [] w) ?_ fun w hS => ?_) ?_
  · first | kernel_rfl | go_simp
  · obtain ⟨c0, c1, c2, c3, c4, c5, c6, c7, hgl⟩ := HSC.out w (HB10.out.trans hS.wide); go_simp
  refine wpM_take (fun w => But.refl [] w) (fun x y z h k => h.trans k) (i := 2) (v := .int .i64 (bp : Nat)) rfl (by kernel_rfl) (by kernel_rfl) (by kernel_rfl) (fun c a w h => hpan c a _ _ w h) (.inl ⟨?_, fun w hS => .inr ⟨_, _, ?_, (HT.out.byt w).mono ?_⟩⟩) ?_
  · go_simp
  · go_simp
  · rintro e wy ⟨rfl, hB⟩; exact ⟨rfl, hS.trans hB, hB⟩
  refine wpM_take (fun w => But.refl [] w) (fun x y z h k => h.trans k) (i := 3) (v := .string re) rfl (by kernel_rfl) (by kernel_rfl) (by kernel_rfl) (fun c a w h => hpan c a _ _ w h) (YieldsR.read (fun w => But.refl [] w) ?_ fun w hS => ?_) ?_
  · first | kernel_rfl | go_simp
  · go_simp
  refine wpM_take (fun w => But.refl [] w) (fun x y z h k => h.trans k) (i := 4) (v := .int .u8 (kd : Nat)) rfl (by kernel_rfl) (by kernel_rfl) (by kernel_rfl) (fun c a w h => hpan c a _ _ w h) (YieldsR.read (fun w => But.refl [] w) ?_ fun w hS => ?_) ?_
  · first | kernel_rfl | go_simp
  · go_simp
  refine wpM_take (fun w => But.refl [] w) (fun x y z h k => h.trans k) (i := 5) (v := .int .i64 (kd : Nat)) rfl (by kernel_rfl) (by kernel_rfl) (by kernel_rfl) (fun c a w h => hpan c a _ _ w h) (YieldsR.read (fun w => But.refl [] w) ?_ fun w hS => ?_) ?_
  · first | kernel_rfl | go_simp
  · go_simp
  refine wpM_take (fun w => But.refl [] w) (fun x y z h k => h.trans k) (i := 6) (v := .string re) rfl (by kernel_rfl) (by kernel_rfl) (by kernel_rfl) (fun c a w h => hpan c a _ _ w h) (YieldsR.read (fun w => But.refl [] w) ?_ fun w hS => ?_) ?_
  · first | kernel_rfl | go_simp
  · go_simp
  refine wpM_take (fun w => But.refl [] w) (fun x y z h k => h.trans k) (i := 7) (v := .int .i64 (n : Nat)) rfl (by kernel_rfl) (by kernel_rfl) (by kernel_rfl) (fun c a w h => hpan c a _ _ w h) (YieldsR.read (fun w => But.refl [] w) ?_ fun w hS => ?_) ?_
  · first | kernel_rfl | go_simp
  · go_simp
  refine wpM_take (fun w => But.refl [] w) (fun x y z h k => h.trans k) (i := 8) (v := .int .i64 (n1 : Nat)) rfl (by kernel_rfl) (by kernel_rfl) (by kernel_rfl) (fun c a w h => hpan c a _ _ w h) (YieldsR.read (fun w => But.refl [] w) ?_ fun w hS => ?_) ?_
  · first | kernel_rfl | go_simp
  · go_simp
  refine wpM_take (fun w => But.refl [] w) (fun x y z h k => h.trans k) (i := 9) (v := .string seg) rfl (by kernel_rfl) (by kernel_rfl) (by kernel_rfl) (fun c a w h => hpan c a _ _ w h) (YieldsR.read (fun w => But.refl [] w) ?_ fun w hS => ?_) ?_
  · first | kernel_rfl | go_simp
  · go_simp
  refine wpM_take (fun w => But.refl [] w) (fun x y z h k => h.trans k) (i := 10) (v := .string ab) rfl (by kernel_rfl) (by kernel_rfl) (by kernel_rfl) (fun c a w h => hpan c a _ _ w h) (YieldsR.read (fun w => But.refl [] w) ?_ fun w hS => ?_) ?_
  · first | kernel_rfl | go_simp
  · go_simp
  refine wpM_take (fun w => But.refl [] w) (fun x y z h k => h.trans k) (i := 11) (v := .tuple #[.string us, .int .i64 er]) rfl (by kernel_rfl) (by kernel_rfl) (by kernel_rfl) (fun c a w h => hpan c a _ _ w h) (.inl ⟨?_, fun w hS => .inr ⟨_, _, ?_, (HUN0.out w).mono ?_⟩⟩) ?_
  · go_simp
  · go_simp
  · rintro e wy ⟨rfl, hB⟩; exact ⟨rfl, hS.trans hB, hB⟩
  refine wpM_take (fun w => But.refl [] w) (fun x y z h k => h.trans k) (i := 12) (v := .tuple #[.string us, .int .i64 er]) rfl (by kernel_rfl) (by kernel_rfl) (by kernel_rfl) (fun c a w h => hpan c a _ _ w h) (YieldsR.read (fun w => But.refl [] w) ?_ fun w hS => ?_) ?_
  · first | kernel_rfl | go_simp
  · go_simp
  refine wpM_take (fun w => But.refl [] w) (fun x y z h k => h.trans k) (i := 13) (v := .string us) rfl (by kernel_rfl) (by kernel_rfl) (by kernel_rfl) (fun c a w h => hpan c a _ _ w h) (YieldsR.read (fun w => But.refl [] w) ?_ fun w hS => ?_) ?_
  · first | kernel_rfl | go_simp
  · go_simp
  refine wpM_take (fun w => But.refl [] w) (fun x y z h k => h.trans k) (i := 14) (v := .int .i64 er) rfl (by kernel_rfl) (by kernel_rfl) (by kernel_rfl) (fun c a w h => hpan c a _ _ w h) (YieldsR.read (fun w => But.refl [] w) ?_ fun w hS => ?_) ?_
  · first | kernel_rfl | go_simp
  · go_simp
  refine wpM_take (fun w => But.refl [] w) (fun x y z h k => h.trans k) (i := 15) (v := .string us) rfl (by kernel_rfl) (by kernel_rfl) (by kernel_rfl) (fun c a w h => hpan c a _ _ w h) (YieldsR.read (fun w => But.refl [] w) ?_ fun w hS => ?_) ?_
  · first | kernel_rfl | go_simp
  · go_simp
  refine wpM_take (fun w => But.refl [] w) (fun x y z h k => h.trans k) (i := 16) (v := .int .i64 er) rfl (by kernel_rfl) (by kernel_rfl) (by kernel_rfl) (fun c a w h => hpan c a _ _ w h) (YieldsR.read (fun w => But.refl [] w) ?_ fun w hS => ?_) ?_
  · first | kernel_rfl | go_simp
  · go_simp
  refine ⟨by kernel_rfl, fun w11 hR11 hS11 => ?_⟩
  have HX11 := Lib.hid (HX10.out.but hS11 (by simp))
  have HB11 := Lib.hid (HB10.out.trans hS11.wide)
  clear hR11 hS11 HX10 HB10 HUN0 kx ks
  go_simp
  have hk4 : ¬ 4 < kd := by rw [HKD0.out]; exact hk.out
  obtain ⟨rfl, hus⟩ := HER0.out hk4
  have HUS := Lib.hid hus
  have HKD : Hid (¬ 4 < kindJ re.data.toList) := Lib.hid (by rw [← HKD0.out]; exact hk4)
  obtain ⟨re2, hre2⟩ : ∃ z, z = strL (re.data.toList.drop n1) := ⟨_, rfl⟩
  have kf : ∀ w, (Instr.slice 9 (.string re) (some (.int .i64 (n1 : Nat))) none none).run Tryd.prog w = .ok (.string re2) w := fun w => by rw [hre2]; exact cutFrom_run re w hn1l
  have HRW3 : Hid (re2.data.toList = re.data.toList.drop (1 + rowLen SS j.n)) := Lib.hid (by rw [hre2, strL_list, HN1.out, HJ.out.1, HT.out.nE])
  have HRS3 : Hid (re2.size = sizeJ SS J2) := Lib.hid (by
    rw [hre2, strL_size, List.length_drop, HRLE.out]
    have := HSZ2.out
    have := HN1.out
    omega)
  have HRL3 : Hid (re2.size ≤ 140737488351232) := Lib.hid (by rw [HRS3.out]; have := HS.out.lf.big; have := HSZ2.out; omega)
  obtain ⟨nv, hnv⟩ : ∃ z, z = S * Wp := ⟨_, rfl⟩
  have hnvl : nv ≤ 4096 := by rw [hnv]; show _ ≤ 4 * 1024; exact Nat.mul_le_mul HT.out.s4 wl
  have env : (S : Int) * (Wp : Int) = (nv : Int) := by rw [hnv, Int.natCast_mul]
  have vnv := wrapI_in (show nv < 1000000000000000 by omega)
  obtain ⟨V, hV⟩ : ∃ V, V = unpackT ln D nv := ⟨_, rfl⟩
  have HUPn : Hid (∀ v, Calls Tryd.prog 29 #[.string us, .int .i64 D, .int .i64 (nv : Nat)] v fun e w' => ∃ A cap, e = .returned (.tuple #[.slice A nv cap, .int .i64 0]) ∧ Nums w' A nv V ∧ nv ≤ cap ∧ But [] v w') := Lib.hid fun v => by
    rw [hus, hV, hnv]
    exact HT.out.unp v ln HLNl.out
  have HVC : Hid (∀ x, x < Wp → (V.drop (S * x)).take S = sampsL SS ln x) := Lib.hid fun x hx => by rw [hV, hnv]; exact HT.out.cut ln x hx
  have HNV := Lib.hid hnv
  have hUSs : us.size ≤ 8192 := by rw [hus, strL_size, HLNl.out]; exact nl
  have HUSs := Lib.hid hUSs
  clear hus hre2 hV hnv hUSs
  obtain ⟨c0, c1, c2, c3, c4, c5, c6, c7, hgl⟩ := HSC.out _ HB11.out
  obtain ⟨p0, p1, p2, p3, p4, p5, hpl⟩ := HPC.out _ HB11.out
  go_wp2_with fail
  refine (HUPn.out _).mono ?_
  rintro e w12 ⟨A12, cv, rfl, hV12, hcv, hB12⟩
  have HV12 := Lib.hid hV12
  have HX12 := Lib.hid (HX11.out.but hB12 (by simp))
  have HB12 := Lib.hid (HB11.out.trans hB12.wide)
  clear hV12 hB12 c0 c1 c2 c3 c4 c5 c6 c7 hgl p0 p1 p2 p3 p4 p5 hpl kf
  obtain ⟨GO, hGO⟩ : ∃ GO, GO = pixGo SS ln j j.n 0 pix := ⟨_, rfl⟩
  have HGO := Lib.hid hGO
  have HSTX : Hid (StX w w12 b0 b4 gp bB n8 S nv cv y W H D C px py dx dy Wp Hp l pal tr has A12 V SS ln j GO R1) := Lib.hid {
    shp := HT.out.shp.butP HB12.out HT.out.off.1 HT.out.off.2.1
    pas := HT.out.pas.but HB12.out HT.out.off.2.2
    num := HV12.out
    nums := fun v hv => HV12.out.keep HX12.out hv
    off := HT.out.off
    le4 := HT.out.le4
    hide := fun v hv => HT.out.hide v (HB12.out.trans hv)
    nvE := HNV.out
    nvc := hcv
    nvl := hnvl
    s1 := HT.out.s1
    s4 := HT.out.s4
    cut := HVC.out
    jj := ⟨HJ.out.1, HJ.out.2.1, HJ.out.2.2.1, HJ.out.2.2.2.1⟩
    pl := HT.out.pl y hyl
    wl := HT.out.wl
    ww := HT.out.ww
    n8E := HT.out.n8E
    ssw := HT.out.ssw
    pxl := fun v A cp x hZ => HT.out.pxl v A cp ln x hZ
    err := fun e he he0 => HT.out.err e (by
      rw [HS.out.lf.im, HLNy.out]
      have h := runI_err (S := SS) (j := j) (js := J2) (raw := re.data.toList) (above := ab.data.toList) (pix := pix) HKD.out (by rw [← HLNe.out, ← HGO.out, he]; exact he0)
      rw [← HLNe.out, ← HGO.out, he] at h
      exact h) he0 }
  have HLOX : Hid (LoX w12 gp n8 Wp SS ln j GO 0 pix w12) := Lib.hid ⟨Nat.zero_le _, by rw [HGO.out, HJ.out.1, Nat.sub_zero], HS.out.lf.pl, HX12.out, But.refl _ _⟩
  clear hGO hyl hcv
  go_wp2_with fail
  refine imx_loop HSTX.out ?_ ?_ ?_ HLOX.out
  · intro c a d v w h
    first | exact hpan _ _ _ _ _ h | (cases d <;> exact h)
  · intro act w1 h
    exact hret _ _ h
  · intro act wz hX
    refine wxx_open hX ?_
    clear hX
    intro u20 u21 u116 u117 u118 u119 u120 u121 u122 u123 u124 u125 u126 u127 u128 u129 u130 u131 u132 u133 u134 u135 u136 u137 u138 u139 u140 u141 u142 u143 u144 u145 u146 u147 u148 u149 u150 u151 u152 u153 u154 u155 u156 u157 u158 u159 u160 u161 u162 u163 u164 pixz hz
    have HZ := Lib.hid hz
    have HZB := Lib.hid (HB12.out.trans hz.2.2.2)
    have HL5 : Hid (LeftS IM SS (leftP W H p (y + 1) ++ JS) n n8 (y + 1 = 0) re2 us pixz) := Lib.hid (by
      have hg : pixGo SS (lineJ SS j re.data.toList ab.data.toList) j j.n 0 pix = (pixz, 0) := by rw [← HLNe.out, ← HGO.out]; exact HZ.out.1
      refine ⟨?_, by rw [← HJ2.out]; exact HRS3.out, HRL3.out, fun h => absurd h (by omega), .inr (by rw [HUS.out, strL_size, HLNl.out]), HZ.out.2.1⟩
      rw [HS.out.lf.im, HLNy.out, runI_go HKD.out (by rw [hg]), hg, HRW3.out, HUS.out, strL_list, HLNe.out, HJ2.out])
    clear hz
    go_wp2
    refine ⟨?_, ?_⟩
    · unfold WIY
      exact ⟨_, _, _, _, _, _, _, _, _, _, _, _, _, _, _, _, _, _, _, _, _, _, _, _, _, _, _, _, _, _, _, _, _, _, _, _, _, _, _, _, _, _, _, _, _, _, _, _, _, _, _, _, _, _, _, _, _, _, _, _, _, _, _, _, _, _, _, _, _, _, _, _, _, _, _, _, _, _, _, _, _, _, _, _, _, _, _, _, _, _, _, _, _, _, _, _, _, _, _, _, _, _, _, _, y + 1, re2, us, pixz, ⟨by have := HS.out.le; have := hy2.out; omega, HL5.out, HZ.out.2.2.1, HZB.out⟩, rfl⟩
    · have := hy2.out
      show Hp - (intOf (.int .i64 ((y : Int) + 1))).toNat < Hp - (intOf (.int .i64 (y : Int))).toNat
      simp [intOf]; omega
theorem imy_round {act : Act} (hT : StY w w9 b0 b4 gp bB n8 S n bp W H D C px py dx dy Wp Hp l pal tr has SS p JS IM R1) (hpan : ∀ (c : List PanicEntry) (a : Act) (d : Option Tmp) (v : Value) (w : World), Q0 (.panic c) (a.put d v) w → Q0 (.panic c) a w) (hret : ∀ act w1, bodyPost Tryd.prog Tryd.f12 (fun e w' => e = .returned (.tuple #[.agg #[.int .i64 R1.1.1, .int .i64 R1.1.2.1, .string R1.1.2.2], .int .i64 R1.2]) ∧ But [] w w') Exit.ret act w1 → Q0 .ret act w1) (hexit : ∀ act w1, WXY w9 b0 b4 gp bB n8 S n W H Hp SS p JS IM c0 c3 c5 c6 c9 c10 c22 c23 c24 c25 c26 c27 c28 c29 c30 c31 c32 c33 c34 c35 c36 c37 c38 c39 c40 c41 c42 c43 c44 c45 c46 c47 c48 c49 c50 c51 c52 c53 c54 c55 c56 c57 c58 c59 c60 c61 c62 c63 c64 c65 c66 c67 c68 c165 c166 c167 c168 c169 c170 c171 c172 c173 act w1 → Q0 (.exit 2) act w1) (hI : WIY w9 b0 b4 gp bB n8 S n W H Hp SS p JS IM c0 c3 c5 c6 c9 c10 c22 c23 c24 c25 c26 c27 c28 c29 c30 c31 c32 c33 c34 c35 c36 c37 c38 c39 c40 c41 c42 c43 c44 c45 c46 c47 c48 c49 c50 c51 c52 c53 c54 c55 c56 c57 c58 c59 c60 c61 c62 c63 c64 c65 c66 c67 c68 c165 c166 c167 c168 c169 c170 c171 c172 c173 act wr) :
    Code.wp Tryd.prog imBodyY (Exit.then (fun act' w1 => WIY w9 b0 b4 gp bB n8 S n W H Hp SS p JS IM c0 c3 c5 c6 c9 c10 c22 c23 c24 c25 c26 c27 c28 c29 c30 c31 c32 c33 c34 c35 c36 c37 c38 c39 c40 c41 c42 c43 c44 c45 c46 c47 c48 c49 c50 c51 c52 c53 c54 c55 c56 c57 c58 c59 c60 c61 c62 c63 c64 c65 c66 c67 c68 c165 c166 c167 c168 c169 c170 c171 c172 c173 act' w1 ∧ MuY Hp act' w1 < MuY Hp act wr) Q0) act wr := by
  unfold WIY at hI
  cases hI with
  | intro u14 hI =>
  cases hI with
  | intro u15 hI =>
  cases hI with
  | intro u16 hI =>
  cases hI with
  | intro u17 hI =>
  cases hI with
  | intro u18 hI =>
  cases hI with
  | intro u19 hI =>
  cases hI with
  | intro u20 hI =>
  cases hI with
  | intro u21 hI =>
  cases hI with
  | intro u69 hI =>
  cases hI with
  | intro u70 hI =>
  cases hI with
  | intro u71 hI =>
  cases hI with
  | intro u72 hI =>
  cases hI with
  | intro u73 hI =>
  cases hI with
  | intro u74 hI =>
  cases hI with
  | intro u75 hI =>
  cases hI with
  | intro u76 hI =>
  cases hI with
  | intro u77 hI =>
  cases hI with
  | intro u78 hI =>
  cases hI with
  | intro u79 hI =>
  cases hI with
  | intro u80 hI =>
  cases hI with
  | intro u81 hI =>
  cases hI with
  | intro u82 hI =>
  cases hI with
  | intro u83 hI =>
  cases hI with
  | intro u84 hI =>
  cases hI with
  | intro u85 hI =>
  cases hI with
  | intro u86 hI =>
  cases hI with
  | intro u87 hI =>
  cases hI with
  | intro u88 hI =>
  cases hI with
  | intro u89 hI =>
  cases hI with
  | intro u90 hI =>
  cases hI with
  | intro u91 hI =>
  cases hI with
  | intro u92 hI =>
  cases hI with
  | intro u93 hI =>
  cases hI with
  | intro u94 hI =>
  cases hI with
  | intro u95 hI =>
  cases hI with
  | intro u96 hI =>
  cases hI with
  | intro u97 hI =>
  cases hI with
  | intro u98 hI =>
  cases hI with
  | intro u99 hI =>
  cases hI with
  | intro u100 hI =>
  cases hI with
  | intro u101 hI =>
  cases hI with
  | intro u102 hI =>
  cases hI with
  | intro u103 hI =>
  cases hI with
  | intro u104 hI =>
  cases hI with
  | intro u105 hI =>
  cases hI with
  | intro u106 hI =>
  cases hI with
  | intro u107 hI =>
  cases hI with
  | intro u108 hI =>
  cases hI with
  | intro u109 hI =>
  cases hI with
  | intro u110 hI =>
  cases hI with
  | intro u111 hI =>
  cases hI with
  | intro u112 hI =>
  cases hI with
  | intro u113 hI =>
  cases hI with
  | intro u114 hI =>
  cases hI with
  | intro u115 hI =>
  cases hI with
  | intro u116 hI =>
  cases hI with
  | intro u117 hI =>
  cases hI with
  | intro u118 hI =>
  cases hI with
  | intro u119 hI =>
  cases hI with
  | intro u120 hI =>
  cases hI with
  | intro u121 hI =>
  cases hI with
  | intro u122 hI =>
  cases hI with
  | intro u123 hI =>
  cases hI with
  | intro u124 hI =>
  cases hI with
  | intro u125 hI =>
  cases hI with
  | intro u126 hI =>
  cases hI with
  | intro u127 hI =>
  cases hI with
  | intro u128 hI =>
  cases hI with
  | intro u129 hI =>
  cases hI with
  | intro u130 hI =>
  cases hI with
  | intro u131 hI =>
  cases hI with
  | intro u132 hI =>
  cases hI with
  | intro u133 hI =>
  cases hI with
  | intro u134 hI =>
  cases hI with
  | intro u135 hI =>
  cases hI with
  | intro u136 hI =>
  cases hI with
  | intro u137 hI =>
  cases hI with
  | intro u138 hI =>
  cases hI with
  | intro u139 hI =>
  cases hI with
  | intro u140 hI =>
  cases hI with
  | intro u141 hI =>
  cases hI with
  | intro u142 hI =>
  cases hI with
  | intro u143 hI =>
  cases hI with
  | intro u144 hI =>
  cases hI with
  | intro u145 hI =>
  cases hI with
  | intro u146 hI =>
  cases hI with
  | intro u147 hI =>
  cases hI with
  | intro u148 hI =>
  cases hI with
  | intro u149 hI =>
  cases hI with
  | intro u150 hI =>
  cases hI with
  | intro u151 hI =>
  cases hI with
  | intro u152 hI =>
  cases hI with
  | intro u153 hI =>
  cases hI with
  | intro u154 hI =>
  cases hI with
  | intro u155 hI =>
  cases hI with
  | intro u156 hI =>
  cases hI with
  | intro u157 hI =>
  cases hI with
  | intro u158 hI =>
  cases hI with
  | intro u159 hI =>
  cases hI with
  | intro u160 hI =>
  cases hI with
  | intro u161 hI =>
  cases hI with
  | intro u162 hI =>
  cases hI with
  | intro u163 hI =>
  cases hI with
  | intro u164 hI =>
  cases hI with
  | intro y hI =>
  cases hI with
  | intro re hI =>
  cases hI with
  | intro ab hI =>
  cases hI with
  | intro pix hI =>
  have hS := hI.1
  have he := hI.2
  subst he
  by_cases hy : y < Hp
  · by_cases hk : 4 < kindJ re.data.toList
    · exact imy_bad hT hpan hret hS (Lib.hid hy) (Lib.hid hk)
    · exact imy_go hT hpan hret hS (Lib.hid hy) (Lib.hid hy) (Lib.hid hk)
  · exact imy_end hT hpan hret hS (Lib.hid hy) hexit
/-- The loop. -/
theorem imy_loop (hT : StY w w9 b0 b4 gp bB n8 S n bp W H D C px py dx dy Wp Hp l pal tr has SS p JS IM R1) (hpan : ∀ (c : List PanicEntry) (a : Act) (d : Option Tmp) (v : Value) (w : World), Q0 (.panic c) (a.put d v) w → Q0 (.panic c) a w) (hret : ∀ act w1, bodyPost Tryd.prog Tryd.f12 (fun e w' => e = .returned (.tuple #[.agg #[.int .i64 R1.1.1, .int .i64 R1.1.2.1, .string R1.1.2.2], .int .i64 R1.2]) ∧ But [] w w') Exit.ret act w1 → Q0 .ret act w1) (hexit : ∀ act w1, WXY w9 b0 b4 gp bB n8 S n W H Hp SS p JS IM c0 c3 c5 c6 c9 c10 c22 c23 c24 c25 c26 c27 c28 c29 c30 c31 c32 c33 c34 c35 c36 c37 c38 c39 c40 c41 c42 c43 c44 c45 c46 c47 c48 c49 c50 c51 c52 c53 c54 c55 c56 c57 c58 c59 c60 c61 c62 c63 c64 c65 c66 c67 c68 c165 c166 c167 c168 c169 c170 c171 c172 c173 act w1 → Q0 (.exit 2) act w1) (hS : LoY w9 gp n8 n W H Hp SS p JS IM y re ab pix wr) :
    Code.wp Tryd.prog (Code.loop imBodyY) Q0 ⟨#[c0, .string re, .pointer (some ⟨b0, 0, none⟩), c3, .pointer (some ⟨b4, 0, none⟩), c5, c6, .slice (some ⟨gp, 0, none⟩) n8 n8, .int .i64 (S : Nat), c9, c10, .pointer (some ⟨bB, 0, none⟩), .string ab, .int .i64 (y : Nat), u14, u15, u16, u17, u18, u19, u20, u21, c22, c23, c24, c25, c26, c27, c28, c29, c30, c31, c32, c33, c34, c35, c36, c37, c38, c39, c40, c41, c42, c43, c44, c45, c46, c47, c48, c49, c50, c51, c52, c53, c54, c55, c56, c57, c58, c59, c60, c61, c62, c63, c64, c65, c66, c67, c68, u69, u70, u71, u72, u73, u74, u75, u76, u77, u78, u79, u80, u81, u82, u83, u84, u85, u86, u87, u88, u89, u90, u91, u92, u93, u94, u95, u96, u97, u98, u99, u100, u101, u102, u103, u104, u105, u106, u107, u108, u109, u110, u111, u112, u113, u114, u115, u116, u117, u118, u119, u120, u121, u122, u123, u124, u125, u126, u127, u128, u129, u130, u131, u132, u133, u134, u135, u136, u137, u138, u139, u140, u141, u142, u143, u144, u145, u146, u147, u148, u149, u150, u151, u152, u153, u154, u155, u156, u157, u158, u159, u160, u161, u162, u163, u164, c165, c166, c167, c168, c169, c170, c171, c172, c173], []⟩ wr := by
  refine wp_loop (WIY w9 b0 b4 gp bB n8 S n W H Hp SS p JS IM c0 c3 c5 c6 c9 c10 c22 c23 c24 c25 c26 c27 c28 c29 c30 c31 c32 c33 c34 c35 c36 c37 c38 c39 c40 c41 c42 c43 c44 c45 c46 c47 c48 c49 c50 c51 c52 c53 c54 c55 c56 c57 c58 c59 c60 c61 c62 c63 c64 c65 c66 c67 c68 c165 c166 c167 c168 c169 c170 c171 c172 c173) (MuY Hp) ?_ (fun act w1 hI => imy_round hT hpan hret hexit hI)
  unfold WIY
  exact ⟨_, _, _, _, _, _, _, _, _, _, _, _, _, _, _, _, _, _, _, _, _, _, _, _, _, _, _, _, _, _, _, _, _, _, _, _, _, _, _, _, _, _, _, _, _, _, _, _, _, _, _, _, _, _, _, _, _, _, _, _, _, _, _, _, _, _, _, _, _, _, _, _, _, _, _, _, _, _, _, _, _, _, _, _, _, _, _, _, _, _, _, _, _, _, _, _, _, _, _, _, _, _, _, _, y, re, ab, pix, hS, rfl⟩
/-- The end of the loop, laid open. -/
theorem wxy_open {act : Act} {G : Act → World → Prop} (hX : WXY w9 b0 b4 gp bB n8 S n W H Hp SS p JS IM c0 c3 c5 c6 c9 c10 c22 c23 c24 c25 c26 c27 c28 c29 c30 c31 c32 c33 c34 c35 c36 c37 c38 c39 c40 c41 c42 c43 c44 c45 c46 c47 c48 c49 c50 c51 c52 c53 c54 c55 c56 c57 c58 c59 c60 c61 c62 c63 c64 c65 c66 c67 c68 c165 c166 c167 c168 c169 c170 c171 c172 c173 act wr)
    (k : ∀ (u14 u15 u16 u17 u18 u19 u20 u21 u69 u70 u71 u72 u73 u74 u75 u76 u77 u78 u79 u80 u81 u82 u83 u84 u85 u86 u87 u88 u89 u90 u91 u92 u93 u94 u95 u96 u97 u98 u99 u100 u101 u102 u103 u104 u105 u106 u107 u108 u109 u110 u111 u112 u113 u114 u115 u116 u117 u118 u119 u120 u121 u122 u123 u124 u125 u126 u127 u128 u129 u130 u131 u132 u133 u134 u135 u136 u137 u138 u139 u140 u141 u142 u143 u144 u145 u146 u147 u148 u149 u150 u151 u152 u153 u154 u155 u156 u157 u158 u159 u160 u161 u162 u163 u164 : Value) (re ab : ByteArray) (pix : List UInt8), (LeftS IM SS JS n n8 False re ab pix ∧ BytesB wr gp pix ∧ But [gp] w9 wr) → G ⟨#[c0, .string re, .pointer (some ⟨b0, 0, none⟩), c3, .pointer (some ⟨b4, 0, none⟩), c5, c6, .slice (some ⟨gp, 0, none⟩) n8 n8, .int .i64 (S : Nat), c9, c10, .pointer (some ⟨bB, 0, none⟩), .string ab, .int .i64 (Hp : Nat), u14, u15, u16, u17, u18, u19, u20, u21, c22, c23, c24, c25, c26, c27, c28, c29, c30, c31, c32, c33, c34, c35, c36, c37, c38, c39, c40, c41, c42, c43, c44, c45, c46, c47, c48, c49, c50, c51, c52, c53, c54, c55, c56, c57, c58, c59, c60, c61, c62, c63, c64, c65, c66, c67, c68, u69, u70, u71, u72, u73, u74, u75, u76, u77, u78, u79, u80, u81, u82, u83, u84, u85, u86, u87, u88, u89, u90, u91, u92, u93, u94, u95, u96, u97, u98, u99, u100, u101, u102, u103, u104, u105, u106, u107, u108, u109, u110, u111, u112, u113, u114, u115, u116, u117, u118, u119, u120, u121, u122, u123, u124, u125, u126, u127, u128, u129, u130, u131, u132, u133, u134, u135, u136, u137, u138, u139, u140, u141, u142, u143, u144, u145, u146, u147, u148, u149, u150, u151, u152, u153, u154, u155, u156, u157, u158, u159, u160, u161, u162, u163, u164, c165, c166, c167, c168, c169, c170, c171, c172, c173], []⟩ wr) : G act wr := by
  unfold WXY at hX
  cases hX with
  | intro u14 hX =>
  cases hX with
  | intro u15 hX =>
  cases hX with
  | intro u16 hX =>
  cases hX with
  | intro u17 hX =>
  cases hX with
  | intro u18 hX =>
  cases hX with
  | intro u19 hX =>
  cases hX with
  | intro u20 hX =>
  cases hX with
  | intro u21 hX =>
  cases hX with
  | intro u69 hX =>
  cases hX with
  | intro u70 hX =>
  cases hX with
  | intro u71 hX =>
  cases hX with
  | intro u72 hX =>
  cases hX with
  | intro u73 hX =>
  cases hX with
  | intro u74 hX =>
  cases hX with
  | intro u75 hX =>
  cases hX with
  | intro u76 hX =>
  cases hX with
  | intro u77 hX =>
  cases hX with
  | intro u78 hX =>
  cases hX with
  | intro u79 hX =>
  cases hX with
  | intro u80 hX =>
  cases hX with
  | intro u81 hX =>
  cases hX with
  | intro u82 hX =>
  cases hX with
  | intro u83 hX =>
  cases hX with
  | intro u84 hX =>
  cases hX with
  | intro u85 hX =>
  cases hX with
  | intro u86 hX =>
  cases hX with
  | intro u87 hX =>
  cases hX with
  | intro u88 hX =>
  cases hX with
  | intro u89 hX =>
  cases hX with
  | intro u90 hX =>
  cases hX with
  | intro u91 hX =>
  cases hX with
  | intro u92 hX =>
  cases hX with
  | intro u93 hX =>
  cases hX with
  | intro u94 hX =>
  cases hX with
  | intro u95 hX =>
  cases hX with
  | intro u96 hX =>
  cases hX with
  | intro u97 hX =>
  cases hX with
  | intro u98 hX =>
  cases hX with
  | intro u99 hX =>
  cases hX with
  | intro u100 hX =>
  cases hX with
  | intro u101 hX =>
  cases hX with
  | intro u102 hX =>
  cases hX with
  | intro u103 hX =>
  cases hX with
  | intro u104 hX =>
  cases hX with
  | intro u105 hX =>
  cases hX with
  | intro u106 hX =>
  cases hX with
  | intro u107 hX =>
  cases hX with
  | intro u108 hX =>
  cases hX with
  | intro u109 hX =>
  cases hX with
  | intro u110 hX =>
  cases hX with
  | intro u111 hX =>
  cases hX with
  | intro u112 hX =>
  cases hX with
  | intro u113 hX =>
  cases hX with
  | intro u114 hX =>
  cases hX with
  | intro u115 hX =>
  cases hX with
  | intro u116 hX =>
  cases hX with
  | intro u117 hX =>
  cases hX with
  | intro u118 hX =>
  cases hX with
  | intro u119 hX =>
  cases hX with
  | intro u120 hX =>
  cases hX with
  | intro u121 hX =>
  cases hX with
  | intro u122 hX =>
  cases hX with
  | intro u123 hX =>
  cases hX with
  | intro u124 hX =>
  cases hX with
  | intro u125 hX =>
  cases hX with
  | intro u126 hX =>
  cases hX with
  | intro u127 hX =>
  cases hX with
  | intro u128 hX =>
  cases hX with
  | intro u129 hX =>
  cases hX with
  | intro u130 hX =>
  cases hX with
  | intro u131 hX =>
  cases hX with
  | intro u132 hX =>
  cases hX with
  | intro u133 hX =>
  cases hX with
  | intro u134 hX =>
  cases hX with
  | intro u135 hX =>
  cases hX with
  | intro u136 hX =>
  cases hX with
  | intro u137 hX =>
  cases hX with
  | intro u138 hX =>
  cases hX with
  | intro u139 hX =>
  cases hX with
  | intro u140 hX =>
  cases hX with
  | intro u141 hX =>
  cases hX with
  | intro u142 hX =>
  cases hX with
  | intro u143 hX =>
  cases hX with
  | intro u144 hX =>
  cases hX with
  | intro u145 hX =>
  cases hX with
  | intro u146 hX =>
  cases hX with
  | intro u147 hX =>
  cases hX with
  | intro u148 hX =>
  cases hX with
  | intro u149 hX =>
  cases hX with
  | intro u150 hX =>
  cases hX with
  | intro u151 hX =>
  cases hX with
  | intro u152 hX =>
  cases hX with
  | intro u153 hX =>
  cases hX with
  | intro u154 hX =>
  cases hX with
  | intro u155 hX =>
  cases hX with
  | intro u156 hX =>
  cases hX with
  | intro u157 hX =>
  cases hX with
  | intro u158 hX =>
  cases hX with
  | intro u159 hX =>
  cases hX with
  | intro u160 hX =>
  cases hX with
  | intro u161 hX =>
  cases hX with
  | intro u162 hX =>
  cases hX with
  | intro u163 hX =>
  cases hX with
  | intro u164 hX =>
  cases hX with
  | intro re hX =>
  cases hX with
  | intro ab hX =>
  cases hX with
  | intro pix hX =>
  have he := hX.2
  subst he
  exact k _ _ _ _ _ _ _ _ _ _ _ _ _ _ _ _ _ _ _ _ _ _ _ _ _ _ _ _ _ _ _ _ _ _ _ _ _ _ _ _ _ _ _ _ _ _ _ _ _ _ _ _ _ _ _ _ _ _ _ _ _ _ _ _ _ _ _ _ _ _ _ _ _ _ _ _ _ _ _ _ _ _ _ _ _ _ _ _ _ _ _ _ _ _ _ _ _ _ _ _ _ _ _ _ re ab pix hX.1
end
end Go.Proofs.YtfiedoejdikcgaaDoor
