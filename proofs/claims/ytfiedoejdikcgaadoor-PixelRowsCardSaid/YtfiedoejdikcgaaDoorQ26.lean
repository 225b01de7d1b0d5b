/- Several texts in one: PkC (what PixelRows, PixelSame reach of them). -/
import Derived.Test.YtfiedoejdikcgaaDoorQ01
import Derived.Test.YtfiedoejdikcgaaDoorQ02
import Derived.Test.YtfiedoejdikcgaaDoorQ03
import Derived.Test.YtfiedoejdikcgaaDoorQ05
import Derived.Test.YtfiedoejdikcgaaDoorQ06
import Derived.Test.YtfiedoejdikcgaaDoorQ07
import Derived.Test.YtfiedoejdikcgaaDoorQ08
import Derived.Test.YtfiedoejdikcgaaDoorQ09
import Derived.Test.YtfiedoejdikcgaaDoorQ11
import Derived.Test.YtfiedoejdikcgaaDoorQ12
import Derived.Test.YtfiedoejdikcgaaDoorQ19
import Derived.Test.YtfiedoejdikcgaaDoorQ23
import Derived.Test.YtfiedoejdikcgaaDoorQ24
import Derived.Test.YtfiedoejdikcgaaDoorQ25
import Derived.Below
import Derived.BigQuiet
import Derived.BigRegion
import Derived.Deep.AppendLies
import Derived.Deep.CutBlock
import Derived.Deep.CutRange
import Derived.Deep.DeepCutAuto
import Derived.Deep.Draws
import Derived.Deep.QuietTactic
import Derived.Deep.RegionLaw
import Derived.Deep.RegionWith
import Derived.Handy
import Derived.Laws.BitsAllLaws
import Derived.Laws.BitsLemmas
import Derived.Laws.BytesArg
import Derived.Laws.IdiomStrings
import Derived.Laws.MakeOwn
import Derived.Laws.OwnMore
import Derived.Laws.Rows
import Derived.Laws.StructEq
import Derived.Lib.AppendStr
import Derived.Lib.BufferWrite
import Derived.Lib.Hide
import Derived.LoopIn
import Derived.LoopNIn
import Derived.Maps.AppendAt
import Derived.OrdersHeld
import Derived.OrdersIn
import Derived.Outline
import Derived.OwnWalk
import Derived.OwnWalkIn
import Derived.RangeFuncBound
import Derived.RangeFuncCalls
import Derived.RangeFuncLeaves
import Derived.RangeFuncNested
import Derived.RegionTactic
import Derived.Shelf.Abstract
import Derived.Shelf.RegionOpen
import Derived.Sort.CutIn
import Derived.TacticsInMore
import Derived.Test.YtfiedoejdikcgaaDoorChecked
import Derived.WalkKit
set_option maxRecDepth 100000
set_option linter.unusedVariables false
set_option maxRecDepth 1000000
set_option linter.unusedVariables false
namespace Go.Proofs.YtfiedoejdikcgaaDoor
set_option maxRecDepth 100000
open Go Go.RowKit
/-- The kinds of filters that are gone through. -/
def kindsK (K : List Int) (k : Nat) : Int := K.getD (k % K.length) 0
/-- What stands throughout a pass. -/
structure SkY (w9 : World) (b3 nV cV nK cK S n bp W H D C px py dx dy Wp Hp : Nat) (l : Int) (A1 A2 : Option Addr) (V : List Nat) (K : List Int) (SS : ShP) (p : PassL) (JS : List RowJ) (TT : List UInt8) : Prop where
  head : Is w9 b3 29 #[.int .i64 W, .int .i64 H, .int .i64 D, .int .i64 C, .int .i64 l]
  num : Nums w9 A1 nV V
  kin : Zs w9 A2 nK K
  nk1 : 1 ≤ nK
  nkl : nK ≤ 1000
  kf : ∀ z, z ∈ K → z ≤ 4
  nvc : nV ≤ cV
  nvE : nV = S * (W * H)
  vl : ∀ q, V.getD q 0 < 65536
  sE : samplesN SS.c = S
  s1 : 1 ≤ S
  s4 : S ≤ 4
  wl : Wp ≤ 1024
  hl : Hp ≤ 1024
  wl1 : 1 ≤ Wp
  ww : W ≤ 1024 ∧ H ≤ 1024 ∧ W * H ≤ 4096
  ssw : SS.w = W
  ssd : SS.d = D
  dep : depB (D : Int) = true
  nE : n = rowLen SS Wp
  nl : n ≤ 8192
  bE : bppN SS = bp
  b1 : 1 ≤ bp
  b8 : bp ≤ 8
  byt : ∀ v, Calls Tryd.prog 28 #[.agg #[.int .i64 W, .int .i64 H, .int .i64 D, .int .i64 C, .int .i64 l]] v fun e w' => e = .returned (.int .i64 (bp : Nat)) ∧ But [] v w'
  pl : ∀ y, y < Hp → ∀ x, x < Wp → px + x * dx < W ∧ py + y * dy < H
  job : ∀ y, (jobP W p y).n = Wp ∧ (jobP W p y).x = px ∧ (jobP W p y).dx = dx ∧ (jobP W p y).y = py + y * dy ∧ ((jobP W p y).first = true ↔ y = 0)
  nxt : ∀ y, y < Hp → leftP W H p y ++ JS = jobP W p y :: (leftP W H p (y + 1) ++ JS)
  stop : ∀ y, Hp ≤ y → leftP W H p y ++ JS = JS
  ttl : TT.length ≤ 60000000
/-- What holds ahead of each row. -/
structure LkY (w9 : World) (b12 n W H px py dx dy Wp Hp : Nat) (V : List Nat) (K : List Int) (SS : ShP) (p : PassL) (JS : List RowJ) (TT : List UInt8) (y k : Nat) (ab : ByteArray) (DN : List UInt8) (OA : Option Addr) (ol oc : Nat) (wr : World) : Prop where
  le : y ≤ Hp
  tt : TT = DN ++ packI SS V (kindsK K) (leftP W H p y ++ JS) k ab.data.toList
  ab0 : y = 0 → ab.data.toList = []
  abn : ab.size = 0 ∨ ab.size = n
  kl : k ≤ DN.length
  olE : ol = DN.length
  own : OwnF wr w9.heap.size (.slice OA ol oc) DN
  pas : Is wr b12 52 #[.int .i64 px, .int .i64 py, .int .i64 dx, .int .i64 dy, .int .i64 Wp, .int .i64 Hp]
  but : But [] w9 wr
def MkY (n : Nat) (a : Act) (_ : World) : Nat := n - (intOf (a.tmps.getD 14 undef)).toNat
theorem kindsK_at {K : List Int} {k nK : Nat} (h : K.length = nK) (h1 : 1 ≤ nK) : ∃ x, K[k % nK]? = some x ∧ kindsK K k = x := by
  have hl : k % nK < K.length := by rw [h]; exact Nat.mod_lt _ (by omega)
  refine ⟨K[k % nK], List.getElem?_eq_getElem hl, ?_⟩
  unfold kindsK
  rw [h, List.getD_eq_getElem?_getD, List.getElem?_eq_getElem hl]
  rfl
theorem kindP_neg {SS : ShP} {kd : Nat → Int} {k : Nat} {line ab : List UInt8} (h : kd k < 0) : kindP SS kd k line ab = pickF (bppN SS) line ab := by unfold kindP; rw [if_pos h]
theorem kindP_pos {SS : ShP} {kd : Nat → Int} {k : Nat} {line ab : List UInt8} (h : ¬ kd k < 0) : kindP SS kd k line ab = (kd k).toNat := by unfold kindP; rw [if_neg h]
def KIY (w9 : World) (b3 b12 nV cV nK cK S n W H px py dx dy Wp Hp : Nat) (A1 A2 : Option Addr) (V : List Nat) (K : List Int) (SS : ShP) (p : PassL) (JS : List RowJ) (TT : List UInt8) (c0 c4 c5 c6 c9 c11 c23 c24 c25 c26 c27 c28 c29 c30 c31 c32 c33 c34 c35 c36 c37 c122 c123 : Value) (act : Act) (w1 : World) : Prop :=
  ∃ (u15 u16 u17 u18 u19 u20 u21 u22 u38 u39 u40 u41 u42 u43 u44 u45 u46 u47 u48 u49 u50 u51 u52 u53 u54 u55 u56 u57 u58 u59 u60 u61 u62 u63 u64 u65 u66 u67 u68 u69 u70 u71 u72 u73 u74 u75 u76 u77 u78 u79 u80 u81 u82 u83 u84 u85 u86 u87 u88 u89 u90 u91 u92 u93 u94 u95 u96 u97 u98 u99 u100 u101 u102 u103 u104 u105 u106 u107 u108 u109 u110 u111 u112 u113 u114 u115 u116 u117 u118 u119 u120 u121 : Value) (y k : Nat) (ab : ByteArray) (DN : List UInt8) (OA : Option Addr) (ol oc : Nat), LkY w9 b12 n W H px py dx dy Wp Hp V K SS p JS TT y k ab DN OA ol oc w1 ∧ act = ⟨#[c0, .slice A1 nV cV, .slice A2 nK cK, .pointer (some ⟨b3, 0, none⟩), c4, c5, c6, .slice OA ol oc, .int .i64 (S : Nat), c9, .int .i64 (k : Nat), c11, .pointer (some ⟨b12, 0, none⟩), .string ab, .int .i64 (y : Nat), u15, u16, u17, u18, u19, u20, u21, u22, c23, c24, c25, c26, c27, c28, c29, c30, c31, c32, c33, c34, c35, c36, c37, u38, u39, u40, u41, u42, u43, u44, u45, u46, u47, u48, u49, u50, u51, u52, u53, u54, u55, u56, u57, u58, u59, u60, u61, u62, u63, u64, u65, u66, u67, u68, u69, u70, u71, u72, u73, u74, u75, u76, u77, u78, u79, u80, u81, u82, u83, u84, u85, u86, u87, u88, u89, u90, u91, u92, u93, u94, u95, u96, u97, u98, u99, u100, u101, u102, u103, u104, u105, u106, u107, u108, u109, u110, u111, u112, u113, u114, u115, u116, u117, u118, u119, u120, u121, c122, c123], []⟩
def KXY (w9 : World) (b3 b12 nV cV nK cK S n W H px py dx dy Wp Hp : Nat) (A1 A2 : Option Addr) (V : List Nat) (K : List Int) (SS : ShP) (p : PassL) (JS : List RowJ) (TT : List UInt8) (c0 c4 c5 c6 c9 c11 c23 c24 c25 c26 c27 c28 c29 c30 c31 c32 c33 c34 c35 c36 c37 c122 c123 : Value) (act : Act) (w1 : World) : Prop :=
  ∃ (u15 u16 u17 u18 u19 u20 u21 u22 u38 u39 u40 u41 u42 u43 u44 u45 u46 u47 u48 u49 u50 u51 u52 u53 u54 u55 u56 u57 u58 u59 u60 u61 u62 u63 u64 u65 u66 u67 u68 u69 u70 u71 u72 u73 u74 u75 u76 u77 u78 u79 u80 u81 u82 u83 u84 u85 u86 u87 u88 u89 u90 u91 u92 u93 u94 u95 u96 u97 u98 u99 u100 u101 u102 u103 u104 u105 u106 u107 u108 u109 u110 u111 u112 u113 u114 u115 u116 u117 u118 u119 u120 u121 : Value) (k : Nat) (ab : ByteArray) (DN : List UInt8) (OA : Option Addr) (ol oc : Nat), LkY w9 b12 n W H px py dx dy Wp Hp V K SS p JS TT Hp k ab DN OA ol oc w1 ∧ act = ⟨#[c0, .slice A1 nV cV, .slice A2 nK cK, .pointer (some ⟨b3, 0, none⟩), c4, c5, c6, .slice OA ol oc, .int .i64 (S : Nat), c9, .int .i64 (k : Nat), c11, .pointer (some ⟨b12, 0, none⟩), .string ab, .int .i64 (Hp : Nat), u15, u16, u17, u18, u19, u20, u21, u22, c23, c24, c25, c26, c27, c28, c29, c30, c31, c32, c33, c34, c35, c36, c37, u38, u39, u40, u41, u42, u43, u44, u45, u46, u47, u48, u49, u50, u51, u52, u53, u54, u55, u56, u57, u58, u59, u60, u61, u62, u63, u64, u65, u66, u67, u68, u69, u70, u71, u72, u73, u74, u75, u76, u77, u78, u79, u80, u81, u82, u83, u84, u85, u86, u87, u88, u89, u90, u91, u92, u93, u94, u95, u96, u97, u98, u99, u100, u101, u102, u103, u104, u105, u106, u107, u108, u109, u110, u111, u112, u113, u114, u115, u116, u117, u118, u119, u120, u121, c122, c123], []⟩
attribute [local irreducible] strL
section
variable {w9 wr : World} {b3 b12 nV cV nK cK S n bp W H D C px py dx dy Wp Hp : Nat} {l : Int} {A1 A2 : Option Addr} {V : List Nat} {K : List Int} {SS : ShP} {p : PassL} {JS : List RowJ} {TT : List UInt8} {Q0 : Exit → Act → World → Prop} {y k : Nat} {ab : ByteArray} {DN : List UInt8} {OA : Option Addr} {ol oc : Nat}
variable {c0 c4 c5 c6 c9 c11 c23 c24 c25 c26 c27 c28 c29 c30 c31 c32 c33 c34 c35 c36 c37 c122 c123 : Value}
variable {u15 u16 u17 u18 u19 u20 u21 u22 u38 u39 u40 u41 u42 u43 u44 u45 u46 u47 u48 u49 u50 u51 u52 u53 u54 u55 u56 u57 u58 u59 u60 u61 u62 u63 u64 u65 u66 u67 u68 u69 u70 u71 u72 u73 u74 u75 u76 u77 u78 u79 u80 u81 u82 u83 u84 u85 u86 u87 u88 u89 u90 u91 u92 u93 u94 u95 u96 u97 u98 u99 u100 u101 u102 u103 u104 u105 u106 u107 u108 u109 u110 u111 u112 u113 u114 u115 u116 u117 u118 u119 u120 u121 : Value}
set_option maxHeartbeats 1000000 in
theorem pky_end (hT : SkY w9 b3 nV cV nK cK S n bp W H D C px py dx dy Wp Hp l A1 A2 V K SS p JS TT) (hS : LkY w9 b12 n W H px py dx dy Wp Hp V K SS p JS TT y k ab DN OA ol oc wr) (hy : Hid (¬ y < Hp)) (hexit : ∀ act w1, KXY w9 b3 b12 nV cV nK cK S n W H px py dx dy Wp Hp A1 A2 V K SS p JS TT c0 c4 c5 c6 c9 c11 c23 c24 c25 c26 c27 c28 c29 c30 c31 c32 c33 c34 c35 c36 c37 c122 c123 act w1 → Q0 (.exit 2) act w1) :
    Code.wp Tryd.prog pkBodyY (Exit.then (fun act w1 => KIY w9 b3 b12 nV cV nK cK S n W H px py dx dy Wp Hp A1 A2 V K SS p JS TT c0 c4 c5 c6 c9 c11 c23 c24 c25 c26 c27 c28 c29 c30 c31 c32 c33 c34 c35 c36 c37 c122 c123 act w1 ∧ MkY Hp act w1 < MkY Hp ⟨#[c0, .slice A1 nV cV, .slice A2 nK cK, .pointer (some ⟨b3, 0, none⟩), c4, c5, c6, .slice OA ol oc, .int .i64 (S : Nat), c9, .int .i64 (k : Nat), c11, .pointer (some ⟨b12, 0, none⟩), .string ab, .int .i64 (y : Nat), u15, u16, u17, u18, u19, u20, u21, u22, c23, c24, c25, c26, c27, c28, c29, c30, c31, c32, c33, c34, c35, c36, c37, u38, u39, u40, u41, u42, u43, u44, u45, u46, u47, u48, u49, u50, u51, u52, u53, u54, u55, u56, u57, u58, u59, u60, u61, u62, u63, u64, u65, u66, u67, u68, u69, u70, u71, u72, u73, u74, u75, u76, u77, u78, u79, u80, u81, u82, u83, u84, u85, u86, u87, u88, u89, u90, u91, u92, u93, u94, u95, u96, u97, u98, u99, u100, u101, u102, u103, u104, u105, u106, u107, u108, u109, u110, u111, u112, u113, u114, u115, u116, u117, u118, u119, u120, u121, c122, c123], []⟩ wr) Q0) ⟨#[c0, .slice A1 nV cV, .slice A2 nK cK, .pointer (some ⟨b3, 0, none⟩), c4, c5, c6, .slice OA ol oc, .int .i64 (S : Nat), c9, .int .i64 (k : Nat), c11, .pointer (some ⟨b12, 0, none⟩), .string ab, .int .i64 (y : Nat), u15, u16, u17, u18, u19, u20, u21, u22, c23, c24, c25, c26, c27, c28, c29, c30, c31, c32, c33, c34, c35, c36, c37, u38, u39, u40, u41, u42, u43, u44, u45, u46, u47, u48, u49, u50, u51, u52, u53, u54, u55, u56, u57, u58, u59, u60, u61, u62, u63, u64, u65, u66, u67, u68, u69, u70, u71, u72, u73, u74, u75, u76, u77, u78, u79, u80, u81, u82, u83, u84, u85, u86, u87, u88, u89, u90, u91, u92, u93, u94, u95, u96, u97, u98, u99, u100, u101, u102, u103, u104, u105, u106, u107, u108, u109, u110, u111, u112, u113, u114, u115, u116, u117, u118, u119, u120, u121, c122, c123], []⟩ wr := by
  conv => arg 2; whnf
  have HT := Lib.hid hT
  have HS := Lib.hid hS
  have p0 := hS.pas.cell 0
  have p1 := hS.pas.cell 1
  have p2 := hS.pas.cell 2
  have p3 := hS.pas.cell 3
  have p4 := hS.pas.cell 4
  have p5 := hS.pas.cell 5
  have hgp := hS.pas.lt
  have wl := hT.wl
  have hhl := hT.hl
  have nl := hT.nl
  clear hT hS
  have i1 : ¬ (y : Int) < (Hp : Int) := by have := hy.out; omega
  obtain rfl : Hp = y := by have := hy.out; have := HS.out.le; omega
  clear hy
  go_wp2
  unfold KXY
  exact ⟨_, _, _, _, _, _, _, _, _, _, _, _, _, _, _, _, _, _, _, _, _, _, _, _, _, _, _, _, _, _, _, _, _, _, _, _, _, _, _, _, _, _, _, _, _, _, _, _, _, _, _, _, _, _, _, _, _, _, _, _, _, _, _, _, _, _, _, _, _, _, _, _, _, _, _, _, _, _, _, _, _, _, _, _, _, _, _, _, _, _, _, _, k, ab, DN, OA, ol, oc, HS.out, rfl⟩
set_option maxHeartbeats 1000000 in
theorem pky_pick (hT : SkY w9 b3 nV cV nK cK S n bp W H D C px py dx dy Wp Hp l A1 A2 V K SS p JS TT) (hS : LkY w9 b12 n W H px py dx dy Wp Hp V K SS p JS TT y k ab DN OA ol oc wr) (hy : Hid (y < Hp)) (hk : Hid (kindsK K k < 0)) :
    Code.wp Tryd.prog pkBodyY (Exit.then (fun act w1 => KIY w9 b3 b12 nV cV nK cK S n W H px py dx dy Wp Hp A1 A2 V K SS p JS TT c0 c4 c5 c6 c9 c11 c23 c24 c25 c26 c27 c28 c29 c30 c31 c32 c33 c34 c35 c36 c37 c122 c123 act w1 ∧ MkY Hp act w1 < MkY Hp ⟨#[c0, .slice A1 nV cV, .slice A2 nK cK, .pointer (some ⟨b3, 0, none⟩), c4, c5, c6, .slice OA ol oc, .int .i64 (S : Nat), c9, .int .i64 (k : Nat), c11, .pointer (some ⟨b12, 0, none⟩), .string ab, .int .i64 (y : Nat), u15, u16, u17, u18, u19, u20, u21, u22, c23, c24, c25, c26, c27, c28, c29, c30, c31, c32, c33, c34, c35, c36, c37, u38, u39, u40, u41, u42, u43, u44, u45, u46, u47, u48, u49, u50, u51, u52, u53, u54, u55, u56, u57, u58, u59, u60, u61, u62, u63, u64, u65, u66, u67, u68, u69, u70, u71, u72, u73, u74, u75, u76, u77, u78, u79, u80, u81, u82, u83, u84, u85, u86, u87, u88, u89, u90, u91, u92, u93, u94, u95, u96, u97, u98, u99, u100, u101, u102, u103, u104, u105, u106, u107, u108, u109, u110, u111, u112, u113, u114, u115, u116, u117, u118, u119, u120, u121, c122, c123], []⟩ wr) Q0) ⟨#[c0, .slice A1 nV cV, .slice A2 nK cK, .pointer (some ⟨b3, 0, none⟩), c4, c5, c6, .slice OA ol oc, .int .i64 (S : Nat), c9, .int .i64 (k : Nat), c11, .pointer (some ⟨b12, 0, none⟩), .string ab, .int .i64 (y : Nat), u15, u16, u17, u18, u19, u20, u21, u22, c23, c24, c25, c26, c27, c28, c29, c30, c31, c32, c33, c34, c35, c36, c37, u38, u39, u40, u41, u42, u43, u44, u45, u46, u47, u48, u49, u50, u51, u52, u53, u54, u55, u56, u57, u58, u59, u60, u61, u62, u63, u64, u65, u66, u67, u68, u69, u70, u71, u72, u73, u74, u75, u76, u77, u78, u79, u80, u81, u82, u83, u84, u85, u86, u87, u88, u89, u90, u91, u92, u93, u94, u95, u96, u97, u98, u99, u100, u101, u102, u103, u104, u105, u106, u107, u108, u109, u110, u111, u112, u113, u114, u115, u116, u117, u118, u119, u120, u121, c122, c123], []⟩ wr := by
  conv => arg 2; whnf
  have HT := Lib.hid hT
  have HS := Lib.hid hS
  have p0 := hS.pas.cell 0
  have p1 := hS.pas.cell 1
  have p2 := hS.pas.cell 2
  have p3 := hS.pas.cell 3
  have p4 := hS.pas.cell 4
  have p5 := hS.pas.cell 5
  have hgp := hS.pas.lt
  have wl := hT.wl
  have hhl := hT.hl
  have nl := hT.nl
  clear hT hS
  have hyl := hy.out
  obtain ⟨j, hj⟩ : ∃ j, j = jobP W p y := ⟨_, rfl⟩
  have HJ : Hid (j.n = Wp ∧ j.x = px ∧ j.dx = dx ∧ j.y = py + y * dy ∧ (j.first = true ↔ y = 0)) := Lib.hid (by rw [hj]; exact HT.out.job y)
  have HLNy : Hid (leftP W H p y ++ JS = j :: (leftP W H p (y + 1) ++ JS)) := Lib.hid (by rw [hj]; exact HT.out.nxt y hyl)
  obtain ⟨J2, hJ2⟩ : ∃ J2, J2 = leftP W H p (y + 1) ++ JS := ⟨_, rfl⟩
  rw [← hJ2] at HLNy
  have HJ2 := Lib.hid hJ2
  obtain ⟨ln, hln⟩ : ∃ z, z = packT D (rowV SS V j) := ⟨_, rfl⟩
  have hlnl : ln.length = n := by
    rw [hln, packT_length, rowV_length, HT.out.sE, HJ.out.1, HT.out.nE]
    unfold rowLen
    rw [HT.out.sE, HT.out.ssd, Nat.mul_comm, ← Nat.mul_assoc]
  obtain ⟨ls, hls⟩ : ∃ z, z = strL ln := ⟨_, rfl⟩
  have hlss : ls.size = n := by rw [hls, strL_size, hlnl]
  have hlsl : ls.data.toList = ln := by rw [hls, strL_list]
  obtain ⟨kq, hkq⟩ : ∃ z, z = kindsK K k := ⟨_, rfl⟩
  obtain ⟨km, hkm⟩ : ∃ z, z = k % nK := ⟨_, rfl⟩
  have hkml : km < nK := by rw [hkm]; exact Nat.mod_lt _ HT.out.nk1
  obtain ⟨kx, hkx1, hkx2⟩ := kindsK_at (k := k) HT.out.kin.1 HT.out.nk1
  rw [← hkm] at hkx1
  have hkq4 : kq ≤ 4 := by rw [hkq, hkx2]; exact HT.out.kf kx (List.mem_of_getElem? hkx1)
  obtain ⟨gk, ok, q, hA2, hgk, hq1, hq2⟩ := HT.out.kin.at hkml
  have hqq : q = kq := by rw [hkq, hkx2]; exact Option.some.inj (hq1.symm.trans hkx1)
  subst hA2
  rw [hqq] at hq2
  have HKC : Hid (∀ v, But [] w9 v → v.cell? ⟨gk, ok + km, none⟩ = some (.int .i64 kq) ∧ gk < v.heap.size) := Lib.hid fun v hv => ⟨hv.cell hq2 (by simp), Nat.lt_of_lt_of_le hgk hv.size⟩
  have hDNl : DN.length ≤ 60000000 := by
    have h1 := HT.out.ttl
    rw [HS.out.tt, List.length_append] at h1
    omega
  have hkl : k ≤ 60000000 := by have := HS.out.kl; omega
  have tm1 : (k : Int).tmod (nK : Int) = (km : Int) := by rw [Int.tmod_eq_emod_of_nonneg (by omega), hkm, Int.natCast_emod]
  have tm2 : (k : Int) % (nK : Int) = (km : Int) := by rw [hkm, Int.natCast_emod]
  have nk1 := HT.out.nk1
  have nkl := HT.out.nkl
  have nz1 : ((nK : Int) = 0) = False := by simp; omega
  have nz2 : ((nK : Int) == 0) = false := by simp; omega
  have vkm := wrapI_in (show km < 1000000000000000 by omega)
  have hb1 := HT.out.b1
  have hb8 := HT.out.b8
  have hw0 : wrongP (bp : Int) ls ab = 0 := by
    unfold wrongP
    refine if_neg ?_
    rintro (h | h | ⟨h, h'⟩)
    · omega
    · omega
    · rcases HS.out.abn with h2 | h2
      · exact h h2
      · exact h' (by rw [h2, hlss])
  have has : ab.size ≤ 8192 := by rcases HS.out.abn with h | h <;> omega
  obtain ⟨kf, hkf⟩ : ∃ z, z = kindP SS (kindsK K) k ln ab.data.toList := ⟨_, rfl⟩
  have hneg := hk.out
  rw [← hkq] at hneg
  have hkfe : kf = pickF bp ln ab.data.toList := by rw [hkf, kindP_neg hk.out, HT.out.bE]
  have hkf4 : kf ≤ 4 := by rw [hkfe]; exact pickF_le _ _ _
  have hpa : pickA (bp : Int) ls ab = kf := by rw [pickA_ok hw0, hlsl, hkfe]
  have HPI : Hid (∀ v, Calls Tryd.prog 37 #[.int .i64 (bp : Nat), .string ls, .string ab] v fun e w' => e = .returned (.tuple #[.int .i64 (kf : Nat), .int .i64 0]) ∧ But [] v w') := Lib.hid fun v => by
    have h := epick_any v (bp : Int) ls ab (by omega) (by omega)
    rw [hpa, hw0] at h
    exact h
  clear hkfe hpa
  have hwf : wrongF (bp : Int) (kf : Int) ls ab = 0 := by rw [wrongF_kind (by omega) (by omega)]; exact hw0
  obtain ⟨fd, hfd⟩ : ∃ z, z = doF (kf : Nat) bp ln ab.data.toList := ⟨_, rfl⟩
  have hda : doA (bp : Int) (kf : Int) ls ab = fd := by rw [doA_ok hwf, hlsl, hfd]
  have hfl : fd.length = n := by rw [hfd, doF_length, hlnl]
  obtain ⟨fs, hfs⟩ : ∃ z, z = strL fd := ⟨_, rfl⟩
  have hfss : fs.size = n := by rw [hfs, strL_size, hfl]
  have hfsl : fs.data.toList = fd := by rw [hfs, strL_list]
  have HDO : Hid (∀ v, Calls Tryd.prog 38 #[.int .i64 (bp : Nat), .int .i64 (kf : Nat), .string ls, .string ab] v fun e w' => e = .returned (.tuple #[.string fs, .int .i64 0]) ∧ But [] v w') := Lib.hid fun v => by
    have h := edo_any v (bp : Int) (kf : Int) ls ab (by omega) (by omega)
    rw [hda, hwf, ← hfs] at h
    exact h
  have HEP : Hid (∀ (v : World) (A : Option Addr) (c m : Nat), Nums v A m (rowV SS V j) → Calls Tryd.prog 36 #[.int .i64 D, .slice A m c] v fun e w' => e = .returned (.tuple #[.string ls, .int .i64 0]) ∧ But [] v w') := Lib.hid fun v A c m hN => by
    have hv := rowV_lt HT.out.vl j (S := SS)
    have hm : m ≤ 17592186043904 := by
      rw [← hN.1, rowV_length, HT.out.sE, HJ.out.1]
      have h3 : S * Wp ≤ 4 * 1024 := Nat.mul_le_mul HT.out.s4 wl
      omega
    have h := epack_any v (c := c) (d := (D : Int)) hN.zs (zfit_nat hv) hm
    have e : packA (D : Int) ((rowV SS V j).map fun x => ((x : Nat) : Int)) = (ln, 0) := by
      unfold packA
      rw [HT.out.dep, if_neg (by decide), lowN_map hv, Int.toNat_natCast, hln]
    rw [e, ← hls] at h
    exact h
  have hku : (UInt8.ofNat kf).toNat = kf := by rw [UInt8.toNat_ofNat']; omega
  have HKU := Lib.hid hku
  have HTT2 : Hid (TT = (DN ++ UInt8.ofNat kf :: fs.data.toList) ++ packI SS V (kindsK K) J2 (k + 1) ls.data.toList) := Lib.hid (by
    have hab : j.first = true → ab.data.toList = [] := fun h => HS.out.ab0 (HJ.out.2.2.2.2.1 h)
    rw [HS.out.tt, HLNy.out, packI_next hab, HT.out.ssd, ← hln, ← hkf, HT.out.bE, ← hfd, hfsl, hlsl]
    simp)
  have HLSn : Hid (ls.size = n) := Lib.hid hlss
  have HFSn : Hid (fs.size = n) := Lib.hid hfss
  have hk256 : kf < 256 := by omega
  have i0 : (0 : Int) ≤ (y : Int) := by omega
  have i1 : (y : Int) < (Hp : Int) := by omega
  have HDNL := Lib.hid hDNl
  have HOE := Lib.hid HS.out.olE
  clear hln hlnl hls hlss hlsl hkq hkm hkx1 hkx2 hgk hq1 hq2 hqq hw0 hkf hwf hfd hda hfl hfs hfss hfsl hku hj hJ2 hy hk
  have HSK : Hid (SkX wr b3 b12 nV cV S y W H D C px py dx dy Wp Hp l A1 V SS j) := Lib.hid {
    head := HT.out.head.but HS.out.but (by simp)
    pas := HS.out.pas
    num := HT.out.num.but HS.out.but
    nvc := HT.out.nvc
    nvE := HT.out.nvE
    sE := HT.out.sE
    s1 := HT.out.s1
    s4 := HT.out.s4
    jj := ⟨HJ.out.1, HJ.out.2.1, HJ.out.2.2.1, HJ.out.2.2.2.1⟩
    pl := HT.out.pl y hyl
    wl := HT.out.wl
    ww := HT.out.ww
    ssw := HT.out.ssw }
  have HLK : Hid (LkX wr Wp V SS j 0 none 0 0 wr) := Lib.hid ⟨Nat.zero_le _, rfl, OwnN.nil _ _, But.refl _ _⟩
  go_wp2_with fail
  refine pkx_loop HSK.out ?_ HLK.out
  intro act wz hX
  refine kxx_open hX ?_
  clear hX
  intro u17 u44 u45 u46 u47 u48 u49 u50 u51 u52 u53 u54 u55 u56 u57 u58 u59 u60 u61 u62 u63 u64 u65 u66 u67 u68 u69 u70 u71 u72 u73 u74 u75 u76 u77 RA rl rc hz
  have HZ := Lib.hid hz
  have hBz := hz.but
  have HRE := Lib.hid hz.rlE
  have HNz : Hid (Nums wz RA rl (rowV SS V j)) := Lib.hid (by
    have h := HZ.out.own.nums
    rw [← HRE.out, ← HJ.out.1, rowTo_all] at h
    exact h)
  have HPz := Lib.hid (HS.out.pas.but hBz (by simp))
  have HOz := Lib.hid (HS.out.own.but hBz)
  have HBz := Lib.hid (HS.out.but.trans hBz)
  clear hz hBz p0 p1 p2 p3 p4 p5 hgp
  have hh3 := HT.out.head.but HBz.out (by simp)
  have c0 := hh3.cell 0
  have c1 := hh3.cell 1
  have c2 := hh3.cell 2
  have c3 := hh3.cell 3
  have c4 := hh3.cell 4
  have hg3 := hh3.lt
  clear hh3
  go_wp2_with fail
  refine (HEP.out _ _ _ _ HNz.out).mono ?_
  rintro e wp ⟨rfl, hBp⟩
  have HPp := Lib.hid (HPz.out.but hBp (by simp))
  have HOp := Lib.hid (HOz.out.but hBp)
  have HBp := Lib.hid (HBz.out.trans hBp)
  clear hBp c0 c1 c2 c3 c4 hg3
  obtain ⟨hkc, hkg⟩ := HKC.out _ HBp.out
  have hh3 := HT.out.head.but HBp.out (by simp)
  have c0 := hh3.cell 0
  have c1 := hh3.cell 1
  have c2 := hh3.cell 2
  have c3 := hh3.cell 3
  have c4 := hh3.cell 4
  have hg3 := hh3.lt
  clear hh3
  go_wp2_with fail
  refine (HT.out.byt _).mono ?_
  rintro e wq ⟨rfl, hBq⟩
  have HPq := Lib.hid (HPp.out.but hBq (by simp))
  have HOq := Lib.hid (HOp.out.but hBq)
  have HBq := Lib.hid (HBp.out.trans hBq)
  clear hBq
  clear c0 c1 c2 c3 c4 hg3 hkc hkg
  go_wp2_with fail
  refine (HPI.out _).mono ?_
  rintro e ws ⟨rfl, hBq⟩
  have HPr := Lib.hid (HPq.out.but hBq (by simp))
  have HOr := Lib.hid (HOq.out.but hBq)
  have HBr := Lib.hid (HBq.out.trans hBq)
  clear hBq
  have hh3 := HT.out.head.but HBr.out (by simp)
  have c0 := hh3.cell 0
  have c1 := hh3.cell 1
  have c2 := hh3.cell 2
  have c3 := hh3.cell 3
  have c4 := hh3.cell 4
  have hg3 := hh3.lt
  clear hh3
  go_wp2_with fail
  refine (HT.out.byt _).mono ?_
  rintro e wt ⟨rfl, hBq⟩
  have HPs := Lib.hid (HPr.out.but hBq (by simp))
  have HOs := Lib.hid (HOr.out.but hBq)
  have HBs := Lib.hid (HBr.out.trans hBq)
  clear hBq
  clear c0 c1 c2 c3 c4 hg3
  go_wp2_with fail
  refine (HDO.out _).mono ?_
  rintro e wu ⟨rfl, hBq⟩
  have HPt := Lib.hid (HPs.out.but hBq (by simp))
  have HOt := Lib.hid (HOs.out.but hBq)
  have HBt := Lib.hid (HBs.out.trans hBq)
  clear hBq
  have hAu := (But.refl [] wu).alloc (.cells #[.int .u8 (kf : Nat)] 5)
  have hIu := Is.fresh wu 5 #[.int .u8 (kf : Nat)]
  obtain ⟨gu, hgu⟩ : ∃ g, g = wu.heap.size := ⟨_, rfl⟩
  obtain ⟨wv, hwv⟩ : ∃ X, X = wu.alloc (.cells #[.int .u8 (kf : Nat)] 5) := ⟨_, rfl⟩
  rw [← hwv] at hAu
  rw [← hwv, ← hgu] at hIu
  have HIu : Hid (Is wv gu 5 #[.int .u8 ((UInt8.ofNat kf).toNat : Nat)]) := Lib.hid (by rw [HKU.out]; exact hIu)
  have HPu := Lib.hid (HPt.out.but hAu (by simp))
  have HOu := Lib.hid (HOt.out.but hAu)
  have HBu := Lib.hid (HBt.out.trans hAu)
  clear hAu hIu
  rw [HOE.out] at HOu
  obtain rfl := HOE.out
  go_wp2_with (at_builtin; rw [← hwv]; refine wpList_append_bK (w0 := w9) wv rfl (Operand.tmp 113) (Operand.tmp 116) rfl (.slice OA DN.length oc) DN (by kernel_rfl) HOu.out HBu.out (UInt8.ofNat kf) (g := gu) (by rw [hgu]; kernel_rfl) HIu.out (by have := HDNL.out; omega) ?_)
  intro A7 c7 w7 HO7 HB7 HK7
  have HP7 : Hid (Is w7 b12 52 #[.int .i64 px, .int .i64 py, .int .i64 dx, .int .i64 dy, .int .i64 Wp, .int .i64 Hp]) := Lib.hid (HK7.out b12 52 _ (by decide) (by rw [← hwv]; exact HPu.out))
  clear HK7 hwv hgu
  go_wp2_with (at_builtin; refine wpList_append_sK (w0 := w9) _ rfl (Operand.tmp 118) (Operand.tmp 119) rfl (.slice A7 (DN.length + 1) c7) (DN ++ [UInt8.ofNat kf]) (by kernel_rfl) HO7.out HB7.out fs (by kernel_rfl) (by rw [List.length_append, List.length_singleton, HFSn.out]; have := HDNL.out; omega) ?_)
  intro A8 c8 w8 HO8 HB8 HK8
  have HP8 := Lib.hid (HK8.out b12 52 _ (by decide) HP7.out)
  clear HK8
  go_wp2
  refine ⟨?_, ?_⟩
  · unfold KIY
    refine ⟨_, _, _, _, _, _, _, _, _, _, _, _, _, _, _, _, _, _, _, _, _, _, _, _, _, _, _, _, _, _, _, _, _, _, _, _, _, _, _, _, _, _, _, _, _, _, _, _, _, _, _, _, _, _, _, _, _, _, _, _, _, _, _, _, _, _, _, _, _, _, _, _, _, _, _, _, _, _, _, _, _, _, _, _, _, _, _, _, _, _, _, _, y + 1, k + 1, ls, _, A8, _, c8, ⟨by omega, by rw [← HJ2.out]; exact HTT2.out, fun h => absurd h (by omega), .inr HLSn.out, ?_, ?_, HO8.out, HP8.out, HB8.out⟩, rfl⟩
    · have h := HS.out.kl
      rw [List.length_append, List.length_cons]
      omega
    · rw [List.length_append, List.length_cons, Array.length_toList]
      show DN.length + 1 + fs.size = DN.length + (fs.size + 1)
      omega
  · show Hp - (intOf (.int .i64 ((y : Int) + 1))).toNat < Hp - (intOf (.int .i64 (y : Int))).toNat
    simp [intOf]; omega
set_option maxHeartbeats 1000000 in
theorem pky_kind (hT : SkY w9 b3 nV cV nK cK S n bp W H D C px py dx dy Wp Hp l A1 A2 V K SS p JS TT) (hS : LkY w9 b12 n W H px py dx dy Wp Hp V K SS p JS TT y k ab DN OA ol oc wr) (hy : Hid (y < Hp)) (hk : Hid (¬ kindsK K k < 0)) :
    Code.wp Tryd.prog pkBodyY (Exit.then (fun act w1 => KIY w9 b3 b12 nV cV nK cK S n W H px py dx dy Wp Hp A1 A2 V K SS p JS TT c0 c4 c5 c6 c9 c11 c23 c24 c25 c26 c27 c28 c29 c30 c31 c32 c33 c34 c35 c36 c37 c122 c123 act w1 ∧ MkY Hp act w1 < MkY Hp ⟨#[c0, .slice A1 nV cV, .slice A2 nK cK, .pointer (some ⟨b3, 0, none⟩), c4, c5, c6, .slice OA ol oc, .int .i64 (S : Nat), c9, .int .i64 (k : Nat), c11, .pointer (some ⟨b12, 0, none⟩), .string ab, .int .i64 (y : Nat), u15, u16, u17, u18, u19, u20, u21, u22, c23, c24, c25, c26, c27, c28, c29, c30, c31, c32, c33, c34, c35, c36, c37, u38, u39, u40, u41, u42, u43, u44, u45, u46, u47, u48, u49, u50, u51, u52, u53, u54, u55, u56, u57, u58, u59, u60, u61, u62, u63, u64, u65, u66, u67, u68, u69, u70, u71, u72, u73, u74, u75, u76, u77, u78, u79, u80, u81, u82, u83, u84, u85, u86, u87, u88, u89, u90, u91, u92, u93, u94, u95, u96, u97, u98, u99, u100, u101, u102, u103, u104, u105, u106, u107, u108, u109, u110, u111, u112, u113, u114, u115, u116, u117, u118, u119, u120, u121, c122, c123], []⟩ wr) Q0) ⟨#[c0, .slice A1 nV cV, .slice A2 nK cK, .pointer (some ⟨b3, 0, none⟩), c4, c5, c6, .slice OA ol oc, .int .i64 (S : Nat), c9, .int .i64 (k : Nat), c11, .pointer (some ⟨b12, 0, none⟩), .string ab, .int .i64 (y : Nat), u15, u16, u17, u18, u19, u20, u21, u22, c23, c24, c25, c26, c27, c28, c29, c30, c31, c32, c33, c34, c35, c36, c37, u38, u39, u40, u41, u42, u43, u44, u45, u46, u47, u48, u49, u50, u51, u52, u53, u54, u55, u56, u57, u58, u59, u60, u61, u62, u63, u64, u65, u66, u67, u68, u69, u70, u71, u72, u73, u74, u75, u76, u77, u78, u79, u80, u81, u82, u83, u84, u85, u86, u87, u88, u89, u90, u91, u92, u93, u94, u95, u96, u97, u98, u99, u100, u101, u102, u103, u104, u105, u106, u107, u108, u109, u110, u111, u112, u113, u114, u115, u116, u117, u118, u119, u120, u121, c122, c123], []⟩ wr := by
  conv => arg 2; whnf
  have HT := Lib.hid hT
  have HS := Lib.hid hS
  have p0 := hS.pas.cell 0
  have p1 := hS.pas.cell 1
  have p2 := hS.pas.cell 2
  have p3 := hS.pas.cell 3
  have p4 := hS.pas.cell 4
  have p5 := hS.pas.cell 5
  have hgp := hS.pas.lt
  have wl := hT.wl
  have hhl := hT.hl
  have nl := hT.nl
  clear hT hS
  have hyl := hy.out
  obtain ⟨j, hj⟩ : ∃ j, j = jobP W p y := ⟨_, rfl⟩
  have HJ : Hid (j.n = Wp ∧ j.x = px ∧ j.dx = dx ∧ j.y = py + y * dy ∧ (j.first = true ↔ y = 0)) := Lib.hid (by rw [hj]; exact HT.out.job y)
  have HLNy : Hid (leftP W H p y ++ JS = j :: (leftP W H p (y + 1) ++ JS)) := Lib.hid (by rw [hj]; exact HT.out.nxt y hyl)
  obtain ⟨J2, hJ2⟩ : ∃ J2, J2 = leftP W H p (y + 1) ++ JS := ⟨_, rfl⟩
  rw [← hJ2] at HLNy
  have HJ2 := Lib.hid hJ2
  obtain ⟨ln, hln⟩ : ∃ z, z = packT D (rowV SS V j) := ⟨_, rfl⟩
  have hlnl : ln.length = n := by
    rw [hln, packT_length, rowV_length, HT.out.sE, HJ.out.1, HT.out.nE]
    unfold rowLen
    rw [HT.out.sE, HT.out.ssd, Nat.mul_comm, ← Nat.mul_assoc]
  obtain ⟨ls, hls⟩ : ∃ z, z = strL ln := ⟨_, rfl⟩
  have hlss : ls.size = n := by rw [hls, strL_size, hlnl]
  have hlsl : ls.data.toList = ln := by rw [hls, strL_list]
  obtain ⟨kq, hkq⟩ : ∃ z, z = kindsK K k := ⟨_, rfl⟩
  obtain ⟨km, hkm⟩ : ∃ z, z = k % nK := ⟨_, rfl⟩
  have hkml : km < nK := by rw [hkm]; exact Nat.mod_lt _ HT.out.nk1
  obtain ⟨kx, hkx1, hkx2⟩ := kindsK_at (k := k) HT.out.kin.1 HT.out.nk1
  rw [← hkm] at hkx1
  have hkq4 : kq ≤ 4 := by rw [hkq, hkx2]; exact HT.out.kf kx (List.mem_of_getElem? hkx1)
  obtain ⟨gk, ok, q, hA2, hgk, hq1, hq2⟩ := HT.out.kin.at hkml
  have hqq : q = kq := by rw [hkq, hkx2]; exact Option.some.inj (hq1.symm.trans hkx1)
  subst hA2
  rw [hqq] at hq2
  have HKC : Hid (∀ v, But [] w9 v → v.cell? ⟨gk, ok + km, none⟩ = some (.int .i64 kq) ∧ gk < v.heap.size) := Lib.hid fun v hv => ⟨hv.cell hq2 (by simp), Nat.lt_of_lt_of_le hgk hv.size⟩
  have hDNl : DN.length ≤ 60000000 := by
    have h1 := HT.out.ttl
    rw [HS.out.tt, List.length_append] at h1
    omega
  have hkl : k ≤ 60000000 := by have := HS.out.kl; omega
  have tm1 : (k : Int).tmod (nK : Int) = (km : Int) := by rw [Int.tmod_eq_emod_of_nonneg (by omega), hkm, Int.natCast_emod]
  have tm2 : (k : Int) % (nK : Int) = (km : Int) := by rw [hkm, Int.natCast_emod]
  have nk1 := HT.out.nk1
  have nkl := HT.out.nkl
  have nz1 : ((nK : Int) = 0) = False := by simp; omega
  have nz2 : ((nK : Int) == 0) = false := by simp; omega
  have vkm := wrapI_in (show km < 1000000000000000 by omega)
  have hb1 := HT.out.b1
  have hb8 := HT.out.b8
  have hw0 : wrongP (bp : Int) ls ab = 0 := by
    unfold wrongP
    refine if_neg ?_
    rintro (h | h | ⟨h, h'⟩)
    · omega
    · omega
    · rcases HS.out.abn with h2 | h2
      · exact h h2
      · exact h' (by rw [h2, hlss])
  have has : ab.size ≤ 8192 := by rcases HS.out.abn with h | h <;> omega
  obtain ⟨kf, hkf⟩ : ∃ z, z = kindP SS (kindsK K) k ln ab.data.toList := ⟨_, rfl⟩
  have hpos := hk.out
  rw [← hkq] at hpos
  have hkfe : kf = kq.toNat := by rw [hkf, kindP_pos hk.out, hkq]
  have hkf4 : kf ≤ 4 := by omega
  have hkqe : kq = (kf : Int) := by omega
  rw [hkqe] at HKC
  have hpos2 : ¬ (kf : Int) < 0 := by omega
  clear hkfe hpos
  have hwf : wrongF (bp : Int) (kf : Int) ls ab = 0 := by rw [wrongF_kind (by omega) (by omega)]; exact hw0
  obtain ⟨fd, hfd⟩ : ∃ z, z = doF (kf : Nat) bp ln ab.data.toList := ⟨_, rfl⟩
  have hda : doA (bp : Int) (kf : Int) ls ab = fd := by rw [doA_ok hwf, hlsl, hfd]
  have hfl : fd.length = n := by rw [hfd, doF_length, hlnl]
  obtain ⟨fs, hfs⟩ : ∃ z, z = strL fd := ⟨_, rfl⟩
  have hfss : fs.size = n := by rw [hfs, strL_size, hfl]
  have hfsl : fs.data.toList = fd := by rw [hfs, strL_list]
  have HDO : Hid (∀ v, Calls Tryd.prog 38 #[.int .i64 (bp : Nat), .int .i64 (kf : Nat), .string ls, .string ab] v fun e w' => e = .returned (.tuple #[.string fs, .int .i64 0]) ∧ But [] v w') := Lib.hid fun v => by
    have h := edo_any v (bp : Int) (kf : Int) ls ab (by omega) (by omega)
    rw [hda, hwf, ← hfs] at h
    exact h
  have HEP : Hid (∀ (v : World) (A : Option Addr) (c m : Nat), Nums v A m (rowV SS V j) → Calls Tryd.prog 36 #[.int .i64 D, .slice A m c] v fun e w' => e = .returned (.tuple #[.string ls, .int .i64 0]) ∧ But [] v w') := Lib.hid fun v A c m hN => by
    have hv := rowV_lt HT.out.vl j (S := SS)
    have hm : m ≤ 17592186043904 := by
      rw [← hN.1, rowV_length, HT.out.sE, HJ.out.1]
      have h3 : S * Wp ≤ 4 * 1024 := Nat.mul_le_mul HT.out.s4 wl
      omega
    have h := epack_any v (c := c) (d := (D : Int)) hN.zs (zfit_nat hv) hm
    have e : packA (D : Int) ((rowV SS V j).map fun x => ((x : Nat) : Int)) = (ln, 0) := by
      unfold packA
      rw [HT.out.dep, if_neg (by decide), lowN_map hv, Int.toNat_natCast, hln]
    rw [e, ← hls] at h
    exact h
  have hku : (UInt8.ofNat kf).toNat = kf := by rw [UInt8.toNat_ofNat']; omega
  have HKU := Lib.hid hku
  have HTT2 : Hid (TT = (DN ++ UInt8.ofNat kf :: fs.data.toList) ++ packI SS V (kindsK K) J2 (k + 1) ls.data.toList) := Lib.hid (by
    have hab : j.first = true → ab.data.toList = [] := fun h => HS.out.ab0 (HJ.out.2.2.2.2.1 h)
    rw [HS.out.tt, HLNy.out, packI_next hab, HT.out.ssd, ← hln, ← hkf, HT.out.bE, ← hfd, hfsl, hlsl]
    simp)
  have HLSn : Hid (ls.size = n) := Lib.hid hlss
  have HFSn : Hid (fs.size = n) := Lib.hid hfss
  have hk256 : kf < 256 := by omega
  have i0 : (0 : Int) ≤ (y : Int) := by omega
  have i1 : (y : Int) < (Hp : Int) := by omega
  have HDNL := Lib.hid hDNl
  have HOE := Lib.hid HS.out.olE
  clear hln hlnl hls hlss hlsl hkq hkm hkx1 hkx2 hgk hq1 hq2 hqq hw0 hkf hwf hfd hda hfl hfs hfss hfsl hku hj hJ2 hy hk
  have HSK : Hid (SkX wr b3 b12 nV cV S y W H D C px py dx dy Wp Hp l A1 V SS j) := Lib.hid {
    head := HT.out.head.but HS.out.but (by simp)
    pas := HS.out.pas
    num := HT.out.num.but HS.out.but
    nvc := HT.out.nvc
    nvE := HT.out.nvE
    sE := HT.out.sE
    s1 := HT.out.s1
    s4 := HT.out.s4
    jj := ⟨HJ.out.1, HJ.out.2.1, HJ.out.2.2.1, HJ.out.2.2.2.1⟩
    pl := HT.out.pl y hyl
    wl := HT.out.wl
    ww := HT.out.ww
    ssw := HT.out.ssw }
  have HLK : Hid (LkX wr Wp V SS j 0 none 0 0 wr) := Lib.hid ⟨Nat.zero_le _, rfl, OwnN.nil _ _, But.refl _ _⟩
  go_wp2_with fail
  refine pkx_loop HSK.out ?_ HLK.out
  intro act wz hX
  refine kxx_open hX ?_
  clear hX
  intro u17 u44 u45 u46 u47 u48 u49 u50 u51 u52 u53 u54 u55 u56 u57 u58 u59 u60 u61 u62 u63 u64 u65 u66 u67 u68 u69 u70 u71 u72 u73 u74 u75 u76 u77 RA rl rc hz
  have HZ := Lib.hid hz
  have hBz := hz.but
  have HRE := Lib.hid hz.rlE
  have HNz : Hid (Nums wz RA rl (rowV SS V j)) := Lib.hid (by
    have h := HZ.out.own.nums
    rw [← HRE.out, ← HJ.out.1, rowTo_all] at h
    exact h)
  have HPz := Lib.hid (HS.out.pas.but hBz (by simp))
  have HOz := Lib.hid (HS.out.own.but hBz)
  have HBz := Lib.hid (HS.out.but.trans hBz)
  clear hz hBz p0 p1 p2 p3 p4 p5 hgp
  have hh3 := HT.out.head.but HBz.out (by simp)
  have c0 := hh3.cell 0
  have c1 := hh3.cell 1
  have c2 := hh3.cell 2
  have c3 := hh3.cell 3
  have c4 := hh3.cell 4
  have hg3 := hh3.lt
  clear hh3
  go_wp2_with fail
  refine (HEP.out _ _ _ _ HNz.out).mono ?_
  rintro e wp ⟨rfl, hBp⟩
  have HPp := Lib.hid (HPz.out.but hBp (by simp))
  have HOp := Lib.hid (HOz.out.but hBp)
  have HBp := Lib.hid (HBz.out.trans hBp)
  clear hBp c0 c1 c2 c3 c4 hg3
  obtain ⟨hkc, hkg⟩ := HKC.out _ HBp.out
  have hh3 := HT.out.head.but HBp.out (by simp)
  have c0 := hh3.cell 0
  have c1 := hh3.cell 1
  have c2 := hh3.cell 2
  have c3 := hh3.cell 3
  have c4 := hh3.cell 4
  have hg3 := hh3.lt
  clear hh3
  go_wp2_with fail
  refine (HT.out.byt _).mono ?_
  rintro e wt ⟨rfl, hBq⟩
  have HPs := Lib.hid (HPp.out.but hBq (by simp))
  have HOs := Lib.hid (HOp.out.but hBq)
  have HBs := Lib.hid (HBp.out.trans hBq)
  clear hBq
  clear c0 c1 c2 c3 c4 hg3
  go_wp2_with fail
  refine (HDO.out _).mono ?_
  rintro e wu ⟨rfl, hBq⟩
  have HPt := Lib.hid (HPs.out.but hBq (by simp))
  have HOt := Lib.hid (HOs.out.but hBq)
  have HBt := Lib.hid (HBs.out.trans hBq)
  clear hBq
  have hAu := (But.refl [] wu).alloc (.cells #[.int .u8 (kf : Nat)] 5)
  have hIu := Is.fresh wu 5 #[.int .u8 (kf : Nat)]
  obtain ⟨gu, hgu⟩ : ∃ g, g = wu.heap.size := ⟨_, rfl⟩
  obtain ⟨wv, hwv⟩ : ∃ X, X = wu.alloc (.cells #[.int .u8 (kf : Nat)] 5) := ⟨_, rfl⟩
  rw [← hwv] at hAu
  rw [← hwv, ← hgu] at hIu
  have HIu : Hid (Is wv gu 5 #[.int .u8 ((UInt8.ofNat kf).toNat : Nat)]) := Lib.hid (by rw [HKU.out]; exact hIu)
  have HPu := Lib.hid (HPt.out.but hAu (by simp))
  have HOu := Lib.hid (HOt.out.but hAu)
  have HBu := Lib.hid (HBt.out.trans hAu)
  clear hAu hIu
  rw [HOE.out] at HOu
  obtain rfl := HOE.out
  go_wp2_with (at_builtin; rw [← hwv]; refine wpList_append_bK (w0 := w9) wv rfl (Operand.tmp 113) (Operand.tmp 116) rfl (.slice OA DN.length oc) DN (by kernel_rfl) HOu.out HBu.out (UInt8.ofNat kf) (g := gu) (by rw [hgu]; kernel_rfl) HIu.out (by have := HDNL.out; omega) ?_)
  intro A7 c7 w7 HO7 HB7 HK7
  have HP7 : Hid (Is w7 b12 52 #[.int .i64 px, .int .i64 py, .int .i64 dx, .int .i64 dy, .int .i64 Wp, .int .i64 Hp]) := Lib.hid (HK7.out b12 52 _ (by decide) (by rw [← hwv]; exact HPu.out))
  clear HK7 hwv hgu
  go_wp2_with (at_builtin; refine wpList_append_sK (w0 := w9) _ rfl (Operand.tmp 118) (Operand.tmp 119) rfl (.slice A7 (DN.length + 1) c7) (DN ++ [UInt8.ofNat kf]) (by kernel_rfl) HO7.out HB7.out fs (by kernel_rfl) (by rw [List.length_append, List.length_singleton, HFSn.out]; have := HDNL.out; omega) ?_)
  intro A8 c8 w8 HO8 HB8 HK8
  have HP8 := Lib.hid (HK8.out b12 52 _ (by decide) HP7.out)
  clear HK8
  go_wp2
  refine ⟨?_, ?_⟩
  · unfold KIY
    refine ⟨_, _, _, _, _, _, _, _, _, _, _, _, _, _, _, _, _, _, _, _, _, _, _, _, _, _, _, _, _, _, _, _, _, _, _, _, _, _, _, _, _, _, _, _, _, _, _, _, _, _, _, _, _, _, _, _, _, _, _, _, _, _, _, _, _, _, _, _, _, _, _, _, _, _, _, _, _, _, _, _, _, _, _, _, _, _, _, _, _, _, _, _, y + 1, k + 1, ls, _, A8, _, c8, ⟨by omega, by rw [← HJ2.out]; exact HTT2.out, fun h => absurd h (by omega), .inr HLSn.out, ?_, ?_, HO8.out, HP8.out, HB8.out⟩, rfl⟩
    · have h := HS.out.kl
      rw [List.length_append, List.length_cons]
      omega
    · rw [List.length_append, List.length_cons, Array.length_toList]
      show DN.length + 1 + fs.size = DN.length + (fs.size + 1)
      omega
  · show Hp - (intOf (.int .i64 ((y : Int) + 1))).toNat < Hp - (intOf (.int .i64 (y : Int))).toNat
    simp [intOf]; omega
theorem pky_round {act : Act} (hT : SkY w9 b3 nV cV nK cK S n bp W H D C px py dx dy Wp Hp l A1 A2 V K SS p JS TT) (hexit : ∀ act w1, KXY w9 b3 b12 nV cV nK cK S n W H px py dx dy Wp Hp A1 A2 V K SS p JS TT c0 c4 c5 c6 c9 c11 c23 c24 c25 c26 c27 c28 c29 c30 c31 c32 c33 c34 c35 c36 c37 c122 c123 act w1 → Q0 (.exit 2) act w1) (hI : KIY w9 b3 b12 nV cV nK cK S n W H px py dx dy Wp Hp A1 A2 V K SS p JS TT c0 c4 c5 c6 c9 c11 c23 c24 c25 c26 c27 c28 c29 c30 c31 c32 c33 c34 c35 c36 c37 c122 c123 act wr) :
    Code.wp Tryd.prog pkBodyY (Exit.then (fun act' w1 => KIY w9 b3 b12 nV cV nK cK S n W H px py dx dy Wp Hp A1 A2 V K SS p JS TT c0 c4 c5 c6 c9 c11 c23 c24 c25 c26 c27 c28 c29 c30 c31 c32 c33 c34 c35 c36 c37 c122 c123 act' w1 ∧ MkY Hp act' w1 < MkY Hp act wr) Q0) act wr := by
  unfold KIY at hI
  cases hI with
  | intro u15 hI =>
  cases hI with
  | intro u16 hI =>
  cases hI with
  | intro u17 hI =>
  cases hI with
  | intro u18 hI =>
  cases hI with
  | intro u19 hI =>
  cases hI with
  | intro u20 hI =>
  cases hI with
  | intro u21 hI =>
  cases hI with
  | intro u22 hI =>
  cases hI with
  | intro u38 hI =>
  cases hI with
  | intro u39 hI =>
  cases hI with
  | intro u40 hI =>
  cases hI with
  | intro u41 hI =>
  cases hI with
  | intro u42 hI =>
  cases hI with
  | intro u43 hI =>
  cases hI with
  | intro u44 hI =>
  cases hI with
  | intro u45 hI =>
  cases hI with
  | intro u46 hI =>
  cases hI with
  | intro u47 hI =>
  cases hI with
  | intro u48 hI =>
  cases hI with
  | intro u49 hI =>
  cases hI with
  | intro u50 hI =>
  cases hI with
  | intro u51 hI =>
  cases hI with
  | intro u52 hI =>
  cases hI with
  | intro u53 hI =>
  cases hI with
  | intro u54 hI =>
  cases hI with
  | intro u55 hI =>
  cases hI with
  | intro u56 hI =>
  cases hI with
  | intro u57 hI =>
  cases hI with
  | intro u58 hI =>
  cases hI with
  | intro u59 hI =>
  cases hI with
  | intro u60 hI =>
  cases hI with
  | intro u61 hI =>
  cases hI with
  | intro u62 hI =>
  cases hI with
  | intro u63 hI =>
  cases hI with
  | intro u64 hI =>
  cases hI with
  | intro u65 hI =>
  cases hI with
  | intro u66 hI =>
  cases hI with
  | intro u67 hI =>
  cases hI with
  | intro u68 hI =>
  cases hI with
  | intro u69 hI =>
  cases hI with
  | intro u70 hI =>
  cases hI with
  | intro u71 hI =>
  cases hI with
  | intro u72 hI =>
  cases hI with
  | intro u73 hI =>
  cases hI with
  | intro u74 hI =>
  cases hI with
  | intro u75 hI =>
  cases hI with
  | intro u76 hI =>
  cases hI with
  | intro u77 hI =>
  cases hI with
  | intro u78 hI =>
  cases hI with
  | intro u79 hI =>
  cases hI with
  | intro u80 hI =>
  cases hI with
  | intro u81 hI =>
  cases hI with
  | intro u82 hI =>
  cases hI with
  | intro u83 hI =>
  cases hI with
  | intro u84 hI =>
  cases hI with
  | intro u85 hI =>
  cases hI with
  | intro u86 hI =>
  cases hI with
  | intro u87 hI =>
  cases hI with
  | intro u88 hI =>
  cases hI with
  | intro u89 hI =>
  cases hI with
  | intro u90 hI =>
  cases hI with
  | intro u91 hI =>
  cases hI with
  | intro u92 hI =>
  cases hI with
  | intro u93 hI =>
  cases hI with
  | intro u94 hI =>
  cases hI with
  | intro u95 hI =>
  cases hI with
  | intro u96 hI =>
  cases hI with
  | intro u97 hI =>
  cases hI with
  | intro u98 hI =>
  cases hI with
  | intro u99 hI =>
  cases hI with
  | intro u100 hI =>
  cases hI with
  | intro u101 hI =>
  cases hI with
  | intro u102 hI =>
  cases hI with
  | intro u103 hI =>
  cases hI with
  | intro u104 hI =>
  cases hI with
  | intro u105 hI =>
  cases hI with
  | intro u106 hI =>
  cases hI with
  | intro u107 hI =>
  cases hI with
  | intro u108 hI =>
  cases hI with
  | intro u109 hI =>
  cases hI with
  | intro u110 hI =>
  cases hI with
  | intro u111 hI =>
  cases hI with
  | intro u112 hI =>
  cases hI with
  | intro u113 hI =>
  cases hI with
  | intro u114 hI =>
  cases hI with
  | intro u115 hI =>
  cases hI with
  | intro u116 hI =>
  cases hI with
  | intro u117 hI =>
  cases hI with
  | intro u118 hI =>
  cases hI with
  | intro u119 hI =>
  cases hI with
  | intro u120 hI =>
  cases hI with
  | intro u121 hI =>
  cases hI with
  | intro y hI =>
  cases hI with
  | intro k hI =>
  cases hI with
  | intro ab hI =>
  cases hI with
  | intro DN hI =>
  cases hI with
  | intro OA hI =>
  cases hI with
  | intro ol hI =>
  cases hI with
  | intro oc hI =>
  have hS := hI.1
  have he := hI.2
  subst he
  by_cases hy : y < Hp
  · by_cases hk : kindsK K k < 0
    · exact pky_pick hT hS (Lib.hid hy) (Lib.hid hk)
    · exact pky_kind hT hS (Lib.hid hy) (Lib.hid hk)
  · exact pky_end hT hS (Lib.hid hy) hexit
/-- The loop. -/
theorem pky_loop (hT : SkY w9 b3 nV cV nK cK S n bp W H D C px py dx dy Wp Hp l A1 A2 V K SS p JS TT) (hexit : ∀ act w1, KXY w9 b3 b12 nV cV nK cK S n W H px py dx dy Wp Hp A1 A2 V K SS p JS TT c0 c4 c5 c6 c9 c11 c23 c24 c25 c26 c27 c28 c29 c30 c31 c32 c33 c34 c35 c36 c37 c122 c123 act w1 → Q0 (.exit 2) act w1) (hS : LkY w9 b12 n W H px py dx dy Wp Hp V K SS p JS TT y k ab DN OA ol oc wr) :
    Code.wp Tryd.prog (Code.loop pkBodyY) Q0 ⟨#[c0, .slice A1 nV cV, .slice A2 nK cK, .pointer (some ⟨b3, 0, none⟩), c4, c5, c6, .slice OA ol oc, .int .i64 (S : Nat), c9, .int .i64 (k : Nat), c11, .pointer (some ⟨b12, 0, none⟩), .string ab, .int .i64 (y : Nat), u15, u16, u17, u18, u19, u20, u21, u22, c23, c24, c25, c26, c27, c28, c29, c30, c31, c32, c33, c34, c35, c36, c37, u38, u39, u40, u41, u42, u43, u44, u45, u46, u47, u48, u49, u50, u51, u52, u53, u54, u55, u56, u57, u58, u59, u60, u61, u62, u63, u64, u65, u66, u67, u68, u69, u70, u71, u72, u73, u74, u75, u76, u77, u78, u79, u80, u81, u82, u83, u84, u85, u86, u87, u88, u89, u90, u91, u92, u93, u94, u95, u96, u97, u98, u99, u100, u101, u102, u103, u104, u105, u106, u107, u108, u109, u110, u111, u112, u113, u114, u115, u116, u117, u118, u119, u120, u121, c122, c123], []⟩ wr := by
  refine wp_loop (KIY w9 b3 b12 nV cV nK cK S n W H px py dx dy Wp Hp A1 A2 V K SS p JS TT c0 c4 c5 c6 c9 c11 c23 c24 c25 c26 c27 c28 c29 c30 c31 c32 c33 c34 c35 c36 c37 c122 c123) (MkY Hp) ?_ (fun act w1 hI => pky_round hT hexit hI)
  unfold KIY
  exact ⟨_, _, _, _, _, _, _, _, _, _, _, _, _, _, _, _, _, _, _, _, _, _, _, _, _, _, _, _, _, _, _, _, _, _, _, _, _, _, _, _, _, _, _, _, _, _, _, _, _, _, _, _, _, _, _, _, _, _, _, _, _, _, _, _, _, _, _, _, _, _, _, _, _, _, _, _, _, _, _, _, _, _, _, _, _, _, _, _, _, _, _, _, y, k, ab, DN, OA, ol, oc, hS, rfl⟩
/-- The end of the loop, laid open. -/
theorem kxy_open {act : Act} {G : Act → World → Prop} (hX : KXY w9 b3 b12 nV cV nK cK S n W H px py dx dy Wp Hp A1 A2 V K SS p JS TT c0 c4 c5 c6 c9 c11 c23 c24 c25 c26 c27 c28 c29 c30 c31 c32 c33 c34 c35 c36 c37 c122 c123 act wr)
    (kk : ∀ (u15 u16 u17 u18 u19 u20 u21 u22 u38 u39 u40 u41 u42 u43 u44 u45 u46 u47 u48 u49 u50 u51 u52 u53 u54 u55 u56 u57 u58 u59 u60 u61 u62 u63 u64 u65 u66 u67 u68 u69 u70 u71 u72 u73 u74 u75 u76 u77 u78 u79 u80 u81 u82 u83 u84 u85 u86 u87 u88 u89 u90 u91 u92 u93 u94 u95 u96 u97 u98 u99 u100 u101 u102 u103 u104 u105 u106 u107 u108 u109 u110 u111 u112 u113 u114 u115 u116 u117 u118 u119 u120 u121 : Value) (k : Nat) (ab : ByteArray) (DN : List UInt8) (OA : Option Addr) (ol oc : Nat), LkY w9 b12 n W H px py dx dy Wp Hp V K SS p JS TT Hp k ab DN OA ol oc wr → G ⟨#[c0, .slice A1 nV cV, .slice A2 nK cK, .pointer (some ⟨b3, 0, none⟩), c4, c5, c6, .slice OA ol oc, .int .i64 (S : Nat), c9, .int .i64 (k : Nat), c11, .pointer (some ⟨b12, 0, none⟩), .string ab, .int .i64 (Hp : Nat), u15, u16, u17, u18, u19, u20, u21, u22, c23, c24, c25, c26, c27, c28, c29, c30, c31, c32, c33, c34, c35, c36, c37, u38, u39, u40, u41, u42, u43, u44, u45, u46, u47, u48, u49, u50, u51, u52, u53, u54, u55, u56, u57, u58, u59, u60, u61, u62, u63, u64, u65, u66, u67, u68, u69, u70, u71, u72, u73, u74, u75, u76, u77, u78, u79, u80, u81, u82, u83, u84, u85, u86, u87, u88, u89, u90, u91, u92, u93, u94, u95, u96, u97, u98, u99, u100, u101, u102, u103, u104, u105, u106, u107, u108, u109, u110, u111, u112, u113, u114, u115, u116, u117, u118, u119, u120, u121, c122, c123], []⟩ wr) : G act wr := by
  unfold KXY at hX
  cases hX with
  | intro u15 hX =>
  cases hX with
  | intro u16 hX =>
  cases hX with
  | intro u17 hX =>
  cases hX with
  | intro u18 hX =>
  cases hX with
  | intro u19 hX =>
  cases hX with
  | intro u20 hX =>
  cases hX with
  | intro u21 hX =>
  cases hX with
  | intro u22 hX =>
  cases hX with
  | intro u38 hX =>
  cases hX with
  | intro u39 hX =>
  cases hX with
  | intro u40 hX =>
  cases hX with
  | intro u41 hX =>
  cases hX with
  | intro u42 hX =>
  cases hX with
  | intro u43 hX =>
  cases hX with
  | intro u44 hX =>
  cases hX with
  | intro u45 hX =>
  cases hX with
  | intro u46 hX =>
  cases hX with
  | intro u47 hX =>
  cases hX with
  | intro u48 hX =>
  cases hX with
  | intro u49 hX =>
  cases hX with
  | intro u50 hX =>
  cases hX with
  | intro u51 hX =>
  cases hX with
  | intro u52 hX =>
  cases hX with
  | intro u53 hX =>
  cases hX with
  | intro u54 hX =>
  cases hX with
  | intro u55 hX =>
  cases hX with
  | intro u56 hX =>
  cases hX with
  | intro u57 hX =>
  cases hX with
  | intro u58 hX =>
  cases hX with
  | intro u59 hX =>
  cases hX with
  | intro u60 hX =>
  cases hX with
  | intro u61 hX =>
  cases hX with
  | intro u62 hX =>
  cases hX with
  | intro u63 hX =>
  cases hX with
  | intro u64 hX =>
  cases hX with
  | intro u65 hX =>
  cases hX with
  | intro u66 hX =>
  cases hX with
  | intro u67 hX =>
  cases hX with
  | intro u68 hX =>
  cases hX with
  | intro u69 hX =>
  cases hX with
  | intro u70 hX =>
  cases hX with
  | intro u71 hX =>
  cases hX with
  | intro u72 hX =>
  cases hX with
  | intro u73 hX =>
  cases hX with
  | intro u74 hX =>
  cases hX with
  | intro u75 hX =>
  cases hX with
  | intro u76 hX =>
  cases hX with
  | intro u77 hX =>
  cases hX with
  | intro u78 hX =>
  cases hX with
  | intro u79 hX =>
  cases hX with
  | intro u80 hX =>
  cases hX with
  | intro u81 hX =>
  cases hX with
  | intro u82 hX =>
  cases hX with
  | intro u83 hX =>
  cases hX with
  | intro u84 hX =>
  cases hX with
  | intro u85 hX =>
  cases hX with
  | intro u86 hX =>
  cases hX with
  | intro u87 hX =>
  cases hX with
  | intro u88 hX =>
  cases hX with
  | intro u89 hX =>
  cases hX with
  | intro u90 hX =>
  cases hX with
  | intro u91 hX =>
  cases hX with
  | intro u92 hX =>
  cases hX with
  | intro u93 hX =>
  cases hX with
  | intro u94 hX =>
  cases hX with
  | intro u95 hX =>
  cases hX with
  | intro u96 hX =>
  cases hX with
  | intro u97 hX =>
  cases hX with
  | intro u98 hX =>
  cases hX with
  | intro u99 hX =>
  cases hX with
  | intro u100 hX =>
  cases hX with
  | intro u101 hX =>
  cases hX with
  | intro u102 hX =>
  cases hX with
  | intro u103 hX =>
  cases hX with
  | intro u104 hX =>
  cases hX with
  | intro u105 hX =>
  cases hX with
  | intro u106 hX =>
  cases hX with
  | intro u107 hX =>
  cases hX with
  | intro u108 hX =>
  cases hX with
  | intro u109 hX =>
  cases hX with
  | intro u110 hX =>
  cases hX with
  | intro u111 hX =>
  cases hX with
  | intro u112 hX =>
  cases hX with
  | intro u113 hX =>
  cases hX with
  | intro u114 hX =>
  cases hX with
  | intro u115 hX =>
  cases hX with
  | intro u116 hX =>
  cases hX with
  | intro u117 hX =>
  cases hX with
  | intro u118 hX =>
  cases hX with
  | intro u119 hX =>
  cases hX with
  | intro u120 hX =>
  cases hX with
  | intro u121 hX =>
  cases hX with
  | intro k hX =>
  cases hX with
  | intro ab hX =>
  cases hX with
  | intro DN hX =>
  cases hX with
  | intro OA hX =>
  cases hX with
  | intro ol hX =>
  cases hX with
  | intro oc hX =>
  have he := hX.2
  subst he
  exact kk _ _ _ _ _ _ _ _ _ _ _ _ _ _ _ _ _ _ _ _ _ _ _ _ _ _ _ _ _ _ _ _ _ _ _ _ _ _ _ _ _ _ _ _ _ _ _ _ _ _ _ _ _ _ _ _ _ _ _ _ _ _ _ _ _ _ _ _ _ _ _ _ _ _ _ _ _ _ _ _ _ _ _ _ _ _ _ _ _ _ _ _ k ab DN OA ol oc hX.1
end
end Go.Proofs.YtfiedoejdikcgaaDoor
