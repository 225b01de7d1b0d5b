/- Own texts in one: ZlD, PkC, PkD. -/
import Derived.Test.YtbanopnofpjnbaaGreatDoorU48
import Derived.Test.YtbanopnofpjnbaaGreatDoorU53
import Derived.Test.YtbanopnofpjnbaaGreatDoorU54
set_option maxRecDepth 1000000
set_option linter.unusedVariables false
set_option maxHeartbeats 4000000
namespace Go.Proofs.YtbanopnofpjnbaaGreatDoor
open Go Go.RowKit Tryz
theorem tP(w:World){n:Nat}(hn:n<4611686018427387904):
 Calls prog 36 #[n] w (R1z (.string (strL (br n))) w):=by
 obtain⟨a,ha⟩:=E1 (n/16777216%256);obtain⟨b,hb⟩:=E1 (n/65536%256);obtain⟨c,hc⟩:=E1 (n/256%256);obtain⟨d,hd⟩:=E1 (n%256);have b1:IntKind.u8.wrap ((n:Int)/16777216)=(a:Int):=by simp[IntKind.wrap_u8];omega
 have b2:IntKind.u8.wrap ((n:Int)/65536)=(b:Int):=by simp[IntKind.wrap_u8];omega
 have b3:IntKind.u8.wrap ((n:Int)/256)=(c:Int):=by simp[IntKind.wrap_u8];omega
 have b4:IntKind.u8.wrap (n:Int)=(d:Int):=by simp[IntKind.wrap_u8];omega
 have kc:=fun W:World=>mc W ha hb hc hd;have HB:=qhz ((But.refl [] w).alloc (.cells #[.int .u8 a,.int .u8 b,.int .u8 c,.int .u8 d] 5));clear ha hb hc hd
 go_enter func36,ntmps36
 go_wp2;go_ret;exact⟨rfl,HB.out⟩
section
def fE(K:List Int)(k:Nat):Int:=K.getD (k%K.length) 0
structure SkY(w9:World)(b3 nV cV nK cK S n bp W H D C px py dx dy Wp Hp:Nat)(l:Int)(A1 A2:Option Addr)(V:List Nat)(K:List Int)(SS:ShP)(p:bj)(JS:List RowJ)(TT:List UInt8):Prop where
 head:Is w9 b3 33 #[W,H,D,C,l]
 num:Nums w9 A1 nV V
 kin:Zs w9 A2 nK K
 nk1:1≤nK
 nkl:nK≤1000
 kf:∀z,z∈K→z≤4
 nvc:nV≤cV
 nvE:nV=S*(W*H)
 vl:∀q,V.getD q 0<65536
 sE:ai SS.c=S
 s1:1≤S
 s4:S≤4
 wl:Wp≤1024
 hl:Hp≤1024
 wl1:1≤Wp
 ww:W≤1024∧H≤1024∧W*H≤4096
 ssw:SS.w=W
 ssd:SS.d=D
 dep:depB (D:Int)=true
 nE:n=bA SS Wp
 nl:n≤8192
 bE:bppN SS=bp
 b1:1≤bp
 b8:bp≤8
 byt:∀v,Calls prog 41 #[.agg #[W,H,D,C,l]] v (R1z (.int .i64 (bp:Nat)) v)
 pl:∀y,y<Hp→∀x,x<Wp→px+x*dx<W∧py+y*dy<H
 job:∀y,(jobP W p y).n=Wp∧(jobP W p y).x=px∧(jobP W p y).dx=dx∧(jobP W p y).y=py+y*dy∧((jobP W p y).first=true↔y=0)
 nxt:∀y,y<Hp→eC W H p y++JS=jobP W p y::(eC W H p (y+1)++JS)
 stop:∀y,Hp≤y→eC W H p y++JS=JS
 ttl:TT.length≤60000000
structure LkY(w9:World)(b12 n W H px py dx dy Wp Hp:Nat)(V:List Nat)(K:List Int)(SS:ShP)(p:bj)(JS:List RowJ)(TT:List UInt8)(y k:Nat)(ab:ByteArray)(DN:List UInt8)(OA:Option Addr)(ol oc:Nat)(wr:World):Prop where
 le:y≤Hp
 tt:TT=DN++dF SS V (fE K) (eC W H p y++JS) k ab.data.toList
 ab0:y=0→ab.data.toList=[]
 abn:ab.size=0∨ab.size=n
 kl:k≤DN.length
 olE:ol=DN.length
 own:OwnF wr w9.heap.size (.slice OA ol oc) DN
 pas:Is wr b12 64 #[px,py,dx,dy,Wp,Hp]
 but:But [] w9 wr
def MkY(n:Nat)(a:Act)(_:World):Nat:=n-(intOf (a.tmps.getD 14 undef)).toNat
theorem Ag{K:List Int}{k nK:Nat}(h:K.length=nK)(h1:1≤nK):∃x,K[k%nK]? =some x∧fE K k=x:=by
 have hl:k%nK<K.length:=by rw[h];exact Nat.mod_lt _ (by omega)
 refine⟨K[k%nK],List.getElem?_eq_getElem hl,?_⟩;unfold fE;rw[h,List.getD_eq_getElem?_getD,List.getElem?_eq_getElem hl];rfl
theorem KZ{SS:ShP}{kd:Nat→Int}{k:Nat}{line ab:List UInt8}(h:kd k<0):ni SS kd k line ab=kC (bppN SS) line ab:=by unfold ni;rw[if_pos h]
theorem KY{SS:ShP}{kd:Nat→Int}{k:Nat}{line ab:List UInt8}(h:¬kd k<0):ni SS kd k line ab=(kd k).toNat:=by unfold ni;rw[if_neg h]
def KIY(w9:World)(b3 b12 nV cV nK cK S n W H px py dx dy Wp Hp:Nat)(A1 A2:Option Addr)(V:List Nat)(K:List Int)(SS:ShP)(p:bj)(JS:List RowJ)(TT:List UInt8)(c0 c4 c5 c6 c9 c11 c23 c24 c25 c26 c27 c28 c29 c30 c31 c32 c33 c34 c35 c36 c37 c122 c123:Value)(act:Act)(w1:World):Prop:=
 ∃(u15 u16 u17 u18 u19 u20 u21 u22 u38 u39 u40 u41 u42 u43 u44 u45 u46 u47 u48 u49 u50 u51 u52 u53 u54 u55 u56 u57 u58 u59 u60 u61 u62 u63 u64 u65 u66 u67 u68 u69 u70 u71 u72 u73 u74 u75 u76 u77 u78 u79 u80 u81 u82 u83 u84 u85 u86 u87 u88 u89 u90 u91 u92 u93 u94 u95 u96 u97 u98 u99 u100 u101 u102 u103 u104 u105 u106 u107 u108 u109 u110 u111 u112 u113 u114 u115 u116 u117 u118 u119 u120 u121:Value) (y k:Nat) (ab:ByteArray) (DN:List UInt8) (OA:Option Addr) (ol oc:Nat),LkY w9 b12 n W H px py dx dy Wp Hp V K SS p JS TT y k ab DN OA ol oc w1∧act=⟨#[c0,.slice A1 nV cV,.slice A2 nK cK,.pointer b3,c4,c5,c6,.slice OA ol oc,.int .i64 (S:Nat),c9,.int .i64 (k:Nat),c11,.pointer b12,.string ab,.int .i64 (y:Nat),u15,u16,u17,u18,u19,u20,u21,u22,c23,c24,c25,c26,c27,c28,c29,c30,c31,c32,c33,c34,c35,c36,c37,u38,u39,u40,u41,u42,u43,u44,u45,u46,u47,u48,u49,u50,u51,u52,u53,u54,u55,u56,u57,u58,u59,u60,u61,u62,u63,u64,u65,u66,u67,u68,u69,u70,u71,u72,u73,u74,u75,u76,u77,u78,u79,u80,u81,u82,u83,u84,u85,u86,u87,u88,u89,u90,u91,u92,u93,u94,u95,u96,u97,u98,u99,u100,u101,u102,u103,u104,u105,u106,u107,u108,u109,u110,u111,u112,u113,u114,u115,u116,u117,u118,u119,u120,u121,c122,c123],[]⟩
def KXY(w9:World)(b3 b12 nV cV nK cK S n W H px py dx dy Wp Hp:Nat)(A1 A2:Option Addr)(V:List Nat)(K:List Int)(SS:ShP)(p:bj)(JS:List RowJ)(TT:List UInt8)(c0 c4 c5 c6 c9 c11 c23 c24 c25 c26 c27 c28 c29 c30 c31 c32 c33 c34 c35 c36 c37 c122 c123:Value)(act:Act)(w1:World):Prop:=
 ∃(u15 u16 u17 u18 u19 u20 u21 u22 u38 u39 u40 u41 u42 u43 u44 u45 u46 u47 u48 u49 u50 u51 u52 u53 u54 u55 u56 u57 u58 u59 u60 u61 u62 u63 u64 u65 u66 u67 u68 u69 u70 u71 u72 u73 u74 u75 u76 u77 u78 u79 u80 u81 u82 u83 u84 u85 u86 u87 u88 u89 u90 u91 u92 u93 u94 u95 u96 u97 u98 u99 u100 u101 u102 u103 u104 u105 u106 u107 u108 u109 u110 u111 u112 u113 u114 u115 u116 u117 u118 u119 u120 u121:Value) (k:Nat) (ab:ByteArray) (DN:List UInt8) (OA:Option Addr) (ol oc:Nat),LkY w9 b12 n W H px py dx dy Wp Hp V K SS p JS TT Hp k ab DN OA ol oc w1∧act=⟨#[c0,.slice A1 nV cV,.slice A2 nK cK,.pointer b3,c4,c5,c6,.slice OA ol oc,.int .i64 (S:Nat),c9,.int .i64 (k:Nat),c11,.pointer b12,.string ab,.int .i64 (Hp:Nat),u15,u16,u17,u18,u19,u20,u21,u22,c23,c24,c25,c26,c27,c28,c29,c30,c31,c32,c33,c34,c35,c36,c37,u38,u39,u40,u41,u42,u43,u44,u45,u46,u47,u48,u49,u50,u51,u52,u53,u54,u55,u56,u57,u58,u59,u60,u61,u62,u63,u64,u65,u66,u67,u68,u69,u70,u71,u72,u73,u74,u75,u76,u77,u78,u79,u80,u81,u82,u83,u84,u85,u86,u87,u88,u89,u90,u91,u92,u93,u94,u95,u96,u97,u98,u99,u100,u101,u102,u103,u104,u105,u106,u107,u108,u109,u110,u111,u112,u113,u114,u115,u116,u117,u118,u119,u120,u121,c122,c123],[]⟩
attribute [local irreducible] strL
section
variable {w9 wr:World} {b3 b12 nV cV nK cK S n bp W H D C px py dx dy Wp Hp:Nat} {l:Int} {A1 A2:Option Addr} {V:List Nat} {K:List Int} {SS:ShP} {p:bj} {JS:List RowJ} {TT:List UInt8} {Q0:Exit→Act→World→Prop} {y k:Nat} {ab:ByteArray} {DN:List UInt8} {OA:Option Addr} {ol oc:Nat}
variable {c0 c4 c5 c6 c9 c11 c23 c24 c25 c26 c27 c28 c29 c30 c31 c32 c33 c34 c35 c36 c37 c122 c123:Value}
variable {u15 u16 u17 u18 u19 u20 u21 u22 u38 u39 u40 u41 u42 u43 u44 u45 u46 u47 u48 u49 u50 u51 u52 u53 u54 u55 u56 u57 u58 u59 u60 u61 u62 u63 u64 u65 u66 u67 u68 u69 u70 u71 u72 u73 u74 u75 u76 u77 u78 u79 u80 u81 u82 u83 u84 u85 u86 u87 u88 u89 u90 u91 u92 u93 u94 u95 u96 u97 u98 u99 u100 u101 u102 u103 u104 u105 u106 u107 u108 u109 u110 u111 u112 u113 u114 u115 u116 u117 u118 u119 u120 u121:Value}
theorem Qr(hT:SkY w9 b3 nV cV nK cK S n bp W H D C px py dx dy Wp Hp l A1 A2 V K SS p JS TT)(hS:LkY w9 b12 n W H px py dx dy Wp Hp V K SS p JS TT y k ab DN OA ol oc wr)(hy:Hid (¬y<Hp))(hexit:∀act w1,KXY w9 b3 b12 nV cV nK cK S n W H px py dx dy Wp Hp A1 A2 V K SS p JS TT c0 c4 c5 c6 c9 c11 c23 c24 c25 c26 c27 c28 c29 c30 c31 c32 c33 c34 c35 c36 c37 c122 c123 act w1→Q0 (.exit 2) act w1):
 Code.wp prog pM (Exit.then (fun act w1=>KIY w9 b3 b12 nV cV nK cK S n W H px py dx dy Wp Hp A1 A2 V K SS p JS TT c0 c4 c5 c6 c9 c11 c23 c24 c25 c26 c27 c28 c29 c30 c31 c32 c33 c34 c35 c36 c37 c122 c123 act w1∧MkY Hp act w1<MkY Hp ⟨#[c0,.slice A1 nV cV,.slice A2 nK cK,.pointer b3,c4,c5,c6,.slice OA ol oc,.int .i64 (S:Nat),c9,.int .i64 (k:Nat),c11,.pointer b12,.string ab,.int .i64 (y:Nat),u15,u16,u17,u18,u19,u20,u21,u22,c23,c24,c25,c26,c27,c28,c29,c30,c31,c32,c33,c34,c35,c36,c37,u38,u39,u40,u41,u42,u43,u44,u45,u46,u47,u48,u49,u50,u51,u52,u53,u54,u55,u56,u57,u58,u59,u60,u61,u62,u63,u64,u65,u66,u67,u68,u69,u70,u71,u72,u73,u74,u75,u76,u77,u78,u79,u80,u81,u82,u83,u84,u85,u86,u87,u88,u89,u90,u91,u92,u93,u94,u95,u96,u97,u98,u99,u100,u101,u102,u103,u104,u105,u106,u107,u108,u109,u110,u111,u112,u113,u114,u115,u116,u117,u118,u119,u120,u121,c122,c123],[]⟩ wr) Q0) ⟨#[c0,.slice A1 nV cV,.slice A2 nK cK,.pointer b3,c4,c5,c6,.slice OA ol oc,.int .i64 (S:Nat),c9,.int .i64 (k:Nat),c11,.pointer b12,.string ab,.int .i64 (y:Nat),u15,u16,u17,u18,u19,u20,u21,u22,c23,c24,c25,c26,c27,c28,c29,c30,c31,c32,c33,c34,c35,c36,c37,u38,u39,u40,u41,u42,u43,u44,u45,u46,u47,u48,u49,u50,u51,u52,u53,u54,u55,u56,u57,u58,u59,u60,u61,u62,u63,u64,u65,u66,u67,u68,u69,u70,u71,u72,u73,u74,u75,u76,u77,u78,u79,u80,u81,u82,u83,u84,u85,u86,u87,u88,u89,u90,u91,u92,u93,u94,u95,u96,u97,u98,u99,u100,u101,u102,u103,u104,u105,u106,u107,u108,u109,u110,u111,u112,u113,u114,u115,u116,u117,u118,u119,u120,u121,c122,c123],[]⟩ wr:=by
 conv=>arg 2;whnf
 have HT:=qhz hT;have HS:=qhz hS;obtain⟨p0,p1,p2,p3,p4,p5,hgp⟩:=hS.pas.c6;have wl:=hT.wl;have hhl:=hT.hl;have nl:=hT.nl;clear hT hS;have i1:¬(y:Int)<(Hp:Int):=by have:=hy.out;omega
 obtain rfl:Hp=y:=by have:=hy.out;have:=HS.out.le;omega
 clear hy;go_wp2;unfold KXY;exact⟨_,_,_,_,_,_,_,_,_,_,_,_,_,_,_,_,_,_,_,_,_,_,_,_,_,_,_,_,_,_,_,_,_,_,_,_,_,_,_,_,_,_,_,_,_,_,_,_,_,_,_,_,_,_,_,_,_,_,_,_,_,_,_,_,_,_,_,_,_,_,_,_,_,_,_,_,_,_,_,_,_,_,_,_,_,_,_,_,_,_,_,_,k,ab,DN,OA,ol,oc,HS.out,rfl⟩
theorem NH(hT:SkY w9 b3 nV cV nK cK S n bp W H D C px py dx dy Wp Hp l A1 A2 V K SS p JS TT)(hS:LkY w9 b12 n W H px py dx dy Wp Hp V K SS p JS TT y k ab DN OA ol oc wr)(hy:Hid (y<Hp))(hk:Hid (fE K k<0)):
 Code.wp prog pM (Exit.then (fun act w1=>KIY w9 b3 b12 nV cV nK cK S n W H px py dx dy Wp Hp A1 A2 V K SS p JS TT c0 c4 c5 c6 c9 c11 c23 c24 c25 c26 c27 c28 c29 c30 c31 c32 c33 c34 c35 c36 c37 c122 c123 act w1∧MkY Hp act w1<MkY Hp ⟨#[c0,.slice A1 nV cV,.slice A2 nK cK,.pointer b3,c4,c5,c6,.slice OA ol oc,.int .i64 (S:Nat),c9,.int .i64 (k:Nat),c11,.pointer b12,.string ab,.int .i64 (y:Nat),u15,u16,u17,u18,u19,u20,u21,u22,c23,c24,c25,c26,c27,c28,c29,c30,c31,c32,c33,c34,c35,c36,c37,u38,u39,u40,u41,u42,u43,u44,u45,u46,u47,u48,u49,u50,u51,u52,u53,u54,u55,u56,u57,u58,u59,u60,u61,u62,u63,u64,u65,u66,u67,u68,u69,u70,u71,u72,u73,u74,u75,u76,u77,u78,u79,u80,u81,u82,u83,u84,u85,u86,u87,u88,u89,u90,u91,u92,u93,u94,u95,u96,u97,u98,u99,u100,u101,u102,u103,u104,u105,u106,u107,u108,u109,u110,u111,u112,u113,u114,u115,u116,u117,u118,u119,u120,u121,c122,c123],[]⟩ wr) Q0) ⟨#[c0,.slice A1 nV cV,.slice A2 nK cK,.pointer b3,c4,c5,c6,.slice OA ol oc,.int .i64 (S:Nat),c9,.int .i64 (k:Nat),c11,.pointer b12,.string ab,.int .i64 (y:Nat),u15,u16,u17,u18,u19,u20,u21,u22,c23,c24,c25,c26,c27,c28,c29,c30,c31,c32,c33,c34,c35,c36,c37,u38,u39,u40,u41,u42,u43,u44,u45,u46,u47,u48,u49,u50,u51,u52,u53,u54,u55,u56,u57,u58,u59,u60,u61,u62,u63,u64,u65,u66,u67,u68,u69,u70,u71,u72,u73,u74,u75,u76,u77,u78,u79,u80,u81,u82,u83,u84,u85,u86,u87,u88,u89,u90,u91,u92,u93,u94,u95,u96,u97,u98,u99,u100,u101,u102,u103,u104,u105,u106,u107,u108,u109,u110,u111,u112,u113,u114,u115,u116,u117,u118,u119,u120,u121,c122,c123],[]⟩ wr:=by
 conv=>arg 2;whnf
 have HT:=qhz hT;have HS:=qhz hS;obtain⟨p0,p1,p2,p3,p4,p5,hgp⟩:=hS.pas.c6;have wl:=hT.wl;have hhl:=hT.hl;have nl:=hT.nl;clear hT hS;have hyl:=hy.out;obtain⟨j,hj⟩:=E1 (jobP W p y);have HJ:Hid (j.n=Wp∧j.x=px∧j.dx=dx∧j.y=py+y*dy∧(j.first=true↔y=0)):=qhz (by rw[hj];exact HT.out.job y);have HLNy:Hid (eC W H p y++JS=j::(eC W H p (y+1)++JS)):=qhz (by rw[hj];exact HT.out.nxt y hyl);obtain⟨J2,hJ2⟩:=E1 (eC W H p (y+1)++JS);rw[←hJ2]at HLNy;have HJ2:=qhz hJ2;obtain⟨ln,hln⟩:=E1 (dR D (rowV SS V j));have hlnl:ln.length=n:=by
  rw[hln,gx,cY,HT.out.sE,HJ.out.1,HT.out.nE];unfold bA;rw[HT.out.sE,HT.out.ssd,Nat.mul_comm,←Nat.mul_assoc]
 obtain⟨ls,hls⟩:=E1 (strL ln);have hlss:ls.size=n:=by rw[hls,ac,hlnl]
 have hlsl:ls.data.toList=ln:=by rw[hls,aj]
 obtain⟨kq,hkq⟩:=E1 (fE K k);obtain⟨km,hkm⟩:=E1 (k%nK);have hkml:km<nK:=by rw[hkm];exact Nat.mod_lt _ HT.out.nk1
 obtain⟨kx,hkx1,hkx2⟩:=Ag (k:=k) HT.out.kin.1 HT.out.nk1;rw[←hkm]at hkx1;have hkq4:kq≤4:=by rw[hkq,hkx2];exact HT.out.kf kx (List.mem_of_getElem? hkx1)
 obtain⟨gk,ok,q,hA2,hgk,hq1,hq2⟩:=HT.out.kin.at hkml;have hqq:q=kq:=by rw[hkq,hkx2];exact Option.some.inj (hq1.symm.trans hkx1)
 subst hA2;rw[hqq]at hq2;have HKC:Hid (∀v,But [] w9 v→v.cell? ⟨gk,ok+km,none⟩=some (.int .i64 kq)∧gk<v.heap.size):=qhz fun v hv=>⟨hv.cell hq2 (by simp),Nat.lt_of_lt_of_le hgk hv.size⟩
 have hDNl:DN.length≤60000000:=by
  have h1:=HT.out.ttl;rw[HS.out.tt,List.length_append]at h1;omega
 have hkl:k≤60000000:=by have:=HS.out.kl;omega
 have tm1:(k:Int).tmod (nK:Int)=(km:Int):=by rw[Int.tmod_eq_emod_of_nonneg (by omega),hkm,Int.natCast_emod]
 have tm2:(k:Int)%(nK:Int)=(km:Int):=by rw[hkm,Int.natCast_emod]
 have nk1:=HT.out.nk1;have nkl:=HT.out.nkl;have nz1:((nK:Int)=0)=False:=by simp;omega
 have nz2:((nK:Int)==0)=false:=by simp;omega
 have vkm:=af (show km<1000000000000000 by omega);have hb1:=HT.out.b1;have hb8:=HT.out.b8;have hw0:bO (bp:Int) ls ab=0:=by
  unfold bO;refine if_neg ?_;rintro(h|h|⟨h,h'⟩)
  ·omega
  ·omega
  ·rcases HS.out.abn with h2|h2
   ·exact h h2
   ·exact h' (by rw[h2,hlss])
 have has:ab.size≤8192:=by rcases HS.out.abn with h|h<;>omega
 obtain⟨kf,hkf⟩:=E1 (ni SS (fE K) k ln ab.data.toList);have hneg:=hk.out;rw[←hkq]at hneg;have hkfe:kf=kC bp ln ab.data.toList:=by rw[hkf,KZ hk.out,HT.out.bE]
 have hkf4:kf≤4:=by rw[hkfe];exact xo _ _ _
 have hpa:zw (bp:Int) ls ab=kf:=by rw[rd hw0,hlsl,hkfe]
 have HPI:Hid (∀v,Calls prog 40 #[bp,ls,ab] v (R1z (.tuple #[kf,(0:Int)]) v)):=qhz fun v=>by
  have h:=Lz v (bp:Int) ls ab (by omega) (by omega);rw[hpa,hw0]at h;exact h
 clear hkfe hpa;have hwf:aL (bp:Int) (kf:Int) ls ab=0:=by rw[fM (by omega) (by omega)];exact hw0
 obtain⟨fd,hfd⟩:=E1 (doF (kf:Nat) bp ln ab.data.toList);have hda:doA (bp:Int) (kf:Int) ls ab=fd:=by rw[vN hwf,hlsl,hfd]
 have hfl:fd.length=n:=by rw[hfd,cq,hlnl]
 obtain⟨fs,hfs⟩:=E1 (strL fd);have hfss:fs.size=n:=by rw[hfs,ac,hfl]
 have hfsl:fs.data.toList=fd:=by rw[hfs,aj]
 have HDO:Hid (∀v,Calls prog 42 #[bp,kf,ls,ab] v (R1z (.tuple #[fs,(0:Int)]) v)):=qhz fun v=>by
  have h:=CR v (bp:Int) (kf:Int) ls ab (by omega) (by omega);rw[hda,hwf,←hfs]at h;exact h
 have HEP:Hid (∀(v:World) (A:Option Addr) (c m:Nat),Nums v A m (rowV SS V j)→Calls prog 39 #[D,.slice A m c] v (R1z (.tuple #[ls,(0:Int)]) v)):=qhz fun v A c m hN=>by
  have hv:=JA HT.out.vl j (S:=SS);have hm:m≤17592186043904:=by
   rw[←hN.1,cY,HT.out.sE,HJ.out.1];have h3:S*Wp≤4*1024:=Nat.mul_le_mul HT.out.s4 wl;omega
  have h:=AA v (c:=c) (d:=(D:Int)) hN.zs (Dj hv) hm;have e:kD (D:Int) ((rowV SS V j).map fun x=>((x:Nat):Int))=(ln,0):=by
   unfold kD;rw[HT.out.dep,if_neg (by decide),Em hv,Int.toNat_natCast,hln]
  rw[e,←hls]at h;exact h
 have hku:(UInt8.ofNat kf).toNat=kf:=by rw[UInt8.toNat_ofNat'];omega
 have HKU:=qhz hku;have HTT2:Hid (TT=(DN++UInt8.ofNat kf::fs.data.toList)++dF SS V (fE K) J2 (k+1) ls.data.toList):=qhz (by
  have hab:j.first=true→ab.data.toList=[]:=fun h=>HS.out.ab0 (HJ.out.2.2.2.2.1 h);rw[HS.out.tt,HLNy.out,vp hab,HT.out.ssd,←hln,←hkf,HT.out.bE,←hfd,hfsl,hlsl];simp)
 have HLSn:Hid (ls.size=n):=qhz hlss;have HFSn:Hid (fs.size=n):=qhz hfss;have hk256:kf<256:=by omega
 have i0:(0:Int)≤(y:Int):=by omega
 have i1:(y:Int)<(Hp:Int):=by omega
 have HDNL:=qhz hDNl;have HOE:=qhz HS.out.olE;clear hln hlnl hls hlss hlsl hkq hkm hkx1 hkx2 hgk hq1 hq2 hqq hw0 hkf hwf hfd hda hfl hfs hfss hfsl hku hj hJ2 hy hk;have HSK:Hid (SkX wr b3 b12 nV cV S y W H D C px py dx dy Wp Hp l A1 V SS j):=qhz {
  head:=HT.out.head.but HS.out.but (by simp)
  pas:=HS.out.pas
  num:=HT.out.num.but HS.out.but
  nvc:=HT.out.nvc
  nvE:=HT.out.nvE
  sE:=HT.out.sE
  s1:=HT.out.s1
  s4:=HT.out.s4
  jj:=⟨HJ.out.1,HJ.out.2.1,HJ.out.2.2.1,HJ.out.2.2.2.1⟩
  pl:=HT.out.pl y hyl
  wl:=HT.out.wl
  ww:=HT.out.ww
  ssw:=HT.out.ssw}
 have HLK:Hid (LkX wr Wp V SS j 0 none 0 0 wr):=qhz ⟨Nat.zero_le _,rfl,OwnN.nil _ _,But.refl _ _⟩
 go_wp2_with fail
 refine D6 HSK.out ?_ HLK.out;intro act wz hX;refine Ev hX ?_;clear hX;intro u17 u44 u45 u46 u47 u48 u49 u50 u51 u52 u53 u54 u55 u56 u57 u58 u59 u60 u61 u62 u63 u64 u65 u66 u67 u68 u69 u70 u71 u72 u73 u74 u75 u76 u77 RA rl rc hz;have HZ:=qhz hz;have hBz:=hz.but;have HRE:=qhz hz.rlE;have HNz:Hid (Nums wz RA rl (rowV SS V j)):=qhz (by
  have h:=HZ.out.own.nums;rw[←HRE.out,←HJ.out.1,zg]at h;exact h)
 have HPz:=qhz (HS.out.pas.but hBz (by simp));have HOz:=qhz (HS.out.own.but hBz);have HBz:=qhz (HS.out.but.trans hBz);clear hz hBz p0 p1 p2 p3 p4 p5 hgp;have hh3:=HT.out.head.but HBz.out (by simp);obtain⟨c0,c1,c2,c3,c4,hg3⟩:=hh3.c5;clear hh3
 go_wp2_with fail
 refine(HEP.out _ _ _ _ HNz.out).mono ?_;rintro e wp ⟨rfl,hBp⟩;have HPp:=qhz (HPz.out.but hBp (by simp));have HOp:=qhz (HOz.out.but hBp);have HBp:=qt HBz hBp;clear hBp c0 c1 c2 c3 c4 hg3;obtain⟨hkc,hkg⟩:=HKC.out _ HBp.out;have hh3:=HT.out.head.but HBp.out (by simp);obtain⟨c0,c1,c2,c3,c4,hg3⟩:=hh3.c5;clear hh3
 go_wp2_with fail
 refine(HT.out.byt _).mono ?_;rintro e wq ⟨rfl,hBq⟩;have HPq:=qhz (HPp.out.but hBq (by simp));have HOq:=qhz (HOp.out.but hBq);have HBq:=qt HBp hBq;clear hBq;clear c0 c1 c2 c3 c4 hg3 hkc hkg
 go_wp2_with fail
 refine(HPI.out _).mono ?_;rintro e ws ⟨rfl,hBq⟩;have HPr:=qhz (HPq.out.but hBq (by simp));have HOr:=qhz (HOq.out.but hBq);have HBr:=qt HBq hBq;clear hBq;have hh3:=HT.out.head.but HBr.out (by simp);obtain⟨c0,c1,c2,c3,c4,hg3⟩:=hh3.c5;clear hh3
 go_wp2_with fail
 refine(HT.out.byt _).mono ?_;rintro e wt ⟨rfl,hBq⟩;have HPs:=qhz (HPr.out.but hBq (by simp));have HOs:=qhz (HOr.out.but hBq);have HBs:=qt HBr hBq;clear hBq;clear c0 c1 c2 c3 c4 hg3
 go_wp2_with fail
 refine(HDO.out _).mono ?_;rintro e wu ⟨rfl,hBq⟩;have HPt:=qhz (HPs.out.but hBq (by simp));have HOt:=qhz (HOs.out.but hBq);have HBt:=qt HBs hBq;clear hBq;have hAu:=(But.refl [] wu).alloc (.cells #[.int .u8 (kf:Nat)] 5);have hIu:=Is.fresh wu 5 #[.int .u8 (kf:Nat)];obtain⟨gu,hgu⟩:=E1 wu.heap.size;obtain⟨wv,hwv⟩:=E1 (wu.alloc (.cells #[.int .u8 (kf:Nat)] 5));rw[←hwv]at hAu;rw[←hwv,←hgu]at hIu;have HIu:Hid (Is wv gu 5 #[.int .u8 ((UInt8.ofNat kf).toNat:Nat)]):=qhz (by rw[HKU.out];exact hIu);have HPu:=qhz (HPt.out.but hAu (by simp));have HOu:=qhz (HOt.out.but hAu);have HBu:=qhz (HBt.out.trans hAu);clear hAu hIu;rw[HOE.out]at HOu;obtain rfl:=HOE.out
 go_wp2_with (at_builtin;rw[←hwv];refine kw (w0:=w9) wv rfl (Operand.tmp 113) (Operand.tmp 116) rfl (.slice OA DN.length oc) DN (by kernel_rfl) HOu.out HBu.out (UInt8.ofNat kf) (g:=gu) (by rw[hgu];kernel_rfl) HIu.out (by have:=HDNL.out;omega) ?_)
 intro A7 c7 w7 HO7 HB7 HK7;have HP7:Hid (Is w7 b12 64 #[px,py,dx,dy,Wp,Hp]):=qhz (HK7.out b12 64 _ (by decide) (by rw[←hwv];exact HPu.out));clear HK7 hwv hgu
 go_wp2_with (at_builtin;refine ko (w0:=w9) _ rfl (Operand.tmp 118) (Operand.tmp 119) rfl (.slice A7 (DN.length+1) c7) (DN++[UInt8.ofNat kf]) (by kernel_rfl) HO7.out HB7.out fs (by kernel_rfl) (by rw[List.length_append,List.length_singleton,HFSn.out];have:=HDNL.out;omega) ?_)
 intro A8 c8 w8 HO8 HB8 HK8;have HP8:=qhz (HK8.out b12 64 _ (by decide) HP7.out);clear HK8;go_wp2;refine⟨?_,?_⟩
 ·unfold KIY;refine⟨_,_,_,_,_,_,_,_,_,_,_,_,_,_,_,_,_,_,_,_,_,_,_,_,_,_,_,_,_,_,_,_,_,_,_,_,_,_,_,_,_,_,_,_,_,_,_,_,_,_,_,_,_,_,_,_,_,_,_,_,_,_,_,_,_,_,_,_,_,_,_,_,_,_,_,_,_,_,_,_,_,_,_,_,_,_,_,_,_,_,_,_,y+1,k+1,ls,_,A8,_,c8,⟨by omega,by rw[←HJ2.out];exact HTT2.out,fun h=>absurd h (by omega),.inr HLSn.out,?_,?_,HO8.out,HP8.out,HB8.out⟩,rfl⟩
  ·have h:=HS.out.kl;rw[List.length_append,List.length_cons];omega
  ·rw[List.length_append,List.length_cons,Array.length_toList];show DN.length+1+fs.size=DN.length+(fs.size+1)
   omega
 ·show Hp-(intOf (.int .i64 ((y:Int)+1))).toNat<Hp-(intOf (.int .i64 (y:Int))).toNat;simp[intOf];omega
theorem NJ(hT:SkY w9 b3 nV cV nK cK S n bp W H D C px py dx dy Wp Hp l A1 A2 V K SS p JS TT)(hS:LkY w9 b12 n W H px py dx dy Wp Hp V K SS p JS TT y k ab DN OA ol oc wr)(hy:Hid (y<Hp))(hk:Hid (¬fE K k<0)):
 Code.wp prog pM (Exit.then (fun act w1=>KIY w9 b3 b12 nV cV nK cK S n W H px py dx dy Wp Hp A1 A2 V K SS p JS TT c0 c4 c5 c6 c9 c11 c23 c24 c25 c26 c27 c28 c29 c30 c31 c32 c33 c34 c35 c36 c37 c122 c123 act w1∧MkY Hp act w1<MkY Hp ⟨#[c0,.slice A1 nV cV,.slice A2 nK cK,.pointer b3,c4,c5,c6,.slice OA ol oc,.int .i64 (S:Nat),c9,.int .i64 (k:Nat),c11,.pointer b12,.string ab,.int .i64 (y:Nat),u15,u16,u17,u18,u19,u20,u21,u22,c23,c24,c25,c26,c27,c28,c29,c30,c31,c32,c33,c34,c35,c36,c37,u38,u39,u40,u41,u42,u43,u44,u45,u46,u47,u48,u49,u50,u51,u52,u53,u54,u55,u56,u57,u58,u59,u60,u61,u62,u63,u64,u65,u66,u67,u68,u69,u70,u71,u72,u73,u74,u75,u76,u77,u78,u79,u80,u81,u82,u83,u84,u85,u86,u87,u88,u89,u90,u91,u92,u93,u94,u95,u96,u97,u98,u99,u100,u101,u102,u103,u104,u105,u106,u107,u108,u109,u110,u111,u112,u113,u114,u115,u116,u117,u118,u119,u120,u121,c122,c123],[]⟩ wr) Q0) ⟨#[c0,.slice A1 nV cV,.slice A2 nK cK,.pointer b3,c4,c5,c6,.slice OA ol oc,.int .i64 (S:Nat),c9,.int .i64 (k:Nat),c11,.pointer b12,.string ab,.int .i64 (y:Nat),u15,u16,u17,u18,u19,u20,u21,u22,c23,c24,c25,c26,c27,c28,c29,c30,c31,c32,c33,c34,c35,c36,c37,u38,u39,u40,u41,u42,u43,u44,u45,u46,u47,u48,u49,u50,u51,u52,u53,u54,u55,u56,u57,u58,u59,u60,u61,u62,u63,u64,u65,u66,u67,u68,u69,u70,u71,u72,u73,u74,u75,u76,u77,u78,u79,u80,u81,u82,u83,u84,u85,u86,u87,u88,u89,u90,u91,u92,u93,u94,u95,u96,u97,u98,u99,u100,u101,u102,u103,u104,u105,u106,u107,u108,u109,u110,u111,u112,u113,u114,u115,u116,u117,u118,u119,u120,u121,c122,c123],[]⟩ wr:=by
 conv=>arg 2;whnf
 have HT:=qhz hT;have HS:=qhz hS;obtain⟨p0,p1,p2,p3,p4,p5,hgp⟩:=hS.pas.c6;have wl:=hT.wl;have hhl:=hT.hl;have nl:=hT.nl;clear hT hS;have hyl:=hy.out;obtain⟨j,hj⟩:=E1 (jobP W p y);have HJ:Hid (j.n=Wp∧j.x=px∧j.dx=dx∧j.y=py+y*dy∧(j.first=true↔y=0)):=qhz (by rw[hj];exact HT.out.job y);have HLNy:Hid (eC W H p y++JS=j::(eC W H p (y+1)++JS)):=qhz (by rw[hj];exact HT.out.nxt y hyl);obtain⟨J2,hJ2⟩:=E1 (eC W H p (y+1)++JS);rw[←hJ2]at HLNy;have HJ2:=qhz hJ2;obtain⟨ln,hln⟩:=E1 (dR D (rowV SS V j));have hlnl:ln.length=n:=by
  rw[hln,gx,cY,HT.out.sE,HJ.out.1,HT.out.nE];unfold bA;rw[HT.out.sE,HT.out.ssd,Nat.mul_comm,←Nat.mul_assoc]
 obtain⟨ls,hls⟩:=E1 (strL ln);have hlss:ls.size=n:=by rw[hls,ac,hlnl]
 have hlsl:ls.data.toList=ln:=by rw[hls,aj]
 obtain⟨kq,hkq⟩:=E1 (fE K k);obtain⟨km,hkm⟩:=E1 (k%nK);have hkml:km<nK:=by rw[hkm];exact Nat.mod_lt _ HT.out.nk1
 obtain⟨kx,hkx1,hkx2⟩:=Ag (k:=k) HT.out.kin.1 HT.out.nk1;rw[←hkm]at hkx1;have hkq4:kq≤4:=by rw[hkq,hkx2];exact HT.out.kf kx (List.mem_of_getElem? hkx1)
 obtain⟨gk,ok,q,hA2,hgk,hq1,hq2⟩:=HT.out.kin.at hkml;have hqq:q=kq:=by rw[hkq,hkx2];exact Option.some.inj (hq1.symm.trans hkx1)
 subst hA2;rw[hqq]at hq2;have HKC:Hid (∀v,But [] w9 v→v.cell? ⟨gk,ok+km,none⟩=some (.int .i64 kq)∧gk<v.heap.size):=qhz fun v hv=>⟨hv.cell hq2 (by simp),Nat.lt_of_lt_of_le hgk hv.size⟩
 have hDNl:DN.length≤60000000:=by
  have h1:=HT.out.ttl;rw[HS.out.tt,List.length_append]at h1;omega
 have hkl:k≤60000000:=by have:=HS.out.kl;omega
 have tm1:(k:Int).tmod (nK:Int)=(km:Int):=by rw[Int.tmod_eq_emod_of_nonneg (by omega),hkm,Int.natCast_emod]
 have tm2:(k:Int)%(nK:Int)=(km:Int):=by rw[hkm,Int.natCast_emod]
 have nk1:=HT.out.nk1;have nkl:=HT.out.nkl;have nz1:((nK:Int)=0)=False:=by simp;omega
 have nz2:((nK:Int)==0)=false:=by simp;omega
 have vkm:=af (show km<1000000000000000 by omega);have hb1:=HT.out.b1;have hb8:=HT.out.b8;have hw0:bO (bp:Int) ls ab=0:=by
  unfold bO;refine if_neg ?_;rintro(h|h|⟨h,h'⟩)
  ·omega
  ·omega
  ·rcases HS.out.abn with h2|h2
   ·exact h h2
   ·exact h' (by rw[h2,hlss])
 have has:ab.size≤8192:=by rcases HS.out.abn with h|h<;>omega
 obtain⟨kf,hkf⟩:=E1 (ni SS (fE K) k ln ab.data.toList);have hpos:=hk.out;rw[←hkq]at hpos;have hkfe:kf=kq.toNat:=by rw[hkf,KY hk.out,hkq]
 have hkf4:kf≤4:=by omega
 have hkqe:kq=(kf:Int):=by omega
 rw[hkqe]at HKC;have hpos2:¬(kf:Int)<0:=by omega
 clear hkfe hpos;have hwf:aL (bp:Int) (kf:Int) ls ab=0:=by rw[fM (by omega) (by omega)];exact hw0
 obtain⟨fd,hfd⟩:=E1 (doF (kf:Nat) bp ln ab.data.toList);have hda:doA (bp:Int) (kf:Int) ls ab=fd:=by rw[vN hwf,hlsl,hfd]
 have hfl:fd.length=n:=by rw[hfd,cq,hlnl]
 obtain⟨fs,hfs⟩:=E1 (strL fd);have hfss:fs.size=n:=by rw[hfs,ac,hfl]
 have hfsl:fs.data.toList=fd:=by rw[hfs,aj]
 have HDO:Hid (∀v,Calls prog 42 #[bp,kf,ls,ab] v (R1z (.tuple #[fs,(0:Int)]) v)):=qhz fun v=>by
  have h:=CR v (bp:Int) (kf:Int) ls ab (by omega) (by omega);rw[hda,hwf,←hfs]at h;exact h
 have HEP:Hid (∀(v:World) (A:Option Addr) (c m:Nat),Nums v A m (rowV SS V j)→Calls prog 39 #[D,.slice A m c] v (R1z (.tuple #[ls,(0:Int)]) v)):=qhz fun v A c m hN=>by
  have hv:=JA HT.out.vl j (S:=SS);have hm:m≤17592186043904:=by
   rw[←hN.1,cY,HT.out.sE,HJ.out.1];have h3:S*Wp≤4*1024:=Nat.mul_le_mul HT.out.s4 wl;omega
  have h:=AA v (c:=c) (d:=(D:Int)) hN.zs (Dj hv) hm;have e:kD (D:Int) ((rowV SS V j).map fun x=>((x:Nat):Int))=(ln,0):=by
   unfold kD;rw[HT.out.dep,if_neg (by decide),Em hv,Int.toNat_natCast,hln]
  rw[e,←hls]at h;exact h
 have hku:(UInt8.ofNat kf).toNat=kf:=by rw[UInt8.toNat_ofNat'];omega
 have HKU:=qhz hku;have HTT2:Hid (TT=(DN++UInt8.ofNat kf::fs.data.toList)++dF SS V (fE K) J2 (k+1) ls.data.toList):=qhz (by
  have hab:j.first=true→ab.data.toList=[]:=fun h=>HS.out.ab0 (HJ.out.2.2.2.2.1 h);rw[HS.out.tt,HLNy.out,vp hab,HT.out.ssd,←hln,←hkf,HT.out.bE,←hfd,hfsl,hlsl];simp)
 have HLSn:Hid (ls.size=n):=qhz hlss;have HFSn:Hid (fs.size=n):=qhz hfss;have hk256:kf<256:=by omega
 have i0:(0:Int)≤(y:Int):=by omega
 have i1:(y:Int)<(Hp:Int):=by omega
 have HDNL:=qhz hDNl;have HOE:=qhz HS.out.olE;clear hln hlnl hls hlss hlsl hkq hkm hkx1 hkx2 hgk hq1 hq2 hqq hw0 hkf hwf hfd hda hfl hfs hfss hfsl hku hj hJ2 hy hk;have HSK:Hid (SkX wr b3 b12 nV cV S y W H D C px py dx dy Wp Hp l A1 V SS j):=qhz {
  head:=HT.out.head.but HS.out.but (by simp)
  pas:=HS.out.pas
  num:=HT.out.num.but HS.out.but
  nvc:=HT.out.nvc
  nvE:=HT.out.nvE
  sE:=HT.out.sE
  s1:=HT.out.s1
  s4:=HT.out.s4
  jj:=⟨HJ.out.1,HJ.out.2.1,HJ.out.2.2.1,HJ.out.2.2.2.1⟩
  pl:=HT.out.pl y hyl
  wl:=HT.out.wl
  ww:=HT.out.ww
  ssw:=HT.out.ssw}
 have HLK:Hid (LkX wr Wp V SS j 0 none 0 0 wr):=qhz ⟨Nat.zero_le _,rfl,OwnN.nil _ _,But.refl _ _⟩
 go_wp2_with fail
 refine D6 HSK.out ?_ HLK.out;intro act wz hX;refine Ev hX ?_;clear hX;intro u17 u44 u45 u46 u47 u48 u49 u50 u51 u52 u53 u54 u55 u56 u57 u58 u59 u60 u61 u62 u63 u64 u65 u66 u67 u68 u69 u70 u71 u72 u73 u74 u75 u76 u77 RA rl rc hz;have HZ:=qhz hz;have hBz:=hz.but;have HRE:=qhz hz.rlE;have HNz:Hid (Nums wz RA rl (rowV SS V j)):=qhz (by
  have h:=HZ.out.own.nums;rw[←HRE.out,←HJ.out.1,zg]at h;exact h)
 have HPz:=qhz (HS.out.pas.but hBz (by simp));have HOz:=qhz (HS.out.own.but hBz);have HBz:=qhz (HS.out.but.trans hBz);clear hz hBz p0 p1 p2 p3 p4 p5 hgp;have hh3:=HT.out.head.but HBz.out (by simp);obtain⟨c0,c1,c2,c3,c4,hg3⟩:=hh3.c5;clear hh3
 go_wp2_with fail
 refine(HEP.out _ _ _ _ HNz.out).mono ?_;rintro e wp ⟨rfl,hBp⟩;have HPp:=qhz (HPz.out.but hBp (by simp));have HOp:=qhz (HOz.out.but hBp);have HBp:=qt HBz hBp;clear hBp c0 c1 c2 c3 c4 hg3;obtain⟨hkc,hkg⟩:=HKC.out _ HBp.out;have hh3:=HT.out.head.but HBp.out (by simp);obtain⟨c0,c1,c2,c3,c4,hg3⟩:=hh3.c5;clear hh3
 go_wp2_with fail
 refine(HT.out.byt _).mono ?_;rintro e wt ⟨rfl,hBq⟩;have HPs:=qhz (HPp.out.but hBq (by simp));have HOs:=qhz (HOp.out.but hBq);have HBs:=qt HBp hBq;clear hBq;clear c0 c1 c2 c3 c4 hg3
 go_wp2_with fail
 refine(HDO.out _).mono ?_;rintro e wu ⟨rfl,hBq⟩;have HPt:=qhz (HPs.out.but hBq (by simp));have HOt:=qhz (HOs.out.but hBq);have HBt:=qt HBs hBq;clear hBq;have hAu:=(But.refl [] wu).alloc (.cells #[.int .u8 (kf:Nat)] 5);have hIu:=Is.fresh wu 5 #[.int .u8 (kf:Nat)];obtain⟨gu,hgu⟩:=E1 wu.heap.size;obtain⟨wv,hwv⟩:=E1 (wu.alloc (.cells #[.int .u8 (kf:Nat)] 5));rw[←hwv]at hAu;rw[←hwv,←hgu]at hIu;have HIu:Hid (Is wv gu 5 #[.int .u8 ((UInt8.ofNat kf).toNat:Nat)]):=qhz (by rw[HKU.out];exact hIu);have HPu:=qhz (HPt.out.but hAu (by simp));have HOu:=qhz (HOt.out.but hAu);have HBu:=qhz (HBt.out.trans hAu);clear hAu hIu;rw[HOE.out]at HOu;obtain rfl:=HOE.out
 go_wp2_with (at_builtin;rw[←hwv];refine kw (w0:=w9) wv rfl (Operand.tmp 113) (Operand.tmp 116) rfl (.slice OA DN.length oc) DN (by kernel_rfl) HOu.out HBu.out (UInt8.ofNat kf) (g:=gu) (by rw[hgu];kernel_rfl) HIu.out (by have:=HDNL.out;omega) ?_)
 intro A7 c7 w7 HO7 HB7 HK7;have HP7:Hid (Is w7 b12 64 #[px,py,dx,dy,Wp,Hp]):=qhz (HK7.out b12 64 _ (by decide) (by rw[←hwv];exact HPu.out));clear HK7 hwv hgu
 go_wp2_with (at_builtin;refine ko (w0:=w9) _ rfl (Operand.tmp 118) (Operand.tmp 119) rfl (.slice A7 (DN.length+1) c7) (DN++[UInt8.ofNat kf]) (by kernel_rfl) HO7.out HB7.out fs (by kernel_rfl) (by rw[List.length_append,List.length_singleton,HFSn.out];have:=HDNL.out;omega) ?_)
 intro A8 c8 w8 HO8 HB8 HK8;have HP8:=qhz (HK8.out b12 64 _ (by decide) HP7.out);clear HK8;go_wp2;refine⟨?_,?_⟩
 ·unfold KIY;refine⟨_,_,_,_,_,_,_,_,_,_,_,_,_,_,_,_,_,_,_,_,_,_,_,_,_,_,_,_,_,_,_,_,_,_,_,_,_,_,_,_,_,_,_,_,_,_,_,_,_,_,_,_,_,_,_,_,_,_,_,_,_,_,_,_,_,_,_,_,_,_,_,_,_,_,_,_,_,_,_,_,_,_,_,_,_,_,_,_,_,_,_,_,y+1,k+1,ls,_,A8,_,c8,⟨by omega,by rw[←HJ2.out];exact HTT2.out,fun h=>absurd h (by omega),.inr HLSn.out,?_,?_,HO8.out,HP8.out,HB8.out⟩,rfl⟩
  ·have h:=HS.out.kl;rw[List.length_append,List.length_cons];omega
  ·rw[List.length_append,List.length_cons,Array.length_toList];show DN.length+1+fs.size=DN.length+(fs.size+1)
   omega
 ·show Hp-(intOf (.int .i64 ((y:Int)+1))).toNat<Hp-(intOf (.int .i64 (y:Int))).toNat;simp[intOf];omega
theorem Ke{act:Act}(hT:SkY w9 b3 nV cV nK cK S n bp W H D C px py dx dy Wp Hp l A1 A2 V K SS p JS TT)(hexit:∀act w1,KXY w9 b3 b12 nV cV nK cK S n W H px py dx dy Wp Hp A1 A2 V K SS p JS TT c0 c4 c5 c6 c9 c11 c23 c24 c25 c26 c27 c28 c29 c30 c31 c32 c33 c34 c35 c36 c37 c122 c123 act w1→Q0 (.exit 2) act w1)(hI:KIY w9 b3 b12 nV cV nK cK S n W H px py dx dy Wp Hp A1 A2 V K SS p JS TT c0 c4 c5 c6 c9 c11 c23 c24 c25 c26 c27 c28 c29 c30 c31 c32 c33 c34 c35 c36 c37 c122 c123 act wr):
 Code.wp prog pM (Exit.then (fun act' w1=>KIY w9 b3 b12 nV cV nK cK S n W H px py dx dy Wp Hp A1 A2 V K SS p JS TT c0 c4 c5 c6 c9 c11 c23 c24 c25 c26 c27 c28 c29 c30 c31 c32 c33 c34 c35 c36 c37 c122 c123 act' w1∧MkY Hp act' w1<MkY Hp act wr) Q0) act wr:=by
 unfold KIY at hI;cases hI with
 |intro u15 hI=>
 cases hI with
 |intro u16 hI=>
 cases hI with
 |intro u17 hI=>
 cases hI with
 |intro u18 hI=>
 cases hI with
 |intro u19 hI=>
 cases hI with
 |intro u20 hI=>
 cases hI with
 |intro u21 hI=>
 cases hI with
 |intro u22 hI=>
 cases hI with
 |intro u38 hI=>
 cases hI with
 |intro u39 hI=>
 cases hI with
 |intro u40 hI=>
 cases hI with
 |intro u41 hI=>
 cases hI with
 |intro u42 hI=>
 cases hI with
 |intro u43 hI=>
 cases hI with
 |intro u44 hI=>
 cases hI with
 |intro u45 hI=>
 cases hI with
 |intro u46 hI=>
 cases hI with
 |intro u47 hI=>
 cases hI with
 |intro u48 hI=>
 cases hI with
 |intro u49 hI=>
 cases hI with
 |intro u50 hI=>
 cases hI with
 |intro u51 hI=>
 cases hI with
 |intro u52 hI=>
 cases hI with
 |intro u53 hI=>
 cases hI with
 |intro u54 hI=>
 cases hI with
 |intro u55 hI=>
 cases hI with
 |intro u56 hI=>
 cases hI with
 |intro u57 hI=>
 cases hI with
 |intro u58 hI=>
 cases hI with
 |intro u59 hI=>
 cases hI with
 |intro u60 hI=>
 cases hI with
 |intro u61 hI=>
 cases hI with
 |intro u62 hI=>
 cases hI with
 |intro u63 hI=>
 cases hI with
 |intro u64 hI=>
 cases hI with
 |intro u65 hI=>
 cases hI with
 |intro u66 hI=>
 cases hI with
 |intro u67 hI=>
 cases hI with
 |intro u68 hI=>
 cases hI with
 |intro u69 hI=>
 cases hI with
 |intro u70 hI=>
 cases hI with
 |intro u71 hI=>
 cases hI with
 |intro u72 hI=>
 cases hI with
 |intro u73 hI=>
 cases hI with
 |intro u74 hI=>
 cases hI with
 |intro u75 hI=>
 cases hI with
 |intro u76 hI=>
 cases hI with
 |intro u77 hI=>
 cases hI with
 |intro u78 hI=>
 cases hI with
 |intro u79 hI=>
 cases hI with
 |intro u80 hI=>
 cases hI with
 |intro u81 hI=>
 cases hI with
 |intro u82 hI=>
 cases hI with
 |intro u83 hI=>
 cases hI with
 |intro u84 hI=>
 cases hI with
 |intro u85 hI=>
 cases hI with
 |intro u86 hI=>
 cases hI with
 |intro u87 hI=>
 cases hI with
 |intro u88 hI=>
 cases hI with
 |intro u89 hI=>
 cases hI with
 |intro u90 hI=>
 cases hI with
 |intro u91 hI=>
 cases hI with
 |intro u92 hI=>
 cases hI with
 |intro u93 hI=>
 cases hI with
 |intro u94 hI=>
 cases hI with
 |intro u95 hI=>
 cases hI with
 |intro u96 hI=>
 cases hI with
 |intro u97 hI=>
 cases hI with
 |intro u98 hI=>
 cases hI with
 |intro u99 hI=>
 cases hI with
 |intro u100 hI=>
 cases hI with
 |intro u101 hI=>
 cases hI with
 |intro u102 hI=>
 cases hI with
 |intro u103 hI=>
 cases hI with
 |intro u104 hI=>
 cases hI with
 |intro u105 hI=>
 cases hI with
 |intro u106 hI=>
 cases hI with
 |intro u107 hI=>
 cases hI with
 |intro u108 hI=>
 cases hI with
 |intro u109 hI=>
 cases hI with
 |intro u110 hI=>
 cases hI with
 |intro u111 hI=>
 cases hI with
 |intro u112 hI=>
 cases hI with
 |intro u113 hI=>
 cases hI with
 |intro u114 hI=>
 cases hI with
 |intro u115 hI=>
 cases hI with
 |intro u116 hI=>
 cases hI with
 |intro u117 hI=>
 cases hI with
 |intro u118 hI=>
 cases hI with
 |intro u119 hI=>
 cases hI with
 |intro u120 hI=>
 cases hI with
 |intro u121 hI=>
 cases hI with
 |intro y hI=>
 cases hI with
 |intro k hI=>
 cases hI with
 |intro ab hI=>
 cases hI with
 |intro DN hI=>
 cases hI with
 |intro OA hI=>
 cases hI with
 |intro ol hI=>
 cases hI with
 |intro oc hI=>
 have hS:=hI.1;have he:=hI.2;subst he
 by_cases hy:y<Hp
 ·by_cases hk:fE K k<0
  ·exact NH hT hS (qhz hy) (qhz hk)
  ·exact NJ hT hS (qhz hy) (qhz hk)
 ·exact Qr hT hS (qhz hy) hexit
theorem NI(hT:SkY w9 b3 nV cV nK cK S n bp W H D C px py dx dy Wp Hp l A1 A2 V K SS p JS TT)(hexit:∀act w1,KXY w9 b3 b12 nV cV nK cK S n W H px py dx dy Wp Hp A1 A2 V K SS p JS TT c0 c4 c5 c6 c9 c11 c23 c24 c25 c26 c27 c28 c29 c30 c31 c32 c33 c34 c35 c36 c37 c122 c123 act w1→Q0 (.exit 2) act w1)(hS:LkY w9 b12 n W H px py dx dy Wp Hp V K SS p JS TT y k ab DN OA ol oc wr):
 Code.wp prog (Code.loop pM) Q0 ⟨#[c0,.slice A1 nV cV,.slice A2 nK cK,.pointer b3,c4,c5,c6,.slice OA ol oc,.int .i64 (S:Nat),c9,.int .i64 (k:Nat),c11,.pointer b12,.string ab,.int .i64 (y:Nat),u15,u16,u17,u18,u19,u20,u21,u22,c23,c24,c25,c26,c27,c28,c29,c30,c31,c32,c33,c34,c35,c36,c37,u38,u39,u40,u41,u42,u43,u44,u45,u46,u47,u48,u49,u50,u51,u52,u53,u54,u55,u56,u57,u58,u59,u60,u61,u62,u63,u64,u65,u66,u67,u68,u69,u70,u71,u72,u73,u74,u75,u76,u77,u78,u79,u80,u81,u82,u83,u84,u85,u86,u87,u88,u89,u90,u91,u92,u93,u94,u95,u96,u97,u98,u99,u100,u101,u102,u103,u104,u105,u106,u107,u108,u109,u110,u111,u112,u113,u114,u115,u116,u117,u118,u119,u120,u121,c122,c123],[]⟩ wr:=by
 refine wp_loop (KIY w9 b3 b12 nV cV nK cK S n W H px py dx dy Wp Hp A1 A2 V K SS p JS TT c0 c4 c5 c6 c9 c11 c23 c24 c25 c26 c27 c28 c29 c30 c31 c32 c33 c34 c35 c36 c37 c122 c123) (MkY Hp) ?_ (fun act w1 hI=>Ke hT hexit hI);unfold KIY;exact⟨_,_,_,_,_,_,_,_,_,_,_,_,_,_,_,_,_,_,_,_,_,_,_,_,_,_,_,_,_,_,_,_,_,_,_,_,_,_,_,_,_,_,_,_,_,_,_,_,_,_,_,_,_,_,_,_,_,_,_,_,_,_,_,_,_,_,_,_,_,_,_,_,_,_,_,_,_,_,_,_,_,_,_,_,_,_,_,_,_,_,_,_,y,k,ab,DN,OA,ol,oc,hS,rfl⟩
theorem Ot{act:Act}{G:Act→World→Prop}(hX:KXY w9 b3 b12 nV cV nK cK S n W H px py dx dy Wp Hp A1 A2 V K SS p JS TT c0 c4 c5 c6 c9 c11 c23 c24 c25 c26 c27 c28 c29 c30 c31 c32 c33 c34 c35 c36 c37 c122 c123 act wr)
 (kk:∀(u15 u16 u17 u18 u19 u20 u21 u22 u38 u39 u40 u41 u42 u43 u44 u45 u46 u47 u48 u49 u50 u51 u52 u53 u54 u55 u56 u57 u58 u59 u60 u61 u62 u63 u64 u65 u66 u67 u68 u69 u70 u71 u72 u73 u74 u75 u76 u77 u78 u79 u80 u81 u82 u83 u84 u85 u86 u87 u88 u89 u90 u91 u92 u93 u94 u95 u96 u97 u98 u99 u100 u101 u102 u103 u104 u105 u106 u107 u108 u109 u110 u111 u112 u113 u114 u115 u116 u117 u118 u119 u120 u121:Value) (k:Nat) (ab:ByteArray) (DN:List UInt8) (OA:Option Addr) (ol oc:Nat),LkY w9 b12 n W H px py dx dy Wp Hp V K SS p JS TT Hp k ab DN OA ol oc wr→G ⟨#[c0,.slice A1 nV cV,.slice A2 nK cK,.pointer b3,c4,c5,c6,.slice OA ol oc,.int .i64 (S:Nat),c9,.int .i64 (k:Nat),c11,.pointer b12,.string ab,.int .i64 (Hp:Nat),u15,u16,u17,u18,u19,u20,u21,u22,c23,c24,c25,c26,c27,c28,c29,c30,c31,c32,c33,c34,c35,c36,c37,u38,u39,u40,u41,u42,u43,u44,u45,u46,u47,u48,u49,u50,u51,u52,u53,u54,u55,u56,u57,u58,u59,u60,u61,u62,u63,u64,u65,u66,u67,u68,u69,u70,u71,u72,u73,u74,u75,u76,u77,u78,u79,u80,u81,u82,u83,u84,u85,u86,u87,u88,u89,u90,u91,u92,u93,u94,u95,u96,u97,u98,u99,u100,u101,u102,u103,u104,u105,u106,u107,u108,u109,u110,u111,u112,u113,u114,u115,u116,u117,u118,u119,u120,u121,c122,c123],[]⟩ wr):G act wr:=by
 unfold KXY at hX;cases hX with
 |intro u15 hX=>
 cases hX with
 |intro u16 hX=>
 cases hX with
 |intro u17 hX=>
 cases hX with
 |intro u18 hX=>
 cases hX with
 |intro u19 hX=>
 cases hX with
 |intro u20 hX=>
 cases hX with
 |intro u21 hX=>
 cases hX with
 |intro u22 hX=>
 cases hX with
 |intro u38 hX=>
 cases hX with
 |intro u39 hX=>
 cases hX with
 |intro u40 hX=>
 cases hX with
 |intro u41 hX=>
 cases hX with
 |intro u42 hX=>
 cases hX with
 |intro u43 hX=>
 cases hX with
 |intro u44 hX=>
 cases hX with
 |intro u45 hX=>
 cases hX with
 |intro u46 hX=>
 cases hX with
 |intro u47 hX=>
 cases hX with
 |intro u48 hX=>
 cases hX with
 |intro u49 hX=>
 cases hX with
 |intro u50 hX=>
 cases hX with
 |intro u51 hX=>
 cases hX with
 |intro u52 hX=>
 cases hX with
 |intro u53 hX=>
 cases hX with
 |intro u54 hX=>
 cases hX with
 |intro u55 hX=>
 cases hX with
 |intro u56 hX=>
 cases hX with
 |intro u57 hX=>
 cases hX with
 |intro u58 hX=>
 cases hX with
 |intro u59 hX=>
 cases hX with
 |intro u60 hX=>
 cases hX with
 |intro u61 hX=>
 cases hX with
 |intro u62 hX=>
 cases hX with
 |intro u63 hX=>
 cases hX with
 |intro u64 hX=>
 cases hX with
 |intro u65 hX=>
 cases hX with
 |intro u66 hX=>
 cases hX with
 |intro u67 hX=>
 cases hX with
 |intro u68 hX=>
 cases hX with
 |intro u69 hX=>
 cases hX with
 |intro u70 hX=>
 cases hX with
 |intro u71 hX=>
 cases hX with
 |intro u72 hX=>
 cases hX with
 |intro u73 hX=>
 cases hX with
 |intro u74 hX=>
 cases hX with
 |intro u75 hX=>
 cases hX with
 |intro u76 hX=>
 cases hX with
 |intro u77 hX=>
 cases hX with
 |intro u78 hX=>
 cases hX with
 |intro u79 hX=>
 cases hX with
 |intro u80 hX=>
 cases hX with
 |intro u81 hX=>
 cases hX with
 |intro u82 hX=>
 cases hX with
 |intro u83 hX=>
 cases hX with
 |intro u84 hX=>
 cases hX with
 |intro u85 hX=>
 cases hX with
 |intro u86 hX=>
 cases hX with
 |intro u87 hX=>
 cases hX with
 |intro u88 hX=>
 cases hX with
 |intro u89 hX=>
 cases hX with
 |intro u90 hX=>
 cases hX with
 |intro u91 hX=>
 cases hX with
 |intro u92 hX=>
 cases hX with
 |intro u93 hX=>
 cases hX with
 |intro u94 hX=>
 cases hX with
 |intro u95 hX=>
 cases hX with
 |intro u96 hX=>
 cases hX with
 |intro u97 hX=>
 cases hX with
 |intro u98 hX=>
 cases hX with
 |intro u99 hX=>
 cases hX with
 |intro u100 hX=>
 cases hX with
 |intro u101 hX=>
 cases hX with
 |intro u102 hX=>
 cases hX with
 |intro u103 hX=>
 cases hX with
 |intro u104 hX=>
 cases hX with
 |intro u105 hX=>
 cases hX with
 |intro u106 hX=>
 cases hX with
 |intro u107 hX=>
 cases hX with
 |intro u108 hX=>
 cases hX with
 |intro u109 hX=>
 cases hX with
 |intro u110 hX=>
 cases hX with
 |intro u111 hX=>
 cases hX with
 |intro u112 hX=>
 cases hX with
 |intro u113 hX=>
 cases hX with
 |intro u114 hX=>
 cases hX with
 |intro u115 hX=>
 cases hX with
 |intro u116 hX=>
 cases hX with
 |intro u117 hX=>
 cases hX with
 |intro u118 hX=>
 cases hX with
 |intro u119 hX=>
 cases hX with
 |intro u120 hX=>
 cases hX with
 |intro u121 hX=>
 cases hX with
 |intro k hX=>
 cases hX with
 |intro ab hX=>
 cases hX with
 |intro DN hX=>
 cases hX with
 |intro OA hX=>
 cases hX with
 |intro ol hX=>
 cases hX with
 |intro oc hX=>
 have he:=hX.2;subst he;exact kk _ _ _ _ _ _ _ _ _ _ _ _ _ _ _ _ _ _ _ _ _ _ _ _ _ _ _ _ _ _ _ _ _ _ _ _ _ _ _ _ _ _ _ _ _ _ _ _ _ _ _ _ _ _ _ _ _ _ _ _ _ _ _ _ _ _ _ _ _ _ _ _ _ _ _ _ _ _ _ _ _ _ _ _ _ _ _ _ _ _ _ _ k ab DN OA ol oc hX.1
end
end
theorem F7{a b d c l:Int}{W H D C:Nat}{V:List Nat}{kd:Nat→Int}(pal tr:List UInt8)(has:Bool)(h0:ak a b d c l=0)(R:fl a b d c l W H D C):
 (dF ⟨W,H,D,C,pal,tr,has⟩ V kd (bS W H ((gn l).filter (cj W H))) 0 []).length≤60000000:=by
 rw[iM,←jP pal tr has h0 R];unfold cJ;have h1:=wJ (a:=a) (b:=b) (d:=d) (c:=c) (l:=l) (L:=cy a b d c l) (fun p hp=>by have:=mY hp;omega);have h2:=jk a b d c l;have h3:(cy a b d c l).length*8389632≤7*8389632:=Nat.mul_le_mul_right _ h2;omega
theorem CO(w:World){W H D C:Nat}{l:Int}{A1 A2:Option Addr}{nV cV nK cK:Nat}{V:List Nat}{K:List Int}(palL trL:List UInt8)(hasB:Bool)(h0:ak (W:Int) H D C l=0)(R:fl (W:Int) H D C l W H D C)
 (hN:Nums w A1 nV V) (hnv:nV=ai C*(W*H)) (nvc:nV≤cV) (vl:∀q,V.getD q 0<65536) (hK:Zs w A2 nK K) (nk1:1≤nK) (nkl:nK≤1000) (kf4:∀z,z∈K→z≤4):
 Calls prog 18 #[.agg #[W,H,D,C,l],.slice A1 nV cV,.slice A2 nK cK] w (R1z (.string (strL (dF ⟨W,H,D,C,palL,trL,hasB⟩ V (fE K) (bS W H ((gn l).filter (cj W H))) 0 []))) w):=by
 have hWE:=R.wa;obtain⟨SS,hSS⟩:∃SS:ShP,SS=⟨W,H,D,C,palL,trL,hasB⟩:=⟨_,rfl⟩
 obtain⟨L0,hL0⟩:=E1 ((gn l).filter (cj W H));obtain⟨TT,hTT⟩:=E1 (dF SS V (fE K) (bS W H L0) 0 []);have httl:TT.length≤60000000:=by rw[hTT,hSS,hL0];exact F7 palL trL hasB h0 R
 rw[←hSS,←hL0,←hTT];obtain⟨S,hS⟩:=E1 (ai C);have s1:1≤S:=by rw[hS];exact R.s1
 have s4:S≤4:=by rw[hS];exact R.s4
 have w2:=R.w2;have h2:=R.h2;have d16:=R.d16;have hcs:aW (C:Int)=(S:Int):=by rw[hS];exact R.sam
 have HSM:Hid (∀v,Calls prog 16 #[C] v fun e w'=>e=.returned (.int .i64 (S:Nat))∧v=w'):=qhz fun v=>by rw[←hcs];exact qH v C
 obtain⟨np,hnp⟩:=E1 L0.length;obtain⟨P,hP⟩:=E1 (L0.map (p6 W H));have hnp7:np≤7:=by
  have h:=jk (W:Int) H D C l;rw[jl h0 R,←hL0,List.length_map]at h;omega
 have HPS:Hid (∀v,Calls prog 38 #[.agg #[W,H,D,C,l]] v fun e w'=>∃A cap,e=.returned (.slice A np cap)∧Pss w' A np P∧np≤cap∧But [] v w'):=qhz fun v=>by
  have h:=CN v (W:Int) H D C l;rw[jl h0 R,←hL0,←hP,show P.length=np by rw[hP,List.length_map,hnp]]at h;exact h
 have HPA:Hid (∀(i:Nat) (q:P6),P[i]? =some q→∃p,L0[i]? =some p∧q=p6 W H p∧p∈gn l∧cj W H p=true):=qhz fun i q hq=>by
  rw[hP,List.getElem?_map]at hq;cases hp:L0[i]? with
  |none=>rw[hp]at hq;cases hq
  |some p=>
   rw[hp]at hq;have hm:p∈L0:=List.mem_of_getElem? hp;rw[hL0]at hm;exact⟨p,rfl,(Option.some.inj hq).symm,(List.mem_filter.1 hm).1,(List.mem_filter.1 hm).2⟩
 have HHEAD:Hid (∀i j,(bS W H (L0.drop i)).head? =some j→j.first=true):=qhz fun i=>Ah _ fun p hp=>by
  have h:=List.mem_of_mem_drop hp;rw[hL0]at h;exact(List.mem_filter.1 h).2
 obtain⟨bp,hbp⟩:=E1 (max 1 (D*S/8));have hDS:D*S≤64:=by show _≤16*4;exact Nat.mul_le_mul d16 s4
 have hbp1:1≤bp:=by omega
 have hbp8:bp≤8:=by omega
 have HBY:Hid (∀v,Calls prog 41 #[.agg #[W,H,D,C,l]] v (R1z (.int .i64 (bp:Nat)) v)):=qhz fun v=>by rw[hbp];exact GW v hcs d16 s4
 have HBN:Hid (bppN SS=bp):=qhz (by rw[hSS,hbp,hS];rfl);have HRL:Hid (∀n,n≤1024→bA SS n≤8192):=qhz fun n hn=>by rw[hSS];exact oe R _ _ _ hn
 have HTT:Hid (TT=dF SS V (fE K) (bS W H (L0.drop 0)) 0 []):=qhz (by rw[List.drop_zero,hTT]);have HSSF:Hid (ai SS.c=S∧SS.w=W∧SS.d=D∧depB (D:Int)=true∧nV=S*(W*H)∧(W≤1024∧H≤1024∧W*H≤4096)):=qhz (by rw[hSS];exact⟨hS.symm,rfl,rfl,R.dep,by rw[hnv,hS],R.w2,R.h2,R.area⟩);have HNP:=qhz hnp;have HTL:=qhz httl;obtain⟨b3,hb3⟩:=E1 w.heap.size;obtain⟨w1,hw1⟩:=E1 (w.alloc (.cells #[W,H,D,C,l] 33));have hI1:Is w1 b3 33 #[W,H,D,C,l]:=by rw[hw1,hb3];exact Is.fresh _ _ _
 have hB1:But [] w w1:=by rw[hw1];exact(But.refl [] w).alloc _
 have HI1:=qhz hI1;have HB1:=qhz hB1;have HN1:=qhz (hN.but hB1);have HK1:=qhz (hK.but hB1);obtain⟨c0,c1,c2,c3,c4,hg3⟩:=hI1.c5;have HVL:=qhz vl;have HKF:=qhz kf4;clear hI1 hB1 hN hK hTT hSS hL0 hS hcs hnp hP hbp hDS httl R h0 hnv hWE vl kf4
 go_enter func18,ntmps18
 go_upto_region 1 with(fail)
 rw[←hw1,←hb3];clear hw1 hb3
 go_wp2_with fail
 refine(HSM.out _).mono ?_;rintro e w2 ⟨rfl,rfl⟩
 go_wp2_with fail
 refine(HPS.out _).mono ?_;rintro e w9 ⟨A9,cap9,rfl,hP9,hcap9,hB9⟩;have HP9:=qhz hP9;have HI9:=qhz (HI1.out.but hB9 (by simp));have HN9:=qhz (HN1.out.but hB9);have HK9:=qhz (HK1.out.but hB9);have HB9:=qt HB1 hB9;clear hP9 hB9 c0 c1 c2 c3 c4 hg3
 go_wp2_with fail
 go_loopw [7,10,11] (fun ov kv iv wx=>∃(i k:Nat) (DN:List UInt8) (OA:Option Addr) (ol oc:Nat),i≤np∧iv=.int .i64 i∧kv=.int .i64 k∧ov=.slice OA ol oc∧Hid (TT=DN++dF SS V (fE K) (bS W H (L0.drop i)) k [])∧Hid (k≤DN.length)∧Hid (ol=DN.length)∧Hid (OwnF wx w9.heap.size (.slice OA ol oc) DN)∧Hid (But [] w9 wx)) (fun _ _ iv _=>np-(intOf iv).toNat)
 case atStart=>exact⟨0,0,[],none,0,0,Nat.zero_le _,rfl,rfl,rfl,HTT,qhz (Nat.le_refl _),qhz rfl,qhz (OwnF.nil _ _),qhz (But.refl _ _)⟩
 case round=>
  clear HTT;obtain⟨i,k,DN,OA,ol,oc,hi,rfl,rfl,rfl,HT,HKL,HOL,HOW,HB⟩:=hrel
  by_cases hlt:i<np
  ·obtain⟨g9,o9,q6,hA9,hg9,hq6,m0,m1,m2,m3,m4,m5⟩:=(HP9.out.but HB.out).at hlt;subst hA9;obtain⟨p,hp9,hq,hbase,hsome⟩:=HPA.out i q6 hq6;have hsm:=of_decide_eq_true hsome;obtain⟨⟨hx7,hy7⟩,⟨hdx1,hdx8⟩,hdy1,hdy8⟩:=gm hbase;have hokp:=Df l p hbase;have hWle:=da W p.x p.dx hdx1;have hHle:=da H p.y p.dy hdy1;have HPLC:Hid (∀y,y<ay H p.y p.dy→∀x,x<ay W p.x p.dx→p.x+x*p.dx<W∧p.y+y*p.dy<H):=qhz fun y h2 x h1=>D5 hokp h2 h1;have HJOB:Hid (∀y,(jobP W p y).n=ay W p.x p.dx∧(jobP W p y).x=p.x∧(jobP W p y).dx=p.dx∧(jobP W p y).y=p.y+y*p.dy∧((jobP W p y).first=true↔y=0)):=qhz fun y=>⟨rfl,rfl,rfl,rfl,by show decide (y=0)=true↔y=0;exact decide_eq_true_iff⟩
   obtain⟨JS,hJS⟩:=E1 (bS W H (L0.drop (i+1)));have HLS:Hid (eC W H p 0++JS=bS W H (L0.drop i)):=qhz (by rw[hJS];exact nh hp9 hsm.1);have HLN:Hid (∀y,y<ay H p.y p.dy→eC W H p y++JS=jobP W p y::(eC W H p (y+1)++JS)):=qhz fun y hy=>by rw[lY hy];rfl
   have HLE:Hid (∀y,ay H p.y p.dy≤y→eC W H p y++JS=JS):=qhz fun y hy=>by rw[tw hy];rfl
   have HJS:=qhz hJS;have e6:q6=(p.x,p.y,p.dx,p.dy,ay W p.x p.dx,ay H p.y p.dy):=hq;subst e6;dsimp only at m0 m1 m2 m3 m4 m5;obtain⟨px,hpx⟩:=E1 p.x;obtain⟨py,hpy⟩:=E1 p.y;obtain⟨dx,hdx⟩:=E1 p.dx;obtain⟨dy,hdy⟩:=E1 p.dy;obtain⟨Wp,hWp⟩:=E1 (ay W p.x p.dx);obtain⟨Hp,hHp⟩:=E1 (ay H p.y p.dy);rw[←hWp]at hsm HPLC HJOB hWle m4;rw[←hHp]at hsm HPLC hHle HLN HLE m5;rw[←hpx]at HPLC HJOB m0;rw[←hpy]at HPLC HJOB m1;rw[←hdx]at HPLC HJOB m2;rw[←hdy]at HPLC HJOB m3;obtain⟨hWp1,hHp1⟩:=hsm;have i0:(0:Int)≤(i:Int):=by omega
   have i1:(i:Int)<(np:Int):=by omega
   obtain⟨n,hn⟩:=E1 (bA SS Wp);have hnl:n≤8192:=by rw[hn];exact HRL.out Wp (by omega)
   obtain⟨bB,hbB⟩:=E1 wr.heap.size;obtain⟨wz,hwz⟩:=E1 (wr.alloc (.cells #[px,py,dx,dy,Wp,Hp] 64));have hBBi:Is wz bB 64 #[px,py,dx,dy,Wp,Hp]:=by rw[hwz,hbB];exact Is.fresh _ _ _
   have hAz:But [] wr wz:=by rw[hwz];exact(But.refl [] wr).alloc _
   have HSKY:Hid (SkY w9 b3 nV cV nK cK S n bp W H D C px py dx dy Wp Hp l A1 A2 V K SS p JS TT):=qhz {
    head:=HI9.out
    num:=HN9.out
    kin:=HK9.out
    nk1:=nk1
    nkl:=nkl
    kf:=HKF.out
    nvc:=nvc
    nvE:=HSSF.out.2.2.2.2.1
    vl:=HVL.out
    sE:=HSSF.out.1
    s1:=s1
    s4:=s4
    wl:=by omega
    hl:=by omega
    wl1:=hWp1
    ww:=HSSF.out.2.2.2.2.2
    ssw:=HSSF.out.2.1
    ssd:=HSSF.out.2.2.1
    dep:=HSSF.out.2.2.2.1
    nE:=hn
    nl:=hnl
    bE:=HBN.out
    b1:=hbp1
    b8:=hbp8
    byt:=HBY.out
    pl:=HPLC.out
    job:=HJOB.out
    nxt:=HLN.out
    stop:=HLE.out
    ttl:=HTL.out}
   have HLKY:Hid (LkY w9 bB n W H px py dx dy Wp Hp V K SS p JS TT 0 k ⟨#[]⟩ DN OA ol oc wz):=qhz ⟨Nat.zero_le _,by rw[HLS.out];exact HT.out,fun _=>rfl,.inl rfl,HKL.out,HOL.out,HOW.out.but hAz,hBBi,HB.out.trans hAz⟩;have HHEADi:=qhz (HHEAD.out (i+1));rw[←hJS]at HHEADi;clear hJS hn hBBi hAz hpx hpy hdx hdy hWp hHp hokp hbase hsome hp9 hq6 HT HKL HOL HOW HB hq
   go_upto_region 9 with(fail)
   rw[←hwz,←hbB];clear hwz hbB m0 m1 m2 m3 m4 m5 hg9 i0 i1
   go_wp2_with fail
   refine NI HSKY.out ?_ HLKY.out;intro act wf hX;refine Ot hX ?_;clear hX;intro u15 u16 u17 u18 u19 u20 u21 u22 u38 u39 u40 u41 u42 u43 u44 u45 u46 u47 u48 u49 u50 u51 u52 u53 u54 u55 u56 u57 u58 u59 u60 u61 u62 u63 u64 u65 u66 u67 u68 u69 u70 u71 u72 u73 u74 u75 u76 u77 u78 u79 u80 u81 u82 u83 u84 u85 u86 u87 u88 u89 u90 u91 u92 u93 u94 u95 u96 u97 u98 u99 u100 u101 u102 u103 u104 u105 u106 u107 u108 u109 u110 u111 u112 u113 u114 u115 u116 u117 u118 u119 u120 u121 k2 ab2 DN2 OA2 ol2 oc2 hz;have HZ:=qhz hz;have HT2:Hid (TT=DN2++dF SS V (fE K) (bS W H (L0.drop (i+1))) k2 []):=qhz (by rw[←HJS.out,←Cd HHEADi.out k2 ab2.data.toList];have h:=HZ.out.tt;rw[HSKY.out.stop Hp (Nat.le_refl _)]at h;exact h);have HKL2:=qhz hz.kl;have HOL2:=qhz hz.olE;have HOW2:=qhz hz.own;have HB2:=qhz hz.but;clear hz;go_wp2
   go_roundw
   case rel=>exact⟨i+1,k2,DN2,OA2,ol2,oc2,by omega,by go_num,rfl,rfl,HT2,HKL2,HOL2,HOW2,HB2⟩
   case measure=>simp[intOf]<;>omega
  ·obtain rfl:np=i:=by omega
   have HE:Hid (TT=DN):=qhz (by rw[HT.out,List.drop_of_length_le (by rw[←HNP.out];exact Nat.le_refl _)];exact List.append_nil _);have kt:=HOW.out.text;rw[←HE.out]at kt;go_wp2;go_ret;exact⟨rfl,HB9.out.trans HB.out⟩
end Go.Proofs.YtbanopnofpjnbaaGreatDoor
