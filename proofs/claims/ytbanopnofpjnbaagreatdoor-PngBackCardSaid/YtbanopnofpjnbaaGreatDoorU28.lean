/- Own texts in one: SaM, HeM, SbA, SbB, SbC, SbE, SbH, SbJ, SbK, SbO, SbL, SbI, HpQ, HpA, SbN, SbU. -/
import Derived.Test.YtbanopnofpjnbaaGreatDoorU26
set_option maxRecDepth 1000000
set_option linter.unusedVariables false
set_option maxHeartbeats 4000000
namespace Go.Proofs.YtbanopnofpjnbaaGreatDoor
open Go Go.RowKit Tryz
def eu(row:List UInt8)(depth n:Nat):List Nat:=(List.range n).map (cX row depth)
theorem Dq{depth:Nat}(hd:nj depth)(v:Nat):mj v depth=v*(65535/(2^depth-1))∧1≤65535/(2^depth-1):=by
 unfold mj;rcases hd with rfl|rfl|rfl|rfl|rfl
 ·exact⟨by show v*65535/1=v*65535;omega,by decide⟩
 ·exact⟨by show v*65535/3=v*21845;omega,by decide⟩
 ·exact⟨by show v*65535/15=v*4369;omega,by decide⟩
 ·exact⟨by show v*65535/255=v*257;omega,by decide⟩
 ·exact⟨by show v*65535/65535=v*1;omega,by decide⟩
theorem E9{depth:Nat}(hd:nj depth):mj (2^depth-1) depth=65535:=by
 rcases hd with rfl|rfl|rfl|rfl|rfl<;>decide
theorem MT{depth:Nat}(hd:nj depth){v:Nat}(h:v≤2^depth-1):mj v depth≤65535:=by
 rw[←E9 hd];obtain⟨h1,_⟩:=Dq hd v;obtain⟨h3,_⟩:=Dq hd (2^depth-1);rw[h1,h3];exact Nat.mul_le_mul_right _ h
theorem Nn{d c:Int}{last:Bool}{b:List UInt8}{s:HS}(hc:c≠3)(hg:s.gap=false):ci d c last (bo,b) s=({s with idat:=true,D:=s.D++b},none):=by
 unfold ci;rw[if_neg (by show ¬bo=fp;decide),if_neg (by show ¬bo=r5;decide),if_neg (by show ¬bo=rZ;decide),if_pos (by rfl),
  if_neg (by(rintro(h|h);· exact hc h.1);· rw[hg]at h;exact Bool.noConfusion h)]
theorem Nm{d c:Int}{s:HS}(hi:s.idat=true):ci d c true (cf,[]) s=(s,some 0):=by
 unfold ci;rw[if_neg (by show ¬cf=fp;decide),if_neg (by show ¬cf=r5;decide),if_neg (by show ¬cf=rZ;decide),if_neg (by show ¬cf=bo;decide),
  if_pos (by rfl),if_neg (by simp),if_neg (by rw[hi];simp),if_neg (by simp)]
theorem Nr{d c:Int}(hc:c≠3):∀(ps:List (List UInt8)) (s:HS),s.gap=false→(s.idat=true∨ps≠[])→
 runH d c (ps.map (fun p=>(bo,p))++[(cf,[])]) s=({s with idat:=true,D:=s.D++ps.flatten},0):=by
 intro ps
 induction ps with
 |nil=>
  intro s hg hi;have hi':s.idat=true:=hi.resolve_right (by simp);show(match ci d c true (cf,[]) s with|(s',some e)=>(s',e)|(s',none)=>runH d c [] s')=_;rw[Nm hi'];show(s,(0:Int))=_;rw[List.flatten_nil,List.append_nil,←hi']
 |cons p ps ih=>
  intro s hg hi;show(match ci d c _ (bo,p) s with|(s',some e)=>(s',e)|(s',none)=>runH d c (ps.map (fun p=>(bo,p))++[(cf,[])]) s')=_;rw[Nn hc hg];show runH d c (ps.map (fun p=>(bo,p))++[(cf,[])]) {s with idat:=true,D:=s.D++p}=_;rw[ih {s with idat:=true,D:=s.D++p} hg (Or.inl rfl),List.flatten_cons,List.append_assoc]
def xU(w h d c lace:Nat):Ck:=(fp,br w++(br h++[UInt8.ofNat d,UInt8.ofNat c,0,0,UInt8.ofNat lace]))
theorem KA{w h d c lace:Nat}(hw:w<4294967296)(hh:h<4294967296)(hd:d<256)(hc:c<256)(hl:lace<256):
 dt (xU w h d c lace).2=[(w:Int),(h:Int),(d:Int),(c:Int),(lace:Int)]:=by
 have a:ofL ((xU w h d c lace).2.take 4)=w:=gJ hw;have b:ofL (((xU w h d c lace).2.drop 4).take 4)=h:=gJ hh;have e:((xU w h d c lace).2.getD 8 0).toNat=d:=by show(UInt8.ofNat d).toNat=d;rw[UInt8.toNat_ofNat'];omega
 have f:((xU w h d c lace).2.getD 9 0).toNat=c:=by show(UInt8.ofNat c).toNat=c;rw[UInt8.toNat_ofNat'];omega
 have g:((xU w h d c lace).2.getD 12 0).toNat=lace:=by show(UInt8.ofNat lace).toNat=lace;rw[UInt8.toNat_ofNat'];omega
 unfold dt;rw[a,b,e,f,g]
theorem oS{d c:Int}(h:bD d c=true):1≤d∧d≤16∧0≤c∧c≤6:=by
 have:=of_decide_eq_true h;omega
theorem JM{w h d c lace:Nat}(hr:ak w h d c lace=0)(hc:c≠3){ps:List (List UInt8)}(hp:ps≠[]):
 eR (xU w h d c lace::(ps.map (fun p=>(bo,p))++[(cf,[])]))=([(w:Int),(h:Int),(d:Int),(c:Int),(lace:Int)],{hs0 with idat:=true,D:=ps.flatten},0):=by
 obtain⟨h1,h2,h3,h4,_,h5,h6⟩:=mV hr;obtain⟨h7,h8,h9,h10⟩:=oS h5;have hn:=KA (w:=w) (h:=h) (d:=d) (c:=c) (lace:=lace) (by omega) (by omega) (by omega) (by omega) (by omega);rw[fV,hn];have hrn:iI [(w:Int),(h:Int),(d:Int),(c:Int),(lace:Int)]=0:=hr;have hrun:=Nr (d:=(d:Int)) (c:=(c:Int)) (by omega) ps hs0 rfl (Or.inr hp);rw[if_neg (by show ¬fp≠fp;simp),if_neg (fun h=>h.elim (fun h=>h rfl) fun h=>h.elim (fun h=>h rfl) fun h=>h rfl),hrn,if_neg (by simp)];have hrun':runH ([(w:Int),(h:Int),(d:Int),(c:Int),(lace:Int)].getD 2 0) ([(w:Int),(h:Int),(d:Int),(c:Int),(lace:Int)].getD 3 0)
  (ps.map (fun p=>(bo,p))++[(cf,[])]) hs0=({hs0 with idat:=true,D:=[]++ps.flatten},0):=hrun
 rw[hrun',if_pos rfl,List.nil_append]
theorem MU{v d:Int}(h:depB d=false):aZ v d=0:=by unfold aZ;rw[if_neg (by rw[h];decide)]
theorem Nums.nil(w:World)(A:Option Addr):Nums w A 0 []:=⟨rfl,fun h=>absurd h (by omega)⟩
theorem Nums.at{w:World}{A:Option Addr}{n:Nat}{L:List Nat}(h:Nums w A n L){i:Nat}(hi:i<n):∃g o x,A=some ⟨g,o,none⟩∧g<w.heap.size∧L[i]? =some x∧w.cell? ⟨g,o+i,none⟩=some (.int .i64 (x:Nat)):=by
 obtain⟨g,o,e,hg,hc⟩:=h.2 (by omega);have hl:i<L.length:=by have:=h.1;omega
 exact⟨g,o,L[i],e,hg,List.getElem?_eq_getElem hl,hc i hl⟩
def gE(s:ByteArray)(d n:Int):List Nat×Int:=
 if depB d=false∨n<0∨4096<n then([],1)else if 8*(s.size:Int)<n*d then([],30)else(eu s.data.toList d.toNat n.toNat,0)
theorem yC(row:List UInt8)(D i:Nat):eu row D (i+1)=eu row D i++[cX row D i]:=by
 unfold eu;rw[List.range_succ,List.map_append];rfl
theorem iW(row:List UInt8)(D i:Nat):(eu row D i).length=i:=by unfold eu;rw[List.length_map,List.length_range]
def Pm(w:World)(r:List Nat×Int)(e:Ending)(w':World):Prop:=∃A cap,e=.returned (.tuple #[.slice A r.1.length cap,r.2])∧Nums w' A r.1.length r.1∧r.1.length≤cap∧But [] w w'
def nX(D:Nat)(tr:ByteArray)(l:List Int)(i:Nat):Bool:=decide ((((256*(tr.data.toList.getD (2*i) 0).toNat+(tr.data.toList.getD (2*i+1) 0).toNat)%2^D:Nat):Int)=l.getD i 0)
def mU(D:Nat)(tr:ByteArray)(has:Bool)(l:List Int):Bool:=has&&decide (tr.size=2*l.length)&&(List.range l.length).all (nX D tr l)
theorem DL{D:Nat}{tr:ByteArray}{has:Bool}{l:List Int}(h:has=false∨tr.size≠2*l.length):mU D tr has l=false:=by
 unfold mU;rcases h with h|h
 ·rw[h];rfl
 ·rw[decide_eq_false h,Bool.and_false,Bool.false_and]
theorem nC(x:Int)(d:Int):aZ x d<65536:=by
 unfold aZ
 by_cases h:depB d=true
 ·rw[if_pos h];obtain⟨D,rfl,hdep,_,_⟩:=kj h;have h1:(x%2^(D:Int).toNat).toNat≤2^D-1:=by
   have e:(D:Int).toNat=D:=rfl;rw[e];have hp:0<2^D:=Nat.pow_pos (by decide);have h2:x%((2^D:Nat):Int)<((2^D:Nat):Int):=Int.emod_lt_of_pos _ (by omega);have h3:0≤x%((2^D:Nat):Int):=Int.emod_nonneg _ (by omega);have e2:((2^D:Nat):Int)=(2:Int)^D:=by simp
   rw[←e2];omega
  have:=MT hdep h1;exact Nat.lt_of_le_of_lt this (by decide)
 ·rw[if_neg h];decide
def inR(D:Nat)(l:List Int):Bool:=l.all fun x=>decide (0≤x∧x<((2^D:Nat):Int))
theorem dP(w:World)(d:Int):Calls prog 178 #[d] w fun e w'=>e=.returned (.bool (depB d))∧w=w':=by
 obtain⟨r,hr⟩:=E1 (depB d);rw[←hr];have HR:=qhz hr;clear hr
 go_enter func178,ntmps178
 go_wp2
 all_goals
  go_ret;refine⟨?_,rfl⟩;rw[HR.out];unfold depB;clear HR
  simp_all
theorem ou(w:World){D:Nat}(hD:D≤16):Calls prog 217 #[D] w fun e w'=>e=.returned (.int .i64 (2^D-1))∧w=w':=by
 obtain⟨M,hM⟩:∃M,M=2^D:=⟨_,rfl⟩
 have hM1:1≤M:=by rw[hM];exact Nat.pow_pos (by decide)
 have hM2:M≤65536:=by rw[hM];exact Nat.pow_le_pow_right (by decide) hD
 have p1:(2:Int)^D=(M:Int):=by rw[hM];simp
 rw[p1];have t7:IntKind.i64.wrap (M:Int)=(M:Int):=by rw[IntKind.wrap_i64];omega
 clear hM
 go_enter func217,ntmps217
 go_wp2;go_ret;exact⟨rfl,rfl⟩
theorem ot(w:World)(v:Int){D:Nat}(hD:D≤16):Calls prog 214 #[v,D] w fun e w'=>e=.returned (.int .i64 (v%2^D))∧w=w':=by
 have HG:=qhz fun W=>ou W hD;have e1:=iO v D (by omega);obtain⟨r,hr⟩:=E1 (v%2^D);obtain⟨m,hm⟩:∃r:Int,r=2^D-1:=⟨_,rfl⟩
 rw[←hm]at HG e1;rw[←hr]at e1⊢;clear hr hm
 go_enter func214,ntmps214
 go_wp2_with fail
 refine(HG.out _).mono ?_;rintro e w1 ⟨rfl,rfl⟩;go_wp2;go_ret;exact⟨rfl,rfl⟩
theorem rL{v:Int}{D:Nat}(h:depB (D:Int)=true):aZ v D=(v%2^D).toNat*65535/(2^D-1):=by
 unfold aZ mj;rw[if_pos h];rfl
theorem nP(w:World)(v d:Int):Calls prog 183 #[v,d] w fun e w'=>e=.returned (.int .i64 (aZ v d:Nat))∧w=w':=by
 by_cases h:depB d=true
 ·obtain⟨D,rfl,hdep,hD1,hD16⟩:=kj h;have HD:=qhz fun W=>dP W D;rw[h]at HD;have HL:=qhz fun W=>ot W v hD16;have HG:=qhz fun W=>ou W hD16;obtain⟨M,hM⟩:∃M,M=2^D:=⟨_,rfl⟩
  have hM1:2≤M:=by rw[hM];exact Nat.pow_le_pow_right (n:=2) (by decide) hD1
  have hM2:M≤65536:=by rw[hM];exact Nat.pow_le_pow_right (by decide) hD16
  have p1:(2:Int)^D=(M:Int):=by rw[hM];simp
  rw[p1]at HL HG;obtain⟨G,hG⟩:=E1 (M-1:Nat);have eG:(M:Int)-1=(G:Int):=by omega
  rw[eG]at HG;obtain⟨m,hm⟩:=E1 ((v%M).toNat:Nat);have hvm:v%(M:Int)=(m:Int):=by
   have:=Int.emod_nonneg v (show(M:Int)≠0 by omega);omega
  have hml:m<M:=by
   have:=Int.emod_lt_of_pos v (show(0:Int)<M by omega);omega
  rw[hvm]at HL;obtain⟨x,hx⟩:=E1 (m*65535);obtain⟨q,hq⟩:=E1 (x/G);have e1:(m:Int)*65535=(x:Int):=by omega
  have e2:(x:Int).tdiv (G:Int)=(q:Int):=by rw[Int.tdiv_eq_ediv_of_nonneg (by omega),hq];simp
  have e3:(x:Int)/(G:Int)=(q:Int):=by rw[hq];simp
  have hql:q≤x:=by rw[hq];exact Nat.div_le_self _ _
  have hxl:x<4294967296:=by omega
  have t1:IntKind.i64.wrap (x:Int)=(x:Int):=by rw[IntKind.wrap_i64];omega
  have t2:IntKind.i64.wrap (q:Int)=(q:Int):=by rw[IntKind.wrap_i64];omega
  have nG:((G:Int)==0)=false:=by simp;omega
  have nG1:¬(G:Int)=0:=by omega
  have nG2:¬G=0:=by omega
  have HR:Hid (aZ v D=q):=qhz (by rw[rL h,p1,hvm,hq,hx,hG,hM];rfl);rw[HR.out];clear h hdep hM hG hm hx hq p1 eG hvm
  go_enter func183,ntmps183
  go_wp2_with (first|(refine(HD.out _).mono ?_;rintro e wz ⟨rfl,rfl⟩)|(refine(HL.out _).mono ?_;rintro e wz ⟨rfl,rfl⟩)|(refine(HG.out _).mono ?_;rintro e wz ⟨rfl,rfl⟩))
  go_ret;exact⟨rfl,rfl⟩
 ·have hf:depB d=false:=by simpa using h
  have HD:=qhz fun W=>dP W d;rw[hf]at HD;have HR:=qhz (MU (v:=v) hf);rw[HR.out];clear h hf
  go_enter func183,ntmps183
  go_wp2_with fail
  refine(HD.out _).mono ?_;rintro e w1 ⟨rfl,rfl⟩;go_wp2;go_ret;exact⟨rfl,rfl⟩
theorem qV(v:Nat):∀n m,valN (fun b=>bitN v (m+n-1-b)) n=v/2^m%2^n:=by
 intro n
 induction n with
 |zero=>intro m;rw[Nat.pow_zero,Nat.mod_one];rfl
 |succ n ih=>
  intro m;have h:=ih (m+1);show 2*valN (fun b=>bitN v (m+(n+1)-1-b)) n+bitN v (m+(n+1)-1-n)=_;rw[aP (g:=fun b=>bitN v (m+1+n-1-b)) (fun b _=>by show bitN v (m+(n+1)-1-b)=bitN v (m+1+n-1-b);rw[show m+(n+1)-1-b=m+1+n-1-b by omega]),h];unfold bitN;rw[show m+(n+1)-1-n=m by omega,Nat.pow_succ 2 m,←Nat.div_div_eq_div_mul,Nat.pow_succ 2 n,Nat.mul_comm (2^n) 2,Nat.mod_mul];omega
theorem qW(f:Nat→Nat)(m:Nat):∀n,valN f (m+n)=valN f m*2^n+valN (fun b=>f (m+b)) n:=by
 intro n
 induction n with
 |zero=>show valN f m=_;rw[Nat.pow_zero,Nat.mul_one];rfl
 |succ n ih=>
  show 2*valN f (m+n)+f (m+n)=_+(2*valN (fun b=>f (m+b)) n+f (m+n))
  rw[ih,Nat.pow_succ,←Nat.mul_assoc,Nat.mul_add];generalize valN f m*2^n=p;omega
theorem Jn{row:List UInt8}{D i:Nat}(hD:D=1∨D=2∨D=4∨D=8):cX row D i=(row.getD (i*D/8) 0).toNat/2^(8-D-i*D%8)%2^D∧i*D%8+D≤8:=by
 have hr:i*D%8+D≤8:=by rcases hD with rfl|rfl|rfl|rfl<;>omega
 refine⟨?_,hr⟩;unfold cX;rw[←qV];refine aP fun b hb=>?_;unfold jh;rw[show(i*D+b)/8=i*D/8 by omega,show(i*D+b)%8=i*D%8+b by omega,show 7-(i*D%8+b)=8-D-i*D%8+D-1-b by omega]
theorem uS(row:List UInt8)(i:Nat):cX row 16 i=256*(row.getD (2*i) 0).toNat+(row.getD (2*i+1) 0).toNat:=by
 have hb:∀j,valN (fun b=>jh row (8*j+b)) 8=(row.getD j 0).toNat:=fun j=>by
  have h:valN (fun b=>jh row (8*j+b)) 8=valN (fun b=>bitN (row.getD j 0).toNat (0+8-1-b)) 8:=aP fun b hb=>by
   unfold jh;rw[show(8*j+b)/8=j by omega,show(8*j+b)%8=b by omega,show 7-b=0+8-1-b by omega]
  have hx:=(row.getD j 0).toNat_lt;rw[h,qV,Nat.pow_zero,Nat.div_one,Nat.mod_eq_of_lt (by omega)]
 unfold cX;rw[show(16:Nat)=8+8 from rfl,qW];have e1:valN (fun b=>jh row (i*(8+8)+b)) 8=(row.getD (2*i) 0).toNat:=by
  rw[←hb (2*i)];exact aP fun b _=>by show jh row (i*(8+8)+b)=jh row (8*(2*i)+b);rw[show i*(8+8)+b=8*(2*i)+b by omega]
 have e2:valN (fun b=>jh row (i*(8+8)+(8+b))) 8=(row.getD (2*i+1) 0).toNat:=by
  rw[←hb (2*i+1)];exact aP fun b _=>by show jh row (i*(8+8)+(8+b))=jh row (8*(2*i+1)+b);rw[show i*(8+8)+(8+b)=8*(2*i+1)+b by omega]
 rw[e1,e2];omega
theorem RC{x y:Nat}(hx:x<256)(hy:y<256):bits .or .i64 ((256*x:Nat):Int) (y:Int)=((256*x+y:Nat):Int):=by
 rw[Lg _ _ (by omega) (by omega)];have:=Nat.two_pow_add_eq_or_of_lt (i:=8) (b:=y) (by omega) x;rw[show(2:Nat)^8=256 from rfl]at this;rw[this]
theorem wX(w:World){s:ByteArray}{i:Nat}(hi:2*i+1<s.size)(hs:s.size≤140737488351232):
 Calls prog 179 #[s,(16:Int),i] w (R1z (.int .i64 (cX s.data.toList 16 i:Nat)) w):=by
 obtain⟨i2,hi2⟩:∃z,z=2*i:=⟨_,rfl⟩
 have e1:(2:Int)*(i:Int)=(i2:Int):=by omega
 obtain⟨i3,hi3⟩:=E1 (i2+1);have e1b:(i2:Int)+1=(i3:Int):=by omega
 have hl1:i2<s.size:=by omega
 have hl2:i3<s.size:=by omega
 obtain⟨x1,hx1⟩:=E1 (s[i2].toNat);obtain⟨x2,hx2⟩:=E1 (s[i3].toNat);have x1b:x1<256:=by rw[hx1];exact s[i2].toNat_lt
 have x2b:x2<256:=by rw[hx2];exact s[i3].toNat_lt
 have kx1:∀w,(Instr.index 9 (.string s) (.int .i64 (i2:Int))).run prog w=.ok (.int .u8 (x1:Int)) w:=fun w=>by rw[hx1];exact iw hl1 w
 have kx2:∀w,(Instr.index 9 (.string s) (.int .i64 (i3:Int))).run prog w=.ok (.int .u8 (x2:Int)) w:=fun w=>by rw[hx2];exact iw hl2 w
 obtain⟨m1,hm1⟩:∃z,z=256*x1:=⟨_,rfl⟩
 obtain⟨m,hm⟩:∃z,z=256*x1+x2:=⟨_,rfl⟩
 have e2:(x1:Int)*256=(m1:Int):=by omega
 have e2b:(x1:Int)*2^8=(m1:Int):=by omega
 have e3:bits .or .i64 (m1:Int) (x2:Int)=(m:Int):=by rw[hm1,hm];exact RC x1b x2b
 have HR:Hid (cX s.data.toList 16 i=m):=qhz (by
  rw[uS,←hi2,←hi3,bN s hl1,bN s hl2,←hx1,←hx2,hm])
 rw[HR.out];have HB:=qhz (But.refl [] w);have t1:=af (show i2<1000000000000000 by omega);have t2:=af (show i3<1000000000000000 by omega);have t3:=af (show x1<1000000000000000 by omega);have t4:=af (show x2<1000000000000000 by omega);have t5:=af (show m1<1000000000000000 by omega);clear hi hi2 hi3 hx1 hx2 hm1 hm
 go_enter func179,ntmps179
 go_upto_region 2 with(fail)
 go_quiet (fail)
 go_wp2;go_ret;exact⟨rfl,HB.out.drewN _⟩
theorem zn(w:World){s:ByteArray}{D i:Nat}(hD:D=1∨D=2∨D=4∨D=8)(hi:(i+1)*D≤8*s.size)(hs:s.size≤140737488351232):
 Calls prog 179 #[s,D,i] w (R1z (.int .i64 (cX s.data.toList D i:Nat)) w):=by
 obtain⟨hsm,hr⟩:=Jn (row:=s.data.toList) (i:=i) hD;have hD8:D≤8:=by omega
 have hD1:1≤D:=by omega
 obtain⟨t,ht⟩:=E1 (i*D);have e0:(i:Int)*(D:Int)=(t:Int):=by rw[ht,Int.natCast_mul]
 have hit:t+D≤8*s.size:=by rw[ht];rw[Nat.succ_mul]at hi;exact hi
 rw[←ht]at hsm hr;obtain⟨q,hq⟩:=E1 (t/8);obtain⟨r,hr2⟩:=E1 (t%8);obtain⟨sh,hsh⟩:∃z,z=8-D-r:=⟨_,rfl⟩
 obtain⟨d8,hd8⟩:∃z,z=8-D:=⟨_,rfl⟩
 have hql:q<s.size:=by omega
 obtain⟨x,hx⟩:=E1 (s[q].toNat);have x1b:x<256:=by rw[hx];exact s[q].toNat_lt
 have kx:∀w,(Instr.index 9 (.string s) (.int .i64 (q:Int))).run prog w=.ok (.int .u8 (x:Int)) w:=fun w=>by rw[hx];exact iw hql w
 obtain⟨y,hy⟩:=E1 (x/2^sh);have hyl:y≤x:=by rw[hy];exact Nat.div_le_self _ _
 obtain⟨v,hv⟩:=E1 (y%2^D);have HR:Hid (cX s.data.toList D i=v):=qhz (by rw[hsm,←hq,←hr2,←hsh,bN s hql,←hx,←hy,hv]);have HL:Hid (∀W,Calls prog 214 #[y,D] W fun e w'=>e=.returned (.int .i64 (v:Nat))∧W=w'):=qhz fun W=>by
  have h:=ot W (y:Int) (D:=D) (by omega);rw[show((y:Int)%2^D)=(v:Int)by rw[hv];simp]at h;exact h
 rw[HR.out];have f1:(t:Int).tdiv 8=(q:Int):=by rw[Int.tdiv_eq_ediv_of_nonneg (by omega)];omega
 have f2:(t:Int)/8=(q:Int):=by omega
 have f3:(t:Int).tmod 8=(r:Int):=by rw[Int.tmod_eq_emod_of_nonneg (by omega)];omega
 have f4:(t:Int)%8=(r:Int):=by omega
 have f5:(8:Int)-(D:Int)=(d8:Int):=by omega
 have f6:(d8:Int)-(r:Int)=(sh:Int):=by omega
 have f7:(x:Int)/2^sh=(y:Int):=by rw[hy];simp
 have t1:IntKind.i64.wrap (t:Int)=(t:Int):=by rw[IntKind.wrap_i64];omega
 have t2:=af (show q<1000000000000000 by omega);have t3:=af (show r<1000000000000000 by omega);have t4:=af (show d8<1000000000000000 by omega);have t5:=af (show sh<1000000000000000 by omega);have t6:=af (show x<1000000000000000 by omega);have n16:((D:Int)==16)=false:=by simp;omega
 have n16b:¬(D:Int)=16:=by omega
 have n16c:¬D=16:=by omega
 have hs2:sh≤7:=by omega
 clear hsm ht hi hD hq hr2 hsh hd8 hx hy hv hr hit
 go_enter func179,ntmps179
 go_wp2_with fail
 refine(HL.out _).mono ?_;rintro e w1 ⟨rfl,rfl⟩;go_wp2;go_ret;exact⟨rfl,But.refl [] _⟩
theorem wY(w:World){s:ByteArray}{D i:Nat}(hD:nj D)(hi:(i+1)*D≤8*s.size)(hs:s.size≤140737488351232):
 Calls prog 179 #[s,D,i] w (R1z (.int .i64 (cX s.data.toList D i:Nat)) w):=by
 by_cases h:D=16
 ·subst h;exact wX w (by omega) hs
 ·exact zn w (by unfold nj at hD;omega) hi hs
def rowZ(L:List Nat)(n:Nat):Array Value:=(fK (L++List.replicate (n-L.length) 0)).toArray
theorem Nv{L:List Nat}{n:Nat}(x:Nat)(h:L.length<n):(rowZ L n).setIfInBounds L.length (.int .i64 (x:Nat))=rowZ (L++[x]) n:=by
 obtain⟨k,hk⟩:∃k,n-L.length=k+1:=⟨n-L.length-1,by omega⟩
 unfold rowZ;rw[hk,List.replicate_succ,List.length_append,show n-(L.length+[x].length)=k by simp;omega,fA,fA,fA];apply Array.ext';simp[fK]
theorem Qf{L:List Nat}{i:Nat}(h:i<L.length)(n:Nat):(rowZ L n)[i]? =some (.int .i64 (L[i]:Nat)):=by
 unfold rowZ fK;rw[List.getElem?_toArray,List.map_append,List.getElem?_append_left (by rw[List.length_map];exact h),List.getElem?_map,List.getElem?_eq_getElem h];rfl
theorem Jz{L:List Nat}{n:Nat}(h:L.length≤n):(rowZ L n).size=n:=by
 unfold rowZ fK;simp;omega
theorem Jy{L:List Nat}{n i:Nat}(h:L.length≤n)(hi:i<n):∃v,(rowZ L n)[i]? =some v:=⟨_,Array.getElem?_eq_getElem (by rw[Jz h];exact hi)⟩
theorem Nums.row{w:World}{g:Nat}{L:List Nat}(h:Is w g 3 (rowZ L L.length)):Nums w (some ⟨g,0,none⟩) L.length L:=
 ⟨rfl,fun _=>⟨g,0,rfl,h.lt,fun i hi=>by rw[h.cell,Nat.zero_add];exact Qf hi _⟩⟩
def Ih(w:World)(n:Nat):World:=w.alloc (.cells (rowZ [] n) 3)
theorem Jq(w:World){n:Nat}(hn:n≤4096):(Instr.makeSlice 36 (.int .i64 (n:Int)) (.int .i64 (n:Int))).run prog w=.ok (.slice w.heap.size n n) (Ih w n):=by
 obtain⟨i0,hi0,hz0,hz1,hz2⟩:=info_parts tG;have h:=run_make (P:=prog) w 36 3 i0 (.int .i64 0) underlying36 hi0 hz0 .i64 .i64 (n:Int) (n:Int) (by omega) (by omega) (by rw[hz2];omega) (by omega);rw[hz1]at h;have e:madeCells (Value.int .i64 0).cells n=rowZ [] n:=by
  have e:(Value.int .i64 0).cells=#[.int .i64 0]:=rfl;unfold madeCells rowZ fK;rw[e];apply Array.ext';simp[Nat.mod_one];exact List.eq_replicate_iff.2 ⟨by simp,by simp⟩
 unfold Ih;rw[←e];simpa using h
theorem BM(w:World){s:ByteArray}{d n:Int}(h:depB d=false∨n<0∨4096<n):
 Calls prog 146 #[s,d,n] w (Pm w (gE s d n)):=by
 have HR:Hid (gE s d n=([],1)):=qhz (by unfold gE;rw[if_pos h]);rw[HR.out];have HD:=qhz fun W=>dP W d;cases hd:depB d with
 |false=>
  rw[hd]at HD;clear hd h
  go_enter func146,ntmps146
  go_wp2_with fail
  refine(HD.out _).mono ?_;rintro e w1 ⟨rfl,rfl⟩;go_wp2
  go_ret2
  exact⟨none,0,rfl,Nums.nil _ _,Nat.le_refl _,But.refl [] _⟩
 |true=>
  rw[hd]at HD h
  by_cases h1:n<0
  ·clear hd h
   go_enter func146,ntmps146
   go_wp2_with fail
   refine(HD.out _).mono ?_;rintro e w1 ⟨rfl,rfl⟩;go_wp2
   go_ret2
   exact⟨none,0,rfl,Nums.nil _ _,Nat.le_refl _,But.refl [] _⟩
  ·have h2:4096<n:=by rcases h with h|h|h;exact absurd h (by decide);exact absurd h h1;exact h
   clear hd h
   go_enter func146,ntmps146
   go_wp2_with fail
   refine(HD.out _).mono ?_;rintro e w1 ⟨rfl,rfl⟩;go_wp2
   go_ret2
   exact⟨none,0,rfl,Nums.nil _ _,Nat.le_refl _,But.refl [] _⟩
theorem sM(w:World){s:ByteArray}{d n:Int}(hs:s.size≤140737488351232):
 Calls prog 146 #[s,d,n] w (Pm w (gE s d n)):=by
 by_cases hb:depB d=false∨n<0∨4096<n
 ·exact BM w hb
 have hd:depB d=true:=by cases h:depB d;exact absurd (Or.inl h) hb;rfl
 obtain⟨D,rfl,hdep,hD1,hD16⟩:=kj hd;obtain⟨N,rfl⟩:∃N:Nat,n=(N:Int):=⟨n.toNat,by omega⟩
 have hN:N≤4096:=by omega
 have HD:=qhz fun W=>dP W D;rw[hd]at HD;obtain⟨t,ht⟩:=E1 (N*D);have e0:(N:Int)*(D:Int)=(t:Int):=by rw[ht,Int.natCast_mul]
 have e0':(D:Int)*(N:Int)=(t:Int):=by rw[Int.mul_comm];exact e0
 have ht2:t≤65536:=by rw[ht];show _≤4096*16;exact Nat.mul_le_mul hN hD16
 have q1:decide ((N:Int)<0)=false:=decide_eq_false (by omega);have q2:decide ((4096:Int)<(N:Int))=false:=decide_eq_false (by omega);obtain⟨T,hT⟩:=E1 ((t+7)/8);have g1:((t:Int)+7).tdiv 8=(T:Int):=by rw[Int.tdiv_eq_ediv_of_nonneg (by omega)];omega
 have g2:((t:Int)+7)/8=(T:Int):=by omega
 by_cases hsh:s.size<T
 ·have HR:Hid (gE s (D:Int) (N:Int)=([],30)):=qhz (by unfold gE;rw[if_neg hb,e0,if_pos (by omega)]);rw[HR.out];clear hb hd hdep ht hT e0
  go_enter func146,ntmps146
  go_wp2_with fail
  refine(HD.out _).mono ?_;rintro e w1 ⟨rfl,rfl⟩;go_wp2
  go_ret2
  exact⟨none,0,rfl,Nums.nil _ _,Nat.le_refl _,But.refl [] _⟩
 have HR:Hid (gE s (D:Int) (N:Int)=(eu s.data.toList D N,0)):=qhz (by unfold gE;rw[if_neg hb,e0,if_neg (by omega)];rfl);rw[HR.out];have HS:Hid (∀(W:World) (i:Nat),i<N→Calls prog 179 #[s,D,.int .i64 i] W (R1z (.int .i64 (cX s.data.toList D i:Nat)) W)):=qhz fun W i hi=>
  wY W hdep (by have:(i+1)*D≤N*D:=Nat.mul_le_mul_right _ hi;omega) hs
 have HNX:=qhz (yC s.data.toList D);have HLEN:=qhz (iW s.data.toList D);obtain⟨U,hU⟩:∃U:Nat→List Nat,U=eu s.data.toList D:=⟨_,rfl⟩
 obtain⟨V,hV⟩:∃V:Nat→Nat,V=cX s.data.toList D:=⟨_,rfl⟩
 rw[←hU]at HNX HLEN;rw[←hV]at HNX HS;rw[←hU];have HU0:Hid (U 0=[]):=qhz (by rw[hU];rfl);have kz:=Jq w hN;have hz:Is (Ih w N) w.heap.size 3 (rowZ [] N):=Is.fresh w _ _;have hzb:But [] w (Ih w N):=(But.refl [] w).alloc _;obtain⟨w5,hw5⟩:=E1 (Ih w N);rw[←hw5]at kz hz hzb;obtain⟨g,hg⟩:=E1 w.heap.size;rw[←hg]at kz hz;have HG:=qhz hg;have HI0:Hid (Is w5 g 3 (rowZ (U 0) N)):=qhz (by rw[HU0.out];exact hz);have HB0:=qhz hzb;clear hb hd hdep ht hT e0 hU hV hw5 hg hz hzb
 go_enter func146,ntmps146
 go_wp2_with fail
 refine(HD.out _).mono ?_;rintro e w1 ⟨rfl,rfl⟩
 go_wp2_with fail
 go_loopw [33] (fun iv wr=>∃i:Nat,i≤N∧iv=.int .i64 i∧Hid (Is wr g 3 (rowZ (U i) N))∧Hid (But [] w wr)) (fun iv _=>N-(intOf iv).toNat)
 case atStart=>exact⟨0,Nat.zero_le _,rfl,HI0,HB0⟩
 case round=>
  clear HI0 HB0 kz;obtain⟨i,hi,rfl,HI,HB⟩:=hrel
  by_cases hlt:i<N
  ·obtain⟨x,hx⟩:=E1 (V i);have HX:Hid (U (i+1)=U i++[x]):=qhz (by rw[hx];exact HNX.out i);have HS1:Hid (∀W,Calls prog 179 #[s,D,.int .i64 i] W (R1z (.int .i64 (x:Nat)) W)):=qhz fun W=>by rw[hx];exact HS.out W i hlt
   clear hx
   go_wp2_with fail
   refine(HS1.out _).mono ?_;rintro e w2 ⟨rfl,hB2⟩;have hI2:=HI.out.but hB2 (by simp);obtain⟨v0,hv0⟩:=Jy (L:=U i) (n:=N) (i:=i) (by rw[HLEN.out];exact hi) hlt;have hc:=hI2.cell i;rw[hv0]at hc;have hf:=hI2.free i;have i0:(0:Int)≤(i:Int):=by omega
   have i1:(i:Int)<(N:Int):=by omega
   have HI3:Hid (Is (w2.setCell ⟨g,i,none⟩ (.int .i64 (x:Nat))) g 3 (rowZ (U (i+1)) N)):=qhz (by
    have h:=hI2.put i (.int .i64 (x:Nat));have h2:=Nv (L:=U i) (n:=N) x (by rw[HLEN.out];exact hlt);rw[HLEN.out]at h2;rw[h2,←HX.out]at h;exact h)
   have HB3:Hid (But [] w (w2.setCell ⟨g,i,none⟩ (.int .i64 (x:Nat)))):=qhz ((HB.out.trans hB2).setCell (p:=⟨g,i,none⟩) (.inr (by rw[HG.out];exact Nat.le_refl _)) _);clear hI2 hv0 hB2;go_wp2
   go_roundw
   case rel=>exact⟨i+1,by omega,by go_num,HI3,HB3⟩
   case measure=>simp[intOf]<;>omega
  ·obtain rfl:i=N:=by omega
   have HL:=qhz (HLEN.out i);go_wp2
   go_ret2
   have h:=HI.out;have hn:Nums wr (some ⟨g,0,none⟩) (U i).length (U i):=Nums.row (by rw[HL.out];exact h);exact⟨some ⟨g,0,none⟩,i,by rw[HL.out];rfl,hn,Nat.le_of_eq HL.out,HB.out⟩
theorem RD(B:Int)(E v:Nat)(hE:E=1∨E=2∨E=4∨E=8∨E=16)(hv:v<2^E):(bits .or .i64 (IntKind.i64.wrap (B*2^E)) (v:Int))%16777216=(B*2^E+(v:Int))%16777216:=by
 have hv2:v<65536:=Nat.lt_of_lt_of_le hv (Nat.pow_le_pow_right (n:=2) (by decide) (show E≤16 by omega));obtain⟨x,hx⟩:=E1 (B*2^E);obtain⟨p,hp⟩:=E1 ((x%18446744073709551616).toNat:Nat);have hpi:(p:Int)=x%18446744073709551616:=by omega
 have hpl:p<18446744073709551616:=by omega
 have hdiv:∃a,p=2^E*a:=by
  rcases hE with rfl|rfl|rfl|rfl|rfl
  ·exact⟨p/2,by omega⟩
  ·exact⟨p/4,by omega⟩
  ·exact⟨p/16,by omega⟩
  ·exact⟨p/256,by omega⟩
  ·exact⟨p/65536,by omega⟩
 have g1:(BitVec.ofInt 64 (IntKind.i64.wrap x)).toNat=p:=by
  have g:(BitVec.ofInt 64 (IntKind.i64.wrap x)).toNat=(IntKind.i64.wrap x%18446744073709551616).toNat:=by rw[BitVec.toNat_ofInt];rfl
  rw[g,IntKind.wrap_i64,hp];clear g hp hpi hpl hdiv hx hv hv2;omega
 have g2:(BitVec.ofInt 64 (v:Int)).toNat=v:=jm v (by omega);obtain⟨a,ha⟩:=hdiv;have hor:p ||| v=p+v:=by rw[ha,←Nat.two_pow_add_eq_or_of_lt hv]
 rw[←hx];show(IntKind.i64.wrap ((BitVec.ofInt 64 (IntKind.i64.wrap x) ||| BitVec.ofInt 64 (v:Int)).toNat:Int))%16777216=_;rw[BitVec.toNat_or,g1,g2,hor,IntKind.wrap_i64];clear g1 g2 ha hor hx hv hp;omega
theorem Mw{B:Int}{x E v:Nat}(hE:E=1∨E=2∨E=4∨E=8∨E=16)(hB:B%16777216=((x%16777216:Nat):Int))(hv:v<2^E):
 (bits .or .i64 (IntKind.i64.wrap (B*2^E)) (v:Int))%16777216=(((x*2^E+v)%16777216:Nat):Int):=by
 rw[RD B E v hE hv];clear hv;rcases hE with rfl|rfl|rfl|rfl|rfl
 ·show(B*2+(v:Int))%16777216=(((x*2+v)%16777216:Nat):Int);omega
 ·show(B*4+(v:Int))%16777216=(((x*4+v)%16777216:Nat):Int);omega
 ·show(B*16+(v:Int))%16777216=(((x*16+v)%16777216:Nat):Int);omega
 ·show(B*256+(v:Int))%16777216=(((x*256+v)%16777216:Nat):Int);omega
 ·show(B*65536+(v:Int))%16777216=(((x*65536+v)%16777216:Nat):Int);omega
theorem Hu{B:Int}{x c:Nat}(hB:B%16777216=((x%16777216:Nat):Int))(hc:c≤15):IntKind.u8.wrap (B/2^c)=((x/2^c%256:Nat):Int):=by
 rw[IntKind.wrap_u8]
 match c,hc with
 |0,_=>omega
 |1,_=>omega
 |2,_=>omega
 |3,_=>omega
 |4,_=>omega
 |5,_=>omega
 |6,_=>omega
 |7,_=>omega
 |8,_=>omega
 |9,_=>omega
 |10,_=>omega
 |11,_=>omega
 |12,_=>omega
 |13,_=>omega
 |14,_=>omega
 |15,_=>omega
theorem Mx{B:Int}{x c:Nat}(hB:B%16777216=((x%16777216:Nat):Int))(hc:c≤7):IntKind.u8.wrap (IntKind.i64.wrap (B*2^c))=((x*2^c%256:Nat):Int):=by
 rw[IntKind.wrap_u8,IntKind.wrap_i64]
 match c,hc with
 |0,_=>omega
 |1,_=>omega
 |2,_=>omega
 |3,_=>omega
 |4,_=>omega
 |5,_=>omega
 |6,_=>omega
 |7,_=>omega
def o5(D:Nat)(l:List Nat)(k:Nat):Nat:=valN (aN D l) k
theorem Hw{D:Nat}{l:List Nat}{i:Nat}(hi:i<l.length):o5 D l ((i+1)*D)=o5 D l (i*D)*2^D+l.getD i 0%2^D:=by
 unfold o5;rw[Nat.succ_mul,qW]
 congr 1
 rw[←nD];exact aP fun b hb=>lV hi hb
def eV(D:Nat)(l:List Nat)(j:Nat):Nat:=valN (fun b=>aN D l (8*j+b)) 8
theorem rF(D:Nat)(l:List Nat)(j:Nat):eV D l j<256:=rN (n:=8) fun b _=>fX _ _ _
theorem vY(D:Nat)(l:List Nat)(j:Nat):o5 D l (8*j+8)=o5 D l (8*j)*256+eV D l j:=qW _ _ 8
theorem Pj{D:Nat}{l:List Nat}{j c k:Nat}(hk:8*j+8+c=k):o5 D l k/2^c%256=eV D l j:=by
 have h:o5 D l k=o5 D l (8*j+8)*2^c+valN (fun b=>aN D l (8*j+8+b)) c:=by rw[←hk];exact qW _ _ c
 have hl:valN (fun b=>aN D l (8*j+8+b)) c<2^c:=rN fun b _=>fX _ _ _;rw[h,Nat.mul_comm,Nat.mul_add_div (Nat.pow_pos (by decide)),Nat.div_eq_of_lt hl,vY];have:=rF D l j;omega
theorem Mz{D:Nat}{l:List Nat}{j c k e:Nat}(hk:8*j+c=k)(hkl:k=l.length*D)(hc:c+e=8):o5 D l k*2^e%256=eV D l j:=by
 have h:o5 D l (k+e)=o5 D l k*2^e:=rM e fun b h1 h2=>by unfold aN;rw[if_neg (by omega)]
 rw[←h,show k+e=8*j+8 by omega,vY];have:=rF D l j;omega
def rowX(D:Nat)(l:List Nat)(j:Nat):List UInt8:=(List.range j).map fun j=>UInt8.ofNat (eV D l j)
theorem zf(D:Nat)(l:List Nat)(j:Nat):rowX D l (j+1)=rowX D l j++[UInt8.ofNat (eV D l j)]:=by
 unfold rowX;rw[List.range_succ,List.map_append];rfl
theorem DT(D:Nat)(l:List Nat):rowX D l ((l.length*D+7)/8)=dR D l:=rfl
theorem su(D:Nat)(l:List Nat)(j:Nat):(rowX D l j).length=j:=by unfold rowX;rw[List.length_map,List.length_range]
theorem kM{w0:World}(w:World){ops:Array Oper}{rest:List Oper}{o:Oper}{a:Act}{Q:Exit→Act→World→Prop}(hgd:o.guard=none)(sl x:Operand)
 (ho:o.op=.call {callee:=.builtin .append,args:=#[sl,x],argTypes:=#[47,47]})
 (v:Value) (L:List UInt8) (hs:a.eval sl=v) (hO:OwnF w w0.heap.size v L) (hB:But [] w0 w) (y:UInt8) {g:Nat} (hx:a.eval x=.slice g 1 1) (hI:Is w g 5 #[.int .u8 (y.toNat:Int)]) (hbound:L.length<140737488355328)
 (h:∀A c w',Hid (OwnF w' w0.heap.size (.slice A (L.length+1) c) (L++[y]))→Hid (But [] w0 w')→wpList prog ops Q rest (a.put o.dst (.slice A (L.length+1) c)) w'):wpList prog ops Q (o::rest) a w:=by
 obtain⟨i0,hi0,hz0,hz1,hz2⟩:=info_parts l8;refine wpList_append_own_at w hgd sl x 47 ho w0.heap.size 5 i0 _ 1 1 underlying47 hi0 hz0 hz1 hz2 rfl (by decide) v L.length (cM L) hs hO ⟨g,0,none⟩ 1 1 [.int .u8 (y.toNat:Int)] hx rfl (Cn hI) (by simp[Value.oneCell']) (by unfold maxLen;omega) (by omega) hB.size ?_;intro v' w' hown hgrow _ hat;have hO2:OwnF w' w0.heap.size v' (L++[y]):=by
  unfold OwnF;rw[List.length_append,gP];exact hown
 obtain⟨A,c,rfl⟩:=hO2.shape;have key:=h A c w';rw[List.length_append]at hO2⊢;exact key (qhz hO2) (qhz (hB.grown hgrow (fun k e=>.inr (hO.lt k e))))
theorem Oe{x:Int}{E:Nat}(hE:E=1∨E=2∨E=4∨E=8∨E=16):x%2^E=((lowN x%2^E:Nat):Int):=by
 unfold lowN;rcases hE with rfl|rfl|rfl|rfl|rfl
 ·show x%2=(((x%65536).toNat%2:Nat):Int);omega
 ·show x%4=(((x%65536).toNat%4:Nat):Int);omega
 ·show x%16=(((x%65536).toNat%16:Nat):Int);omega
 ·show x%256=(((x%65536).toNat%256:Nat):Int);omega
 ·show x%65536=(((x%65536).toNat%65536:Nat):Int);omega
def px4(a b c d:Nat):ByteArray:=strL (twoB a++twoB b++twoB c++twoB d)
theorem EV(l:List Nat)(i:Nat)(hi:i<l.length)(hx:l.getD i 0<65536):eV 16 l (2*i)=l.getD i 0/256∧eV 16 l (2*i+1)=l.getD i 0%256:=by
 have h1:eV 16 l (2*i)=l.getD i 0/2^8%2^8:=by
  rw[←qV];unfold eV;refine aP fun b hb=>?_;rw[show 8*(2*i)+b=i*16+b by omega,lV hi (by omega),show 16-1-b=8+8-1-b by omega]
 have h2:eV 16 l (2*i+1)=l.getD i 0/2^0%2^8:=by
  rw[←qV];unfold eV;refine aP fun b hb=>?_;rw[show 8*(2*i+1)+b=i*16+(8+b)by omega,lV hi (by omega),show 16-1-(8+b)=0+8-1-b by omega]
 rw[h1,h2];omega
theorem Ks{a b c d:Nat}(ha:a<65536)(hb:b<65536)(hc:c<65536)(hd:d<65536):strL (dR 16 [a,b,c,d])=px4 a b c d:=by
 unfold px4
 congr 1
 obtain⟨a1,a2⟩:=EV [a,b,c,d] 0 (by simp) ha;obtain⟨b1,b2⟩:=EV [a,b,c,d] 1 (by simp) hb;obtain⟨c1,c2⟩:=EV [a,b,c,d] 2 (by simp) hc;obtain⟨d1,d2⟩:=EV [a,b,c,d] 3 (by simp) hd;have e:dR 16 [a,b,c,d]=[UInt8.ofNat (eV 16 [a,b,c,d] 0),UInt8.ofNat (eV 16 [a,b,c,d] 1),UInt8.ofNat (eV 16 [a,b,c,d] 2),UInt8.ofNat (eV 16 [a,b,c,d] 3),UInt8.ofNat (eV 16 [a,b,c,d] 4),UInt8.ofNat (eV 16 [a,b,c,d] 5),UInt8.ofNat (eV 16 [a,b,c,d] 6),UInt8.ofNat (eV 16 [a,b,c,d] 7)]:=by
  rw[←DT,show([a,b,c,d].length*16+7)/8=8 by simp];rfl
 have m:∀x:Nat,UInt8.ofNat (x%256)=UInt8.ofNat x:=fun x=>by
  apply UInt8.toNat_inj.1;rw[UInt8.toNat_ofNat',UInt8.toNat_ofNat'];omega
 rw[e,show eV 16 [a,b,c,d] 0=a/256 from a1,show eV 16 [a,b,c,d] 1=a%256 from a2,show eV 16 [a,b,c,d] 2=b/256 from b1,show eV 16 [a,b,c,d] 3=b%256 from b2,
  show eV 16 [a,b,c,d] 4=c/256 from c1,show eV 16 [a,b,c,d] 5=c%256 from c2,show eV 16 [a,b,c,d] 6=d/256 from d1,show eV 16 [a,b,c,d] 7=d%256 from d2,m,m,m,m]
 rfl
theorem wn{v:Nat}(hv:v<256):aZ (v:Int) 8=257*v:=by
 have h:=rL (v:=(v:Int)) (D:=8) (by decide);rw[show((8:Nat):Int)=8 from rfl]at h;rw[h];show((v:Int)%256).toNat*65535/255=257*v;omega
def fk(D:Nat)(tr:ByteArray)(has:Bool)(l:List Int):Nat:=if mU D tr has l=true then 0 else 65535
def o8(tr:ByteArray)(has:Bool)(k:Nat):Nat:=if has=true∧k<tr.size then 257*(tr.data.toList.getD k 0).toNat else 65535
def pixA(D:Nat)(c:Int)(pal tr:ByteArray)(has:Bool)(l:List Int):ByteArray×Int:=
 if c=0 then(px4 (aZ (l.getD 0 0) D) (aZ (l.getD 0 0) D) (aZ (l.getD 0 0) D) (fk D tr has l),0) else
 if c=2 then(px4 (aZ (l.getD 0 0) D) (aZ (l.getD 1 0) D) (aZ (l.getD 2 0) D) (fk D tr has l),0) else
 if c=4 then(px4 (aZ (l.getD 0 0) D) (aZ (l.getD 0 0) D) (aZ (l.getD 0 0) D) (aZ (l.getD 1 0) D),0) else
 if c=6 then(px4 (aZ (l.getD 0 0) D) (aZ (l.getD 1 0) D) (aZ (l.getD 2 0) D) (aZ (l.getD 3 0) D),0) else
 if pal.size<3*(l.getD 0 0).toNat+3 then(⟨#[]⟩,29) else
 (px4 (257*(pal.data.toList.getD (3*(l.getD 0 0).toNat) 0).toNat) (257*(pal.data.toList.getD (3*(l.getD 0 0).toNat+1) 0).toNat) (257*(pal.data.toList.getD (3*(l.getD 0 0).toNat+2) 0).toNat) (o8 tr has (l.getD 0 0).toNat),0)
def kZ(d c:Int)(pal tr:ByteArray)(has:Bool)(l:List Int):ByteArray×Int:=
 if aW c≠(l.length:Int)∨l.length=0∨depB d=false∨inR d.toNat l=false then(⟨#[]⟩,1)else pixA d.toNat c pal tr has l
theorem fc{d c:Int}{pal tr:ByteArray}{has:Bool}{l:List Int}(h:aW c≠(l.length:Int)∨l.length=0∨depB d=false∨inR d.toNat l=false):kZ d c pal tr has l=(⟨#[]⟩,1):=by unfold kZ;rw[if_pos h]
theorem sQ{D:Nat}{c:Int}{pal tr:ByteArray}{has:Bool}{l:List Int}{n:Nat}(hl:l.length=n)(h1:aW c=(n:Int))(h2:0<n)(h3:depB (D:Int)=true)(h4:inR D l=true):kZ D c pal tr has l=pixA D c pal tr has l:=by
 unfold kZ;rw[if_neg (by
  rintro(h|h|h|h)
  ·exact h (by rw[hl];exact h1)
  ·omega
  ·rw[h3]at h;cases h
  ·rw[show(D:Int).toNat=D from rfl,h4]at h;cases h)]
 rfl
theorem RP{D:Nat}{l:List Int}{i:Nat}{x:Int}(h:l[i]? =some x)(hx:x<0∨((2^D:Nat):Int)≤x):inR D l=false:=by
 unfold inR;rw[List.all_eq_false];exact⟨x,List.mem_of_getElem? h,by rw[decide_eq_false (by omega)];decide⟩
theorem Lb{D:Nat}{l:List Int}(h:∀(i:Nat) (x:Int),l[i]? =some x→0≤x∧x<((2^D:Nat):Int)):inR D l=true:=by
 unfold inR;rw[List.all_eq_true];intro x hx;obtain⟨i,hi,e⟩:=List.mem_iff_getElem.1 hx;exact decide_eq_true (h i x (by rw[List.getElem?_eq_getElem hi,e]))
theorem PA{D:Nat}{l:List Int}(h:inR D l=true){i:Nat}{x:Int}(hx:l[i]? =some x):0≤x∧x<((2^D:Nat):Int):=by
 unfold inR at h;rw[List.all_eq_true]at h;exact of_decide_eq_true (h x (List.mem_of_getElem? hx))
theorem mw{c:Int}{n:Nat}(h:aW c=(n:Int))(h2:0<n):c=0∧n=1∨c=2∧n=3∨c=3∧n=1∨c=4∧n=2∨c=6∧n=4:=by
 unfold aW at h;split at h
 ·omega
 split at h
 ·omega
 split at h
 ·omega
 split at h
 ·omega
 ·omega
theorem p7{l:List Int}{i:Nat}{x:Int}(h:l[i]? =some x):l.getD i 0=x:=by rw[List.getD_eq_getElem?_getD,h];rfl
theorem uf(n:Nat):eh (n:Int)=UInt8.ofNat n:=by
 unfold eh;apply UInt8.toNat_inj.1;simp only[UInt8.toNat_ofNat'];omega
theorem Ap{n:Nat}(h:n<4294967296):jA (n:Int)=br n:=by
 unfold jA;rw[show((n:Int)%4294967296).toNat=n by omega]
theorem Oq{w h:Nat}(d c l:Nat)(hw:w<4294967296)(hh:h<4294967296):layI w h d c l=xU w h d c l:=by
 unfold layI xU;rw[Ap hw,Ap hh,uf,uf,uf]
theorem QP{a b d c l:Int}(hr:ak a b d c l=0)(hc:c≠3){ps:List (List UInt8)}(hp:ps≠[]):
 eR (layI a b d c l::(ps.map (fun p=>(bo,p))++[(cf,[])]))=([a,b,d,c,l],{hs0 with idat:=true,D:=ps.flatten},0):=by
 obtain⟨h1,h2,h3,h4,_,h5,h6⟩:=mV hr;obtain⟨h7,h8,h9,h10⟩:=oS h5;obtain⟨a',rfl⟩:=Int.eq_ofNat_of_zero_le (show(0:Int)≤a by omega);obtain⟨b',rfl⟩:=Int.eq_ofNat_of_zero_le (show(0:Int)≤b by omega);obtain⟨d',rfl⟩:=Int.eq_ofNat_of_zero_le (show(0:Int)≤d by omega);obtain⟨c',rfl⟩:=Int.eq_ofNat_of_zero_le h9;obtain⟨l',rfl⟩:=Int.eq_ofNat_of_zero_le (show(0:Int)≤l by omega);rw[Oq d' c' l' (by omega) (by omega)];exact JM hr (by omega) hp
theorem iK(w:World)(c:Int):Calls prog 144 #[c] w fun e w'=>e=.returned (.int .i64 (aW c))∧w=w':=by
 obtain⟨r,hr⟩:=E1 (aW c);rw[←hr];have HR:=qhz hr;clear hr
 go_enter func144,ntmps144
 go_wp2
 all_goals
  go_ret;refine⟨?_,rfl⟩;rw[HR.out];unfold aW;clear HR;simp at *
  try simp[*]
section
def PkS(D:Nat)(L:List Nat)(k:Nat)(B:Int)(c j:Nat):Prop:=8*j+c=k∧B%16777216=((o5 D L k%16777216:Nat):Int)
theorem PkS.zero(D:Nat)(L:List Nat):PkS D L (0*D) 0 0 0:=by unfold PkS;rw[Nat.zero_mul];exact⟨rfl,rfl⟩
theorem OwnX.zero(D:Nat)(L:List Nat)(w:World):OwnF w w.heap.size (.slice none 0 0) (rowX D L 0):=OwnF.nil _ _
attribute [local irreducible] o5 eV rowX dR aN
theorem Kb(w:World){A:Option Addr}{n cp:Nat}{l:List Int}{d:Int}(hZ:Zs w A n l)(hn:n≤17592186043904):
 Calls prog 216 #[d,.slice A n cp] w (R1z (.tuple #[(strL (kD d l).1),.int .i64 (kD d l).2]) w):=by
 have HD:=qhz fun W=>dP W d;cases hd:depB d with
 |false=>
  have HR:Hid (kD d l=([],1)):=qhz (by unfold kD;rw[if_pos hd]);rw[HR.out];rw[hd]at HD;clear hd hZ
  go_enter func216,ntmps216
  go_wp2_with fail
  refine(HD.out _).mono ?_;rintro e w1 ⟨rfl,rfl⟩;go_wp2
  go_ret2
  exact⟨rfl,But.refl [] _⟩
 |true=>
  rw[hd]at HD;obtain⟨D,rfl,hdep,hD1,hD16⟩:=kj hd;obtain⟨L,hL⟩:=E1 (l.map lowN);have hLl:L.length=n:=by rw[hL,List.length_map];exact hZ.1
  have HR:Hid (kD (D:Int) l=(dR D L,0)):=qhz (by unfold kD;rw[if_neg (by rw[hd];decide),hL];rfl);rw[HR.out];obtain⟨t,ht⟩:=E1 (n*D);have ht2:t≤281474976702464:=by rw[ht];show _≤17592186043904*16;exact Nat.mul_le_mul hn hD16
  have hdep2:D=1∨D=2∨D=4∨D=8∨D=16:=hdep;have HDP:=qhz hdep2;have HZ:=qhz hZ;have HL:=qhz hL;have HLL:=qhz hLl;have HT:=qhz ht;have HAll:Hid (rowX D L ((t+7)/8)=dR D L):=qhz (by rw[ht,←hLl];exact DT D L);have HS0:Hid (PkS D L (0*D) 0 0 0):=qhz (PkS.zero D L);have HO0:Hid (OwnF w w.heap.size (.slice none 0 0) (rowX D L 0)):=qhz (OwnX.zero D L w);clear hd hdep hdep2 hZ hL hLl ht
  go_enter func216,ntmps216
  go_wp2_with fail
  refine(HD.out _).mono ?_;rintro e wz ⟨rfl,rfl⟩
  go_wp2_with fail
  go_loopw [6,7,8,16] (fun rv bv cv iv wr=>∃(i:Nat) (B:Int) (c j:Nat),i≤n∧iv=.int .i64 i∧bv=.int .i64 B∧cv=.int .i64 c∧c<8∧Hid (PkS D L (i*D) B c j)∧Hid (OwnF wr w.heap.size rv (rowX D L j))∧Hid (But [] w wr)) (fun _ _ _ iv _=>n-(intOf iv).toNat)
  case atStart=>exact⟨0,0,0,0,Nat.zero_le _,rfl,rfl,rfl,by decide,HS0,HO0,qhz (But.refl [] _)⟩
  case round=>
   clear HO0 HS0;obtain⟨i,B,c,j,hi,rfl,rfl,rfl,hc8,HS,HO,HB⟩:=hrel
   by_cases hlt:i<n
   ·obtain⟨k,hk⟩:=E1 ((i+1)*D);have hkn:k=i*D+D:=by rw[hk,Nat.succ_mul]
    have hkt:k≤t:=by rw[hk,HT.out];exact Nat.mul_le_mul_right D hlt
    have HK:=qhz hk;obtain⟨g,o,x,rfl,hg,hx,k0⟩:=(HZ.out.but HB.out).at hlt;obtain⟨m,hm⟩:=E1 (lowN x%2^D);have hxm:x%2^D=(m:Int):=by rw[hm];exact Oe HDP.out
    have hml:m<2^D:=by rw[hm];exact Nat.mod_lt _ (Nat.pow_pos (by decide))
    have HLq:Hid (∀W,Calls prog 214 #[x,D] W fun e w'=>e=.returned (.int .i64 (m:Nat))∧w'=W):=qhz fun W=>by
     have h:=ot W x (D:=D) hD16;rw[hxm]at h;exact h.mono fun _ _ ⟨h1,h2⟩=>⟨h1,h2.symm⟩
    obtain⟨S,hS⟩:=E1 (B*2^D);obtain⟨P,hP⟩:=E1 (IntKind.i64.wrap S);obtain⟨Q,hQ⟩:=E1 (bits .or .i64 P (m:Int));have hLx:L.getD i 0=lowN x:=by rw[HL.out,List.getD_eq_getElem?_getD,List.getElem?_map,hx];rfl
    have hSk:Hid (8*j+(c+D)=k):=qhz (by have:=HS.out.1;omega);have hQk:Hid (Q%16777216=((o5 D L k%16777216:Nat):Int)):=qhz (by
     have h:=Mw HDP.out HS.out.2 hml;rw[←hS,←hP,←hQ]at h;rw[h,hk,Hw (by rw[HLL.out];exact hlt),hLx,←hm])
    have f1:B*2^D=S:=hS.symm;have f2:IntKind.i64.wrap S=P:=hP.symm;have f3:bits .or .i64 P (m:Int)=Q:=hQ.symm;have i0:(0:Int)≤(i:Int):=by omega
    have i1:(i:Int)<(n:Int):=by omega
    have v1:=af (show D<1000000000000000 by omega);have c23:c+D≤23:=by omega
    have HBd:Hid (∀N,But [] w (wr.drewN N)):=qhz fun N=>HB.out.drewN N;have HOd:Hid (∀N,OwnF (wr.drewN N) w.heap.size u6 (rowX D L j)):=qhz fun N=>HO.out.but ((But.refl [] wr).drewN N);clear hk hkn hx hm hxm hml hS hP hQ hLx HS HO HB
    go_upto_region 8 with(fail)
    go_quiet ((go_at_call 214;exact Calls.quiet_of_same (HLq.out _)))
    have HB1:=qhz (HBd.out nq);have HO1:=qhz (HOd.out nq);clear f1 f2 f3 HBd HOd k0 hg HLq;obtain⟨W1,hW1⟩:=E1 (wr.drewN nq);rw[←hW1]at HB1 HO1⊢;clear hW1;obtain⟨c1,hc1⟩:=E1 (c+D);have ec1:(c:Int)+(D:Int)=(c1:Int):=by omega
    rw[←hc1]at hSk c23;have HSk:=hSk;clear hSk hc1
    go_wp2_with fail
    go_loopw [6,8] (fun rv cv wx=>∃(c j:Nat),cv=.int .i64 c∧c≤23∧Hid (8*j+c=k)∧Hid (OwnF wx w.heap.size rv (rowX D L j))∧Hid (But [] w wx)) (fun _ cv _=>(intOf cv).toNat)
    case atStart=>exact⟨c1,j,rfl,c23,HSk,HO1,HB1⟩
    case round=>
     clear HO1 HB1 HSk ec1 c23 v1 hc8;obtain⟨c2,j2,rfl,hc2,HS2,HO2,HB2⟩:=hrel
     by_cases h8:8≤c2
     ·obtain⟨e,he⟩:=E1 (c2-8);have ee:(c2:Int)-8=(e:Int):=by omega
      have hel:e≤15:=by omega
      have hj2:8*j2+8+e=k:=by have:=HS2.out;omega
      obtain⟨y,hy⟩:=E1 (Q/2^e);obtain⟨b,hb⟩:=E1 (eV D L j2);have hb2:b<256:=by rw[hb];exact rF _ _ _
      have hyb:IntKind.u8.wrap y=((UInt8.ofNat b).toNat:Int):=by
       rw[hy,Hu hQk.out hel,Pj hj2,←hb,UInt8.toNat_ofNat',Nat.mod_eq_of_lt hb2]
      obtain⟨bb,hbb⟩:=E1 (UInt8.ofNat b);rw[←hbb]at hyb;have HRN:Hid (rowX D L j2++[bb]=rowX D L (j2+1)):=qhz (by rw[zf,hbb,hb]);have HLEN:=qhz (su D L j2);have q1:Q/2^e=y:=hy.symm;have v1:=af (show e<1000000000000000 by omega);have HS3:Hid (8*(j2+1)+e=k):=qhz (by omega);have HJ:Hid ((rowX D L j2).length<140737488355328):=qhz (by rw[HLEN.out];omega);have hec:e<c2:=by omega
      clear hy hb hbb hj2 he HS2
      go_wp2_with (at_builtin;refine kM (w0:=w) _ rfl _ _ rfl _ (rowX D L j2) rfl (HO2.out.but ((But.refl [] _).alloc _)) (HB2.out.alloc _) bb rfl (Is.fresh _ _ _) HJ.out ?_)
      intro A9 c9 w9 HO9 HB9;have HO8:Hid (OwnF w9 w.heap.size (.slice A9 ((rowX D L j2).length+1) c9) (rowX D L (j2+1))):=qhz (by rw[←HRN.out];exact HO9.out);clear HO9 HO2 HB2;go_wp2
      go_roundw
      case rel=>exact⟨e,j2+1,rfl,by omega,HS3,HO8,HB9⟩
      case measure=>simp[intOf]<;>omega
     ·have HSK:Hid (PkS D L ((i+1)*D) Q c2 j2):=qhz (by
       refine⟨by rw[←HK.out];exact HS2.out,?_⟩;rw[←HK.out];exact hQk.out)
      go_wp2
      go_roundw
      case rel=>exact⟨i+1,Q,c2,j2,by omega,by go_num,rfl,rfl,by omega,HSK,HO2,HB2⟩
      case measure=>simp[intOf]<;>omega
   ·obtain rfl:i=n:=by omega
    have hkt:8*j+c=t:=by rw[HS.out.1,HT.out]
    by_cases hc0:c=0
    ·subst hc0;have hct:=HO.out.text;rw[show j=(t+7)/8 by omega,HAll.out]at hct;go_wp2
     go_ret2
     exact⟨rfl,HB.out⟩
    ·obtain⟨e,he⟩:∃e,e=8-c:=⟨_,rfl⟩
     have ee:(8:Int)-(c:Int)=(e:Int):=by omega
     obtain⟨S,hS⟩:=E1 (B*2^e);obtain⟨P,hP⟩:=E1 (IntKind.i64.wrap S);obtain⟨b,hb⟩:=E1 (eV D L j);have hb2:b<256:=by rw[hb];exact rF _ _ _
     have hyb:IntKind.u8.wrap P=((UInt8.ofNat b).toNat:Int):=by
      rw[hP,hS,Mx HS.out.2 (by omega),Mz HS.out.1 (by rw[HLL.out]) (by omega),←hb,UInt8.toNat_ofNat',Nat.mod_eq_of_lt hb2]
     obtain⟨bb,hbb⟩:=E1 (UInt8.ofNat b);rw[←hbb]at hyb;have HRN:Hid (rowX D L j++[bb]=dR D L):=qhz (by rw[←HAll.out,show(t+7)/8=j+1 by omega,zf,hbb,hb]);have HLEN:=qhz (su D L j);have HJ:Hid ((rowX D L j).length<140737488355328):=qhz (by rw[HLEN.out];omega);have q1:B*2^e=S:=hS.symm;have q2:IntKind.i64.wrap S=P:=hP.symm;have v1:=af (show e<1000000000000000 by omega);have p0:0<c:=by omega
     clear hS hP hb hbb he hkt HS
     go_wp2_with (at_builtin;refine kM (w0:=w) _ rfl _ _ rfl _ (rowX D L j) rfl (HO.out.but ((But.refl [] _).alloc _)) (HB.out.alloc _) bb rfl (Is.fresh _ _ _) HJ.out ?_)
     intro A9 c9 w9 HO9 HB9;have hct:=HO9.out.text;rw[HRN.out]at hct;clear HO9;go_wp2
     go_ret2
     exact⟨rfl,HB9.out⟩
end
theorem RJ{D:Nat}{x:Int}(h:x=x%2^D):0≤x∧x<((2^D:Nat):Int):=by
 have e:((2^D:Nat):Int)=(2:Int)^D:=by simp
 have hp:0<2^D:=Nat.pow_pos (by decide);rw[h,←e];exact⟨Int.emod_nonneg _ (by omega),Int.emod_lt_of_pos _ (by omega)⟩
theorem RO{D:Nat}{x:Int}(h:0≤x∧x<((2^D:Nat):Int)):x%2^D=x:=by
 have e:((2^D:Nat):Int)=(2:Int)^D:=by simp
 rw[←e];exact Int.emod_eq_of_lt h.1 h.2
theorem sL(w:World){A:Option Addr}{n cp D:Nat}{l:List Int}(hZ:Zs w A n l)(hn:n≤1000)(hD:D≤16):
 Calls prog 180 #[D,.slice A n cp] w fun e w'=>e=.returned (.bool (inR D l))∧w'=w:=by
 have HZ:=qhz hZ;have HLq:Hid (∀W x,Calls prog 214 #[.int .i64 x,D] W fun e w'=>e=.returned (.int .i64 (x%2^D))∧W=w'):=qhz fun W x=>ot W x hD;have HNO:Hid (∀(i:Nat) (x:Int),l[i]? =some x→¬x=x%2^D→inR D l=false):=qhz fun i x hx hne=>RP hx (by
  rcases Classical.em (x<0)with h|h
  ·exact .inl h
  ·refine .inr (Int.not_lt.1 fun h2=>hne ?_);exact(RO ⟨by omega,h2⟩).symm)
 have HYES:Hid ((∀(i:Nat) (x:Int),i<n→l[i]? =some x→x=x%2^D)→inR D l=true):=qhz fun h=>Lb fun i x hx=>RJ (h i x (by have:=(List.getElem?_eq_some_iff.1 hx).1;have:=HZ.out.1;omega) hx);obtain⟨r,hr⟩:=E1 (inR D l);rw[←hr]at HNO HYES⊢;obtain⟨F,hF⟩:∃F:Int→Int,F=fun x=>x%2^D:=⟨_,rfl⟩
 have HLf:Hid (∀W x,Calls prog 214 #[.int .i64 x,D] W fun e w'=>e=.returned (.int .i64 (F x))∧W=w'):=qhz fun W x=>by rw[hF];exact HLq.out W x
 have HNF:Hid (∀(i:Nat) (x:Int),l[i]? =some x→¬x=F x→r=false):=qhz fun i x hx h=>HNO.out i x hx (by rw[hF]at h;exact h);have HYF:Hid ((∀(i:Nat) (x:Int),i<n→l[i]? =some x→x=F x)→r=true):=qhz fun h=>HYES.out fun i x hi hx=>by have:=h i x hi hx;rw[hF]at this;exact this
 clear hr hF hZ HLq HNO HYES
 go_enter func180,ntmps180
 go_wp2_with fail
 go_loopw [9] (fun iv wr=>∃i:Nat,i≤n∧iv=.int .i64 i∧wr=w∧Hid (∀(j:Nat) (x:Int),j<i→l[j]? =some x→x=F x)) (fun iv _=>n-(intOf iv).toNat)
 case atStart=>exact⟨0,Nat.zero_le _,rfl,rfl,qhz (fun j x h=>absurd h (by omega))⟩
 case round=>
  obtain⟨i,hi,rfl,hw,HJ⟩:=hrel;obtain rfl:w=wr:=hw.symm
  by_cases hlt:i<n
  ·obtain⟨g,o,x,rfl,hg,hx,k0⟩:=HZ.out.at hlt;have i0:(0:Int)≤(i:Int):=by omega
   have i1:(i:Int)<(n:Int):=by omega
   obtain⟨y,hy⟩:=E1 (F x);have HLx:Hid (∀W,Calls prog 214 #[.int .i64 x,D] W fun e w'=>e=.returned (.int .i64 y)∧W=w'):=qhz fun W=>by rw[hy];exact HLf.out W x
   by_cases hxy:x=y
   ·have HJ2:Hid (∀(j:Nat) (x:Int),j<i+1→l[j]? =some x→x=F x):=qhz fun j z hj hz=>by
     by_cases e:j=i
     ·rw[e,hx]at hz;cases hz;rw[←hy];exact hxy
     ·exact HJ.out j z (by omega) hz
    subst hxy;clear hx hy
    go_wp2_with fail
    refine(HLx.out _).mono ?_;rintro e w2 ⟨rfl,rfl⟩;go_wp2
    go_roundw
    case rel=>exact⟨i+1,by omega,by go_num,by first|rfl|trivial,HJ2⟩
    case measure=>simp[intOf]<;>omega
   ·have HR:=qhz (HNF.out i x hx (by rw[←hy];exact hxy));have hb:(x !=y)=true:=by simpa using hxy
    clear hx hy
    go_wp2_with fail
    refine(HLx.out _).mono ?_;rintro e w2 ⟨rfl,rfl⟩;go_wp2;go_ret;exact⟨by rw[HR.out];rfl,rfl⟩
  ·obtain rfl:i=n:=by omega
   have HR:=qhz (HYF.out HJ.out);go_wp2;go_ret;exact⟨by rw[HR.out];rfl,rfl⟩
end Go.Proofs.YtbanopnofpjnbaaGreatDoor
