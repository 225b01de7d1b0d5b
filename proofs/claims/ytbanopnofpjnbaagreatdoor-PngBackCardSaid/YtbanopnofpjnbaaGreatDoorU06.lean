/- Own texts in one: PiM, PiN, PxM, PxN, PxA, PxL, HdC, HdB, HdD, PyA, PyB. -/
import Derived.Test.YtbanopnofpjnbaaGreatDoorU05
set_option maxRecDepth 1000000
set_option linter.unusedVariables false
set_option maxHeartbeats 4000000
namespace Go.Proofs.YtbanopnofpjnbaaGreatDoor
open Go Go.RowKit Tryz
structure ShP where
 w:Nat
 h:Nat
 d:Nat
 c:Nat
 pal:List UInt8
 tr:List UInt8
 has:Bool
def ai(c:Nat):Nat:=if c=0∨c=3 then 1 else if c=4 then 2 else if c=2 then 3 else if c=6 then 4 else 0
def twoL(n:Nat):List UInt8:=[UInt8.ofNat (n/256),UInt8.ofNat n]
theorem Bk(n:Nat):(twoL n).length=2:=rfl
def P9(S:ShP)(l:List Nat):Bool:=S.has&&decide (S.tr.length=2*l.length)&&(List.range l.length).all fun i=>decide ((256*(S.tr.getD (2*i) 0).toNat+(S.tr.getD (2*i+1) 0).toNat)%2^S.d=l.getD i 0)
def mi(S:ShP)(l:List Nat)(i:Nat):List UInt8:=twoL (mj (l.getD i 0) S.d)
def we(S:ShP)(l:List Nat):List UInt8:=if P9 S l=true then twoL 0 else twoL 65535
def pixS(S:ShP)(l:List Nat):List UInt8×Int:=
 if S.c=0 then(mi S l 0++mi S l 0++mi S l 0++we S l,0) else
 if S.c=2 then(mi S l 0++mi S l 1++mi S l 2++we S l,0) else
 if S.c=4 then(mi S l 0++mi S l 0++mi S l 0++mi S l 1,0) else
 if S.c=6 then(mi S l 0++mi S l 1++mi S l 2++mi S l 3,0) else
 if S.pal.length<3*l.getD 0 0+3 then([],29) else
 (twoL (257*(S.pal.getD (3*l.getD 0 0) 0).toNat)++twoL (257*(S.pal.getD (3*l.getD 0 0+1) 0).toNat)++twoL (257*(S.pal.getD (3*l.getD 0 0+2) 0).toNat)++
  (if S.has=true∧l.getD 0 0<S.tr.length then twoL (257*(S.tr.getD (l.getD 0 0) 0).toNat)else twoL 65535),0)
theorem yB(S:ShP)(l:List Nat)(i:Nat):(mi S l i).length=2:=rfl
theorem yo(S:ShP)(l:List Nat):(we S l).length=2:=by unfold we;split<;>rfl
theorem lU(S:ShP)(l:List Nat):(pixS S l).2=0∧(pixS S l).1.length=8∨pixS S l=([],29):=by
 unfold pixS;have a:=yo S l;have w:=yB S l;split
 ·left;refine⟨rfl,?_⟩;simp only[List.length_append,w,a]
 split
 ·left;refine⟨rfl,?_⟩;simp only[List.length_append,w,a]
 split
 ·left;refine⟨rfl,?_⟩;simp only[List.length_append,w]
 split
 ·left;refine⟨rfl,?_⟩;simp only[List.length_append,w]
 split
 ·right;rfl
 ·left;refine⟨rfl,?_⟩;simp only[List.length_append,Bk];split<;>rfl
structure RowJ where
 x:Nat
 dx:Nat
 y:Nat
 n:Nat
 first:Bool
def mo(w h:Nat)(p:bj):List RowJ:=if ay w p.x p.dx=0 then []else(List.range (ay h p.y p.dy)).map fun j=>⟨p.x,p.dx,p.y+j*p.dy,ay w p.x p.dx,decide (j=0)⟩
def bS(w h:Nat)(l:List bj):List RowJ:=l.flatMap (mo w h)
def posJ(j:RowJ):List (Nat×Nat):=(List.range j.n).map fun i=>(j.x+i*j.dx,j.y)
theorem FO(w h:Nat)(p:bj):(mo w h p).flatMap posJ=visP w h p:=by
 unfold mo visP
 by_cases h0:ay w p.x p.dx=0
 ·rw[if_pos h0,h0];simp
 ·rw[if_neg h0,List.flatMap_map];rfl
theorem FP(w h:Nat)(l:List bj):(bS w h l).flatMap posJ=visL w h l:=by
 unfold bS visL;rw[List.flatMap_assoc]
 congr 1
 funext p
 exact FO w h p
def setN(pix:List UInt8)(k:Nat)(q:List UInt8):List UInt8:=pix.take k++(q++pix.drop (k+q.length))
theorem mS{pix:List UInt8}{k:Nat}{q:List UInt8}(h:k+q.length≤pix.length):(setN pix k q).length=pix.length:=by
 unfold setN;rw[List.length_append,List.length_append,List.length_take,List.length_drop];omega
theorem Jk{pix:List UInt8}{k:Nat}{q:List UInt8}(h:k+q.length≤pix.length)(i:Nat):(setN pix k q).getD i 0=if k≤i∧i<k+q.length then q.getD (i-k) 0 else pix.getD i 0:=by
 unfold setN;have ht:(pix.take k).length=k:=by rw[List.length_take];omega
 simp only[List.getD_eq_getElem?_getD]
 by_cases h1:i<k
 ·rw[if_neg (by omega),List.getElem?_append_left (by omega),List.getElem?_take_of_lt h1]
 ·rw[List.getElem?_append_right (by omega),ht]
  by_cases h2:i<k+q.length
  ·rw[if_pos (by omega),List.getElem?_append_left (by omega)]
  ·rw[if_neg (by omega),List.getElem?_append_right (by omega),List.getElem?_drop]
   congr 2
   omega
def bA(S:ShP)(n:Nat):Nat:=(S.d*ai S.c*n+7)/8
def bppN(S:ShP):Nat:=max 1 (S.d*ai S.c/8)
theorem Pb(S:ShP):1≤bppN S:=Nat.le_max_left _ _
def bJ(S:ShP)(line:List UInt8)(x:Nat):List Nat:=(List.range (ai S.c)).map fun i=>cX line S.d (ai S.c*x+i)
def cO(S:ShP)(line:List UInt8)(j:RowJ):Nat→Nat→List UInt8→List UInt8×Int
 |0,_,pix=>(pix,0)
 |m+1,x,pix=>if(pixS S (bJ S line x)).2≠0 then([],(pixS S (bJ S line x)).2) else
  cO S line j m (x+1) (setN pix (8*(j.y*S.w+(j.x+x*j.dx))) (pixS S (bJ S line x)).1)
def runI(S:ShP):List RowJ→List UInt8→List UInt8→List UInt8→List UInt8×Int
 |[],_,_,pix=>(pix,0)
 |j::js,raw,above,pix=>
  if 4<(raw.getD 0 0).toNat then([],28) else
  if(cO S (eO ((raw.getD 0 0).toNat:Int) (bppN S) ((raw.drop 1).take (bA S j.n)) (if j.first=true then []else above)) j j.n 0 pix).2≠0 then
   ([],(cO S (eO ((raw.getD 0 0).toNat:Int) (bppN S) ((raw.drop 1).take (bA S j.n)) (if j.first=true then []else above)) j j.n 0 pix).2) else
  runI S js (raw.drop (1+bA S j.n)) (eO ((raw.getD 0 0).toNat:Int) (bppN S) ((raw.drop 1).take (bA S j.n)) (if j.first=true then []else above))
   (cO S (eO ((raw.getD 0 0).toNat:Int) (bppN S) ((raw.drop 1).take (bA S j.n)) (if j.first=true then []else above)) j j.n 0 pix).1
def fS(S:ShP)(js:List RowJ):Nat:=(js.map fun j=>1+bA S j.n).sum
def imgT(S:ShP)(l:List bj)(raw:List UInt8):List UInt8×Int:=
 if raw.length<fS S (bS S.w S.h l)then([],30)else if fS S (bS S.w S.h l)<raw.length then([],31) else
 runI S (bS S.w S.h l) raw [] (List.replicate (8*(S.w*S.h)) 0)
def dp(S:ShP)(v:List Nat)(a b:Nat):List Nat:=(List.range (ai S.c)).map fun i=>v.getD (ai S.c*(b*S.w+a)+i) 0
def rowV(S:ShP)(v:List Nat)(j:RowJ):List Nat:=(posJ j).flatMap fun p=>dp S v p.1 p.2
def ni(S:ShP)(kind:Nat→Int)(k:Nat)(line above:List UInt8):Nat:=if kind k<0 then kC (bppN S) line above else(kind k).toNat
def dF(S:ShP)(v:List Nat)(kind:Nat→Int):List RowJ→Nat→List UInt8→List UInt8
 |[],_,_=>[]
 |j::js,k,above=>
  UInt8.ofNat (ni S kind k (dR S.d (rowV S v j)) (if j.first=true then []else above))::
   (doF (ni S kind k (dR S.d (rowV S v j)) (if j.first=true then []else above):Nat) (bppN S) (dR S.d (rowV S v j)) (if j.first=true then []else above)++dF S v kind js (k+1) (dR S.d (rowV S v j)))
theorem cY(S:ShP)(v:List Nat)(j:RowJ):(rowV S v j).length=ai S.c*j.n:=by
 unfold rowV posJ;have:∀l:List (Nat×Nat),(l.flatMap fun p=>dp S v p.1 p.2).length=ai S.c*l.length:=by
  intro l
  induction l with
  |nil=>rfl
  |cons p l ih=>
   rw[List.flatMap_cons,List.length_append,ih,List.length_cons,Nat.mul_add,Nat.mul_one];unfold dp;rw[List.length_map,List.length_range];omega
 rw[this,List.length_map,List.length_range]
theorem xo(bpp:Nat)(line above:List UInt8):kC bpp line above≤4:=(zu (fun k=>kG (doF (k:Nat) bpp line above)) 4).1
theorem Ow{S:ShP}{kind:Nat→Int}(h:∀k,kind k≤4)(k:Nat)(line above:List UInt8):ni S kind k line above≤4:=by
 unfold ni;split
 ·exact xo _ _ _
 ·have:=h k;omega
theorem JB(S:ShP)(v:List Nat)(j:RowJ){x i:Nat}(hx:x<j.n)(hi:i<ai S.c):(rowV S v j).getD (ai S.c*x+i) 0=v.getD (ai S.c*(j.y*S.w+(j.x+x*j.dx))+i) 0:=by
 have gen:∀(l:List (Nat×Nat)) (x:Nat) (p:Nat×Nat),l[x]? =some p→(l.flatMap fun p=>dp S v p.1 p.2).getD (ai S.c*x+i) 0=(dp S v p.1 p.2).getD i 0:=by
  intro l
  induction l with
  |nil=>intro x p h;simp at h
  |cons q l ih=>
   intro x p h;have hq:(dp S v q.1 q.2).length=ai S.c:=by unfold dp;rw[List.length_map,List.length_range]
   rw[List.flatMap_cons];cases x with
   |zero=>
    have:q=p:=by simpa using h
    subst this;rw[Nat.mul_zero,Nat.zero_add];simp only[List.getD_eq_getElem?_getD];rw[List.getElem?_append_left (by omega)]
   |succ x=>
    have h':l[x]? =some p:=by simpa using h
    have e:=ih x p h';simp only[List.getD_eq_getElem?_getD]at e⊢;have hm:ai S.c*(x+1)=ai S.c*x+ai S.c:=by rw[Nat.mul_add,Nat.mul_one]
    rw[List.getElem?_append_right (by omega),hq,←e]
    congr 2
    omega
 unfold rowV;rw[gen (posJ j) x (j.x+x*j.dx,j.y) (by unfold posJ;rw[List.getElem?_map,List.getElem?_range hx];rfl)];unfold dp;simp only[List.getD_eq_getElem?_getD,List.getElem?_map];rw[List.getElem?_range hi];rfl
theorem BB{S:ShP}(hd:1≤S.d){v:List Nat}(hv:∀k,v.getD k 0<2^S.d)(j:RowJ){x:Nat}(hx:x<j.n):bJ S (dR S.d (rowV S v j)) x=dp S v (j.x+x*j.dx) j.y:=by
 unfold bJ dp;refine List.map_congr_left fun i hi=>?_;have hi':i<ai S.c:=List.mem_range.1 hi;have hl:=cY S v j;have hlt:ai S.c*x+i<(rowV S v j).length:=by
  rw[hl];have:ai S.c*(x+1)≤ai S.c*j.n:=Nat.mul_le_mul_left _ hx;rw[Nat.mul_add,Nat.mul_one]at this;omega
 rw[BC hd _ hlt,JB S v j hx hi',Nat.mod_eq_of_lt (hv _)]
def cD(S:ShP)(v:List Nat):List (Nat×Nat)→List UInt8→List UInt8×Int
 |[],pix=>(pix,0)
 |p::ps,pix=>if(pixS S (dp S v p.1 p.2)).2≠0 then([],(pixS S (dp S v p.1 p.2)).2)else cD S v ps (setN pix (8*(p.2*S.w+p.1)) (pixS S (dp S v p.1 p.2)).1)
theorem jV(S:ShP)(v:List Nat)(p:Nat×Nat)(ps:List (Nat×Nat))(pix:List UInt8):cD S v (p::ps) pix=if(pixS S (dp S v p.1 p.2)).2≠0 then([],(pixS S (dp S v p.1 p.2)).2)else cD S v ps (setN pix (8*(p.2*S.w+p.1)) (pixS S (dp S v p.1 p.2)).1):=rfl
theorem xm(S:ShP)(v:List Nat):∀(a b:List (Nat×Nat)) (pix:List UInt8),cD S v (a++b) pix=if(cD S v a pix).2≠0 then([],(cD S v a pix).2)else cD S v b (cD S v a pix).1:=by
 intro a
 induction a with
 |nil=>intro b pix;show _=if(0:Int)≠0 then _ else _;rw[if_neg (by decide)];rfl
 |cons p a ih=>
  intro b pix;rw[List.cons_append,jV,jV]
  by_cases h:(pixS S (dp S v p.1 p.2)).2≠0
  ·rw[if_pos h,if_pos h,if_pos h]
  ·rw[if_neg h,if_neg h,ih]
theorem B0{S:ShP}{v:List Nat}{line:List UInt8}{j:RowJ}(h:∀x,x<j.n→bJ S line x=dp S v (j.x+x*j.dx) j.y):
 ∀(m x:Nat) (pix:List UInt8),x+m=j.n→cO S line j m x pix=cD S v ((List.range' x m).map fun i=>(j.x+i*j.dx,j.y)) pix:=by
 intro m
 induction m with
 |zero=>intro x pix _;rfl
 |succ m ih=>
  intro x pix hx;rw[List.range'_succ,List.map_cons];unfold cO cD;rw[h x (by omega)];dsimp only;rw[ih (x+1) _ (by omega)]
theorem Ki{S:ShP}{v:List Nat}{line:List UInt8}{j:RowJ}(h:∀x,x<j.n→bJ S line x=dp S v (j.x+x*j.dx) j.y)(pix:List UInt8):cO S line j j.n 0 pix=cD S v (posJ j) pix:=by
 rw[B0 h _ _ _ (by omega)];unfold posJ;rw[List.range_eq_range']
theorem Ju{S:ShP}(hd:1≤S.d){v:List Nat}(hv:∀k,v.getD k 0<2^S.d){kind:Nat→Int}(hk:∀k,kind k≤4):
 ∀(js:List RowJ) (k:Nat) (above rest pix:List UInt8),runI S js (dF S v kind js k above++rest) above pix=cD S v (js.flatMap posJ) pix:=by
 intro js
 induction js with
 |nil=>intro k above rest pix;rfl
 |cons j js ih=>
  intro k above rest pix;unfold dF runI;generalize hL:dR S.d (rowV S v j)=line;generalize hA:(if j.first=true then([]:List UInt8)else above)=ab;have hkd:=Ow (S:=S) hk k line ab;generalize ni S kind k line ab=kd at hkd;have hk8:(UInt8.ofNat kd).toNat=kd:=by rw[UInt8.toNat_ofNat'];omega
  have hll:line.length=bA S j.n:=by
   rw[←hL,gx,cY];unfold bA;rw[Nat.mul_comm,←Nat.mul_assoc,Nat.mul_comm S.d]
  have hdl:(doF (kd:Nat) (bppN S) line ab).length=bA S j.n:=by rw[cq,hll]
  have e0:((UInt8.ofNat kd::(doF (kd:Nat) (bppN S) line ab++dF S v kind js (k+1) line))++rest).getD 0 0=UInt8.ofNat kd:=rfl;have e1:((UInt8.ofNat kd::(doF (kd:Nat) (bppN S) line ab++dF S v kind js (k+1) line))++rest).drop 1=doF (kd:Nat) (bppN S) line ab++(dF S v kind js (k+1) line++rest):=by
   rw[List.cons_append,List.drop_succ_cons,List.drop_zero,List.append_assoc]
  have e2:((UInt8.ofNat kd::(doF (kd:Nat) (bppN S) line ab++dF S v kind js (k+1) line))++rest).drop (1+bA S j.n)=dF S v kind js (k+1) line++rest:=by
   rw[←List.drop_drop,e1,←hdl,List.drop_left]
  rw[e0,hk8,e1,e2];have e3:(doF (kd:Nat) (bppN S) line ab++(dF S v kind js (k+1) line++rest)).take (bA S j.n)=doF (kd:Nat) (bppN S) line ab:=by rw[←hdl,List.take_left]
  rw[e3,PT (Pb S),if_neg (by omega),Ki (v:=v) (fun x hx=>by rw[←hL];exact BB hd hv j hx),List.flatMap_cons,xm]
  by_cases h:(cD S v (posJ j) pix).2≠0
  ·rw[if_pos h,if_pos h]
  ·rw[if_neg h,if_neg h,ih]
theorem iM{S:ShP}{v:List Nat}{kind:Nat→Int}:∀(js:List RowJ) (k:Nat) (above:List UInt8),(dF S v kind js k above).length=fS S js:=by
 intro js
 induction js with
 |nil=>intro k above;rfl
 |cons j js ih=>
  intro k above;unfold dF fS;rw[List.length_cons,List.length_append,cq,gx,cY,ih,List.map_cons,List.sum_cons];have:(ai S.c*j.n*S.d+7)/8=bA S j.n:=by unfold bA;rw[Nat.mul_comm,←Nat.mul_assoc]
  rw[this];unfold fS;omega
theorem lS(S:ShP)(v:List Nat):∀(ps:List (Nat×Nat)) (pix:List UInt8),(cD S v ps pix).2=0∧(∀p,p∈ps→(pixS S (dp S v p.1 p.2)).2=0)∨cD S v ps pix=([],29)∧∃p,p∈ps∧pixS S (dp S v p.1 p.2)=([],29):=by
 intro ps
 induction ps with
 |nil=>intro pix;left;exact⟨rfl,fun p hp=>absurd hp (by simp)⟩
 |cons p ps ih=>
  intro pix;rw[jV];rcases lU S (dp S v p.1 p.2)with⟨h0,_⟩|h29
  ·rw[if_neg (by rw[h0];decide)];rcases ih (setN pix (8*(p.2*S.w+p.1)) (pixS S (dp S v p.1 p.2)).1)with⟨a,b⟩|⟨a,q,b,c⟩
   ·left;refine⟨a,fun q hq=>?_⟩;rcases List.mem_cons.1 hq with rfl|hq
    ·exact h0
    ·exact b q hq
   ·right;exact⟨a,q,List.mem_cons_of_mem _ b,c⟩
  ·right;rw[if_pos (by rw[h29];decide),h29];exact⟨rfl,p,List.mem_cons_self ..,h29⟩
theorem BW{w a b a' b':Nat}(ha:a<w)(ha':a'<w)(h:b*w+a=b'*w+a'):a=a'∧b=b':=by
 have h1:(b*w+a)%w=(b'*w+a')%w:=by rw[h]
 rw[Nat.mul_comm b,Nat.mul_comm b',Nat.mul_add_mod,Nat.mul_add_mod,Nat.mod_eq_of_lt ha,Nat.mod_eq_of_lt ha']at h1;subst h1;have h2:b*w=b'*w:=by omega
 exact⟨rfl,Nat.eq_of_mul_eq_mul_right (by omega) h2⟩
theorem sP{S:ShP}{v:List Nat}:∀(ps:List (Nat×Nat)) (pix:List UInt8),pix.length=8*(S.w*S.h)→ps.Nodup→(∀p,p∈ps→p.1<S.w∧p.2<S.h)→(cD S v ps pix).2=0→
 (cD S v ps pix).1.length=8*(S.w*S.h)∧(∀p,p∈ps→∀t,t<8→(cD S v ps pix).1.getD (8*(p.2*S.w+p.1)+t) 0=(pixS S (dp S v p.1 p.2)).1.getD t 0)∧
 ∀a b,a<S.w→b<S.h→(a,b)∉ps→∀t,t<8→(cD S v ps pix).1.getD (8*(b*S.w+a)+t) 0=pix.getD (8*(b*S.w+a)+t) 0:=by
 intro ps
 induction ps with
 |nil=>intro pix hl _ _ _;exact⟨hl,fun p hp=>absurd hp (by simp),fun _ _ _ _ _ _ _=>rfl⟩
 |cons p ps ih=>
  intro pix hl hn hb h0;obtain⟨hpn,hn'⟩:=List.nodup_cons.1 hn;rw[jV]at h0⊢;rcases lU S (dp S v p.1 p.2)with⟨k0,k8⟩|h29
  ·rw[if_neg (by rw[k0];decide)]at h0⊢;obtain⟨hp1,hp2⟩:=hb p (List.mem_cons_self ..);have hroom:8*(p.2*S.w+p.1)+(pixS S (dp S v p.1 p.2)).1.length≤pix.length:=by
    rw[k8,hl];have:(p.2+1)*S.w≤S.h*S.w:=Nat.mul_le_mul_right _ hp2;rw[Nat.add_mul,Nat.one_mul]at this;rw[Nat.mul_comm S.w];omega
   obtain⟨a1,a2,a3⟩:=ih (setN pix (8*(p.2*S.w+p.1)) (pixS S (dp S v p.1 p.2)).1) (by rw[mS hroom,hl]) hn' (fun q hq=>hb q (List.mem_cons_of_mem _ hq)) h0;refine⟨a1,fun q hq t ht=>?_,fun a b ha hb' hm t ht=>?_⟩
   ·rcases List.mem_cons.1 hq with rfl|hq
    ·rw[a3 q.1 q.2 hp1 hp2 hpn t ht,Jk hroom,if_pos (by rw[k8];omega)]
     congr 1
     omega
    ·exact a2 q hq t ht
   ·rw[a3 a b ha hb' (fun h=>hm (List.mem_cons_of_mem _ h)) t ht,Jk hroom,if_neg];rintro⟨c1,c2⟩;rw[k8]at c2;obtain⟨e1,e2⟩:=BW ha hp1 (show b*S.w+a=p.2*S.w+p.1 by omega);exact hm (by rw[e1,e2];exact List.mem_cons_self ..)
  ·rw[if_pos (by rw[h29];decide),h29]at h0;exact absurd h0 (by decide)
theorem BX{S:ShP}{v:List Nat}{l m:List bj}(hl:pd l)(hm:pd m)(pix:List UInt8)(hp:pix.length=8*(S.w*S.h)):
 cD S v (visL S.w S.h l) pix=cD S v (visL S.w S.h m) pix:=by
 have mem:∀p:Nat×Nat,p∈visL S.w S.h l↔p∈visL S.w S.h m:=fun p=>by
  obtain⟨a,b⟩:=p;rw[j7 hl,j7 hm]
 rcases lS S v (visL S.w S.h l) pix with⟨a0,a1⟩|⟨a0,p,a1,a2⟩
 ·rcases lS S v (visL S.w S.h m) pix with⟨b0,b1⟩|⟨b0,p,b1,b2⟩
  ·obtain⟨x1,x2,_⟩:=sP _ pix hp (pO hl) (fun p h=>(j7 hl p.1 p.2).1 h) a0;obtain⟨y1,y2,_⟩:=sP _ pix hp (pO hm) (fun p h=>(j7 hm p.1 p.2).1 h) b0;have e:(cD S v (visL S.w S.h l) pix).1=(cD S v (visL S.w S.h m) pix).1:=by
    refine iQ (by rw[x1,y1]) fun i hi=>?_;rw[x1]at hi;have hw:0<S.w:=by
     rcases Nat.eq_zero_or_pos S.w with h|h
     ·rw[h]at hi;omega
     ·exact h
    have hdm:=Nat.div_add_mod (i/8) S.w;have hmod:=Nat.mod_lt (i/8) hw;have hin:(i/8%S.w,i/8/S.w)∈visL S.w S.h l:=by
     rw[j7 hl];refine⟨hmod,?_⟩;rw[Nat.div_lt_iff_lt_mul hw,Nat.mul_comm];omega
    have hi8:i=8*(i/8/S.w*S.w+i/8%S.w)+i%8:=by
     rw[Nat.mul_comm (i/8/S.w),hdm];omega
    have z1:=x2 _ hin (i%8) (by omega);have z2:=y2 _ ((mem _).1 hin) (i%8) (by omega);dsimp only at z1 z2;rw[←hi8]at z1 z2;rw[z1,z2]
   exact Prod.ext e (by rw[a0,b0])
  ·have:=a1 p ((mem p).2 b1);rw[b2]at this;exact absurd this (by decide)
 ·rcases lS S v (visL S.w S.h m) pix with⟨b0,b1⟩|⟨b0,q,b1,b2⟩
  ·have:=b1 p ((mem p).1 a1);rw[a2]at this;exact absurd this (by decide)
  ·rw[a0,b0]
theorem Ld{S:ShP}(hd:1≤S.d){v:List Nat}(hv:∀k,v.getD k 0<2^S.d){k1 k2:Nat→Int}(h1:∀k,k1 k≤4)(h2:∀k,k2 k≤4){l m:List bj}(hl:pd l)(hm:pd m):
 imgT S l (dF S v k1 (bS S.w S.h l) 0 [])=imgT S m (dF S v k2 (bS S.w S.h m) 0 [])∧imgT S l (dF S v k1 (bS S.w S.h l) 0 [])=cD S v (visL S.w S.h l) (List.replicate (8*(S.w*S.h)) 0):=by
 have gen:∀(l:List bj) (k1:Nat→Int),(∀k,k1 k≤4)→imgT S l (dF S v k1 (bS S.w S.h l) 0 [])=cD S v (visL S.w S.h l) (List.replicate (8*(S.w*S.h)) 0):=by
  intro l k1 h1;unfold imgT;rw[iM,if_neg (Nat.lt_irrefl _),if_neg (Nat.lt_irrefl _)];have e:=Ju hd hv h1 (bS S.w S.h l) 0 [] [] (List.replicate (8*(S.w*S.h)) 0);rw[List.append_nil,FP]at e;exact e
 refine⟨?_,gen l k1 h1⟩;rw[gen l k1 h1,gen m k2 h2];exact BX hl hm _ (by rw[List.length_replicate])
def fU(w h:Nat):ShP:=⟨w,h,16,6,[],[],false⟩
def ck(pix:List UInt8):List Nat:=(List.range (pix.length/2)).map fun k=>256*(pix.getD (2*k) 0).toNat+(pix.getD (2*k+1) 0).toNat
theorem nz(pix:List UInt8){k:Nat}(h:k<pix.length/2):(ck pix).getD k 0=256*(pix.getD (2*k) 0).toNat+(pix.getD (2*k+1) 0).toNat:=by
 unfold ck;simp only[List.getD_eq_getElem?_getD,List.getElem?_map];rw[List.getElem?_range h];rfl
theorem yz(pix:List UInt8)(k:Nat):(ck pix).getD k 0<2^16:=by
 by_cases h:k<pix.length/2
 ·rw[nz pix h];have a:=(pix.getD (2*k) 0).toNat_lt;have b:=(pix.getD (2*k+1) 0).toNat_lt;omega
 ·rw[List.getD_eq_getElem?_getD,List.getElem?_eq_none (by unfold ck;rw[List.length_map,List.length_range];omega)];decide
theorem Dr(v:Nat):mj v 16=v:=by
 unfold mj;rw[show(2:Nat)^16-1=65535 from rfl,Nat.mul_div_cancel _ (by decide)]
theorem Iw(a b:UInt8):twoL (256*a.toNat+b.toNat)=[a,b]:=by
 have ha:=a.toNat_lt;have hb:=b.toNat_lt;unfold twoL;rw[show(256*a.toNat+b.toNat)/256=a.toNat by omega];have e:UInt8.ofNat (256*a.toNat+b.toNat)=b:=by
  apply UInt8.toNat_inj.1;rw[UInt8.toNat_ofNat'];omega
 rw[e,UInt8.ofNat_toNat]
theorem zt(w h:Nat)(l:List Nat):pixS (fU w h) l=(twoL (l.getD 0 0)++twoL (l.getD 1 0)++twoL (l.getD 2 0)++twoL (l.getD 3 0),0):=by
 unfold pixS;rw[if_neg (by show ¬(6:Nat)=0;decide),if_neg (by show ¬(6:Nat)=2;decide),if_neg (by show ¬(6:Nat)=4;decide),if_pos (show(fU w h).c=6 from rfl)];unfold mi;show(twoL (mj _ 16)++twoL (mj _ 16)++twoL (mj _ 16)++twoL (mj _ 16),(0:Int))=_;rw[Dr,Dr,Dr,Dr]
theorem qy:ai 6=4:=by decide
theorem MY(w h:Nat)(v:List Nat)(a b:Nat){i:Nat}(hi:i<4):(dp (fU w h) v a b).getD i 0=v.getD (4*(b*w+a)+i) 0:=by
 unfold dp;show((List.range 4).map _).getD i 0=_;simp only[List.getD_eq_getElem?_getD,List.getElem?_map];rw[List.getElem?_range hi];rfl
theorem FS{w h:Nat}{pix:List UInt8}(hp:pix.length=8*(w*h)){a b:Nat}(ha:a<w)(hb:b<h){t:Nat}(ht:t<8):
 (pixS (fU w h) (dp (fU w h) (ck pix) a b)).1.getD t 0=pix.getD (8*(b*w+a)+t) 0:=by
 have hin:b*w+a<w*h:=by
  have:(b+1)*w≤h*w:=Nat.mul_le_mul_right _ hb;rw[Nat.add_mul,Nat.one_mul,Nat.mul_comm h]at this;omega
 have hw:∀i,i<4→twoL ((dp (fU w h) (ck pix) a b).getD i 0)=[pix.getD (8*(b*w+a)+2*i) 0,pix.getD (8*(b*w+a)+2*i+1) 0]:=fun i hi=>by
  rw[MY w h _ a b hi,nz pix (by omega),Iw]
  congr 2
  ·omega
  ·congr 2;omega
 rw[zt,hw 0 (by decide),hw 1 (by decide),hw 2 (by decide),hw 3 (by decide)]
 match t,ht with
 |0,_=>rfl
 |1,_=>rfl
 |2,_=>rfl
 |3,_=>rfl
 |4,_=>rfl
 |5,_=>rfl
 |6,_=>rfl
 |7,_=>rfl
theorem BV{w h:Nat}{pix:List UInt8}(hp:pix.length=8*(w*h)):cD (fU w h) (ck pix) (visL w h bM) (List.replicate (8*(w*h)) 0)=(pix,0):=by
 have h0:(cD (fU w h) (ck pix) (visL w h bM) (List.replicate (8*(w*h)) 0)).2=0:=by
  rcases lS (fU w h) (ck pix) (visL w h bM) (List.replicate (8*(w*h)) 0)with⟨a,_⟩|⟨_,p,_,e⟩
  ·exact a
  ·rw[zt]at e;injection e with _ e2;exact absurd e2 (by decide)
 obtain⟨x1,x2,_⟩:=sP (S:=fU w h) (v:=ck pix) (visL w h bM) (List.replicate (8*(w*h)) 0) (by rw[List.length_replicate];rfl) (pO fO) (fun p h=>(j7 fO p.1 p.2).1 h) h0;refine Prod.ext (iQ (by rw[x1,hp];rfl) fun i hi=>?_) h0;rw[x1]at hi;have hi':i<8*(w*h):=hi;have hw:0<w:=by
  rcases Nat.eq_zero_or_pos w with h|h
  ·rw[h]at hi';omega
  ·exact h
 have hdm:=Nat.div_add_mod (i/8) w;have hmod:=Nat.mod_lt (i/8) hw;have hdiv:i/8/w<h:=by rw[Nat.div_lt_iff_lt_mul hw,Nat.mul_comm];omega
 have hin:(i/8%w,i/8/w)∈visL w h bM:=by
  rw[j7 fO];exact⟨hmod,hdiv⟩
 have hi8:i=8*(i/8/w*w+i/8%w)+i%8:=by
  rw[Nat.mul_comm (i/8/w),hdm];omega
 have z1:=x2 _ hin (i%8) (by omega);have z2:=FS hp hmod hdiv (show i%8<8 by omega);dsimp only at z1;have z3:(cD (fU w h) (ck pix) (visL w h bM) (List.replicate (8*(w*h)) 0)).1.getD (8*(i/8/w*w+i/8%w)+i%8) 0=pix.getD (8*(i/8/w*w+i/8%w)+i%8) 0:=z1.trans z2;rw[←hi8]at z3;exact z3
def pE(w h:Nat)(pix:List UInt8):List UInt8:=dF (fU w h) (ck pix) (fun _=> -1) (bS w h bM) 0 []
theorem OD{w h:Nat}{pix:List UInt8}(hp:pix.length=8*(w*h)):imgT (fU w h) bM (pE w h pix)=(pix,0):=by
 have e:=(Ld (S:=fU w h) (v:=ck pix) (k1:=fun _=> -1) (k2:=fun _=> -1) (l:=bM) (m:=bM) (by show 1≤16;decide) (yz pix) (fun _=>by decide) (fun _=>by decide) fO fO).2;unfold pE;exact e.trans (BV hp)
theorem Rz{l:List Nat}{row:List UInt8}(hl:row.length=2*l.length)(h:∀k,k<l.length→l.getD k 0=256*(row.getD (2*k) 0).toNat+(row.getD (2*k+1) 0).toNat):dR 16 l=row:=by
 have hlen:(dR 16 l).length=row.length:=by rw[gx,hl];omega
 refine iQ hlen fun j hj=>?_;rw[hlen,hl]at hj;apply UInt8.toNat_inj.1;rw[Ea 16 l (by omega)];have hk:j/2<l.length:=by omega
 have hbits:∀b,b<8→aN 16 l (8*j+b)=bitN (l.getD (j/2) 0) (15-(8*(j%2)+b)):=fun b hb=>by
  unfold aN;rw[if_pos (by omega),show(8*j+b)/16=j/2 by omega,show(8*j+b)%16=8*(j%2)+b by omega]
 rw[aP hbits,h (j/2) hk];have x:=(row.getD (2*(j/2)) 0).toNat_lt;have y:=(row.getD (2*(j/2)+1) 0).toNat_lt;have z:=(row.getD j 0).toNat_lt;rcases(show j%2=0∨j%2=1 by omega)with hj2|hj2
 ·have e:∀b,b<8→bitN (256*(row.getD (2*(j/2)) 0).toNat+(row.getD (2*(j/2)+1) 0).toNat) (15-(8*(j%2)+b))=bitN (row.getD (2*(j/2)) 0).toNat (8-1-b):=fun b hb=>by
   rw[hj2];unfold bitN;rw[show 15-(8*0+b)=8+(8-1-b)by omega,Nat.pow_add,←Nat.div_div_eq_div_mul]
   congr 2
   omega
  rw[aP e,nD,show 2*(j/2)=j by omega];omega
 ·have e:∀b,b<8→bitN (256*(row.getD (2*(j/2)) 0).toNat+(row.getD (2*(j/2)+1) 0).toNat) (15-(8*(j%2)+b))=bitN (row.getD (2*(j/2)+1) 0).toNat (8-1-b):=fun b hb=>by
   rw[hj2];unfold bitN;rw[show 15-(8*1+b)=8-1-b by omega];have hs:256=2^(8-1-b)*(2*2^b):=by
    rw[←Nat.mul_assoc,Nat.mul_comm (2^(8-1-b)) 2,Nat.mul_assoc,←Nat.pow_add,show 8-1-b+b=7 by omega]
   rw[show 256*(row.getD (2*(j/2)) 0).toNat+(row.getD (2*(j/2)+1) 0).toNat=(row.getD (2*(j/2)+1) 0).toNat+2^(8-1-b)*((2*2^b)*(row.getD (2*(j/2)) 0).toNat)by rw[←Nat.mul_assoc,←hs];omega];rw[Nat.add_mul_div_left _ _ (Nat.two_pow_pos _),Nat.mul_assoc,Nat.add_mul_mod_self_left]
  rw[aP e,nD,show 2*(j/2)+1=j by omega];omega
theorem Fz{w h:Nat}{pix:List UInt8}(hp:pix.length=8*(w*h)){y:Nat}(hy:y<h)(f:Bool):dR 16 (rowV (fU w h) (ck pix) ⟨0,1,y,w,f⟩)=(pix.drop (8*(y*w))).take (8*w):=by
 have hl:=cY (fU w h) (ck pix) ⟨0,1,y,w,f⟩;have hl':(rowV (fU w h) (ck pix) ⟨0,1,y,w,f⟩).length=4*w:=hl;have hyw:y*w+w≤w*h:=by
  have:(y+1)*w≤h*w:=Nat.mul_le_mul_right _ hy;rw[Nat.add_mul,Nat.one_mul,Nat.mul_comm h]at this;exact this
 refine Rz (by rw[hl',List.length_take,List.length_drop,hp];omega) fun k hk=>?_;rw[hl']at hk;have e:=JB (fU w h) (ck pix) ⟨0,1,y,w,f⟩ (x:=k/4) (i:=k%4) (by show k/4<w;omega) (by show k%4<4;omega);have e':(rowV (fU w h) (ck pix) ⟨0,1,y,w,f⟩).getD (4*(k/4)+k%4) 0=(ck pix).getD (4*(y*w+(0+k/4*1))+k%4) 0:=e;rw[Nat.div_add_mod]at e';rw[e',nz pix (by omega)];have g:∀i,i<8*w→((pix.drop (8*(y*w))).take (8*w)).getD i 0=pix.getD (8*(y*w)+i) 0:=fun i hi=>by
  rw[tH hi];simp only[List.getD_eq_getElem?_getD,List.getElem?_drop]
 rw[g _ (by omega),g _ (by omega)];rw[show 2*(4*(y*w+(0+k/4*1))+k%4)=8*(y*w)+2*k by omega,Nat.add_assoc]
def jobP(w:Nat)(p:bj)(j:Nat):RowJ:=⟨p.x,p.dx,p.y+j*p.dy,ay w p.x p.dx,decide (j=0)⟩
def eC(w h:Nat)(p:bj)(y:Nat):List RowJ:=(List.range' y (ay h p.y p.dy-y)).map (jobP w p)
theorem vC{w h:Nat}{p:bj}(hw:0<ay w p.x p.dx):eC w h p 0=mo w h p:=by
 unfold eC mo;rw[if_neg (by omega),Nat.sub_zero,List.range_eq_range'];rfl
theorem lY{w h:Nat}{p:bj}{y:Nat}(hy:y<ay h p.y p.dy):eC w h p y=jobP w p y::eC w h p (y+1):=by
 unfold eC;rw[show ay h p.y p.dy-y=(ay h p.y p.dy-(y+1))+1 by omega,List.range'_succ,List.map_cons]
theorem tw{w h:Nat}{p:bj}{y:Nat}(hy:ay h p.y p.dy≤y):eC w h p y=[]:=by
 unfold eC;rw[show ay h p.y p.dy-y=0 by omega];rfl
theorem qx(S:ShP)(a b:List RowJ):fS S (a++b)=fS S a+fS S b:=by
 unfold fS;rw[List.map_append,List.sum_append]
theorem pB(S:ShP)(w h:Nat)(p:bj)(hw:0<ay w p.x p.dx):fS S (mo w h p)=ay h p.y p.dy*(1+bA S (ay w p.x p.dx)):=by
 unfold mo fS;rw[if_neg (by omega),List.map_map];have e:∀k:Nat,((List.range k).map ((fun j:RowJ=>1+bA S j.n)∘fun j=>(⟨p.x,p.dx,p.y+j*p.dy,ay w p.x p.dx,decide (j=0)⟩:RowJ))).sum=k*(1+bA S (ay w p.x p.dx)):=by
  intro k
  induction k with
  |zero=>rw[Nat.zero_mul];rfl
  |succ k ih=>
   rw[List.range_succ,List.map_append,List.sum_append,ih,Nat.succ_mul];rfl
 exact e _
structure fl(a b d c l:Int)(W H D C:Nat):Prop where
 wa:a=(W:Int)
 hb:b=(H:Int)
 dd:d=(D:Int)
 cc:c=(C:Int)
 w1:1≤W
 w2:W≤1024
 h1:1≤H
 h2:H≤1024
 area:W*H≤4096
 lace:l=0∨l=1
 dep:depB (D:Int)=true
 d1:1≤D
 d16:D≤16
 col:C=0∨C=2∨C=3∨C=4∨C=6
 sam:aW (C:Int)=(ai C:Int)
 s1:1≤ai C
 s4:ai C≤4
theorem dA{a b d c l:Int}(h:ak a b d c l=0):∃W H D C:Nat,fl a b d c l W H D C:=by
 obtain⟨⟨a1,a2⟩,⟨b1,b2⟩,ab,hl,hd⟩:=ii h;have hd2:=of_decide_eq_true hd;have hC:c=0∨c=2∨c=3∨c=4∨c=6:=by omega
 have hD:d=1∨d=2∨d=4∨d=8∨d=16:=by omega
 obtain⟨W,rfl⟩:∃W:Nat,a=(W:Int):=⟨a.toNat,by omega⟩
 obtain⟨H,rfl⟩:∃H:Nat,b=(H:Int):=⟨b.toNat,by omega⟩
 obtain⟨D,rfl⟩:∃D:Nat,d=(D:Int):=⟨d.toNat,by omega⟩
 obtain⟨C,rfl⟩:∃C:Nat,c=(C:Int):=⟨c.toNat,by omega⟩
 have hC2:C=0∨C=2∨C=3∨C=4∨C=6:=by omega
 have area:W*H≤4096:=by exact_mod_cast ab
 refine⟨W,H,D,C,⟨rfl,rfl,rfl,rfl,by omega,by omega,by omega,by omega,area,hl,decide_eq_true hD,by omega,by omega,hC2,?_,?_,?_⟩⟩
 all_goals rcases hC2 with rfl|rfl|rfl|rfl|rfl<;>decide
theorem wQ{a b d c l:Int}{W H D C:Nat}(pal tr:List UInt8)(has:Bool)(h0:ak a b d c l=0)(R:fl a b d c l W H D C){n:Nat}(h1:1≤n)(h2:n≤1024):rowA a b d c l (n:Int)=bA ⟨W,H,D,C,pal,tr,has⟩ n:=
 JC h0 R.dd (by rw[R.cc];exact R.sam) h1 h2
theorem Jf{a b d c l:Int}{W H D C:Nat}(pal tr:List UInt8)(has:Bool)(h0:ak a b d c l=0)(R:fl a b d c l W H D C):∀B:List bj,(∀p,p∈B→p.x<p.dx∧p.y<p.dy)→
 mR a b d c l ((B.filter (cj W H)).map (p6 W H))=fS ⟨W,H,D,C,pal,tr,has⟩ (bS W H (B.filter (cj W H))):=by
 intro B hB
 induction B with
 |nil=>rfl
 |cons p B ih=>
  have ih:=ih fun q hq=>hB q (List.mem_cons_of_mem _ hq)
  by_cases hp:cj W H p=true
  ·rw[List.filter_cons_of_pos hp];have hs:=of_decide_eq_true hp;have hq:=hB p (List.mem_cons_self ..);have hm:=da W p.x p.dx (by omega);have e1:mR a b d c l ((p::B.filter (cj W H)).map (p6 W H))=ay H p.y p.dy*(1+rowA a b d c l (ay W p.x p.dx:Nat))+mR a b d c l ((B.filter (cj W H)).map (p6 W H)):=by
    unfold mR;rw[List.map_cons,List.map_cons,List.sum_cons];rfl
   have e2:bS W H (p::B.filter (cj W H))=mo W H p++bS W H (B.filter (cj W H)):=by unfold bS;rw[List.flatMap_cons]
   rw[e1,e2,qx,pB _ _ _ _ hs.1,ih,wQ pal tr has h0 R hs.1 (by have:=R.w2;omega)]
  ·rw[List.filter_cons_of_neg hp,ih]
theorem Df(l:Int):∀p,p∈gn l→p.x<p.dx∧p.y<p.dy:=by
 intro p hp;unfold gn at hp;exact(Ds (decide (l=1))).1 p hp
theorem jl{a b d c l:Int}{W H D C:Nat}(h0:ak a b d c l=0)(R:fl a b d c l W H D C):cy a b d c l=((gn l).filter (cj W H)).map (p6 W H):=by
 unfold cy;rw[if_pos h0,R.wa,R.hb];rfl
theorem jP{a b d c l:Int}{W H D C:Nat}(pal tr:List UInt8)(has:Bool)(h0:ak a b d c l=0)(R:fl a b d c l W H D C):cJ a b d c l=fS ⟨W,H,D,C,pal,tr,has⟩ (bS W H ((gn l).filter (cj W H))):=by
 unfold cJ;rw[jl h0 R];exact Jf pal tr has h0 R _ (Df l)
def shpA(a b d c:Int)(pal tr:ByteArray)(has:Bool):ShP:=⟨a.toNat,b.toNat,d.toNat,c.toNat,pal.data.toList,tr.data.toList,has⟩
def imgA(a b d c l:Int)(pal tr:ByteArray)(has:Bool)(raw:ByteArray):List UInt8×Int:=
 if ak a b d c l≠0 then([],ak a b d c l)else imgT (shpA a b d c pal tr has) ((gn l).filter (cj a.toNat b.toNat)) raw.data.toList
def aG(a b d c l:Int)(pal tr:ByteArray)(has:Bool)(raw:ByteArray):(Int×Int×ByteArray)×Int:=
 if(imgA a b d c l pal tr has raw).2≠0 then((0,0,⟨#[]⟩),(imgA a b d c l pal tr has raw).2)else((a,b,strL (imgA a b d c l pal tr has raw).1),0)
theorem Ak{a b d c l:Int}{pal tr:ByteArray}{has:Bool}{raw:ByteArray}{x:List UInt8}(h:imgA a b d c l pal tr has raw=(x,0)):aG a b d c l pal tr has raw=((a,b,strL x),0):=by
 unfold aG;rw[h];exact if_neg (fun h=>h rfl)
theorem Aj{a b d c l:Int}{pal tr:ByteArray}{has:Bool}{raw:ByteArray}{W H D C:Nat}(h0:ak a b d c l=0)(R:fl a b d c l W H D C):
 imgA a b d c l pal tr has raw=imgT ⟨W,H,D,C,pal.data.toList,tr.data.toList,has⟩ ((gn l).filter (cj W H)) raw.data.toList:=by
 unfold imgA shpA;rw[if_neg (fun h=>h h0),R.wa,R.hb,R.dd,R.cc];rfl
def BytesB(w:World)(g:Nat)(l:List UInt8):Prop:=Is w g 5 (cM l).toArray
theorem xw(w:World)(n:Nat):BytesB (cF w n) w.heap.size (List.replicate n 0):=by
 unfold BytesB cF;have e:(cM (List.replicate n 0)).toArray=madeCells (Value.int .u8 0).cells n:=by
  have e:(Value.int .u8 0).cells=#[.int .u8 0]:=rfl;unfold madeCells cM;rw[e];apply Array.ext';simp[Nat.mod_one];exact(List.eq_replicate_iff.2 ⟨by simp,by simp⟩).symm
 rw[e];exact Is.fresh w _ _
theorem BytesB.text{w:World}{g:Nat}{l:List UInt8}(h:BytesB w g l)(cap:Nat):(convert 47 9 (.slice g l.length cap)).run prog w=.ok (.string (strL l)) w:=
 yg fun j hj=>by
  rw[Is.cell h,List.getElem?_toArray];unfold cM;rw[List.getElem?_map,List.getElem?_eq_getElem hj];rfl
def aA(a b:Int)(pix:ByteArray):Int:=if ak a b 16 6 0≠0 then ak a b 16 6 0 else if(pix.size:Int)≠8*a*b then 24 else 0
section
def aX(a b:Int)(pix:ByteArray):ByteArray×Int:=if aA a b pix≠0 then(⟨#[]⟩,aA a b pix)else(strL (pE a.toNat b.toNat pix.data.toList),0)
theorem ze{a b:Int}{pix:ByteArray}(h:aA a b pix=0):aG a b 16 6 0 ⟨#[]⟩ ⟨#[]⟩ false (aX a b pix).1=((a,b,pix),0)∧(aX a b pix).2=0∧(aX a b pix).1.size≤140737488351232:=by
 have hr:aX a b pix=(strL (pE a.toNat b.toNat pix.data.toList),0):=by unfold aX;rw[if_neg (fun k=>k h)]
 have h0:ak a b 16 6 0=0:=by
  unfold aA at h
  by_cases k:ak a b 16 6 0≠0
  ·rw[if_pos k]at h;exact absurd h k
  ·exact Classical.not_not.1 k
 obtain⟨W,H,D,C,R⟩:=dA h0;have hD:D=16:=by have:=R.dd;omega
 have hC:C=6:=by have:=R.cc;omega
 subst hD hC;have hpix:pix.data.toList.length=8*(W*H):=by
  unfold aA at h;rw[if_neg (fun k=>k h0)]at h
  by_cases k:(pix.size:Int)≠8*a*b
  ·rw[if_pos k]at h;exact absurd h (by decide)
  ·have k2:=Classical.not_not.1 k;rw[R.wa,R.hb,Int.mul_assoc,←Int.natCast_mul]at k2;rw[Array.length_toList];show pix.size=_;omega
 have hwa:a.toNat=W:=by rw[R.wa];rfl
 have hhb:b.toNat=H:=by rw[R.hb];rfl
 have hbase:(gn 0).filter (cj W H)=bM:=by
  have hs:cj W H ⟨0,0,1,1⟩=true:=by
   unfold cj ay;have:=R.w1;have:=R.h1;exact decide_eq_true ⟨by show 0<(W-0+1-1)/1;omega,by show 0<(H-0+1-1)/1;omega⟩
  show(bM).filter (cj W H)=bM;unfold bM;rw[List.filter_cons_of_pos hs];rfl
 have hi:imgA a b 16 6 0 ⟨#[]⟩ ⟨#[]⟩ false (strL (pE W H pix.data.toList))=(pix.data.toList,0):=by
  rw[Aj h0 R,aj,hbase];exact OD hpix
 have hlen:(pE W H pix.data.toList).length≤140737488351232:=by
  unfold pE;rw[iM];have hz:=jP [] [] false h0 R;rw[hbase]at hz;have e:fS (fU W H) (bS W H bM)=cJ a b 16 6 0:=hz.symm;rw[e];unfold cJ;have h1:=wJ (a:=a) (b:=b) (d:=16) (c:=6) (l:=0) (L:=cy a b 16 6 0) (fun p hp=>by have:=mY hp;omega);have h2:=jk a b 16 6 0;have h3:(cy a b 16 6 0).length*8389632≤7*8389632:=Nat.mul_le_mul_right _ h2;omega
 refine⟨?_,by rw[hr],?_⟩
 ·rw[hr,hwa,hhb];exact(Ak hi).trans (by rw[jO])
 ·rw[hr,hwa,hhb];show(strL _).size≤_;rw[ac];exact hlen
theorem But.belowP{w w':World}(h:But [] w w'):Below w.heap.size w w':=⟨h.os,h.tape,h.output,h.size,fun k hk=>h.block k hk (by simp)⟩
def Ib(G:World→Prop):Prop:=∀v v':World,G v→But [] v v'→G v'
attribute [local irreducible] aA aG aX
end
def zerC:Array Value:=#[.int .i64 0,.int .i64 0,.int .i64 0,.int .i64 0,.int .i64 0,.string ⟨#[]⟩,.string ⟨#[]⟩,.bool false]
def shpC(a b d c l:Int)(P T:List UInt8)(tr:Bool):Array Value:=#[.int .i64 a,.int .i64 b,.int .i64 d,.int .i64 c,.int .i64 l,.string (strL P),.string (strL T),.bool tr]
def si(n:List Int)(s:HS):Value:=.agg #[.int .i64 (n.getD 0 0),.int .i64 (n.getD 1 0),.int .i64 (n.getD 2 0),.int .i64 (n.getD 3 0),.int .i64 (n.getD 4 0),strL s.P,strL s.T,s.trans]
def GotH(w:World)(r:List Int×HS×Int)(e:Ending)(w':World):Prop:=e=.returned (.tuple #[si r.1 r.2.1,strL r.2.1.D,r.2.2])∧But [] w w'
theorem yP:strL []=⟨#[]⟩:=rfl
theorem wg{w W:World}{b0:Nat}(hI:Is W b0 35 zerC)(hB:But [] w W)(hb:w.heap.size≤b0):
 Is ((((((((W.setCell ⟨b0,0,none⟩ (.int .i64 0)).setCell ⟨b0,1,none⟩ (.int .i64 0)).setCell ⟨b0,2,none⟩ (.int .i64 0)).setCell ⟨b0,3,none⟩ (.int .i64 0)).setCell ⟨b0,4,none⟩ (.int .i64 0)).setCell ⟨b0,5,none⟩ (.string ⟨#[]⟩)).setCell ⟨b0,6,none⟩ (.string ⟨#[]⟩)).setCell ⟨b0,7,none⟩ (.bool false)) b0 35 zerC∧
 But [] w ((((((((W.setCell ⟨b0,0,none⟩ (.int .i64 0)).setCell ⟨b0,1,none⟩ (.int .i64 0)).setCell ⟨b0,2,none⟩ (.int .i64 0)).setCell ⟨b0,3,none⟩ (.int .i64 0)).setCell ⟨b0,4,none⟩ (.int .i64 0)).setCell ⟨b0,5,none⟩ (.string ⟨#[]⟩)).setCell ⟨b0,6,none⟩ (.string ⟨#[]⟩)).setCell ⟨b0,7,none⟩ (.bool false)):=
 ⟨(((((((hI.put 0 _).put 1 _).put 2 _).put 3 _).put 4 _).put 5 _).put 6 _).put 7 _,
  (((((((hB.setCell (p:=⟨b0,0,none⟩) (.inr hb) _).setCell (p:=⟨b0,1,none⟩) (.inr hb) _).setCell (p:=⟨b0,2,none⟩) (.inr hb) _).setCell (p:=⟨b0,3,none⟩) (.inr hb) _).setCell (p:=⟨b0,4,none⟩) (.inr hb) _).setCell (p:=⟨b0,5,none⟩) (.inr hb) _).setCell (p:=⟨b0,6,none⟩) (.inr hb) _).setCell (p:=⟨b0,7,none⟩) (.inr hb) _⟩
theorem qO{w0:World}(w:World){ops:Array Oper}{rest:List Oper}{o:Oper}{a:Act}{Q:Exit→Act→World→Prop}(hgd:o.guard=none)(sl x:Operand)
 (ho:o.op=.call {callee:=.builtin .append,args:=#[sl,x],argTypes:=#[47,9]})
 {i:TypeInfo} (hi:prog.info? 5=some i) (hz:i.zero=some (.int .u8 0)) (hsize:i.size=1) (hby:i.bytes=1) (v:Value) (L:List UInt8) (hs:a.eval sl=v) (hO:OwnY w w0.heap.size v L) (hB:But [] w0 w) (X:List UInt8) (hx:a.eval x=.string (strL X))
 (hbound:L.length+X.length≤140737488355328)
 (h:∀v' w',OwnY w' w0.heap.size v' (L++X)→w.grownBy w' v.ownBlock→wpList prog ops Q rest (a.put o.dst v') w'):wpList prog ops Q (o::rest) a w:=by
 refine wpList_plain hgd fun K hK=>?_;obtain⟨v',w',hr,h2,h3,_⟩:=eH (P:=prog) w w0.heap.size 47 9 o.type 5 i underlying47 underlying9 hi hz hsize hby v L.length (ah L) hO (strL X) (by rw[ac];exact hbound) hB.size;have h4:=OwnY.strd hB hO h2 h3;rw[aj]at h4;unfold Oper.wp execOp;simp only[ho,resolve,invoke,builtin,Sem.run_bind,Sem.run_pure,Result.andThen_ok,List.map_toArray,List.map_cons,List.map_nil,hs,hx,hr];exact hK _ _ (h v' w' h4.1 h3)
section
def jA(n:Int):List UInt8:=br (n%4294967296).toNat
def eh(n:Int):UInt8:=UInt8.ofNat (n%256).toNat
theorem ug(n:Int):((eh n).toNat:Int)=IntKind.u8.wrap n:=by
 unfold eh;rw[UInt8.toNat_ofNat',IntKind.wrap_u8];omega
theorem vU(W:World)(n:Int):
 (convert 47 9 (.slice W.heap.size 4 4)).run prog (W.alloc (.cells #[.int .u8 (IntKind.u8.wrap (n/16777216)),.int .u8 (IntKind.u8.wrap (n/65536)),.int .u8 (IntKind.u8.wrap (n/256)),.int .u8 (IntKind.u8.wrap n)] 5))=.ok (.string (strL (jA n))) (W.alloc (.cells #[.int .u8 (IntKind.u8.wrap (n/16777216)),.int .u8 (IntKind.u8.wrap (n/65536)),.int .u8 (IntKind.u8.wrap (n/256)),.int .u8 (IntKind.u8.wrap n)] 5)):=by
 obtain⟨m,hm⟩:=E1 ((n%4294967296).toNat);have h1:IntKind.u8.wrap (n/16777216)=((m/16777216%256:Nat):Int):=by rw[IntKind.wrap_u8];omega
 have h2:IntKind.u8.wrap (n/65536)=((m/65536%256:Nat):Int):=by rw[IntKind.wrap_u8];omega
 have h3:IntKind.u8.wrap (n/256)=((m/256%256:Nat):Int):=by rw[IntKind.wrap_u8];omega
 have h4:IntKind.u8.wrap n=((m%256:Nat):Int):=by rw[IntKind.wrap_u8];omega
 unfold jA;rw[h1,h2,h3,h4,←hm];exact mc W rfl rfl rfl rfl
def layI(a b d c l:Int):Ck:=(fp,jA a++(jA b++[eh d,eh c,0,0,eh l]))
theorem tY{W:World}{g:Nat}(d c l:Int)(h:Is W g 5 #[.int .u8 (IntKind.u8.wrap d),.int .u8 (IntKind.u8.wrap c),.int .u8 0,.int .u8 0,.int .u8 (IntKind.u8.wrap l)]):
 (convert 47 9 (.slice g 5 5)).run prog W=.ok (.string (strL [eh d,eh c,0,0,eh l])) W:=by
 rw[←ug,←ug,←ug]at h;refine yf (L:=[eh d,eh c,0,0,eh l]) (cap:=5) fun j hj=>?_;rw[h.cell]
 match j,hj with
 |0,_=>rfl
 |1,_=>rfl
 |2,_=>rfl
 |3,_=>rfl
 |4,_=>rfl
theorem fg(n:Int):(jA n).length=4:=rfl
theorem yG:strL fp=⟨#[73,72,68,82]⟩:=rfl
attribute [local irreducible] strL br jA eh
end
def ir(L:List Ck):Nat:=(L.map fun c=>c.2.length).sum
theorem r9{t:List UInt8}{k:List UInt8}(h:t=k):(strL t).toList=k:=by rw[ByteArray.toList_eq,aj,h]
theorem r7{t:List UInt8}{k:List UInt8}(h:¬t=k):¬(strL t).toList=k∧((strL t).toList==k)=false:=by
 have h2:¬(strL t).toList=k:=by rw[ByteArray.toList_eq,aj];exact h
 exact⟨h2,by simpa using h2⟩
theorem FD{k:Ck}{l:List Ck}(h:¬k.1=fp):eR (k::l)=([],hs0,23):=by rw[fV,if_pos h]
theorem Mn{D:List UInt8}{k:Nat}(hk:k<D.length)(W:World):(Instr.index 9 (.string (strL D)) (.int .i64 (k:Int))).run prog W=.ok (.int .u8 ((D.getD k 0).toNat:Nat)) W:=by
 rw[run_index_string W 9 (strL D) .i64 _ underlying9,dif_pos (by rw[ac];omega)];have e:(strL D)[k]'(by rw[ac];exact hk)=D.getD k 0:=by
  rw[List.getD_eq_getElem?_getD,List.getElem?_eq_getElem hk];show(strL D).data[k]=D[k];unfold strL;simp
 simp[e]
theorem JN{D:List UInt8}{l:List Ck}(h:D.length≠13∨D.getD 10 0≠0∨D.getD 11 0≠0):eR ((fp,D)::l)=([],hs0,24):=by rw[fV,if_neg (by simp),if_pos h]
theorem FF{D:List UInt8}{l:List Ck}(h:¬(D.length≠13∨D.getD 10 0≠0∨D.getD 11 0≠0))(hr:iI (dt D)≠0):eR ((fp,D)::l)=([],hs0,iI (dt D)):=by rw[fV,if_neg (by simp),if_neg h,if_pos hr]
theorem Nx{D:List UInt8}{l:List Ck}(h:¬(D.length≠13∨D.getD 10 0≠0∨D.getD 11 0≠0))(hr:iI (dt D)=0):eR ((fp,D)::l)=
 if(runH ((dt D).getD 2 0) ((dt D).getD 3 0) l hs0).2=0 then(dt D,runH ((dt D).getD 2 0) ((dt D).getD 3 0) l hs0)else([],hs0,(runH ((dt D).getD 2 0) ((dt D).getD 3 0) l hs0).2):=by
 rw[fV,if_neg (by simp),if_neg h,if_neg (by rw[hr];simp)]
theorem GC{w V:World}{b:Nat}{tmps:Array Value}{a c:Int}(hI:Is V b 33 #[(0:Int),(0:Int),(0:Int),(0:Int),(0:Int)])(hB:But [] w V)(hb:w.heap.size≤b)(ht:tmps[2]? =some (.pointer b)):
 bodyPost prog Tryz.f104 (R1z (.agg #[a,c,(16:Int),(6:Int),(0:Int)]) w) Exit.ret {tmps:=tmps,defers:=[]}
  (((((V.setCell ⟨b,0,none⟩ (.int .i64 a)).setCell ⟨b,1,none⟩ (.int .i64 c)).setCell ⟨b,2,none⟩ (.int .i64 16)).setCell ⟨b,3,none⟩ (.int .i64 6)).setCell ⟨b,4,none⟩ (.int .i64 0)):=by
 have h4:=((((hI.put 0 (.int .i64 a)).put 1 (.int .i64 c)).put 2 (.int .i64 16)).put 3 (.int .i64 6)).put 4 (.int .i64 0);have k4:=((((hB.setCell (p:=⟨b,0,none⟩) (.inr hb) (.int .i64 a)).setCell (p:=⟨b,1,none⟩) (.inr hb) (.int .i64 c)).setCell (p:=⟨b,2,none⟩) (.inr hb) (.int .i64 16)).setCell (p:=⟨b,3,none⟩) (.inr hb) (.int .i64 6)).setCell (p:=⟨b,4,none⟩) (.inr hb) (.int .i64 0);obtain⟨X,hX⟩:=E1 ((((((V.setCell ⟨b,0,none⟩ (.int .i64 a)).setCell ⟨b,1,none⟩ (.int .i64 c)).setCell ⟨b,2,none⟩ (.int .i64 16)).setCell ⟨b,3,none⟩ (.int .i64 6)).setCell ⟨b,4,none⟩ (.int .i64 0)));rw[←hX]at h4 k4⊢;clear hX hI hB;obtain⟨e0,e1,e2,e3,e4,_⟩:=h4.c5;refine bodyPost_ret (v:=.agg #[a,c,(16:Int),(6:Int),(0:Int)]) ?_ rfl ⟨rfl,k4⟩;simp[results,results104,go_sem,e0,e1,e2,e3,e4,ht]
theorem zm(w:World)(a b:Int)(pix:ByteArray):
 Calls prog 104 #[.agg #[a,b,pix]] w (R1z (.agg #[a,b,(16:Int),(6:Int),(0:Int)]) w):=by
 obtain⟨w1,hw1⟩:=E1 ((w.alloc (.cells #[a,b,pix] 23)).alloc (.cells #[(0:Int),(0:Int),(0:Int),(0:Int),(0:Int)] 33));have hB:But [] w w1:=by rw[hw1];exact((But.refl [] w).alloc _).alloc _
 have hI:Is w1 w.heap.size 23 #[a,b,pix]:=by rw[hw1];exact(Is.fresh _ _ _).alloc _
 have hJ:Is w1 (w.heap.size+1) 33 #[(0:Int),(0:Int),(0:Int),(0:Int),(0:Int)]:=by
  have h:=Is.fresh (w.alloc (.cells #[a,b,pix] 23)) 33 #[(0:Int),(0:Int),(0:Int),(0:Int),(0:Int)];rw[show(w.alloc (.cells #[a,b,pix] 23)).heap.size=w.heap.size+1 by simp]at h;rw[hw1];exact h
 obtain⟨b0,hb0⟩:=E1 w.heap.size;obtain⟨b1,hb1⟩:=E1 (w.heap.size+1);rw[←hb1]at hJ;rw[←hb0]at hI;have HW:Hid (w.heap.size≤b1):=qhz (by omega);have HI:=qhz hI;have HJ:=qhz hJ;have HB:=qhz hB;clear hI hJ hB
 go_enter func104,ntmps104
 go_upto_region 1 with(fail)
 rw[←hw1,←hb1,←hb0];clear hw1 hb0 hb1;obtain⟨c0,c1,hgl⟩:=HI.out.c2;obtain⟨d0,d1,d2,d3,d4,_⟩:=HJ.out.c5;obtain⟨f0,f1,f2,f3,f4⟩:=HJ.out.f5;have hgl1:=HJ.out.lt;go_wp2;exact GC HJ.out HB.out HW.out (by rfl)
theorem zA(w:World){a b:Int}{pix:ByteArray}(hp:pix.size≤140737488351232):
 Calls prog 62 #[.agg #[a,b,pix]] w (R1z (.int .i64 (aA a b pix)) w):=by
 have HB:=qhz ((But.refl [] w).alloc (.cells #[a,b,pix] 23));have hI:=Is.fresh w 23 #[a,b,pix];obtain⟨r,hr⟩:=E1 (ak a b 16 6 0);have HE:Hid (∀W,Calls prog 86 #[.agg #[a,b,(16:Int),(6:Int),(0:Int)]] W (R1z (.int .i64 r) W)):=qhz fun W=>by rw[hr];exact oq W a b 16 6 0
 have HH:=qhz fun(W:World)=>zm W a b pix;have HC:Hid (∀v,But [] (w.alloc (.cells #[a,b,pix] 23)) v→v.cell? ⟨w.heap.size,0,none⟩=some (.int .i64 a)∧v.cell? ⟨w.heap.size,1,none⟩=some (.int .i64 b)∧v.cell? ⟨w.heap.size,2,none⟩=some (.string pix)∧w.heap.size<v.heap.size):=qhz fun v hv=>by
  have hh:=hI.but hv (by simp);exact⟨hh.cell 0,hh.cell 1,hh.cell 2,hh.lt⟩
 obtain⟨c0,c1,c2,hgl⟩:=HC.out _ (But.refl [] _)
 by_cases h0:r=0
 ·have hright:=hr.symm.trans h0;obtain⟨W,H,D,C,R⟩:=dA hright;obtain⟨x,hx⟩:∃x,x=8*(W*H):=⟨_,rfl⟩
  have hxl:x≤32768:=by have:=R.area;omega
  obtain⟨y,hy⟩:∃y,y=8*W:=⟨_,rfl⟩
  have e1:8*a=(y:Int):=by rw[R.wa,hy];omega
  have e2:(y:Int)*b=(x:Int):=by
   rw[R.hb,hy,hx,←Int.natCast_mul,Nat.mul_assoc]
  have e3:8*a*b=(x:Int):=by rw[e1,e2]
  have t1:=af (show y<1000000000000000 by have:=R.w2;omega);have t2:=af (show x<1000000000000000 by omega);subst h0
  by_cases hs:pix.size=x
  ·have HR:Hid (aA a b pix=0):=qhz (by unfold aA;rw[if_neg (by rw[←hr];decide),e3,if_neg (by rw[hs];exact fun h=>h rfl)]);rw[HR.out];have q1:((x:Int) !=(x:Int))=false:=by simp
   clear hI hr hright R hx hy e3
   go_enter func62,ntmps62
   go_wp2_with fail
   refine(HH.out _).mono ?_;rintro e w0 ⟨rfl,hB0⟩;have HB0:=qhz hB0;clear hB0 c0 c1 c2 hgl
   go_wp2_with fail
   refine(HE.out _).mono ?_;rintro e w1 ⟨rfl,hB⟩;have HB1:=qt HB0 hB;clear hB;obtain⟨c0,c1,c2,hgl⟩:=HC.out _ HB1.out;go_wp2;go_ret;exact⟨rfl,HB.out.trans HB1.out⟩
  ·have HR:Hid (aA a b pix=24):=qhz (by unfold aA;rw[if_neg (by rw[←hr];decide),e3,if_pos (by omega)]);rw[HR.out];have q1:((pix.size:Int) !=(x:Int))=true:=by simp;omega
   have q2:¬(pix.size:Int)=(x:Int):=by omega
   clear hI hr hright R hx hy e3
   go_enter func62,ntmps62
   go_wp2_with fail
   refine(HH.out _).mono ?_;rintro e w0 ⟨rfl,hB0⟩;have HB0:=qhz hB0;clear hB0 c0 c1 c2 hgl
   go_wp2_with fail
   refine(HE.out _).mono ?_;rintro e w1 ⟨rfl,hB⟩;have HB1:=qt HB0 hB;clear hB;obtain⟨c0,c1,c2,hgl⟩:=HC.out _ HB1.out;go_wp2;go_ret;exact⟨rfl,HB.out.trans HB1.out⟩
 ·have HR:Hid (aA a b pix=r):=qhz (by unfold aA;rw[←hr,if_pos h0]);rw[HR.out];have q1:(r !=0)=true:=by simpa using h0
  clear hI hr
  go_enter func62,ntmps62
  go_wp2_with fail
  refine(HH.out _).mono ?_;rintro e w0 ⟨rfl,hB0⟩;have HB0:=qhz hB0;clear hB0 c0 c1 c2 hgl
  go_wp2_with fail
  refine(HE.out _).mono ?_;rintro e w1 ⟨rfl,hB⟩;have HB1:=qt HB0 hB;clear hB;go_wp2;go_ret;exact⟨rfl,HB.out.trans HB1.out⟩
theorem vQ(s:ByteArray){i j:Nat}(h:i≤j)(W:World)(hj:j≤s.size):(Instr.slice 9 (.string s) (some (.int .i64 (i:Int))) (some (.int .i64 (j:Int))) none).run prog W=.ok (.string (strL ((s.data.toList.drop i).take (j-i)))) W:=by
 rw[run_slice_string W 9 s .i64 .i64 (i:Int) (j:Int) underlying9 (by omega) (by omega) (by omega),Int.toNat_natCast,Int.toNat_natCast,gO,List.drop_take]
end Go.Proofs.YtbanopnofpjnbaaGreatDoor
