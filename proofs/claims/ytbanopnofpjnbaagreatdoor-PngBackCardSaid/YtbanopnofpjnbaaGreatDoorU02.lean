/- Own texts in one: FiM, LaM, SaM, LaN, SbA, SbD, SbE, LcA. -/
import Derived.Test.YtbanopnofpjnbaaGreatDoorU00
set_option maxRecDepth 1000000
set_option linter.unusedVariables false
set_option maxHeartbeats 4000000
namespace Go.Proofs.YtbanopnofpjnbaaGreatDoor
open Go Go.RowKit Tryz
def fx(kind:Int)(a b c:Nat):Nat:=
 if kind=1 then a else if kind=2 then b else if kind=3 then(a+b)/2 else
 if kind=4 then
  if((b:Int)-c).natAbs≤((a:Int)-c).natAbs∧((b:Int)-c).natAbs≤((a:Int)+b-c-c).natAbs then a
  else if((a:Int)-c).natAbs≤((a:Int)+b-c-c).natAbs then b else c
 else 0
def bU(s:List UInt8)(bpp i:Nat):Nat:=if i<bpp then 0 else(s.getD (i-bpp) 0).toNat
def gz(kind:Int)(bpp:Nat)(s above:List UInt8)(i:Nat):UInt8:=UInt8.ofNat (fx kind (bU s bpp i) (above.getD i 0).toNat (bU above bpp i))
def doF(kind:Int)(bpp:Nat)(line above:List UInt8):List UInt8:=(List.range line.length).map fun i=>line.getD i 0-gz kind bpp line above i
def eO(kind:Int)(bpp:Nat)(line above:List UInt8):List UInt8:=line.foldl (fun out x=>out++[x+gz kind bpp out above out.length]) []
theorem cq(kind:Int)(bpp:Nat)(line above:List UInt8):(doF kind bpp line above).length=line.length:=by
 unfold doF;rw[List.length_map,List.length_range]
theorem EG(kind:Int)(bpp:Nat)(line above:List UInt8){i:Nat}(h:i<line.length):(doF kind bpp line above).getD i 0=line.getD i 0-gz kind bpp line above i:=by
 unfold doF;rw[List.getD_eq_getElem?_getD,List.getElem?_map,List.getElem?_range h];rfl
theorem gG{s:List UInt8}{i:Nat}(h:i<s.length):s.getD i 0=s[i]:=by
 rw[List.getD_eq_getElem?_getD,List.getElem?_eq_getElem h];rfl
theorem tH{s:List UInt8}{n i:Nat}(h:i<n):(s.take n).getD i 0=s.getD i 0:=by
 rw[List.getD_eq_getElem?_getD,List.getD_eq_getElem?_getD,List.getElem?_take_of_lt h]
theorem jy{s t:List UInt8}{i:Nat}(h:i<s.length):(s++t).getD i 0=s.getD i 0:=by
 rw[List.getD_eq_getElem?_getD,List.getD_eq_getElem?_getD,List.getElem?_append_left h]
theorem iQ{s t:List UInt8}(hl:s.length=t.length)(h:∀i,i<s.length→s.getD i 0=t.getD i 0):s=t:=by
 apply List.ext_getElem hl;intro i h1 h2;rw[←gG h1,←gG h2,h i h1]
theorem xW{kind:Int}{bpp:Nat}{s t above:List UInt8}{i:Nat}(hb:1≤bpp)(h:∀j,j<i→s.getD j 0=t.getD j 0):gz kind bpp s above i=gz kind bpp t above i:=by
 unfold gz bU
 by_cases hi:i<bpp
 ·simp only[if_pos hi]
 ·simp only[if_neg hi];rw[h (i-bpp) (by omega)]
theorem uG(kind:Int)(bpp:Nat)(line above:List UInt8)(x:UInt8):
 eO kind bpp (line++[x]) above=eO kind bpp line above++[x+gz kind bpp (eO kind bpp line above) above (eO kind bpp line above).length]:=by
 unfold eO;rw[List.foldl_append,List.foldl_cons,List.foldl_nil]
theorem sd{P:List UInt8→Prop}(h0:P [])(h1:∀l x,P l→P (l++[x]))(l:List UInt8):P l:=by
 have key:∀n (l:List UInt8),l.length=n→P l:=by
  intro n
  induction n with
  |zero=>intro l h;rw[List.length_eq_zero_iff.1 h];exact h0
  |succ n ih=>
   intro l h;have hne:l≠[]:=by intro e;rw[e]at h;exact absurd h (by simp)
   rw[←List.dropLast_concat_getLast hne];exact h1 _ _ (ih _ (by rw[List.length_dropLast];omega))
 exact key _ l rfl
theorem iH(kind:Int)(bpp:Nat)(above:List UInt8)(line:List UInt8):(eO kind bpp line above).length=line.length:=by
 induction line using sd with
 |h0=>rfl
 |h1 l x ih=>rw[uG,List.length_append,List.length_append,ih];rfl
theorem Dx{kind:Int}{bpp:Nat}(hb:1≤bpp)(above:List UInt8)(line:List UInt8):
 ∀i,i<line.length→(eO kind bpp line above).getD i 0=line.getD i 0+gz kind bpp (eO kind bpp line above) above i:=by
 induction line using sd with
 |h0=>intro i h;exact absurd h (by simp)
 |h1 l x ih=>
  intro i h;rw[List.length_append,List.length_singleton]at h;have hl:=iH kind bpp above l;rw[uG]
  by_cases hi:i<l.length
  ·have hf:gz kind bpp (eO kind bpp l above++[x+gz kind bpp (eO kind bpp l above) above (eO kind bpp l above).length]) above i=gz kind bpp (eO kind bpp l above) above i:=
    xW hb fun j hj=>jy (by omega)
   rw[hf,jy (by omega),jy hi,ih i hi]
  ·obtain rfl:i=l.length:=by omega
   have hf:gz kind bpp (eO kind bpp l above++[x+gz kind bpp (eO kind bpp l above) above (eO kind bpp l above).length]) above l.length=gz kind bpp (eO kind bpp l above) above l.length:=
    xW hb fun j hj=>jy (by omega)
   rw[hf];have e1:(l++[x]).getD l.length 0=x:=by rw[gG (by rw[List.length_append];simp)];simp
   have e2:∀y:UInt8,(eO kind bpp l above++[y]).getD l.length 0=y:=by
    intro y;rw[←hl,gG (by rw[List.length_append];simp)];simp
   rw[e1,e2,hl]
theorem Fe(x y:UInt8):x-y+y=x:=by
 apply UInt8.toNat_inj.1;rw[UInt8.toNat_add,UInt8.toNat_sub];have:=x.toNat_lt;have:=y.toNat_lt
 omega
theorem PT{kind:Int}{bpp:Nat}(hb:1≤bpp)(line above:List UInt8):eO kind bpp (doF kind bpp line above) above=line:=by
 have hl:(eO kind bpp (doF kind bpp line above) above).length=line.length:=by rw[iH,cq]
 have key:∀n i,i<n→i<line.length→(eO kind bpp (doF kind bpp line above) above).getD i 0=line.getD i 0:=by
  intro n
  induction n with
  |zero=>intro i h;exact absurd h (by omega)
  |succ n ih=>
   intro i h hi;rw[Dx hb above _ i (by rw[cq];exact hi),EG _ _ _ _ hi,
    xW hb (s:=eO kind bpp (doF kind bpp line above) above) (t:=line) (fun j hj=>ih j (by omega) (by omega)),Fe]
 exact iQ hl fun i hi=>key (i+1) i (by omega) (by omega)
theorem pZ(n i:Nat):(List.replicate n (0:UInt8)).getD i 0=0:=by
 rw[List.getD_eq_getElem?_getD,List.getElem?_replicate]
 by_cases h:i<n
 ·rw[if_pos h];rfl
 ·rw[if_neg h];rfl
def farB(b:UInt8):Nat:=if 128<b.toNat then 256-b.toNat else b.toNat
def kG(l:List UInt8):Nat:=l.foldl (fun n b=>n+farB b) 0
theorem He(l:List UInt8):∀n,l.foldl (fun n b=>n+farB b) n=n+kG l:=by
 induction l with
 |nil=>intro n;rfl
 |cons x l ih=>
  intro n;show l.foldl _ (n+farB x)=n+l.foldl _ (0+farB x);rw[ih,ih];omega
theorem Hf(x:UInt8)(l:List UInt8):kG (x::l)=farB x+kG l:=by
 show l.foldl _ (0+farB x)=_;rw[He];omega
theorem Hc(l:List UInt8)(x:UInt8):kG (l++[x])=kG l+farB x:=by
 unfold kG;rw[List.foldl_append];rfl
theorem Lu(b:UInt8):farB b≤128:=by
 unfold farB
 by_cases h:128<b.toNat
 ·rw[if_pos h];omega
 ·rw[if_neg h];omega
theorem EJ(l:List UInt8):kG l≤128*l.length:=by
 induction l with
 |nil=>exact Nat.le_refl _
 |cons x l ih=>rw[Hf,List.length_cons];have:=Lu x;omega
def fJ(c:Nat→Nat):Nat→Nat×Nat
 |0=>(0,c 0)
 |k+1=>if c (k+1)<(fJ c k).2 then(k+1,c (k+1))else fJ c k
theorem zu(c:Nat→Nat):∀k,(fJ c k).1≤k∧(fJ c k).2=c (fJ c k).1∧(∀j,j≤k→c (fJ c k).1≤c j)∧∀j,j<(fJ c k).1→c (fJ c k).1<c j:=by
 intro k
 induction k with
 |zero=>exact⟨Nat.le_refl _,rfl,fun j hj=>by rw[Nat.le_zero.1 hj];exact Nat.le_refl _,fun j hj=>absurd hj (Nat.not_lt_zero _)⟩
 |succ k ih=>
  obtain⟨h1,h2,h3,h4⟩:=ih;unfold fJ
  by_cases h:c (k+1)<(fJ c k).2
  ·rw[if_pos h];refine⟨Nat.le_refl _,rfl,fun j hj=>?_,fun j hj=>?_⟩
   ·show c (k+1)≤c j
    by_cases hk:j=k+1
    ·rw[hk];exact Nat.le_refl _
    ·have:=h3 j (by omega);omega
   ·show c (k+1)<c j;have hj':j<k+1:=hj;have:=h3 j (by omega);omega
  ·rw[if_neg h];refine⟨by omega,h2,fun j hj=>?_,h4⟩
   by_cases hk:j=k+1
   ·rw[hk];omega
   ·exact h3 j (by omega)
def kC(bpp:Nat)(line above:List UInt8):Nat:=(fJ (fun k=>kG (doF (k:Nat) bpp line above)) 4).1
def ay(n first step:Nat):Nat:=(n-first+step-1)/step
theorem gs{n first step:Nat}(hs:1≤step)(k:Nat):k<ay n first step↔first+k*step<n:=by
 unfold ay;rw[show(k<(n-first+step-1)/step)=(k+1≤(n-first+step-1)/step)from rfl,Nat.le_div_iff_mul_le (by omega),Nat.add_mul,Nat.one_mul];omega
structure bj where
 x:Nat
 y:Nat
 dx:Nat
 dy:Nat
def fL:List bj:=[⟨0,0,8,8⟩,⟨4,0,8,8⟩,⟨0,4,4,8⟩,⟨2,0,4,4⟩,⟨0,2,2,4⟩,⟨1,0,2,2⟩,⟨0,1,1,2⟩]
def bM:List bj:=[⟨0,0,1,1⟩]
def visP(w h:Nat)(p:bj):List (Nat×Nat):=(List.range (ay h p.y p.dy)).flatMap fun j=>(List.range (ay w p.x p.dx)).map fun i=>(p.x+i*p.dx,p.y+j*p.dy)
def visL(w h:Nat)(l:List bj):List (Nat×Nat):=l.flatMap (visP w h)
def OkP(p:bj):Prop:=p.x<p.dx∧p.y<p.dy
theorem rm{w h:Nat}{p:bj}(hp:OkP p)(a b:Nat):(a,b)∈visP w h p↔a<w∧b<h∧a%p.dx=p.x∧b%p.dy=p.y:=by
 obtain⟨hx,hy⟩:=hp;unfold visP;simp only[List.mem_flatMap,List.mem_map,List.mem_range,Prod.mk.injEq];constructor
 ·rintro⟨j,hj,i,hi,e1,e2⟩;have hj':=(gs (by omega) j).1 hj;have hi':=(gs (by omega) i).1 hi;subst e1 e2;exact⟨hi',hj',by rw[Nat.add_mul_mod_self_right,Nat.mod_eq_of_lt hx],by rw[Nat.add_mul_mod_self_right,Nat.mod_eq_of_lt hy]⟩
 ·rintro⟨ha,hb,e1,e2⟩;have ea:p.x+a/p.dx*p.dx=a:=by rw[←e1,Nat.mul_comm];exact Nat.mod_add_div a p.dx
  have eb:p.y+b/p.dy*p.dy=b:=by rw[←e2,Nat.mul_comm];exact Nat.mod_add_div b p.dy
  exact⟨b/p.dy,(gs (by omega) _).2 (by rw[eb];exact hb),a/p.dx,(gs (by omega) _).2 (by rw[ea];exact ha),ea,eb⟩
theorem Gd{w h:Nat}{p:bj}(hp:OkP p):(visP w h p).Nodup:=by
 obtain⟨hx,hy⟩:=hp;unfold visP List.Nodup;rw[List.pairwise_flatMap];constructor
 ·intro j _;rw[List.pairwise_map];refine List.Pairwise.imp ?_ (List.nodup_range (n:=ay w p.x p.dx));intro a b hab e;have:=(Prod.mk.inj e).1;exact hab (Nat.eq_of_mul_eq_mul_right (show 0<p.dx by omega) (by omega))
 ·refine List.Pairwise.imp ?_ (List.nodup_range (n:=ay h p.y p.dy));intro a b hab u hu v hv e;subst e;obtain⟨_,_,rfl⟩:=List.mem_map.1 hu;obtain⟨_,_,e2⟩:=List.mem_map.1 hv;have:=(Prod.mk.inj e2).2;exact hab (Nat.eq_of_mul_eq_mul_right (show 0<p.dy by omega) (by omega))
def pd(l:List bj):Prop:=(∀p,p∈l→OkP p)∧(∀a b,∃p,p∈l∧a%p.dx=p.x∧b%p.dy=p.y)∧
 l.Pairwise fun p q=>∀a b,¬((a%p.dx=p.x∧b%p.dy=p.y)∧a%q.dx=q.x∧b%q.dy=q.y)
theorem fO:pd bM:=by
 refine⟨?_,?_,?_⟩
 ·intro p hp;rw[List.mem_singleton.1 hp];exact⟨by decide,by decide⟩
 ·intro a b;exact⟨_,List.mem_singleton.2 rfl,Nat.mod_one a,Nat.mod_one b⟩
 ·exact List.pairwise_singleton _ _
theorem Bf:pd fL:=by
 refine⟨?_,?_,?_⟩
 ·intro p hp;simp only[fL,List.mem_cons,List.not_mem_nil,or_false]at hp;rcases hp with rfl|rfl|rfl|rfl|rfl|rfl|rfl<;>exact⟨by decide,by decide⟩
 ·intro a b
  by_cases h1:b%2=1
  ·exact⟨⟨0,1,1,2⟩,by simp[fL],Nat.mod_one a,h1⟩
  by_cases h2:a%2=1
  ·exact⟨⟨1,0,2,2⟩,by simp[fL],h2,by show b%2=0;omega⟩
  by_cases h3:b%4=2
  ·exact⟨⟨0,2,2,4⟩,by simp[fL],by show a%2=0;omega,h3⟩
  by_cases h4:a%4=2
  ·exact⟨⟨2,0,4,4⟩,by simp[fL],h4,by show b%4=0;omega⟩
  by_cases h5:b%8=4
  ·exact⟨⟨0,4,4,8⟩,by simp[fL],by show a%4=0;omega,h5⟩
  by_cases h6:a%8=4
  ·exact⟨⟨4,0,8,8⟩,by simp[fL],h6,by show b%8=0;omega⟩
  ·exact⟨⟨0,0,8,8⟩,by simp[fL],by show a%8=0;omega,by show b%8=0;omega⟩
 ·unfold fL;simp only[List.pairwise_cons,List.mem_cons,List.not_mem_nil,or_false,forall_eq_or_imp,forall_eq,false_implies,implies_true,List.Pairwise.nil,and_true];refine⟨⟨?_,?_,?_,?_,?_,?_⟩,⟨?_,?_,?_,?_,?_⟩,⟨?_,?_,?_,?_⟩,⟨?_,?_,?_⟩,⟨?_,?_⟩,?_⟩<;>(intro a b;omega)
theorem pO{w h:Nat}{l:List bj}(hl:pd l):(visL w h l).Nodup:=by
 unfold visL List.Nodup;rw[List.pairwise_flatMap];refine⟨fun p hp=>Gd (hl.1 p hp),?_⟩;refine List.Pairwise.imp_of_mem ?_ hl.2.2;intro p q hp hq hpq u hu v hv e;subst e;obtain⟨a,b⟩:=u;obtain⟨_,_,h1,h2⟩:=(rm (hl.1 p hp) a b).1 hu;obtain⟨_,_,h3,h4⟩:=(rm (hl.1 q hq) a b).1 hv;exact hpq a b ⟨⟨h1,h2⟩,h3,h4⟩
theorem j7{w h:Nat}{l:List bj}(hl:pd l)(a b:Nat):(a,b)∈visL w h l↔a<w∧b<h:=by
 unfold visL;rw[List.mem_flatMap];constructor
 ·rintro⟨p,hp,hm⟩;obtain⟨h1,h2,_⟩:=(rm (hl.1 p hp) a b).1 hm;exact⟨h1,h2⟩
 ·rintro⟨h1,h2⟩;obtain⟨p,hp,h3,h4⟩:=hl.2.1 a b;exact⟨p,hp,(rm (hl.1 p hp) a b).2 ⟨h1,h2,h3,h4⟩⟩
def cj(w h:Nat)(p:bj):Bool:=decide (0<ay w p.x p.dx∧0<ay h p.y p.dy)
def bitN(v b:Nat):Nat:=v/2^b%2
def valN(f:Nat→Nat):Nat→Nat
 |0=>0
 |n+1=>2*valN f n+f n
theorem MA(v b:Nat):bitN v b<2:=Nat.mod_lt _ (by decide)
theorem rN{f:Nat→Nat}{n:Nat}(h:∀b,b<n→f b<2):valN f n<2^n:=by
 induction n with
 |zero=>exact Nat.one_pos
 |succ n ih=>
  have a:=ih fun b hb=>h b (by omega);have b:=h n (by omega);show 2*valN f n+f n<2^(n+1);rw[Nat.pow_succ];omega
theorem aP{f g:Nat→Nat}{n:Nat}(h:∀b,b<n→f b=g b):valN f n=valN g n:=by
 induction n with
 |zero=>rfl
 |succ n ih=>show 2*valN f n+f n=2*valN g n+g n;rw[ih fun b hb=>h b (by omega),h n (by omega)]
theorem Pk{f:Nat→Nat}:∀{n:Nat},(∀b,b<n→f b<2)→∀b,b<n→bitN (valN f n) (n-1-b)=f b:=by
 intro n
 induction n with
 |zero=>intro _ b hb;exact absurd hb (Nat.not_lt_zero _)
 |succ n ih=>
  intro h b hb
  by_cases hn:b=n
  ·subst hn;have:=h b (by omega);unfold bitN;show(2*valN f b+f b)/2^(b+1-1-b)%2=f b;rw[show b+1-1-b=0 by omega,Nat.pow_zero,Nat.div_one];omega
  ·have hl:=h n (by omega);have hi:=ih (fun b hb=>h b (by omega)) b (by omega);unfold bitN at hi⊢;show(2*valN f n+f n)/2^(n+1-1-b)%2=f b;rw[show n+1-1-b=(n-1-b)+1 by omega,Nat.pow_succ,Nat.mul_comm (2^(n-1-b)) 2,←Nat.div_div_eq_div_mul,
    show(2*valN f n+f n)/2=valN f n by omega,hi]
theorem nD(v:Nat):∀n,valN (fun b=>bitN v (n-1-b)) n=v%2^n:=by
 have key:∀n m,valN (fun b=>bitN v (m+n-1-b)) n=v/2^m%2^n:=by
  intro n
  induction n with
  |zero=>intro m;rw[Nat.pow_zero,Nat.mod_one];rfl
  |succ n ih=>
   intro m;have h:=ih (m+1);show 2*valN (fun b=>bitN v (m+(n+1)-1-b)) n+bitN v (m+(n+1)-1-n)=_;rw[aP (g:=fun b=>bitN v (m+1+n-1-b)) (fun b _=>by show bitN v (m+(n+1)-1-b)=bitN v (m+1+n-1-b);rw[show m+(n+1)-1-b=m+1+n-1-b by omega]),h];unfold bitN;rw[show m+(n+1)-1-n=m by omega,Nat.pow_succ 2 m,←Nat.div_div_eq_div_mul,Nat.pow_succ 2 n,Nat.mul_comm (2^n) 2,Nat.mod_mul];omega
 intro n;have:=key n 0;rw[Nat.pow_zero,Nat.div_one]at this;rw[←this];exact aP fun b _=>by show bitN v (n-1-b)=bitN v (0+n-1-b);rw[Nat.zero_add]
def jh(row:List UInt8)(k:Nat):Nat:=bitN (row.getD (k/8) 0).toNat (7-k%8)
def cX(row:List UInt8)(depth i:Nat):Nat:=valN (fun b=>jh row (i*depth+b)) depth
def aN(depth:Nat)(l:List Nat)(k:Nat):Nat:=if k<l.length*depth then bitN (l.getD (k/depth) 0) (depth-1-k%depth)else 0
def dR(depth:Nat)(l:List Nat):List UInt8:=(List.range ((l.length*depth+7)/8)).map fun j=>UInt8.ofNat (valN (fun b=>aN depth l (8*j+b)) 8)
theorem gx(depth:Nat)(l:List Nat):(dR depth l).length=(l.length*depth+7)/8:=by unfold dR;rw[List.length_map,List.length_range]
theorem fX(depth:Nat)(l:List Nat)(k:Nat):aN depth l k<2:=by
 unfold aN
 by_cases h:k<l.length*depth
 ·rw[if_pos h];exact MA _ _
 ·rw[if_neg h];decide
theorem Ea(depth:Nat)(l:List Nat){j:Nat}(hj:j<(l.length*depth+7)/8):((dR depth l).getD j 0).toNat=valN (fun b=>aN depth l (8*j+b)) 8:=by
 unfold dR;rw[List.getD_eq_getElem?_getD,List.getElem?_map,List.getElem?_range hj];show(UInt8.ofNat (valN (fun b=>aN depth l (8*j+b)) 8)).toNat=_;rw[UInt8.toNat_ofNat'];exact Nat.mod_eq_of_lt (rN fun b _=>fX _ _ _)
theorem BF(depth:Nat)(l:List Nat){k:Nat}(hk:k/8<(l.length*depth+7)/8):jh (dR depth l) k=aN depth l k:=by
 unfold jh;rw[Ea _ _ hk];have h:=Pk (f:=fun b=>aN depth l (8*(k/8)+b)) (n:=8) (fun b _=>fX _ _ _) (k%8) (Nat.mod_lt _ (by decide));rw[show 7-k%8=8-1-k%8 from rfl,h];show aN depth l (8*(k/8)+k%8)=_;rw[Nat.div_add_mod]
theorem BC{depth:Nat}(hd:1≤depth)(l:List Nat){i:Nat}(hi:i<l.length):cX (dR depth l) depth i=l.getD i 0%2^depth:=by
 unfold cX;rw[←nD];refine aP fun b hb=>?_;have hlt:i*depth+b<l.length*depth:=by
  have:(i+1)*depth≤l.length*depth:=Nat.mul_le_mul_right _ hi;rw[Nat.succ_mul]at this;omega
 rw[BF _ _ (by omega)];unfold aN;rw[if_pos hlt];have e1:(i*depth+b)/depth=i:=by rw[Nat.mul_comm,Nat.mul_add_div (by omega),Nat.div_eq_of_lt hb,Nat.add_zero]
 have e2:(i*depth+b)%depth=b:=by rw[Nat.mul_comm,Nat.mul_add_mod,Nat.mod_eq_of_lt hb]
 rw[e1,e2]
def mj(v depth:Nat):Nat:=v*65535/(2^depth-1)
def NP(w h:Nat)(laced:Bool):List bj:=(if laced=true then fL else bM).filter (cj w h)
theorem Ds(laced:Bool):pd (if laced=true then fL else bM):=by
 cases laced
 ·exact fO
 ·exact Bf
theorem NO{w h:Nat}{laced:Bool}{p:bj}(hp:p∈NP w h laced):OkP p∧0<ay w p.x p.dx∧0<ay h p.y p.dy:=by
 unfold NP at hp;obtain⟨h1,h2⟩:=List.mem_filter.1 hp;have:=of_decide_eq_true h2;exact⟨(Ds laced).1 p h1,this.1,this.2⟩
theorem da(n first step:Nat)(hs:1≤step):ay n first step≤n:=by
 refine Nat.le_of_not_lt fun h=>?_;have:=(gs (first:=first) hs n).1 h;have:n*1≤n*step:=Nat.mul_le_mul_left n hs;omega
def depB(d:Int):Bool:=decide (d=1∨d=2∨d=4∨d=8∨d=16)
def aZ(v d:Int):Nat:=if depB d=true then mj (v%2^d.toNat).toNat d.toNat else 0
theorem af{q:Nat}(h:q<1000000000000000):IntKind.i64.wrap (q:Int)=(q:Int):=by rw[IntKind.wrap_i64];omega
def twoB(n:Nat):List UInt8:=[UInt8.ofNat (n/256),UInt8.ofNat n]
abbrev P6:=Nat×Nat×Nat×Nat×Nat×Nat
end Go.Proofs.YtbanopnofpjnbaaGreatDoor
