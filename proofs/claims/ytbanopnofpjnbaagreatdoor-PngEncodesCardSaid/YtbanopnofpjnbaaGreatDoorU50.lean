/- Own texts in one: SbA, SbB, SbM, SbD. -/
import Derived.Test.YtbanopnofpjnbaaGreatDoorU26
set_option maxRecDepth 1000000
set_option linter.unusedVariables false
set_option maxHeartbeats 4000000
namespace Go.Proofs.YtbanopnofpjnbaaGreatDoor
open Go Go.RowKit Tryz
theorem GU(w:World)(d:Int):Calls prog 78 #[d] w fun e w'=>e=.returned (.bool (depB d))∧w=w':=by
 obtain⟨r,hr⟩:=E1 (depB d);rw[←hr];have HR:=qhz hr;clear hr
 go_enter func78,ntmps78
 go_wp2
 all_goals
  go_ret;refine⟨?_,rfl⟩;rw[HR.out];unfold depB;clear HR
  by_cases h16:d=16<;>simp_all
theorem xy(L:List Nat):(fK L).length=L.length:=by simp[fK]
def OwnN(w:World)(base:Nat)(v:Value)(L:List Nat):Prop:=w.ownsRow base 3 1 v L.length (fK L)
theorem OwnN.nil(w:World)(base:Nat):OwnN w base (.slice none 0 0) []:=World.ownsRow_nil _ _ _ _
theorem OwnN.but{w w':World}{base:Nat}{v:Value}{L:List Nat}(h:OwnN w base v L)(hw:But [] w w'):OwnN w' base v L:=by
 obtain⟨h1,h2⟩:=h;refine⟨h1,?_⟩;rcases h2 with h2|⟨g,cap,cur,rfl,hg,hh,r⟩
 ·exact .inl h2
 ·have hlt:g<w.heap.size:=(Array.getElem?_eq_some_iff.1 hh).1;exact .inr ⟨g,cap,cur,rfl,hg,(hw.block g hlt (by simp)).trans hh,r⟩
theorem OwnN.shape{w:World}{base:Nat}{v:Value}{L:List Nat}(h:OwnN w base v L):∃A c,v=.slice A L.length c∧L.length≤c:=by
 rcases h.2 with⟨rfl,e⟩|⟨g,cap,cur,rfl,_,_,hc,_⟩
 ·have:L=[]:=List.eq_nil_of_length_eq_zero e;subst this;exact⟨none,0,rfl,Nat.le_refl _⟩
 ·exact⟨_,cap,rfl,hc⟩
theorem OwnN.lt{w:World}{base:Nat}{v:Value}{L:List Nat}(h:OwnN w base v L):∀g,v.ownBlock=some g→base≤g:=fun g e=>(World.ownsRow.lt h g e).1
theorem OwnN.nums{w:World}{base n c:Nat}{A:Option Addr}{L:List Nat}(h:OwnN w base (.slice A n c) L):Nums w A L.length L:=by
 refine⟨rfl,fun hn=>?_⟩;obtain⟨g,cap,e,h1,h2⟩:=World.ownsRow.form h hn;injection e with e1 e2 e3;subst e1 e3;refine⟨g,0,rfl,h2,fun i hi=>?_⟩;have hc:=World.ownsRow.cells h (g:=g) rfl i (.int .i64 (L[i]:Nat)) (by simp[fK,hi]);have e2:(⟨g,0,none⟩:Addr).add i=⟨g,0+i,none⟩:=by unfold Addr.add;split<;>simp_all
 rw[e2]at hc;exact hc
theorem RH{w:World}{g:Nat}{cs:Array Value}(h:Is w g 3 cs):∀(j:Nat) u,cs.toList[j]? =some u→w.cell? ((⟨g,0,none⟩:Addr).add j)=some u:=by
 intro j u hj;have e2:(⟨g,0,none⟩:Addr).add j=⟨g,j,none⟩:=by unfold Addr.add;split<;>simp_all
 rw[e2,h.cell,←Array.getElem?_toList];exact hj
theorem Ip(n:Nat):valN (fun _=>0) n=0:=by
 induction n with
 |zero=>rfl
 |succ n ih=>show 2*valN (fun _=>0) n+0=0;rw[ih]
def iX(D:Nat)(l:List Nat)(k j:Nat):Nat:=valN (fun b=>if 8*j+b<k then aN D l (8*j+b)else 0) 8
def mq(D:Nat)(l:List Nat)(k:Nat):List UInt8:=(List.range ((l.length*D+7)/8)).map fun j=>UInt8.ofNat (iX D l k j)
theorem dQ(D:Nat)(l:List Nat)(k:Nat):(mq D l k).length=(l.length*D+7)/8:=by unfold mq;rw[List.length_map,List.length_range]
theorem rg(D:Nat)(l:List Nat)(k:Nat){j:Nat}(hj:j<(l.length*D+7)/8):(mq D l k).getD j 0=UInt8.ofNat (iX D l k j):=by
 unfold mq;rw[List.getD_eq_getElem?_getD,List.getElem?_map,List.getElem?_range hj];rfl
theorem D8(D:Nat)(l:List Nat)(k j:Nat):iX D l k j<256:=by
 unfold iX;refine rN (n:=8) fun b _=>?_;split
 ·exact fX _ _ _
 ·decide
theorem F3(D:Nat)(l:List Nat):mq D l 0=List.replicate ((l.length*D+7)/8) 0:=by
 refine iQ (by rw[dQ,List.length_replicate]) fun j hj=>?_;rw[dQ]at hj;rw[rg _ _ _ hj,pZ];have e:iX D l 0 j=0:=by
  unfold iX;rw[aP (g:=fun _=>0) (fun b _=>if_neg (by omega)),Ip]
 rw[e];rfl
theorem Kq(D:Nat)(l:List Nat):mq D l (l.length*D)=dR D l:=by
 have e:∀j,iX D l (l.length*D) j=valN (fun b=>aN D l (8*j+b)) 8:=fun j=>by
  unfold iX;refine aP fun b _=>?_
  by_cases h:8*j+b<l.length*D
  ·rw[if_pos h]
  ·rw[if_neg h];unfold aN;rw[if_neg h]
 unfold mq dR;simp only[e]
theorem B9{D:Nat}{l:List Nat}{k j:Nat}(h:j≠k/8):iX D l (k+1) j=iX D l k j:=by
 unfold iX;refine aP fun b hb=>?_
 by_cases h1:8*j+b<k
 ·rw[if_pos h1,if_pos (by omega)]
 ·rw[if_neg h1,if_neg (by omega)]
theorem vn(D:Nat)(l:List Nat)(k:Nat):iX D l k (k/8)=valN (fun b=>aN D l (8*(k/8)+b)) (k%8)*2^(8-k%8):=by
 have hm:k%8<8:=Nat.mod_lt _ (by decide);have h8:=rM (f:=fun b=>if 8*(k/8)+b<k then aN D l (8*(k/8)+b)else 0) (m:=k%8) (8-k%8) (fun b h1 h2=>if_neg (by omega));rw[show k%8+(8-k%8)=8 by omega]at h8;unfold iX;rw[h8]
 congr 1
 refine aP fun b hb=>if_pos (by omega)
theorem F5(D:Nat)(l:List Nat)(k:Nat):iX D l (k+1) (k/8)=iX D l k (k/8)+aN D l k*2^(7-k%8):=by
 have hm:k%8<8:=Nat.mod_lt _ (by decide);rw[vn];have h8:=rM (f:=fun b=>if 8*(k/8)+b<k+1 then aN D l (8*(k/8)+b)else 0) (m:=k%8+1) (7-k%8) (fun b h1 h2=>if_neg (by omega));rw[show k%8+1+(7-k%8)=8 by omega]at h8;unfold iX;rw[h8];have e1:valN (fun b=>if 8*(k/8)+b<k+1 then aN D l (8*(k/8)+b)else 0) (k%8+1)=2*valN (fun b=>aN D l (8*(k/8)+b)) (k%8)+aN D l k:=by
  show 2*valN _ (k%8)+(if 8*(k/8)+k%8<k+1 then aN D l (8*(k/8)+k%8)else 0)=_;rw[aP (g:=fun b=>aN D l (8*(k/8)+b)) (fun b hb=>if_pos (by omega)),Nat.div_add_mod,if_pos (by omega)]
 rw[e1,show 8-k%8=(7-k%8)+1 by omega,Nat.pow_succ,Nat.add_mul]
 congr 1
 rw[Nat.mul_comm 2,Nat.mul_assoc,Nat.mul_comm 2]
theorem NQ(D:Nat)(l:List Nat)(k:Nat):iX D l k (k/8) ||| aN D l k*2^(7-k%8)=iX D l (k+1) (k/8):=by
 have hm:k%8<8:=Nat.mod_lt _ (by decide);have hb:aN D l k*2^(7-k%8)<2^(8-k%8):=by
  have h1:=fX D l k;have h2:0<2^(7-k%8):=Nat.pow_pos (by decide);rw[show 8-k%8=(7-k%8)+1 by omega,Nat.pow_succ];have h3:aN D l k*2^(7-k%8)≤1*2^(7-k%8):=Nat.mul_le_mul_right _ (by omega);omega
 rw[F5,vn,Nat.mul_comm (valN _ _),←Nat.two_pow_add_eq_or_of_lt hb]
theorem F4{D:Nat}{l:List Nat}{k:Nat}(hk:k<l.length*D):(mq D l k).set (k/8) (UInt8.ofNat (iX D l (k+1) (k/8)))=mq D l (k+1):=by
 have hj:k/8<(l.length*D+7)/8:=by omega
 refine iQ (by rw[List.length_set,dQ,dQ]) fun j h=>?_;rw[List.length_set,dQ]at h;rw[rg _ _ _ h]
 by_cases e:j=k/8
 ·subst e;rw[gG (by rw[List.length_set,dQ];exact h),List.getElem_set_self]
 ·rw[List.getD_eq_getElem?_getD,List.getElem?_set_ne (by omega),←List.getD_eq_getElem?_getD,rg _ _ _ h,B9 e]
theorem Of(x:Int){e:Nat}(he:e≤15):x/2^e%2=((bitN (lowN x) e:Nat):Int):=by
 unfold bitN lowN;have h:∀e,e≤15→x/2^e%2=(x%65536)/2^e%2:=by
  intro e he
  match e,he with
  |0,_=>omega
  |1,_=>omega
  |2,_=>omega
  |3,_=>omega
  |4,_=>omega
  |5,_=>omega
  |6,_=>omega
  |7,_=>omega
  |8,_=>omega
  |9,_=>omega
  |10,_=>omega
  |11,_=>omega
  |12,_=>omega
  |13,_=>omega
  |14,_=>omega
  |15,_=>omega
 rw[h e he];obtain⟨m,hm⟩:∃m:Nat,x%65536=(m:Int):=⟨(x%65536).toNat,by omega⟩
 rw[hm];simp
def ZFit(l:List Int):Prop:=∀x,x∈l→ -9223372036854775808≤x∧x≤9223372036854775807
def OneS(w v:World)(g:Nat)(l:List UInt8):Prop:=RowF v g l∧w.heap.size≤g∧But [] w v
theorem OneS.but{w v v':World}{g:Nat}{l:List UInt8}(h:OneS w v g l)(k:But [] v v'):OneS w v' g l:=⟨h.1.but k,h.2.1,h.2.2.trans k⟩
theorem OneS.put{w v:World}{g:Nat}{l:List UInt8}(h:OneS w v g l){i:Nat}(x:UInt8)(hi:i<l.length):OneS w (v.setCell ⟨g,i,none⟩ (.int .u8 (x.toNat:Nat))) g (l.set i x):=
 ⟨h.1.put i x hi,h.2.1,h.2.2.setCell (p:=⟨g,i,none⟩) (.inr h.2.1) _⟩
theorem MR{D:Nat}(h1:1≤D)(h2:D≤16):IntKind.i64.wrap ((D:Int)-1)=(D:Int)-1:=by rw[IntKind.wrap_i64];omega
theorem Dk{z:Nat}(h:z<256):IntKind.u8.wrap (z:Int)=(z:Int):=by rw[IntKind.wrap_u8];omega
theorem AA(w:World){A:Option Addr}{n c:Nat}{l:List Int}{d:Int}(hZ:Zs w A n l)(hF:ZFit l)(hn:n≤17592186043904):
 Calls prog 39 #[d,.slice A n c] w (R1z (.tuple #[(strL (kD d l).1),.int .i64 (kD d l).2]) w):=by
 have HD:=qhz fun W=>GU W d;cases hd:depB d with
 |false=>
  have HR:Hid (kD d l=([],1)):=qhz (by unfold kD;rw[if_pos hd]);rw[HR.out];rw[hd]at HD;clear hd hZ hF
  go_enter func39,ntmps39
  go_wp2_with fail
  refine(HD.out _).mono ?_;rintro e w1 ⟨rfl,rfl⟩;go_wp2
  go_ret2
  exact⟨rfl,But.refl [] _⟩
 |true=>
  rw[hd]at HD;obtain⟨D,rfl,hdep,hD1,hD16⟩:=kj hd;obtain⟨L,hL⟩:=E1 (l.map lowN);have hLl:L.length=n:=by rw[hL,List.length_map];exact hZ.1
  have HR:Hid (kD (D:Int) l=(dR D L,0)):=qhz (by unfold kD;rw[if_neg (by rw[hd];decide),hL];rfl);rw[HR.out];obtain⟨t,ht⟩:=E1 (n*D);have e0:(n:Int)*(D:Int)=(t:Int):=by rw[ht,Int.natCast_mul]
  have ht2:t≤281474976702464:=by rw[ht];show _≤17592186043904*16;exact Nat.mul_le_mul hn hD16
  obtain⟨T,hT⟩:=E1 ((t+7)/8);have g1:((t:Int)+7).tdiv 8=(T:Int):=by rw[Int.tdiv_eq_ediv_of_nonneg (by omega)];omega
  have g2:((t:Int)+7)/8=(T:Int):=by omega
  have hpt:∀k,(mq D L k).length=T:=fun k=>by rw[dQ,hLl,←ht,hT]
  have km:=fT w (n:=T) (by omega);have hno:=lm w T;have hnb:=dS w T;obtain⟨w5,hw5⟩:=E1 (cF w T);rw[←hw5]at km hno hnb;obtain⟨g,hg⟩:=E1 w.heap.size;have HO0:Hid (OneS w w5 g (mq D L 0)):=qhz ⟨by rw[F3,hLl,←ht,←hT,hg];exact hno,by rw[hg];exact Nat.le_refl _,hnb⟩;rw[←hg]at km;have HZ:=qhz hZ;have HF:=qhz hF;have HL:=qhz hL;have HLL:=qhz hLl;have HT:=qhz ht;have HT2:=qhz hT;have HPT:=qhz hpt;clear hd hdep hZ hF hL hLl ht hT hpt hno hnb hw5 hg
  go_enter func39,ntmps39
  go_wp2_with fail
  refine(HD.out _).mono ?_;rintro e wz ⟨rfl,rfl⟩
  go_wp2_with fail
  go_loopw [7] (fun iv wr=>∃i:Nat,i≤n∧iv=.int .i64 i∧Hid (OneS w wr g (mq D L (i*D)))) (fun iv _=>n-(intOf iv).toNat)
  case atStart=>exact⟨0,Nat.zero_le _,rfl,qhz (by rw[Nat.zero_mul];exact HO0.out)⟩
  case round=>
   clear HO0 km;obtain⟨i,hi,rfl,HO⟩:=hrel
   by_cases hlt:i<n
   ·obtain⟨q,hq⟩:=E1 (i*D);have e1:(i:Int)*(D:Int)=(q:Int):=by rw[hq,Int.natCast_mul]
    have hqn:(i+1)*D=q+D:=by rw[hq,Nat.add_mul,Nat.one_mul]
    have hqt:q+D≤t:=by rw[←hqn,HT.out];exact Nat.mul_le_mul_right D hlt
    rw[←hq]at HO;have HQ:=qhz hq;have HQN:=qhz hqn;clear hq hqn
    go_wp2_with fail
    go_loopw [8] (fun bv wx=>∃b:Nat,b≤D∧bv=.int .i64 b∧Hid (OneS w wx g (mq D L (q+b)))) (fun bv _=>D-(intOf bv).toNat)
    case atStart=>exact⟨0,Nat.zero_le _,rfl,HO⟩
    case round=>
     clear HO;obtain⟨b,hb,rfl,HO⟩:=hrel
     by_cases hbl:b<D
     ·obtain⟨k,hk⟩:=E1 (q+b);have ek:(q:Int)+(b:Int)=(k:Int):=by omega
      rw[←hk]at HO;obtain⟨x,hx⟩:∃x,l[i]? =some x:=⟨_,List.getElem?_eq_getElem (by rw[HZ.out.1];exact hlt)⟩
      have hxf:=HF.out x (List.mem_of_getElem? hx);obtain⟨x1,x2⟩:=hxf;obtain⟨kq,hkq⟩:=E1 (k/8);obtain⟨km,hkm⟩:=E1 (k%8);obtain⟨sh,hsh⟩:∃x,x=7-km:=⟨_,rfl⟩
      obtain⟨ex,hex⟩:=E1 (D-1-b);obtain⟨y,hy⟩:=E1 (x/2^ex);obtain⟨z,hz⟩:=E1 (aN D L k);have hz2:z<2:=by rw[hz];exact fX _ _ _
      have hyz:y%2=(z:Int):=by
       have hg:L.getD i 0=lowN x:=by rw[HL.out,List.getD_eq_getElem?_getD,List.getElem?_map,hx];rfl
       rw[hy,Of x (by omega),hz,hk,HQ.out,lV (by rw[HLL.out];exact hlt) hbl,hg,hex]
      obtain⟨old,hold⟩:=E1 (iX D L k kq);obtain⟨new,hnew⟩:=E1 (iX D L (k+1) kq);have ho256:old<256:=by rw[hold];exact D8 _ _ _ _
      have hn256:new<256:=by rw[hnew];exact D8 _ _ _ _
      obtain⟨pe,hpe⟩:=E1 (z*2^sh);have hor:old ||| pe=new:=by rw[hold,hpe,hz,hnew,hsh,hkm,hkq];exact NQ D L k
      have hpe256:pe<256:=by
       have h1:pe≤new:=by rw[←hor];exact Nat.right_le_or
       omega
      have f1:(k:Int).tdiv 8=(kq:Int):=by rw[Int.tdiv_eq_ediv_of_nonneg (by omega)];omega
      have f2:(k:Int)/8=(kq:Int):=by omega
      have f3:(k:Int).tmod 8=(km:Int):=by rw[Int.tmod_eq_emod_of_nonneg (by omega)];omega
      have f4:(k:Int)%8=(km:Int):=by omega
      have f5:(7:Int)-(km:Int)=(sh:Int):=by omega
      have f6:(D:Int)-1-(b:Int)=(ex:Int):=by omega
      have f7:x/2^ex=y:=hy.symm;have f8:bits .and .i64 y 1=(z:Int):=by rw[←hyz];exact iO y 1 (by decide)
      have f9:(z:Int)*2^sh=(pe:Int):=by rw[hpe];simp
      have f10:bits .or .u8 (old:Int) (pe:Int)=(new:Int):=by rw[u8_or_nat old pe ho256 hpe256,hor]
      have hkl:kq<T:=by have:=HT2.out;omega
      have i0:(0:Int)≤(i:Int):=by omega
      have i1:(i:Int)<(n:Int):=by omega
      have j0:(0:Int)≤(kq:Int):=by omega
      have j1:(kq:Int)<(T:Int):=by omega
      have hsh7:sh≤7:=by omega
      have hex15:ex≤15:=by omega
      have HO1:=qhz (HO.out.but ((But.refl [] wr).drew));have hpl:=HPT.out k;have hcl:wr.drew.cell? ⟨g,kq,none⟩=some (.int .u8 (old:Nat)):=by
       rw[HO1.out.1.cell (by rw[hpl];exact hkl),rg _ _ _ (by rw[HLL.out,←HT.out,←HT2.out];exact hkl),←hold,UInt8.toNat_ofNat',Nat.mod_eq_of_lt ho256]
      have hfr:wr.drew.frozen? ⟨g,kq,none⟩=false:=HO1.out.1.free (by rw[hpl];exact hkl);obtain⟨ga,o,x',rfl,hga,hx',hca⟩:=(HZ.out.but HO1.out.2.2).at hlt;have ex':x'=x:=by rw[hx]at hx';exact(Option.some.inj hx').symm
      subst ex';have HO2:Hid (OneS w (wr.drew.setCell ⟨g,kq,none⟩ (.int .u8 (new:Nat))) g (mq D L (q+(b+1)))):=qhz (by
       have h:=HO1.out.put (i:=kq) (UInt8.ofNat new) (by rw[hpl];exact hkl);rw[UInt8.toNat_ofNat',Nat.mod_eq_of_lt hn256,hnew,hkq,F4 (by rw[HLL.out,←HT.out];omega)]at h;rw[show q+(b+1)=k+1 by omega,hnew,hkq];exact h)
      clear hk hx hx' hkq hkm hsh hex hy hz hyz hold hnew hpe hor hpl HO HO1;have v1:=af (show kq<1000000000000000 by omega);have v2:=af (show km<1000000000000000 by omega);have v3:=af (show sh<1000000000000000 by omega);have v4:=af (show ex<1000000000000000 by omega);have v5:=MR hD1 hD16;have v6:=Dk (z:=z) (by omega);have v7:=Dk (z:=pe) (by omega);have v8:=af (show z<1000000000000000 by omega)
      go_upto_region 11 with(fail)
      go_region_with fail
      all_goals go_wp2
      all_goals exact⟨⟨b+1,by omega,by go_num,HO2⟩,by simp[intOf]<;>omega⟩
     ·obtain rfl:b=D:=by omega
      have HO9:Hid (OneS w wr g (mq b L ((i+1)*b))):=qhz (by rw[HQN.out];exact HO.out);go_wp2
      go_roundw
      case rel=>exact⟨i+1,by omega,by go_num,HO9⟩
      case measure=>simp[intOf]<;>omega
   ·obtain rfl:i=n:=by omega
    have hpa:mq D L (i*D)=dR D L:=by rw[←HLL.out];exact Kq D L
    have hct:=HO.out.1.text T;rw[HPT.out,hpa]at hct;go_wp2
    go_ret2
    exact⟨rfl,HO.out.2.2⟩
end Go.Proofs.YtbanopnofpjnbaaGreatDoor
