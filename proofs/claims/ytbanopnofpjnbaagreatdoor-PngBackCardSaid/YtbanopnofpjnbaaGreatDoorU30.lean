/- Own texts in one: Codes, Table, NextM, NextW, LaidM. -/
import Derived.Test.YtbanopnofpjnbaaGreatDoorU27
set_option maxRecDepth 1000000
set_option linter.unusedVariables false
set_option maxHeartbeats 4000000
namespace Go.Proofs.YtbanopnofpjnbaaGreatDoor
open Go Go.RowKit Tryz
theorem Dz(l:List Int):∀m:Int,m≤l.foldl (fun m x=>if 0<x then max m x else m) m:=by
 induction l with
 |nil=>intro m;exact Int.le_refl _
 |cons x l ih=>
  intro m;simp only[List.foldl_cons];refine Int.le_trans ?_ (ih _);split<;>omega
theorem uH(l:List Int):0≤top l:=Dz l 0
theorem PV(l:List Int):∀x∈l,x≤top l:=by
 unfold top;have:∀m:Int,∀x∈l,0<x→x≤l.foldl (fun m x=>if 0<x then max m x else m) m:=by
  induction l with
  |nil=>intro m x hx;cases hx
  |cons y l ih=>
   intro m x hx h0;simp only[List.foldl_cons];rcases List.mem_cons.1 hx with rfl|hx
   ·refine Int.le_trans ?_ (Dz l _);rw[if_pos h0];omega
   ·exact ih _ x hx h0
 intro x hx
 by_cases h:0<x
 ·exact this 0 x hx h
 ·exact Int.le_trans (by omega) (uH l)
theorem xD{w:World}{A:Option Addr}{len cap:Nat}{l:List Int}(hl:Ints w A len l)(hm:len≤maxLen)(hc:chk l≠0):
 Calls prog 196 #[.slice A len cap] w fun e w'=>e=.returned (.tuple #[.pointer none,.int .i64 (chk l)])∧w=w':=by
 have hck:=AL (cap:=cap) hl hm;generalize chk l=x at*;have HC:=qhz hck;have hx:(x !=0)=true:=by simpa using hc
 clear hck hm hc
 go_enter func196,ntmps196
 go_wp2_with fail
 refine HC.out.mono ?_;rintro e w' ⟨rfl,rfl⟩
 go_wp2_with fail
 go_ret2
 exact⟨rfl,rfl⟩
def gN(l:List Int)(n:Nat):Nat:=kp l (bG l n)/2^(15-n)
def inN(l:List Int)(n:Nat):List Nat:=ly l n l.length
theorem CA{l:List Int}{n:Nat}(h1:1≤n)(h2:n≤15)(p q:List Nat)(hq:∀s∈q,l.getD s 0=(n:Int)):kp l (p++q)=kp l p+q.length*2^(15-n):=by
 rw[Ov,Ov,List.map_append,List.sum_append]
 congr 1
 induction q with
 |nil=>simp
 |cons s q ih=>
  have e:kr (l.getD s 0)=2^(15-n):=by
   rw[hq s (by simp)];unfold kr;rw[if_pos (by omega)];congr 1
  rw[List.map_cons,List.sum_cons,List.length_cons,ih (fun s hs=>hq s (by simp[hs])),e,Nat.add_mul,Nat.one_mul];omega
theorem pW{l:List Int}{n s:Nat}(h:s∈inN l n):s<l.length∧l.getD s 0=(n:Int):=du.1 h
theorem Pz(l:List Int):∀n,n≤15→∃a,kp l (bG l n)=a*2^(15-n)
 |0,_=>⟨0,by simp[bG,kp,cst]⟩
 |n+1,h=>by
  obtain⟨a,ha⟩:=Pz l n (by omega);refine⟨2*a+(inN l (n+1)).length,?_⟩;rw[bG,show ly l (n+1) l.length=inN l (n+1)from rfl,CA (n:=n+1) (by omega) h _ _ (fun s hs=>(pW hs).2),ha];have e:15-n=(15-(n+1))+1:=by omega
  rw[e,Nat.pow_succ,Nat.add_mul]
  congr 1
  rw[Nat.mul_comm (2^_) 2,←Nat.mul_assoc,Nat.mul_comm a 2]
theorem RV{l:List Int}{n a:Nat}(h:kp l (bG l n)=a*2^(15-n)):gN l n=a:=by
 unfold gN;rw[h,Nat.mul_div_cancel _ (Nat.two_pow_pos _)]
theorem QK(l:List Int)(n:Nat)(h:n≤15):kp l (bG l n)=gN l n*2^(15-n):=by
 obtain⟨a,ha⟩:=Pz l n h;rw[RV ha,ha]
theorem Lk(l:List Int):gN l 0=0:=by simp[gN,bG,kp,cst]
theorem CG(l:List Int)(n:Nat)(h:n<15):gN l (n+1)=2*gN l n+(inN l (n+1)).length:=by
 apply RV;rw[bG,show ly l (n+1) l.length=inN l (n+1)from rfl,CA (n:=n+1) (by omega) (by omega) _ _ (fun s hs=>(pW hs).2),QK l n (by omega)];have e:15-n=(15-(n+1))+1:=by omega
 rw[e,Nat.pow_succ,Nat.add_mul]
 congr 1
 rw[Nat.mul_comm (2^_) 2,←Nat.mul_assoc,Nat.mul_comm (gN l n) 2]
theorem Aq{l:List Int}{s:Nat}:∀(r:List Nat) (st:List Int×Nat),s∉r→(r.foldl (stp l) st).1.getD s 0=st.1.getD s 0
 |[],_,_=>rfl
 |t::r,st,h=>by
  rw[List.foldl_cons,Aq r _ (fun h2=>h (by simp[h2]))];have hne:t≠s:=fun e=>h (by simp[e]);unfold stp;simp only[List.getD_eq_getElem?_getD];rw[List.getElem?_set_ne hne]
theorem Mc{l:List Int}{p r:List Nat}{s:Nat}(h:ord l=p++s::r):(fI l).getD s 0=((kp l p/2^(15-(l.getD s 0).toNat):Nat):Int):=by
 have hs:=eU (s:=s) (l:=l) (by rw[h];simp);have hn:s∉r:=by
  have:=gd l 15;rw[show bG l 15=ord l from rfl,h]at this;exact(List.nodup_cons.1 (List.nodup_append.1 this).2.1).1
 unfold fI cds cst;rw[h,List.foldl_append,List.foldl_cons,Aq r _ hn];have hl:(p.foldl (stp l) (List.replicate l.length 0,0)).1.length=l.length:=gX l p;show((p.foldl (stp l) (List.replicate l.length 0,0)).1.set s _).getD s 0=_;rw[List.getD_eq_getElem?_getD,List.getElem?_set_self (by rw[hl];exact hs.1)];rfl
theorem sV(l:List Int){n:Nat}(h:n<15):∃r,ord l=bG l n++(inN l (n+1)++r):=by
 obtain⟨r,hr⟩:=lh l (n+1) (15-(n+1));rw[show n+1+(15-(n+1))=15 from by omega]at hr;exact⟨r,by rw[ord,hr,bG,List.append_assoc];rfl⟩
theorem tZ{l:List Int}{n j:Nat}(h:n<15)(hj:j<(inN l (n+1)).length):(fI l).getD (inN l (n+1))[j] 0=((2*gN l n+j:Nat):Int):=by
 obtain⟨r,hr⟩:=sV l h;have hs:ord l=(bG l n++(inN l (n+1)).take j)++(inN l (n+1))[j]::((inN l (n+1)).drop (j+1)++r):=by
  rw[hr,List.append_assoc]
  congr 1
  rw[←List.cons_append,←List.append_assoc,List.getElem_cons_drop,List.take_append_drop]
 rw[Mc hs]
 congr 1
 have hl:=(pW (List.getElem_mem hj)).2;rw[hl,Int.toNat_natCast,CA (n:=n+1) (by omega) (by omega) _ _ (fun s hs=>(pW (List.mem_of_mem_take hs)).2),QK l n (by omega),List.length_take,Nat.min_eq_left (by omega)];have e:15-n=(15-(n+1))+1:=by omega
 rw[e,Nat.pow_succ,show gN l n*(2^(15-(n+1))*2)+j*2^(15-(n+1))=(2*gN l n+j)*2^(15-(n+1))from by rw[Nat.add_mul,Nat.mul_comm 2 (gN l n),Nat.mul_assoc,Nat.mul_comm 2],Nat.mul_div_cancel _ (Nat.two_pow_pos _)]
theorem vK{l:List Int}{n j:Nat}(h:n<15)(hj:j<(inN l (n+1)).length):tM l (n+1) (2*gN l n+j)=some (inN l (n+1))[j]:=by
 have hm:=pW (List.getElem_mem hj);have hc:=tZ h hj;cases e:tM l (n+1) (2*gN l n+j) with
 |none=>
  have:=List.find?_eq_none.1 e _ (List.mem_range.2 hm.1);simp only[decide_eq_true_eq]at this;exact absurd ⟨hm.2,hc⟩ this
 |some t=>
  have h1:=List.find?_some e;have h2:=List.mem_range.1 (List.mem_of_find?_eq_some e);simp only[decide_eq_true_eq]at h1;obtain⟨i,hi,hit⟩:=List.getElem_of_mem (show t∈inN l (n+1)from du.2 ⟨h2,h1.1⟩);have h3:=tZ h hi;rw[hit,h1.2]at h3;obtain rfl:i=j:=by omega
  rw[hit]
theorem vL{l:List Int}{n c:Nat}(h:n<15)(hc:c<2*gN l n∨gN l (n+1)≤c):tM l (n+1) c=none:=by
 refine List.find?_eq_none.2 fun t ht hp=>?_;have h2:=List.mem_range.1 ht;simp only[decide_eq_true_eq]at hp;obtain⟨i,hi,hit⟩:=List.getElem_of_mem (show t∈inN l (n+1)from du.2 ⟨h2,hp.1⟩);have h3:=tZ h hi;rw[hit,hp.2]at h3;have:=CG l n h;omega
theorem qG(l:List Int){n:Nat}(h1:1≤n):∀k,(bG l k).filter (fun s=>decide ((l.getD s 0).toNat=n))=if n≤k then inN l n else []
 |0=>by rw[if_neg (by omega)];rfl
 |k+1=>by
  rw[bG,List.filter_append,qG l h1 k]
  by_cases e:n=k+1
  ·subst e;rw[if_neg (by omega),if_pos (Nat.le_refl _),List.nil_append];exact List.filter_eq_self.2 fun s hs=>by
    have:=(du.1 hs).2;simp only[decide_eq_true_eq];omega
  ·have:(ly l (k+1) l.length).filter (fun s=>decide ((l.getD s 0).toNat=n))=[]:=List.filter_eq_nil_iff.2 fun s hs=>by
    have:=(du.1 hs).2;simp only[decide_eq_true_eq];omega
   rw[this,List.append_nil]
   by_cases e2:n≤k
   ·rw[if_pos e2,if_pos (by omega)]
   ·rw[if_neg e2,if_neg (by omega)]
theorem O4(l:List Int){n:Nat}(h1:1≤n)(h2:n≤15):cntW l (ord l) n=(inN l n).length:=by
 unfold cntW ord;rw[qG l h1,if_pos h2]
theorem RB(l:List Int){n j:Nat}(h:n<15)(hj:j<(inN l (n+1)).length):(ord l)[(bG l n).length+j]? =some (inN l (n+1))[j]:=by
 obtain⟨r,hr⟩:=sV l h;rw[hr,List.getElem?_append_right (by omega),Nat.add_sub_cancel_left,List.getElem?_append_left hj,List.getElem?_eq_getElem hj]
theorem zT(l:List Int)(n:Nat):(bG l (n+1)).length=(bG l n).length+(inN l (n+1)).length:=by
 rw[bG,List.length_append];rfl
theorem uM(f:Nat→Nat)(P:Nat→Bool):∀L:List Nat,((L.filter P).map f).sum=(L.map fun s=>if P s then f s else 0).sum
 |[]=>rfl
 |s::L=>by
  rw[List.map_cons,List.sum_cons,←uM f P L,List.filter_cons]
  by_cases h:P s=true
  ·rw[if_pos h,if_pos h,List.map_cons,List.sum_cons]
  ·rw[if_neg h,if_neg h,Nat.zero_add]
theorem IK(f g:Nat→Nat):∀L:List Nat,(L.map f).sum+(L.map g).sum=(L.map fun s=>f s+g s).sum
 |[]=>rfl
 |s::L=>by
  have:=IK f g L;simp only[List.map_cons,List.sum_cons];omega
theorem yL(l:List Int)(f:Nat→Nat):∀k,((bG l k).map f).sum=((List.range l.length).map fun s=>if 1≤l.getD s 0∧l.getD s 0≤(k:Int)then f s else 0).sum
 |0=>by
  have:∀L:List Nat,(L.map fun s=>if 1≤l.getD s 0∧l.getD s 0≤((0:Nat):Int)then f s else 0).sum=0:=by
   intro L
   induction L with
   |nil=>rfl
   |cons s L ih=>rw[List.map_cons,List.sum_cons,ih,if_neg (by omega)]
  rw[this];rfl
 |k+1=>by
  rw[bG,List.map_append,List.sum_append,yL l f k,ly,uM,IK]
  congr 1
  apply List.map_congr_left;intro s _
  by_cases h:l.getD s 0=((k+1:Nat):Int)
  ·rw[if_neg (by omega),if_pos (by simpa using h),if_pos (by omega),Nat.zero_add]
  ·rw[if_neg (c:=decide _=true) (by simpa using h),Nat.add_zero]
   by_cases h2:1≤l.getD s 0∧l.getD s 0≤(k:Int)
   ·rw[if_pos h2,if_pos (by omega)]
   ·rw[if_neg h2,if_neg (by omega)]
theorem Py{l:List Int}(hok:∀x∈l,0≤x∧x≤15):kp l (ord l)=ksum l:=by
 rw[Ov,ord,yL,←sJ]
 congr 1
 apply List.map_congr_left;intro s hs;have hs':=List.mem_range.1 hs;have:=hok _ (List.getElem_mem hs');rw[←gv hs']at this
 by_cases h:1≤l.getD s 0
 ·rw[if_pos ⟨h,by omega⟩]
 ·rw[if_neg (by omega)];unfold kr;rw[if_neg (by omega)]
theorem Bg(l:List Int):∀s∈ord l,(l.getD s 0).toNat≤was l (ord l):=by
 intro s hs;have hp:=kR l 15;rw[show bG l 15=ord l from rfl]at hp;generalize ord l=p at*;rcases List.eq_nil_or_concat p with e|⟨q,t,e⟩
 ·subst e;cases hs
 ·subst e;rw[List.concat_eq_append]at*;rw[lG];rcases List.mem_append.1 hs with h|h
  ·have:=(List.pairwise_append.1 hp).2.2 s h t (by simp);omega
  ·rw[List.mem_singleton.1 h];exact Nat.le_refl _
theorem Qx(l:List Int)(h:was l (ord l)≤15):bG l (was l (ord l))=ord l:=by
 have ht:=Bg l;generalize was l (ord l)=k at*;have:∀d,k+d≤15→bG l (k+d)=bG l k:=by
  intro d
  induction d with
  |zero=>intro _;rfl
  |succ d ih=>
   intro hd;rw[←Nat.add_assoc,bG,ih (by omega)];have:ly l (k+d+1) l.length=[]:=by
    apply List.eq_nil_iff_forall_not_mem.2;intro s hs;obtain⟨h1,h2⟩:=du.1 hs;have:=ht s (il.2 ⟨h1,by omega,by omega⟩);omega
   rw[this,List.append_nil]
 have:=this (15-k) (by omega);rw[show k+(15-k)=15 from by omega]at this;exact this.symm
theorem KW(l:List Int):ksum l≤many l*16384:=by
 induction l with
 |nil=>simp[ksum,many]
 |cons x l ih=>
  have:kr x≤if 0<x then 16384 else 0:=by
   unfold kr
   by_cases h:0<x
   ·rw[if_pos h,if_pos h];exact Nat.le_trans (Nat.pow_le_pow_right (by decide) (show 15-x.toNat≤14 by omega)) (by decide)
   ·rw[if_neg h,if_neg h];exact Nat.le_refl _
  have e:many (x::l)=(if 0<x then 1 else 0)+many l:=by
   unfold many
   by_cases h:0<x
   ·rw[List.filter_cons,if_pos (by simpa using h),if_pos h,List.length_cons];omega
   ·rw[List.filter_cons,if_neg (by simpa using h),if_neg h];omega
  have e2:ksum (x::l)=kr x+ksum l:=rfl;rw[e,e2]
  by_cases h:0<x
  ·rw[if_pos h]at this⊢;omega
  ·rw[if_neg h]at this⊢;omega
section
theorem Im(l:List Int):was l (ord l)≤15:=Pr (r:=[]) (by simp)
theorem Dt(l:List Int):(was l (ord l):Int)≤top l:=by
 have h0:=uH l;unfold was;cases e:(ord l).getLast? with
 |none=>exact h0
 |some t=>
  have ht:=eU (List.mem_of_getLast? e);have hm:=PV l _ (List.getElem_mem ht.1);rw[←gv ht.1]at hm;show(((l.getD t 0).toNat:Nat):Int)≤top l;omega
theorem MW{l:List Int}(hok:∀x∈l,0≤x∧x≤15)(h:was l (ord l)=0):ksum l=0:=by
 have:ord l=[]:=List.eq_nil_iff_forall_not_mem.2 fun s hs=>by
  have h1:=Bg l s hs;have h2:=eU hs;omega
 rw[←Py hok,this];rfl
theorem zR{l:List Int}(h:ksum l=32768):bR l=15:=by
 have:=KW l;unfold bR;rw[if_neg (by omega),if_neg (by omega)]
theorem mM{l:List Int}(hc:chk l=0):was l (ord l)≤bR l:=by
 obtain⟨h1,h2,h3,h4⟩:=iT hc;have hw:=Dt l;have hw15:=Im l;rcases h4 with h|h|h
 ·rw[zR h];exact hw15
 ·have:=(Cj l h2 h).2;omega
 ·have:=(pD l h2).1 h;unfold bR;rw[if_neg (by omega),if_pos this];omega
theorem N5{l:List Int}(hc:chk l=0){c:Nat}(h1:gN l (was l (ord l))≤c)(h2:c<2^was l (ord l)):bR l=was l (ord l):=by
 have hok:=oX hc;obtain⟨_,hl,_,h4⟩:=iT hc;have hw:=Dt l;have hw15:=Im l;have hlo:=mM hc;rcases h4 with h|h|h
 ·exfalso;have e:=QK l (was l (ord l)) hw15;rw[Qx l hw15,Py hok,h]at e;have e2:2^was l (ord l)*2^(15-was l (ord l))=32768:=by
   rw[←Nat.pow_add,show was l (ord l)+(15-was l (ord l))=15 from by omega]
  have:=Nat.eq_of_mul_eq_mul_right (Nat.two_pow_pos (15-was l (ord l))) (e2.trans e);omega
 ·have:bR l=0:=by unfold bR;rw[if_pos h]
  omega
 ·have ht:=(pD l hl).1 h;have:bR l=1:=by unfold bR;rw[if_neg (by omega),if_pos ht]
  by_cases h0:was l (ord l)=0
  ·have:=MW hok h0;omega
  ·omega
theorem pP(l:List Int)(s:ByteArray)(n c p:Nat):kE l s 0 n c p=(0,12,p):=rfl
theorem jo(l:List Int)(s:ByteArray)(f n c p:Nat):kE l s (f+1) n c p=if au s p 1≠0 then(0,au s p 1,p) else
 match tM l n (2*c+ax s p 1) with
 |some i=>(i,0,aK s p 1)
 |none=>kE l s f (n+1) (2*c+ax s p 1) (aK s p 1):=rfl
theorem Gb(l:List Int):(bG l 0).length=0:=rfl
theorem N6(l:List Int)(s:ByteArray)(p:Nat):kE l s (bR l-0) (0+1) 0 p=gK l s p:=rfl
attribute [local irreducible] ord was cntW inN gN tM kE bR bG
def MO(w:World)(b d:Nat)(l:List Int)(s:ByteArray)(p:Nat)(e:Ending)(w':World):Prop:=
 ∃q,gK l s p=q∧e=.returned (.tuple #[.int .i64 (q.1:Nat),.int .i64 q.2.1])∧RS w' b d s q.2.2∧But [b] w w'
theorem pY{w:World}{b d:Nat}{l:List Int}{s:ByteArray}{p x pp:Nat}{err:Int}{q:Nat×Int×Nat}{e:Ending}{w':World}(h:gK l s p=q)(h2:(x,err,pp)=q)
 (he:e=.returned (.tuple #[x,err])) (hr:RS w' b d s pp) (hB:But [b] w w'):MO w b d l s p e w':=by
 subst h2;exact⟨_,h,he,hr,hB⟩
theorem RG{w:World}{bt b d p:Nat}{l:List Int}{s:ByteArray}(hc:chk l=0)(hR:RS w b d s p)(hs:s.size≤140737489403904)(hb:∀w',But [b] w w'→TT w' bt l):
 Calls prog 175 #[.pointer bt,.pointer b] w (MO w b d l s p):=by
 have hsum:=iT hc;have hlo:=mM hc;have hlen:=vA l;have hwok:=Im l;obtain⟨h288,-,-,-⟩:=hsum;have HC:=qhz hc;have HR:=qhz hR;have HB:=qhz hb;clear hc hR hb
 go_enter func175,ntmps175
 go_wp2
 go_loopw [6,7,8,9] (fun cv fv bv nv wr=>∃n c p1:Nat,n≤was l (ord l)∧cv=.int .i64 c∧fv=.int .i64 (2*gN l n:Nat)∧bv=.int .i64 ((bG l n).length:Nat)∧nv=.int .i64 (n+1:Nat)∧gN l n≤c∧c<2^n∧
  kE l s (bR l-n) (n+1) c p1=gK l s p∧RS wr b d s p1∧But [b] w wr) (fun _ _ _ nv _=>(17-intOf nv).toNat)
 case atStart=>
  exact⟨0,0,p,Nat.zero_le _,rfl,by rw[Lk];rfl,by rw[Gb];rfl,rfl,by rw[Lk];exact Nat.le_refl _,by decide,N6 _ _ _,HR.out,But.refl _ _⟩
 case round=>
  obtain⟨n,c,p1,hn,rfl,rfl,rfl,rfl,hc1,hc2,hG,hR1,hB1⟩:=hrel;obtain⟨Ao,co,Al,cl,Ac,cc,hI,hIo,_,_⟩:=HB.out _ hB1;have k17:wr.cell? ⟨bt,17,none⟩=some (.int .i64 (was l (ord l):Nat)):=hI.cell 17;clear HR hI hIo;generalize hNS:gK l s p=q at*;have HNS:=qhz hNS;clear hNS;have HG:=qhz hG;have HC1:=qhz hc1;have HC2:=qhz hc2;clear hG hc1 hc2;have hend:n=was l (ord l)→bR l=n:=fun e=>by
   have h1:=HC1.out;have h2:=HC2.out;rw[e]at h1 h2⊢;exact N5 HC.out h1 h2
  have HEND:=qhz hend;clear hend
  by_cases hlt:n<was l (ord l)
  ·have hn14:n<15:=by omega
   have hpow:=Nat.pow_le_pow_right (n:=2) (by decide) (show n≤14 by omega);have hc14:c<16384:=by have:=HC2.out;omega
   have hG14:gN l n≤c:=HC1.out;have hsucc:=CG l n hn14;have hcnt:cntW l (ord l) (n+1)=(inN l (n+1)).length:=O4 l (by omega) (by omega);have hmle:=Mf l (ord l) (n+1);have hbl:=zT l n;have hbl288:(bG l n).length≤288:=by
    obtain⟨r,hr⟩:=sV l hn14;have:=congrArg List.length hr;rw[List.length_append]at this;omega
   have hm288:cntW l (ord l) (n+1)≤288:=by omega
   obtain⟨f,hf⟩:∃f,bR l-n=f+1:=⟨bR l-n-1,by omega⟩
   have hnx:kE l s (f+1) (n+1) c p1=q:=by rw[←hf];exact HG.out
   have hf2:bR l-(n+1)=f:=by omega
   have hbits:=hR1.bits_w hs 1;have hv2:ax s p1 1<2:=by
    unfold ax;split
    ·exact o6 _ _ 1
    ·decide
   clear HG hf hR1 hpow;rw[jo]at hnx
   by_cases hE:au s p1 1=0
   ·rw[if_neg (by simpa using hE)]at hnx;rw[hE]at hbits;have hgo:2*c+ax s p1 1<2^(n+1):=by have:=HC2.out;rw[Nat.pow_succ];omega
    have hfound:=fun j (hj:j<(inN l (n+1)).length)=>vK (l:=l) (n:=n) (j:=j) hn14 hj;have hnone:=vL (l:=l) (n:=n) (c:=2*c+ax s p1 1) hn14;have hidx:=fun j (hj:j<(inN l (n+1)).length)=>RB l (n:=n) (j:=j) hn14 hj;generalize ax s p1 1=v at*;generalize aK s p1 1=p2 at*;have HBITS:=qhz hbits;have HNX:=qhz hnx;have HFO:=qhz hfound;have HNO:=qhz hnone;have HIX:=qhz hidx;have HGO:=qhz hgo;have HSU:=qhz hsucc;have HCNT:=qhz hcnt;have HBL:=qhz hbl;have HE:=qhz hE;clear hbits hnx hfound hnone hidx hgo hsucc hcnt hbl hE;generalize hK:was l (ord l)=K at*;generalize hG:gN l n=G at*;generalize hBL:(bG l n).length=BL at*;have HK:=qhz hK;have HGG:=qhz hG;have HBB:=qhz hBL;generalize hm0:cntW l (ord l) (n+1)=m at*;generalize hOL:(ord l).length=OL at*;generalize hLL:l.length=LL at*;have HM0:=qhz hm0;have HOL:=qhz hOL;have HLO:=qhz hlo;have HF2:=qhz hf2;have HMLE:=qhz hmle;have HLEN:=qhz hlen;have HWOK:=qhz hwok;have HSZ:=qhz hs;clear hK hG hBL hm0 hOL hlo hf2 hLL hmle hlen hwok hs
    go_wp2_with fail
    refine HBITS.out.mono ?_;rintro e w2 ⟨rfl,hR2,hB2⟩;have hB3:=hB1.trans hB2;obtain⟨Ao,co,Al,cl,Ac,cc,hI,hIo,_,_⟩:=HB.out _ hB3;have qn:w2.cell? ⟨bt,1+(n+1),none⟩=some (.int .i64 (m:Nat)):=by
     rw[←HM0.out];exact(hI.cell (1+(n+1))).trans (DA _ _ _ _ _ _ (by omega))
    have q0:w2.cell? ⟨bt,0,none⟩=some (.slice Ao OL co):=by
     rw[←HOL.out];exact hI.cell 0
    have n0:(0:Int)≤((n+1:Nat):Int):=by omega
    have n1:((n+1:Nat):Int)<16:=by omega
    have HR2:=qhz hR2;have HIO:=qhz hIo;clear hI hIo hR2 k17
    by_cases hfd:2*c+v<2*G+m
    ·obtain⟨j,hj⟩:∃j,2*c+v=2*G+j:=⟨2*c+v-2*G,by omega⟩
     have hjm:j<(inN l (n+1)).length:=by have:=HCNT.out;omega
     have hx:=HIX.out j hjm;obtain⟨hlt2,hx2⟩:=List.getElem?_eq_some_iff.1 hx;obtain⟨g,o,rfl,hg,hcell⟩:=HIO.out.at hlt2;rw[List.getElem_map,hx2]at hcell;have hfo:=HFO.out j hjm;have hnx:=HNX.out;rw[hj,hfo]at hnx;have hbj:BL+j<OL:=by have:=HOL.out;omega
     generalize(inN l (n+1))[j]=x at*;have HX:=qhz hnx;have ei:((BL:Int)+((c:Int)*2+(v:Int))-((2*G:Nat):Int))=((BL+j:Nat):Int):=by omega
     have t0:(0:Int)≤((BL+j:Nat):Int):=by omega
     have t1:((BL+j:Nat):Int)<(OL:Int):=by omega
     have tl:decide ((c:Int)*2+(v:Int)<2*(G:Int)+(m:Int))=true:=by simp;omega
     rw[show BL+j=BL+(c*2+v)-2*G from by omega]at hcell;clear hnx hfo hx hlt2 hx2 hjm;go_wp2
     go_ret2
     exact pY HNS.out HX.out rfl HR2.out hB3
    ·have hsu:=HSU.out;have hcn:=HCNT.out;have hno:=HNO.out (.inr (by omega));have hnx:=HNX.out;rw[hno]at hnx;have HX:=qhz hnx;have hfd2:2*G+m≤2*c+v:=by omega
     have tl:decide ((c:Int)*2+(v:Int)<2*(G:Int)+(m:Int))=false:=by simp;omega
     clear hnx hno hsu hcn hfd;go_wp2
     go_roundw
     case rel=>
      have hsu:=HSU.out;have hcn:=HCNT.out;have hbl:=HBL.out;refine⟨n+1,2*c+v,p2,by omega,?_,?_,?_,?_,by omega,HGO.out,?_,HR2.out,hB3⟩
      ·congr 1;omega
      ·congr 1;omega
      ·congr 1;omega
      ·congr 1
      ·rw[HF2.out];exact HX.out
     case measure=>simp[intOf];omega
   ·rw[if_pos hE]at hnx;have hgo:aK s p1 1=p1:=by unfold aK;rw[if_neg hE]
    rw[hgo]at hbits;have hv0:ax s p1 1=0:=by unfold ax;rw[if_neg hE]
    have hEb:(au s p1 1 !=0)=true:=by simpa using hE
    generalize ax s p1 1=v at*;generalize au s p1 1=E at*;have HBITS:=qhz hbits;have HNX:=qhz hnx;clear hbits hnx hsucc hcnt hbl hgo hmle;generalize was l (ord l)=K at*;generalize gN l n=G at*;generalize(bG l n).length=BL at *
    go_wp2_with fail
    refine HBITS.out.mono ?_;rintro e w2 ⟨rfl,hR2,hB2⟩;have HR2:=qhz hR2;clear hR2;go_wp2
    go_ret2
    exact pY HNS.out HNX.out rfl HR2.out (hB1.trans hB2)
  ·have hnk:n=was l (ord l):=by omega
   have hle:=HEND.out hnk;have hfin:=HG.out;rw[hle,Nat.sub_self,pP]at hfin;have HF:=qhz hfin;have HR1:=qhz hR1;generalize was l (ord l)=K at*;generalize gN l n=G at*;generalize(bG l n).length=BL at*;subst hnk;clear hfin HG hR1 hle hlt HEND hlo;go_wp2
   go_ret2
   exact pY HNS.out HF.out rfl HR1.out hB1
end
theorem Rf(c i:Nat):(((c:Nat):Int)/2^i%2^(1:Int).toNat).toNat=c/2^i%2:=by
 have e:((2:Int)^i)=((2^i:Nat):Int):=by simp
 rw[e];generalize 2^i=q;have:(1:Int).toNat=1:=rfl;rw[this];omega
theorem KV(c i X N:Nat):layG c (i+1) X N=layG c i (X+(c/2^i%2)*2^N) (N+1):=by
 rw[layG,ry];unfold layX;rw[if_neg (by omega),Rf]
theorem tE(c:Nat):∀n X N,X<2^N→(layG c n X N).1<2^(N+n)∧(layG c n X N).1%2^N=X∧∀i,i<n→bK (layG c n X N).1 (N+i) 1=c/2^(n-1-i)%2
 |0,X,N,h=>⟨h,Nat.mod_eq_of_lt h,fun i hi=>absurd hi (Nat.not_lt_zero _)⟩
 |n+1,X,N,h=>by
  rw[KV];have hb:c/2^n%2<2:=Nat.mod_lt _ (by decide);generalize hB:c/2^n%2=b at*;have hX1:X+b*2^N<2^(N+1):=by
   rw[Nat.pow_succ];have:=Nat.mul_le_mul_right (2^N) (show b≤1 by omega);omega
  obtain⟨h1,h2,h3⟩:=tE c n (X+b*2^N) (N+1) hX1;generalize(layG c n (X+b*2^N) (N+1)).1=r at*;refine⟨by rw[show N+(n+1)=N+1+n from by omega];exact h1,?_,fun i hi=>?_⟩
  ·have:r%2^N=r%2^(N+1)%2^N:=by rw[Nat.pow_succ,Nat.mod_mul_right_mod]
   rw[this,h2,Nat.add_mul_mod_self_right,Nat.mod_eq_of_lt h]
  ·cases i with
   |zero=>
    rw[Nat.add_zero,←jH r N 1 (N+1) (Nat.le_refl _),h2];unfold bK;rw[Nat.add_mul_div_right _ _ (Nat.two_pow_pos N),Nat.div_eq_of_lt h,Nat.zero_add,show n+1-1-0=n from by omega,hB];omega
   |succ i=>
    rw[show N+(i+1)=N+1+i from by omega,h3 i (by omega),show n+1-1-(i+1)=n-1-i from by omega]
theorem PC{l:List Int}(hc:chk l=0){s:Int}(h:has l s):∃n j,∃hj:j<(inN l (n+1)).length,n<15∧(inN l (n+1))[j]=s.toNat∧l.getD s.toNat 0=((n+1:Nat):Int)∧(fI l).getD s.toNat 0=((2*gN l n+j:Nat):Int):=by
 have hok:=oX hc;obtain⟨h0,h1,h2⟩:0≤s∧s<l.length∧l.getD s.toNat 0≠0:=h;have hl:s.toNat<l.length:=by omega
 have hx:=hok _ (List.getElem_mem hl);rw[←gv hl]at hx;obtain⟨n,hn⟩:∃n:Nat,l.getD s.toNat 0=((n+1:Nat):Int):=⟨(l.getD s.toNat 0).toNat-1,by omega⟩
 obtain⟨j,hj,e⟩:=List.getElem_of_mem (show s.toNat∈inN l (n+1)from du.2 ⟨hl,hn⟩);have hcode:=tZ (l:=l) (n:=n) (j:=j) (by omega) hj;rw[e]at hcode;exact⟨n,j,hj,by omega,e,hn,hcode⟩
theorem Ll(l:List Int)(m:Nat):∀k,m+k≤15→gN l m*2^k≤gN l (m+k)
 |0,_=>by simp
 |k+1,h=>by
  have:=Ll l m k (by omega);rw[←Nat.add_assoc,CG l (m+k) (by omega),Nat.pow_succ,←Nat.mul_assoc];omega
theorem Hi{l:List Int}(hc:chk l=0){t n c:Nat}(ht:t<l.length)(hl:l.getD t 0=((n+1:Nat):Int))(hn:n<15)(hcode:(fI l).getD t 0=(c:Int)):c<2^(n+1):=by
 have hm:t∈ord l:=il.2 ⟨ht,by omega,by omega⟩;obtain⟨p,r,h⟩:=List.append_of_mem hm;have h1:=C0 h (iT hc).2.2.1;have h2:=Mc h;rw[hcode]at h2;rw[hl]at h1 h2;rw[Int.toNat_natCast]at h1 h2;have:c=kp l p/2^(15-(n+1)):=by exact_mod_cast h2
 omega
theorem Ge{l:List Int}(hc:chk l=0){s:ByteArray}{t n j p:Nat}(hn:n<15)(hj:j<(inN l (n+1)).length)(ht:(inN l (n+1))[j]=t)
 (hb:∀i,i<n+1→au s (p+i) 1=0∧ax s (p+i) 1=(2*gN l n+j)/2^(n-i)%2):gK l s p=(t,0,p+(n+1)):=by
 have hlen:=(pW (List.getElem_mem hj))
 rw[ht]at hlen;have hcode:=tZ (l:=l) hn hj;rw[ht]at hcode;have hsm:=Hi hc hlen.1 hlen.2 hn hcode;have hlo:n+1≤bR l:=by
  have h1:=Bg l t (il.2 ⟨hlen.1,by omega,by omega⟩);have h2:=mM hc;omega
 have main:∀d i,i+d=n→kE l s (bR l-i) (i+1) ((2*gN l n+j)/2^(n+1-i)) (p+i)=(t,0,p+(n+1)):=by
  intro d
  induction d with
  |zero=>
   intro i hi;obtain rfl:i=n:=by omega
   obtain⟨h1,h2⟩:=hb i (by omega);rw[show bR l-i=(bR l-(i+1))+1 from by omega,jo,if_neg (by simp[h1]),h2];have e:2*((2*gN l i+j)/2^(i+1-i))+(2*gN l i+j)/2^(i-i)%2=2*gN l i+j:=by
    rw[Nat.sub_self,Nat.pow_zero,Nat.div_one,show i+1-i=1 from by omega];omega
   rw[e,vK hn hj];show((inN l (i+1))[j],(0:Int),aK s (p+i) 1)=_;rw[ht];unfold aK;rw[if_pos h1];rfl
  |succ d ih=>
   intro i hi;obtain⟨h1,h2⟩:=hb i (by omega);rw[show bR l-i=(bR l-(i+1))+1 from by omega,jo,if_neg (by simp[h1]),h2];have e:2*((2*gN l n+j)/2^(n+1-i))+(2*gN l n+j)/2^(n-i)%2=(2*gN l n+j)/2^(n+1-(i+1)):=by
    rw[show n+1-i=(n-i)+1 from by omega,show n+1-(i+1)=n-i from by omega,Nat.pow_succ,←Nat.div_div_eq_div_mul];omega
   have hno:tM l (i+1) ((2*gN l n+j)/2^(n+1-(i+1)))=none:=by
    apply vL (by omega);right;rw[Nat.le_div_iff_mul_le (Nat.two_pow_pos _)];have h3:=Ll l (i+1) (n-(i+1)) (by omega);rw[show i+1+(n-(i+1))=n from by omega]at h3;rw[show n+1-(i+1)=(n-(i+1))+1 from by omega,Nat.pow_succ,←Nat.mul_assoc];omega
   rw[e,hno];show kE l s (bR l-(i+1)) (i+1+1) _ (aK s (p+i) 1)=_;have eg:aK s (p+i) 1=p+(i+1):=by unfold aK;rw[if_pos h1];rfl
   rw[eg];exact ih (i+1) (by omega)
 have h:=main n 0 (by omega);rw[Nat.sub_zero,Nat.sub_zero,Nat.div_eq_of_lt hsm]at h;exact h
theorem KT{l:List Int}(hc:chk l=0){s:Int}{X N:Nat}(hX:X<2^N):(layS l s X N).1<2^(layS l s X N).2∧(layS l s X N).1%2^N=X∧N≤(layS l s X N).2:=by
 unfold layS
 by_cases h:has l s
 ·rw[if_pos h];obtain⟨n,j,hj,hn,_,hl,hcode⟩:=PC hc h;rw[hcode];have:=tE (2*gN l n+j) (l.getD s.toNat 0).toNat X N hX;have e:=lZ ((2*gN l n+j:Nat):Int) (l.getD s.toNat 0).toNat X N;rw[e];exact⟨this.1,this.2.1,by omega⟩
 ·rw[if_neg h];exact⟨hX,Nat.mod_eq_of_lt hX,Nat.le_refl _⟩
theorem vq(X N:Nat)(h:X<2^N):num (eX X N).data.toList=X:=by
 have:(eX X N).data.toList=gI ((N+7)/8) X:=rfl;rw[this,Cl,p256];exact Nat.mod_eq_of_lt (Nat.lt_of_lt_of_le h (Nat.pow_le_pow_right (by decide) (by omega)))
end Go.Proofs.YtbanopnofpjnbaaGreatDoor
