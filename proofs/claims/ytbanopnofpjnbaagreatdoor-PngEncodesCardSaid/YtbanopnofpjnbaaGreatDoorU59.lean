/- Own texts in one: RLimit. -/
import Derived.Test.YtbanopnofpjnbaaGreatDoorU16
import Derived.Test.YtbanopnofpjnbaaGreatDoorU52
set_option maxRecDepth 1000000
set_option linter.unusedVariables false
set_option maxHeartbeats 4000000
namespace Go.Proofs.YtbanopnofpjnbaaGreatDoor
open Go Go.RowKit Tryz
theorem g8(n i:Nat)(h:i<n):(ap n)[i]? =some (.int .i64 0):=by
 unfold ap madeCells;have e:(Value.int .i64 0).cells=#[.int .i64 0]:=rfl;rw[e];simp[h,Nat.mod_one]
theorem kI(n:Nat):(ap n).size=n:=by unfold ap;rw[size_madeCells];omega
def NewThing(w W:World)(len x:Nat)(b:Bool)(v:Value):Prop:=∃gc gt,v=.pointer (some ⟨gc,0,none⟩)∧w.heap.size≤gc∧w.heap.size≤gt∧gc≠gt∧
 Is W gc 201 #[x,b,.slice (some ⟨gt,0,none⟩) len len]∧Is W gt 3 (ap len)∧But [] w W
theorem NewThing.a(w:World)(len x:Nat)(b:Bool):NewThing w ((w.alloc (.cells (ap len) 3)).alloc (.cells #[x,b,.slice w.heap.size len len] 201)).drew len x b (.pointer (some ⟨w.heap.size+1,0,none⟩)):=by
 have h:=Is.fresh (w.alloc (.cells (ap len) 3)) 201 #[x,b,.slice w.heap.size len len];rw[show(w.alloc (.cells (ap len) 3)).heap.size=w.heap.size+1 from by simp]at h;exact⟨w.heap.size+1,w.heap.size,rfl,by omega,by omega,by omega,h.drew,((Is.fresh w 3 (ap len)).alloc _).drew,(((But.refl [] w).alloc _).alloc _).drew⟩
theorem NewThing.b(w:World)(len x:Nat)(b:Bool):NewThing w ((w.alloc (.cells #[x,b,.slice (some ⟨w.heap.size+1,0,none⟩) len len] 201)).alloc (.cells (ap len) 3)).drew len x b (.pointer w.heap.size):=by
 have h:=Is.fresh (w.alloc (.cells #[x,b,.slice (some ⟨w.heap.size+1,0,none⟩) len len] 201)) 3 (ap len);rw[show(w.alloc (.cells #[x,b,.slice (some ⟨w.heap.size+1,0,none⟩) len len] 201)).heap.size=w.heap.size+1 from by simp]at h;exact⟨w.heap.size,w.heap.size+1,rfl,by omega,by omega,by omega,((Is.fresh w 201 _).alloc _).drew,h.drew,(((But.refl [] w).alloc _).alloc _).drew⟩
theorem Iu{w:World}{gt len k:Nat}(h:Is w gt 3 ((ap len).setIfInBounds k (.int .i64 1))):Ints w (some ⟨gt,0,none⟩) len (mJ len k):=by
 have hl:(mJ len k).length=len:=by simp[mJ]
 refine Ints.of h hl fun i hi=>?_;have hi':i<len:=by omega
 rw[←lz hi,lI];rw[Array.getElem?_setIfInBounds]
 by_cases e:k=i
 ·subst e;rw[if_pos rfl,if_pos (by rw[kI];exact hi'),if_pos ⟨rfl,hi'⟩]
 ·rw[if_neg e,g8 _ _ hi',if_neg (fun h=>e h.1)]
theorem Things.take{w:World}{A:Option Addr}{n len sp:Nat}{L:List Th}(h:Things w A n len L)(hs:sp≤n):Things w A sp len (L.take sp):=by
 refine⟨by have:=h.1;simp;omega,fun h0=>?_,fun x hx=>h.2.2 x (List.mem_of_mem_take hx)⟩;obtain⟨g,o,e,hg,hc⟩:=h.2.1 (by omega);exact⟨g,o,e,hg,fun i hi=>by
  have hi':i<L.length:=by simp at hi;omega
  rw[List.getElem_take];exact hc i hi'⟩
theorem Things.drop{w:World}{g o n len sp:Nat}{L:List Th}(h:Things w (some ⟨g,o,none⟩) n len L)(hs:sp≤n):Things w (some ⟨g,o+sp*3,none⟩) (n-sp) len (L.drop sp):=by
 refine⟨by have:=h.1;simp;omega,fun h0=>?_,fun x hx=>h.2.2 x (List.mem_of_mem_drop hx)⟩;obtain⟨g',o',e,hg,hc⟩:=h.2.1 (by omega);injection e with e;injection e with e1 e2;subst e1 e2;refine⟨g,o+sp*3,rfl,hg,fun i hi=>?_⟩;have hi':sp+i<L.length:=by simp at hi;omega
 rw[List.getElem_drop];have:=hc (sp+i) hi';rw[show o+sp*3+i*3=o+(sp+i)*3 from by rw[Nat.add_mul];omega];exact this
theorem Things.news'{w:World}{ad:Addr}{n len:Nat}{L:List Th}(h:Things w (some ad) n len L):∀j u,(aM len L)[j]? =some u→w.cell? (ad.add j)=some u:=by
 by_cases hn:0<n
 ·obtain⟨g,o,e,_⟩:=h.2.1 hn;injection e with e;subst e;exact h.news hn
 ·intro j u hu;have:L=[]:=List.eq_nil_of_length_eq_zero (by have:=h.1;omega);subst this;simp[aM]at hu
theorem rU(len:Nat)(L:List Th):∀u∈aM len L,u.oneCell'=true:=by
 intro u hu;obtain⟨x,_,hx⟩:=List.mem_flatMap.1 hu;simp only[List.mem_cons,List.not_mem_nil,or_false]at hx;rcases hx with rfl|rfl|rfl<;>rfl
theorem OwnT.joined{w wr w':World}{len m:Nat}{v v':Value}{L X:List Th}(hB:But [] w wr)(hO:OwnT wr w.heap.size len v L)(hm:X.length=m)
 (h1:w'.ownsRow w.heap.size 201 3 v' (L.length+m) (aM len L++aM len X)) (hg:wr.grownBy w' v.ownBlock):OwnT w' w.heap.size len v' (L++X)∧But [] w w':=by
 subst hm;refine⟨?_,hB.grown hg (fun g e=>.inr (hO.lt g e).1)⟩;unfold OwnT;rw[List.length_append,mu];exact h1
theorem OwnT.state{w:World}{base len:Nat}{v:Value}{L:List Th}(h:OwnT w base len v L)(hv:Vecs w len L):∃A c,v=.slice A L.length c∧L.length≤c∧(A=none→c=0)∧Things w A L.length len L∧∀a,A=Option.some a→base≤a.block:=by
 have h':=h;unfold OwnT at h';rcases h'.2 with⟨rfl,e⟩|⟨g,cap,cur,rfl,hg,hh,hcap,r⟩
 ·have:L=[]:=List.eq_nil_of_length_eq_zero e;subst this;exact⟨none,0,rfl,Nat.le_refl _,fun _=>rfl,Things.nil _ _ _,fun a e=>by cases e⟩
 ·obtain⟨A,c,e1,hT⟩:=h.open hv;injection e1 with e1 e2 e3;subst e1 e3;exact⟨_,_,rfl,hcap,fun e=>(by cases e),hT,fun a e=>(by injection e with e;rw[←e];exact hg)⟩
theorem OwnT.some{w:World}{base len:Nat}{v:Value}{L:List Th}(h:OwnT w base len v L)(h0:0<L.length):∃g c,v=.slice (some ⟨g,0,none⟩) L.length c∧L.length≤c∧base≤g:=by
 unfold OwnT at h;rcases h.2 with⟨_,e⟩|⟨g,cap,cur,e,hg,hh,hcap,r⟩
 ·omega
 ·exact⟨g,cap,e,hcap,hg⟩
theorem zG{w:World}{base g n:Nat}{cs:Array Value}{r:List Int}(h:Is w g 3 cs)(hb:base≤g)(hn:r.length=n)(hm:n≤maxLen)(hc:cs.toList=r.map (.int .i64)):OwnI w base (.slice g n n) r:=by
 subst hn;have hs:cs.size=r.length:=by rw[←Array.length_toList,hc,List.length_map]
 exact⟨by simp,.inr ⟨g,r.length,cs,rfl,hb,h,Nat.le_refl _,hm,by omega,by rw[hc,Nat.mul_one,List.take_of_length_le (by simp)]⟩⟩
theorem qq(n:Nat):(ap n).toList=(List.replicate n (0:Int)).map (.int .i64):=by
 apply List.ext_getElem?;intro i;rw[Array.getElem?_toList]
 by_cases h:i<n
 ·rw[g8 n i h,List.getElem?_map,List.getElem?_eq_getElem (by simpa using h)];simp
 ·rw[Array.getElem?_eq_none (by rw[kI];omega),List.getElem?_map,List.getElem?_eq_none (by simpa using h)];rfl
theorem It(n k:Nat):((ap n).setIfInBounds k (.int .i64 1)).toList=(mJ n k).map (.int .i64):=by
 rw[Array.toList_setIfInBounds,qq];unfold mJ;rw[List.map_set]
def jt(n s:Nat)(u v:List Int):Array Value:=((List.range n).map fun i=>Value.int .i64 (if i<s then u.getD i 0+v.getD i 0 else 0)).toArray
theorem jq{n s i:Nat}{u v:List Int}(h:i<n):(jt n s u v)[i]? =some (.int .i64 (if i<s then u.getD i 0+v.getD i 0 else 0)):=by
 unfold jt;simp[h]
theorem Co(n:Nat)(u v:List Int):jt n 0 u v=ap n:=by
 apply Array.toList_inj.1;rw[qq];unfold jt;simp[List.map_const']
theorem Gh{n s:Nat}{u v:List Int}(h:s<n):(jt n s u v).setIfInBounds s (.int .i64 (u.getD s 0+v.getD s 0))=jt n (s+1) u v:=by
 apply Array.toList_inj.1;apply List.ext_getElem?;intro i;rw[Array.getElem?_toList,Array.getElem?_toList,Array.getElem?_setIfInBounds];have hs:(jt n s u v).size=n:=by unfold jt;simp
 by_cases hi:i<n
 ·by_cases e:s=i
  ·subst e;rw[if_pos rfl,if_pos (by omega),jq hi,if_pos (by omega)]
  ·rw[if_neg e,jq hi,jq hi]
   by_cases h1:i<s
   ·rw[if_pos h1,if_pos (by omega)]
   ·rw[if_neg h1,if_neg (by omega)]
 ·have hs2:(jt n (s+1) u v).size=n:=by unfold jt;simp
  rw[if_neg (by omega),Array.getElem?_eq_none (by omega),Array.getElem?_eq_none (by omega)]
theorem Cp{w:World}{g n:Nat}{u v:List Int}(h:Is w g 3 (jt n n u v))(hu:u.length=n)(hv:v.length=n):Ints w (some ⟨g,0,none⟩) n (addV u v):=by
 have hl:(addV u v).length=n:=by simp[addV,hu,hv]
 refine Ints.of h hl fun i hi=>?_;have hi':i<n:=by omega
 rw[jq hi',if_pos hi',←lz hi,uo (hu.trans hv.symm)]
def Sc(lo:Nat)(A:Option Addr)(L:List Th):Prop:=(∀a,A=some a→lo≤a.block)∧∀x∈L,∀a,x.a=some a→lo≤a.block
def VecsT(w:World)(base len:Nat)(P:List Th):Prop:=∀y∈P,∃gt cs,y.a=some ⟨gt,0,none⟩∧base≤gt∧Is w gt 3 cs∧Ints w y.a len y.v
theorem VecsT.but{w w':World}{base len:Nat}{P:List Th}(h:VecsT w base len P){S:List Nat}(hw:But S w w')(hS:∀g cs,Is w g 3 cs→g∉S):VecsT w' base len P:=fun y hy=>by
 obtain⟨gt,cs,e,hb,hi,hv⟩:=h y hy;refine⟨gt,cs,e,hb,hi.but hw (hS gt cs hi),hv.but hw fun k hk a ea hab=>?_⟩;rw[e]at ea;injection ea with ea;subst ea;exact hS gt cs hi (by rw[show gt=k from hab];exact hk)
theorem VecsT.vecs{w:World}{base len:Nat}{P:List Th}(h:VecsT w base len P):Vecs w len P:=fun y hy=>by
 obtain⟨_,_,_,_,_,hv⟩:=h y hy;exact hv
def yq(wo wr:World)(len:Nat)(T:List Tg)(q:Nat)(v:Value):Prop:=∃P:List Th,OwnT wr wo.heap.size len v P∧VecsT wr wo.heap.size len P∧P.map Th.t=(prT T).take q∧But [] wo wr
def R7(w1 wr:World)(len:Nat)(T:List Tg)(v:Value):Prop:=∃(A:Option Addr) (n' c:Nat) (L:List Th),v=.slice A n' c∧n'=L.length∧L.map Th.t=T∧Things wr A n' len L∧Sc w1.heap.size A L∧But [] w1 wr
def sumT(T:List Tg)(i s:Nat):Int:=((T.take i).map fun x=>x.2.getD s 0).sum
def jc(T:List Tg)(n i s:Nat):Array Value:=((List.range n).map fun x=>Value.int .i64 (if x<s then sumT T (i+1) x else sumT T i x)).toArray
theorem eZ{T:List Tg}{n i s x:Nat}(h:x<n):(jc T n i s)[x]? =some (.int .i64 (if x<s then sumT T (i+1) x else sumT T i x)):=by unfold jc;simp[h]
theorem eP(T:List Tg)(n i s:Nat):(jc T n i s).size=n:=by unfold jc;simp
theorem Fd{T:List Tg}{n i s:Nat}(h:s<n):(jc T n i s).setIfInBounds s (.int .i64 (sumT T (i+1) s))=jc T n i (s+1):=by
 apply Array.toList_inj.1;apply List.ext_getElem?;intro x;rw[Array.getElem?_toList,Array.getElem?_toList,Array.getElem?_setIfInBounds]
 by_cases hx:x<n
 ·by_cases e:s=x
  ·subst e;rw[if_pos rfl,if_pos (by rw[eP];exact h),eZ hx,if_pos (by omega)]
  ·rw[if_neg e,eZ hx,eZ hx]
   by_cases h1:x<s
   ·rw[if_pos h1,if_pos (by omega)]
   ·rw[if_neg h1,if_neg (by omega)]
 ·rw[if_neg (by omega),Array.getElem?_eq_none (by rw[eP];omega),Array.getElem?_eq_none (by rw[eP];omega)]
theorem Bq(T:List Tg)(n i:Nat):jc T n i n=jc T n (i+1) 0:=by
 apply Array.toList_inj.1;apply List.ext_getElem?;intro x;rw[Array.getElem?_toList,Array.getElem?_toList]
 by_cases hx:x<n
 ·rw[eZ hx,eZ hx,if_pos hx,if_neg (by omega)]
 ·rw[Array.getElem?_eq_none (by rw[eP];omega),Array.getElem?_eq_none (by rw[eP];omega)]
theorem Bp(T:List Tg)(n:Nat):jc T n 0 0=ap n:=by
 apply Array.toList_inj.1;apply List.ext_getElem?;intro x;rw[Array.getElem?_toList,Array.getElem?_toList]
 by_cases hx:x<n
 ·rw[eZ hx,g8 _ _ hx,if_neg (by omega)];rfl
 ·rw[Array.getElem?_eq_none (by rw[eP];omega),Array.getElem?_eq_none (by rw[kI];omega)]
theorem IL{T:List Tg}{i s:Nat}(h:i<T.length):sumT T (i+1) s=sumT T i s+T[i].2.getD s 0:=by
 unfold sumT;rw[List.take_succ_eq_append_getElem h,List.map_append,List.sum_append];simp
theorem Br{T:List Tg}{n i:Nat}{r:List Int}(hr:r.length=n)(h:∀s,s<n→sumT T i s=r.getD s 0):(jc T n i 0).toList=r.map (.int .i64):=by
 apply List.ext_getElem?;intro x;rw[Array.getElem?_toList]
 by_cases hx:x<n
 ·rw[eZ hx,if_neg (by omega),h x hx,List.getElem?_map,List.getElem?_eq_getElem (by omega),lz (by omega)];rfl
 ·rw[Array.getElem?_eq_none (by rw[eP];omega),List.getElem?_map,List.getElem?_eq_none (by omega)];rfl
def up(w1 wr:World)(len:Nat)(l:List Int)(k n:Nat)(v:Value):Prop:=∃(A:Option Addr) (n' c:Nat) (L:List Th),v=.slice A n' c∧n'=L.length∧n'≤c∧(A=none→c=0)∧L.map Th.t=(csOf l k).map (ms len)∧
 Things wr A n' len L∧Sc w1.heap.size A L∧But [] w1 wr∧(n=1→csOf l k=[])
theorem pF{w:World}{A:Option Addr}{len cap M:Nat}{l:List Int}(hl:Ints w A len l)(hM1:1≤M)(hM2:M≤15)(h288:len≤288)(hok:cu l=true)(hp:(csOf l len).length≤2^M):
 Calls prog 125 #[M,.slice A len cap] w (qo w len (lims M l)):=by
 have hlen:=hl.1;have hmk:=eF len (by omega);have HL:=qhz hl;have HLEN:=qhz hlen;have HOK:=qhz hok;have HP:=qhz hp;have HMK:=qhz hmk;have d0:decide (288<len)=false:=by simp;omega
 have d1:decide ((M:Int)<1)=false:=by simp;omega
 have d2:decide ((15:Int)<(M:Int))=false:=by simp;omega
 have d3:decide ((288:Int)<(len:Int))=false:=by simp;omega
 clear hl hlen hok hp hmk
 go_enter func125,ntmps125
 go_wp2;clear d0 d3
 go_loop [6,7] (fun mv iv=>∃k:Nat,k≤len∧iv=.int .i64 k∧mv=.int .i64 (csOf l k).length) (fun _ iv=>len-(intOf iv).toNat)
 case atStart=>exact⟨0,Nat.zero_le _,rfl,rfl⟩
 case round=>
  obtain⟨k,hk,rfl,rfl⟩:=hrel;have hcl:=dc l k;have hce:=gi l k
  by_cases hlt:k<len
  ·obtain⟨g,o,rfl,hg,hc⟩:=HL.out.at hlt;have hgd:l.getD k 0=l[k]'(by have:=HLEN.out;omega):=lz _;have hr:=tW HOK.out k;have hs:(csOf l (k+1)).length=if 0<l.getD k 0 then(csOf l k).length+1 else(csOf l k).length:=by
    rw[gi,gi];show(if 0<l.getD k 0 then _ else _:List (Nat×Nat)).length=_;split
    ·simp
    ·rfl
   rw[hgd]at hr hs;generalize l[k]'(by have:=HLEN.out;omega)=x at*;have HS:=qhz hs;have hb:(csOf l k).length≤288:=by omega
   have n0:decide (x<0)=false:=by simp;omega
   have n1:decide ((1000000000:Int)<x)=false:=by simp;omega
   generalize(csOf l k).length=c at*;clear hcl hce hs hgd
   by_cases hx:0<x
   ·go_wp2
    go_round
    case rel=>exact⟨k+1,by omega,by go_num,by rw[HS.out,if_pos hx];go_num⟩
    case measure=>simp[intOf];omega
   ·go_wp2
    go_round
    case rel=>exact⟨k+1,by omega,by go_num,by rw[HS.out,if_neg hx]⟩
    case measure=>simp[intOf];omega
  ·have hke:len=k:=by omega
   subst hke;obtain⟨n,hn⟩:=E1 ((csOf l len).length);have HN:=qhz hn;rw[←hn]at hce⊢;have hn288:n≤288:=by omega
   have hn2:n≤2^M:=by have:=HP.out;omega
   obtain⟨p,hpp⟩:∃p:Nat,p=2^M:=⟨_,rfl⟩
   have h15:2^M≤2^15:=Nat.pow_le_pow_right (by decide) hM2;have hp15:p≤32768:=by rw[hpp];exact h15
   have hsh:(2:Int)^M=(p:Int):=by rw[hpp];simp
   have dnp:decide (p<n)=false:=by simp;omega
   have dp1:decide ((p:Int)<1)=false:=by have:=Nat.two_pow_pos M;simp;omega
   clear hn2 h15 hcl hce hpp hn hlt;have hmk:=HMK.out
   go_upto_block 2 with(fail)
   clear hmk hsh dnp dp1;have HO1:=qhz (Is.fresh w 3 (ap len));have HB1:=qhz ((But.refl [] w).alloc (.cells (ap len) 3));have HW1:=qhz (show w.heap.size<(w.alloc (.cells (ap len) 3)).heap.size by simp);generalize w.alloc (.cells (ap len) 3)=w1 at *
   go_cut [9] (fun v wx=>up w1 wx len l len n v∧n≠1)
   case first=>
    go_wp2_with fail
    go_loopw [9,10] (fun cv iv wr=>∃k:Nat,k≤len∧iv=.int .i64 k∧up w1 wr len l k n cv) (fun _ iv _=>len-(intOf iv).toNat)
    case atStart=>exact⟨0,Nat.zero_le _,rfl,none,0,0,[],rfl,rfl,Nat.le_refl _,fun _=>rfl,rfl,Things.nil _ _ _,⟨(fun a e=>by cases e),(fun x hx=>by cases hx)⟩,But.refl _ _,fun _=>rfl⟩
    case round=>
     obtain⟨k,hk,rfl,A',n',c',L,rfl,hn',hnc,hAc,hLt,hT,hAb,hB,hone⟩:=hrel
     by_cases hlt:k<len
     ·obtain⟨g,o,rfl,hg,hc⟩:=HL.out.at hlt;have hgd:l.getD k 0=l[k]'(by have:=HLEN.out;omega):=lz _;have hr:=tW HOK.out k;have hs:csOf l (k+1)=if 0<l.getD k 0 then ins (csOf l k) (k,(l.getD k 0).toNat)else csOf l k:=rfl
      rw[hgd]at hr hs;generalize l[k]'(by have:=HLEN.out;omega)=x at*;have hcr:=(HB1.out.trans hB).cell hc (by simp);have HS:=qhz hs;have HLT:=qhz hLt;have HT:=qhz hT;have HAB:=qhz hAb;have HB:=qhz hB;have HONE:=qhz hone;have HN':=qhz hn';have HAC:=qhz hAc;clear hs hLt hT hAb hB hone hgd hn' hAc hc;obtain⟨wo,rfl⟩:=E1 (wr:World);have hk0:(0:Int)≤(k:Int):=by omega
      have hkl:(k:Int)<(len:Int):=by omega
      by_cases hx:0<x
      ·obtain⟨c,rfl⟩:∃c:Nat,x=c:=⟨x.toNat,by omega⟩
       have dx:((c:Int)==0)=false:=by simp;omega
       have hmk:=eF len (by omega)
       go_upto_region 19 with(fail)
       go_cut [11] (fun v wx=>NewThing wo wx len c true v)
       case first=>
        have hc1:∀o1,(wo.alloc o1).cell? ⟨g,o+k,none⟩=some (.int .i64 (c:Int)):=fun o1=>((But.refl [] wo).alloc o1).cell hcr (by simp);have hc2:∀o1 o2,((wo.alloc o1).alloc o2).cell? ⟨g,o+k,none⟩=some (.int .i64 (c:Int)):=fun o1 o2=>(((But.refl [] wo).alloc o1).alloc o2).cell hcr (by simp)
        go_region
        all_goals
         (try go_wp2)
         go_meet
         first|exact NewThing.a _ _ _ _|exact NewThing.b _ _ _ _
       case rest=>
        obtain⟨gc,gt,rfl,hc1,hc2,hc3,hIc,hIt,hBn⟩:=hcut;have k1:=hIc.cell 2;have k2:=(hIt.cell k).trans (g8 len k hlt);have k3:=hIt.free k;have k1':wc.cell? ⟨gc,2,none⟩=some (.slice gt len len):=k1;clear k1 hcr
        go_upto_block 4 with(fail)
        clear k1' k2 k3;have hIc2:=hIc.far (p:=⟨gt,k,none⟩) hc3 (.int .i64 1);have hIt2:=hIt.put k (.int .i64 1);have hB2:=hBn.setCell (p:=⟨gt,k,none⟩) (.inr hc2) (.int .i64 1);generalize wc.setCell ⟨gt,k,none⟩ (.int .i64 1)=w2 at*;have HIC:=qhz hIc2;have HV:=qhz (Iu hIt2);have HB2:=qhz hB2;have HT2:=qhz (HT.out.but hB2);have hsp:=I3 c (csOf l k);have hLc:L.length=(csOf l k).length:=by have:=congrArg List.length HLT.out;simpa using this
        obtain⟨sp,hspe⟩:=E1 (spot c (csOf l k));have hspn:sp≤n':=by have:=HN'.out;omega
        have hn2:n'≤288:=by have:=HN'.out;have:=gi l k;have:=dc l k;omega
        have HSP:=qhz hspe;have hLn:∀j (hj:j<L.length),L[j].n=((csOf l k)[j]'(by omega)).2:=fun j hj=>by
         have h2:=congrArg (fun x:List Tg=>x[j]?) HLT.out;simp only[List.getElem?_map,List.getElem?_eq_getElem hj,List.getElem?_eq_getElem (show j<(csOf l k).length by omega),Option.map_some,Option.some.injEq]at h2;exact congrArg Prod.fst h2
        have hbelow:∀j (hj:j<L.length),j≤sp→L[j].n≤c→j+1≤sp:=fun j hj h1 h2=>by
         apply Classical.byContradiction;intro h3
         have h4:sp=j:=by omega
         have h5:=Bw c (csOf l k) (by omega);rw[hLn j hj]at h2;have:(csOf l k)[j]'(by omega)=(csOf l k)[spot c (csOf l k)]'(by omega):=by congr 1;omega
         rw[this]at h2;omega
        have habove:∀j (hj:j<L.length),j≤sp→¬L[j].n≤c→j=sp:=fun j hj h1 h2=>by
         apply Classical.byContradiction;intro h3
         have h5:=mQ c (csOf l k) j (by omega) (by omega);rw[hLn j hj]at h2;omega
        have HBEL:=qhz hbelow;have HABV:=qhz habove;clear hIc hIt hBn hIc2 hIt2 hB2 hsp hLc hspe hLn hbelow habove hc3
        go_cut [12] (fun v wx=>v=.int .i64 (sp:Nat)∧But [] w2 wx)
        case first=>
         go_wp2_with fail
         go_loopw [12] (fun v wr=>∃j:Nat,j≤sp∧v=.int .i64 j∧But [] w2 wr) (fun v _=>n'+1-(intOf v).toNat)
         case atStart=>exact⟨0,Nat.zero_le _,rfl,But.refl _ _⟩
         case round=>
          obtain⟨j,hj,rfl,hBj⟩:=hrel;have HBJ:=qhz hBj;have c0:wr.cell? ⟨gc,0,none⟩=some (.int .i64 (c:Nat)):=(HIC.out.but hBj (by simp)).cell 0;clear hBj
          by_cases hjn:j<n'
          ·obtain⟨gA,oA,rfl,hgA,q0,_,_⟩:=HT2.out.at hjn;have q0':=HBJ.out.cell q0 (by simp);have hb1:=HBEL.out j (by have:=HN'.out;omega) hj;have hb2:=HABV.out j (by have:=HN'.out;omega) hj;generalize(L[j]'(by have:=HN'.out;omega)).n=X at*;have HB1':=qhz hb1;have HB2':=qhz hb2;have djn:decide (j<n')=true:=by simpa using hjn
           have j0:(0:Int)≤(j:Int):=by omega
           have j1:(j:Int)<(n':Int):=by omega
           clear hb1 hb2 q0
           by_cases hXc:X≤c
           ·have dX:decide (X≤c)=true:=by simpa using hXc
            go_wp2_with fail
            go_quiet (fail)
            go_wp2
            go_roundw
            case rel=>exact⟨j+1,HB1'.out hXc,by go_num,HBJ.out.drewN _⟩
            case measure=>simp[intOf];omega
           ·have dX:decide (X≤c)=false:=by simpa using hXc
            have hjs:j=sp:=HB2'.out hXc;have HJS:=qhz hjs;clear hjs
            go_wp2_with fail
            go_quiet (fail)
            go_wp2
            go_meet
            exact⟨by rw[HJS.out],HBJ.out.drewN _⟩
          ·have djn:decide (j<n')=false:=by simpa using hjn
           have hjs:j=sp:=by omega
           have HJS:=qhz hjs;clear hjs
           go_wp2_with fail
           go_quiet (fail)
           go_wp2
           go_meet
           exact⟨by rw[HJS.out],HBJ.out.drewN _⟩
        case rest=>
         obtain⟨rfl,hB3⟩:=hcut;have HIC3:=qhz (HIC.out.but hB3 (by simp));have HT3:=qhz (HT2.out.but hB3);have HV3:=qhz (HV.out.but hB3 (by simp));have HBo:=qt HB2 hB3;have z0:wc.cell? ⟨gc,0,none⟩=some (.int .i64 (c:Nat)):=HIC3.out.cell 0;have z1:wc.cell? ⟨gc,1,none⟩=some (.bool true):=HIC3.out.cell 1;have z2:wc.cell? ⟨gc,2,none⟩=some (.slice gt len len):=HIC3.out.cell 2;clear hB3 HIC HT2 HV HBEL HABV;obtain⟨i0,hi0,hz0,hz1,hz2⟩:=info_parts pT;have hsz3:=(HB.out.trans HBo.out).size;obtain⟨w3,rfl⟩:=E1 (wc:World)
         go_upto_region 25 with(fail)
         go_cut [13] (fun v wx=>OwnT wx w3.heap.size len v (L.take sp)∧But [] w3 wx)
         case first=>
          rcases A' with _|ad
          ·have hc0:c'=0:=HAC.out rfl;subst hc0;have hn0:n'=0:=by omega
           subst hn0;have hs0:sp=0:=by omega
           subst hs0;go_wp2
           go_meet
           exact⟨OwnT.nil _ _ _,But.refl _ _⟩
          ·have hTt:=HT3.out.take hspn;have HTT:=qhz hTt;have sp0:(0:Int)≤(sp:Int):=by omega
           have spc:(sp:Int)≤(c':Int):=by omega
           have spc2:sp≤c':=by omega
           have dsp:decide (c'<sp)=false:=by simp;omega
           clear hTt
           go_wp2_with (at_builtin;refine wpList_append_own _ rfl _ _ 199 rfl w3.heap.size 201 i0 (.agg #[(0:Int),false,.slice none 0 0]) 3 40 underlying199 hi0 hz0 hz1 hz2 rfl (by decide) (.slice none 0 0) 0 [] rfl (World.ownsRow_nil _ _ _ _) ad sp c' (aM len (L.take sp)) rfl (by rw[iY,HTT.out.1]) HTT.out.news' ?c2 ?c3 ?c4 ?c5 ?_)
           case c2=>exact rU _ _
           case c3=>unfold maxLen;omega
           case c4=>omega
           case c5=>exact Nat.le_refl _
           intro v' w4 hown hgrow _;have hj:=OwnT.joined (L:=[]) (But.refl [] w3) (OwnT.nil _ _ _) HTT.out.1 (by simpa[aM]using hown) hgrow;have HJ:=qhz hj.1;have HBG:=qhz hj.2;clear hown hgrow hj;go_wp2
           go_meet
           exact⟨by simpa using HJ.out,HBG.out⟩
         case rest=>
          obtain⟨hO5,hB5⟩:=hcut;obtain⟨w5,rfl⟩:=E1 (wc:World);obtain⟨P5,hP5⟩:=E1 (L.take sp);rw[←hP5]at hO5;have hpl5:P5.length≤288:=by have:=HN'.out;rw[hP5];simp;omega
          have HP5:=qhz hP5;have HB5:=qhz hB5;have HO5:=qhz hO5;have hic5:=HIC3.out.but hB5 (by simp);clear hP5 hB5 hO5 z0 z1 z2;have z0:w5.cell? ⟨gc,0,none⟩=some (.int .i64 (c:Nat)):=hic5.cell 0;have z1:w5.cell? ⟨gc,1,none⟩=some (.bool true):=hic5.cell 1;have z2:w5.cell? ⟨gc,2,none⟩=some (.slice gt len len):=hic5.cell 2;have hsz5:=HB5.out.size;clear hic5
          go_upto_region 27 with(at_builtin;refine wpList_append_own _ rfl _ _ 199 rfl w3.heap.size 201 i0 (.agg #[(0:Int),false,.slice none 0 0]) 3 40 underlying199 hi0 hz0 hz1 hz2 rfl (by decide) u13 P5.length (aM len P5) rfl (World.ownsRow.alloc HO5.out _) ⟨w5.heap.size,0,none⟩ 1 1 [.int .i64 (c:Nat),.bool true,.slice gt len len] rfl rfl ?c1 ?c2 ?c3 ?c4 ?c5 ?_)
          case c1=>exact World.news_of_block (cs:=#[.int .i64 (c:Nat),.bool true,.slice gt len len]) (t:=201) (fr:=(0,0)) (heap_alloc_new w5 _)
          case c2=>simp[Value.oneCell']
          case c3=>unfold maxLen;omega
          case c4=>omega
          case c5=>simp;omega
          intro v6 w6 hown1 hgrow _;have hp6:=OwnT.pushed (x:=⟨c,true,some ⟨gt,0,none⟩,len,mJ len k⟩) HB5.out HO5.out hown1 hgrow;have HO6:=qhz hp6.1;have HB6:=qhz hp6.2;clear hown1 hgrow hp6 z0 z1 z2;obtain⟨x6,hx6⟩:∃x6:Th,x6=⟨c,true,some ⟨gt,0,none⟩,len,mJ len k⟩:=⟨_,rfl⟩
          rw[←hx6]at HO6;have HX6:=qhz hx6;have hsz6:=HB6.out.size;have hpl6:(P5++[x6]).length=P5.length+1:=by simp
          obtain⟨P6,hP6⟩:=E1 (P5++[x6]);rw[←hP6]at HO6 hpl6;have HP6:=qhz hP6;have hpl6':P6.length≤289:=by omega
          have HPL6:=qhz hpl6;clear hx6 hpl6 hP6
          go_upto_region 27 with(fail)
          go_cut [9] (fun v wx=>OwnT wx w3.heap.size len v (P6++L.drop sp)∧But [] w3 wx)
          case first=>
           rcases A' with _|ad
           ·have hc0:c'=0:=HAC.out rfl;subst hc0;have hn0:n'=0:=by omega
            subst hn0;have hs0:sp=0:=by omega
            subst hs0;have hL0:L=[]:=List.eq_nil_of_length_eq_zero (by have:=HN'.out;omega);have HL0:=qhz hL0;clear hL0;obtain⟨g6,c6,rfl,hc6,hg6⟩:=HO6.out.some (by have:=HPL6.out;omega)
            go_wp2_with (at_builtin;refine wpList_append_fits_any _ rfl _ _ 199 rfl w3.heap.size 201 i0 3 underlying199 hi0 hz1 g6 P6.length c6 (aM len P6) rfl HO6.out none 0 0 [] rfl rfl (fun _=>⟨rfl,rfl⟩) (fun ad e=>by cases e) (by simp) (by omega) ?_;intro w7 hown hgrow)
            have hj:=OwnT.joined (X:=[]) (m:=0) HB6.out HO6.out rfl (by simpa[aM]using hown) hgrow;have HJ:=qhz hj.1;have HBG:=qhz hj.2;clear hown hgrow hj;go_wp2
            go_meet
            exact⟨by rw[HL0.out];simpa using HJ.out,HBG.out⟩
           ·obtain⟨g6,c6,rfl,hc6,hg6⟩:=HO6.out.some (by have:=HPL6.out;omega);have sp0:(0:Int)≤(sp:Int):=by omega
            have spc:(sp:Int)≤(c':Int):=by omega
            have spn:(sp:Int)≤(n':Int):=by omega
            have spc2:sp≤c':=by omega
            by_cases hsn:sp<n'
            ·obtain⟨gA,oA,e,_⟩:=HT3.out.at (show 0<n' by omega);obtain rfl:ad=⟨gA,oA,none⟩:=by injection e
             have hTd:=(HT3.out.but HB6.out).drop hspn;have HTD:=qhz hTd;have hcs:¬c'=sp:=by omega
             clear hTd e;have dsp:decide (c'<sp)=false:=by simp;omega
             have hnl:n'-sp≤288:=by omega
             go_wp2_with (at_builtin;refine wpList_append_own _ rfl _ _ 199 rfl w3.heap.size 201 i0 (.agg #[(0:Int),false,.slice none 0 0]) 3 40 underlying199 hi0 hz0 hz1 hz2 rfl (by decide) (.slice g6 P6.length c6) P6.length (aM len P6) rfl HO6.out ⟨gA,oA+sp*3,none⟩ (n'-sp) (c'-sp) (aM len (L.drop sp)) rfl (by rw[iY,HTD.out.1]) HTD.out.news' ?c2 ?c3 ?c4 hsz6 ?_)
             case c2=>exact rU _ _
             case c3=>unfold maxLen;omega
             case c4=>omega
             intro v7 w7 hown hgrow _;have hj:=OwnT.joined (X:=L.drop sp) (m:=n'-sp) HB6.out HO6.out HTD.out.1 hown hgrow;have HJ:=qhz hj.1;have HBG:=qhz hj.2;clear hown hgrow hj;go_wp2
             go_meet
             exact⟨HJ.out,HBG.out⟩
            ·have hsn:sp=n':=by omega
             have hLd:L.drop sp=[]:=List.drop_of_length_le (by have:=HN'.out;omega);have HLD:=qhz hLd;have dsp:decide (c'<sp)=false:=by simp;omega
             clear hLd;subst hsn
             by_cases hcs:c'=sp
             all_goals
              go_wp2_with (at_builtin;refine wpList_append_own _ rfl _ _ 199 rfl w3.heap.size 201 i0 (.agg #[(0:Int),false,.slice none 0 0]) 3 40 underlying199 hi0 hz0 hz1 hz2 rfl (by decide) (.slice g6 P6.length c6) P6.length (aM len P6) rfl HO6.out _ _ _ [] rfl (by simp) (fun j u hu=>by simp at hu) (by simp) ?c3 ?c4 hsz6 ?_)
              case c3=>unfold maxLen;omega
              case c4=>omega
              intro v7 w7 hown hgrow _;have hj:=OwnT.joined (X:=[]) (m:=0) HB6.out HO6.out rfl (by simpa[aM]using hown) hgrow;have HJ:=qhz hj.1;have HBG:=qhz hj.2;clear hown hgrow hj;go_wp2
              go_meet
              exact⟨by rw[HLD.out];simpa using HJ.out,HBG.out⟩
          case rest=>
           obtain⟨hO7,hB7⟩:=hcut;obtain⟨w7,rfl⟩:=E1 (wc:World);have hcs1:csOf l (k+1)=(csOf l k).take sp++(k,c)::(csOf l k).drop sp:=by
            rw[HS.out,if_pos hx,HSP.out];rfl
           have hL7:P6++L.drop sp=L.take sp++x6::L.drop sp:=by rw[HP6.out,HP5.out];simp
           rw[hL7]at hO7;have hx6a:x6.a=some ⟨gt,0,none⟩∧x6.v=mJ len k∧x6.t=ms len (k,c):=by rw[HX6.out];exact⟨rfl,rfl,rfl⟩
           have hmem:∀y∈L.take sp++x6::L.drop sp,y=x6∨y∈L:=fun y hy=>by
            rcases List.mem_append.1 hy with h|h
            ·exact .inr (List.mem_of_mem_take h)
            ·rcases List.mem_cons.1 h with h|h
             ·exact .inl h
             ·exact .inr (List.mem_of_mem_drop h)
           have hV7:Vecs w7 len (L.take sp++x6::L.drop sp):=fun y hy=>by
            rcases hmem y hy with h|h
            ·rw[h,hx6a.1,hx6a.2.1];exact HV3.out.but hB7 (by simp)
            ·exact(HT3.out.2.2 y h).but hB7 (by simp)
           obtain⟨A7,c7,rfl,hlc7,hA7,hT7,hab7⟩:=hO7.state hV7;have hB17:=(HB.out.trans HBo.out).trans hB7;have hwo:=HB.out.size;have hST:n≠1→up w1 w7 len l (k+1) n (.slice A7 (L.take sp++x6::L.drop sp).length c7):=fun hn1=>⟨A7,_,c7,_,rfl,rfl,hlc7,hA7,by
            rw[hcs1,List.map_append,List.map_append,List.map_cons,List.map_cons,List.map_take,List.map_drop,List.map_take,List.map_drop,HLT.out,hx6a.2.2],hT7,⟨fun a e=>Nat.le_trans hsz3 (hab7 a e),fun y hy a e=>by
             rcases hmem y hy with h|h
             ·rw[h,hx6a.1]at e;injection e with e;subst e;exact Nat.le_trans hwo hc2
             ·exact HAB.out.2 y h a e⟩,hB17,fun h=>absurd h hn1⟩
           have HST:=qhz hST;have HB17:=qhz hB17;generalize(L.take sp++x6::L.drop sp).length=n7 at*;clear hlc7 hA7 hT7 hab7 hO7 hV7 hmem hL7 hST hB17 hx6a hB7
           by_cases hn1:n=1
           ·have hnil:=HONE.out hn1;have hcs2:csOf l (k+1)=[(k,c)]:=by rw[hcs1,hnil];simp
            have hlim:lims M l=mJ len k:=by
             have h1:(csOf l l.length).length=1:=by rw[HLEN.out,←HN.out];exact hn1
             rw[ro rfl rfl h1];obtain⟨y,hy⟩:=List.length_eq_one_iff.1 h1;have hk1:(k,c)∈csOf l (k+1):=by rw[hcs2];simp
             have hk2:=gL.1 hk1;have hk3:(k,c)∈csOf l l.length:=gL.2 ⟨by rw[HLEN.out];exact hlt,hk2.2.1,hk2.2.2⟩;rw[hy]at hk3⊢;have:(k,c)=y:=by simpa using hk3
             rw[←this,HLEN.out];rfl
            have hIs:=HO1.out.but HB17.out (by simp);have y1:=(hIs.cell k).trans (g8 len k hlt);have y2:=hIs.free k;have hown:=zG (base:=w.heap.size) (n:=len) (r:=mJ len k) (hIs.put k (.int .i64 1)) (Nat.le_refl _) (by simp[mJ]) (by unfold maxLen;omega) (It len k);have HLIM:=qhz hlim;have HOWN:=qhz hown;have hbf:=(HB1.out.trans HB17.out).setCell (p:=⟨w.heap.size,k,none⟩) (.inr (Nat.le_refl _)) (.int .i64 1);have HBF:=qhz hbf;have dn1:((n:Int)==1)=true:=by simp;omega
            clear hnil hcs2 hlim hIs hown hbf hn1 hcs1;go_wp2
            go_ret2
            exact⟨w.heap.size,rfl,by rw[HLIM.out];exact HOWN.out,HBF.out⟩
           ·have dn1:((n:Int)==1)=false:=by simp;omega
            have HST2:=qhz (HST.out hn1);clear hcs1;go_wp2
            go_roundw
            case rel=>exact⟨k+1,by omega,by go_num,HST2.out⟩
            case measure=>simp[intOf];omega
      ·have hx0:x=0:=by omega
       have HST:up w1 wo len l (k+1) n (.slice A' n' c'):=⟨A',n',c',L,rfl,HN'.out,hnc,HAC.out,by rw[HS.out,if_neg hx];exact HLT.out,HT.out,HAB.out,HB.out,by rw[HS.out,if_neg hx];exact HONE.out⟩
       have HST:=qhz HST;subst hx0;go_wp2
       go_roundw
       case rel=>exact⟨k+1,by omega,by go_num,HST.out⟩
       case measure=>simp[intOf];omega
     ·have hkl:k=len:=by omega
      have hn1:n≠1:=fun h=>by
       have h1:=hone h;have h2:=HN.out;rw[hkl]at h1;rw[h1]at h2;simp at h2;omega
      have hst:up w1 wr len l len n (.slice A' n' c'):=⟨A',n',c',L,rfl,hn',hnc,hAc,by have h:=hLt;rw[hkl]at h;exact h,hT,hAb,hB,fun h=>absurd h hn1⟩
      have HST:=qhz hst;clear hst hLt hT hAb hB hone hn' hAc hkl;go_wp2
      go_meet
      exact⟨HST.out,hn1⟩
   case rest=>
    obtain⟨⟨A9,n9,c9,L9,rfl,hn9,hnc9,hAc9,hLt9,hT9,hAb9,hB9,_⟩,hn1⟩:=hcut;obtain⟨w9,rfl⟩:=E1 (wc:World);obtain⟨csT,hcsT⟩:=E1 ((csOf l len).map (ms len));rw[←hcsT]at hLt9;have hLl9:L9.length=n:=by
     have:=congrArg List.length hLt9;rw[hcsT]at this;have h2:=HN.out;simp at this;omega
    have hnn:n9=n:=hn9.trans hLl9;subst hnn;have hrl:∀k,(rowT csT k).length≤2*n9:=fun k=>by
     rw[nf];have:=(jx (csT.map (·.1)) k).2.1;have h3:(csT.map (·.1)).length=n9:=by rw[hcsT,gY,List.length_map,←HN.out]
     omega
    have hwide:∀k,Wide len (rowT csT k):=oa (by rw[hcsT];exact qi _ _);have hbnd:∀k,Bnd (2^k) (2^k*1000000000) (rowT csT k):=DV (by rw[hcsT];exact qi len _) (by have h:=Mb HOK.out len;rw[HLEN.out]at h;rw[hcsT];exact h);have HRL:=qhz hrl;have HWD:=qhz hwide;have HBD:=qhz hbnd;have HCT:=qhz hcsT;have HT9:=qhz hT9;have HLT9:=qhz hLt9;have HAB9:=qhz hAb9;have HB9:=qhz hB9;have HLL9:=qhz hLl9;clear hrl hwide hbnd hcsT hT9 hLt9 hAb9 hB9 hn9 hLl9 hAc9;obtain⟨i0,hi0,hz0,hz1,hz2⟩:=info_parts pT;go_wp2
    go_loopw [14,15] (fun lv kv wr=>∃k:Nat,1≤k∧k≤M∧kv=.int .i64 k∧R7 w1 wr len (rowT csT (k-1)) lv∧But [] w9 wr) (fun _ kv _=>M-(intOf kv).toNat)
    case atStart=>exact⟨1,Nat.le_refl _,hM1,rfl,⟨A9,n9,c9,L9,rfl,HLL9.out.symm,HLT9.out,HT9.out,HAB9.out,HB9.out⟩,But.refl _ _⟩
    case round=>
     obtain⟨k,hk1,hkM,rfl,⟨A',n',c',L,rfl,hn',hLt,hT,hAb,hB⟩,hB9r⟩:=hrel;obtain⟨wo,rfl⟩:=E1 (wr:World);have HB:=qhz hB;have HB9R:=qhz hB9r;have HT:=qhz hT;have HAB:=qhz hAb;have hTl:(rowT csT (k-1)).length=n':=by rw[←hLt,List.length_map,hn']
     have hn576:n'≤576:=by have:=HRL.out (k-1);omega
     have HN':=qhz hn';have HLT:=qhz hLt;have HTL:=qhz hTl;clear hLt hT hAb hB hB9r hn' hTl
     by_cases hlt:k<M
     ·have hb15:∀x∈rowT csT (k-1),x.1≤16384000000000∧∀s,0≤x.2.getD s 0∧x.2.getD s 0≤16384:=fun x hx=>by
       have h:=HBD.out (k-1) x hx;have h1:2^(k-1)≤2^14:=Nat.pow_le_pow_right (by decide) (by omega);refine⟨by have:=Nat.mul_le_mul_right 1000000000 h1;omega,fun s=>?_⟩;have:=h.2 s;have h2:((2^(k-1):Nat):Int)≤16384:=by exact_mod_cast h1
       omega
      have hw15:Wide len (rowT csT (k-1)):=HWD.out (k-1);generalize hTT:rowT csT (k-1)=T at*;have HB15:=qhz hb15;have HW15:=qhz hw15;have HTT:=qhz hTT;clear hb15 hw15 hTT;have hdl:decide ((k:Int)<(M:Int))=true:=by simp;omega
      go_upto_block 8 with(fail)
      go_cut [16] (fun v wx=>yq wo wx len T (n'/2) v)
      case first=>
       go_wp2_with fail
       go_loopw [16,17] (fun pv iv wr=>∃q i:Nat,Hid (i=2*q)∧i≤n'∧iv=.int .i64 i∧yq wo wr len T q pv) (fun _ iv _=>n'-(intOf iv).toNat)
       case atStart=>exact⟨0,0,qhz rfl,Nat.zero_le _,rfl,[],OwnT.nil _ _ _,(fun x hx=>by cases hx),rfl,But.refl _ _⟩
       case round=>
        obtain⟨q,i,hiq,hin,rfl,P,hO,hV,hPt,hBw⟩:=hrel;have hPl:P.length≤288:=by
         have:=congrArg List.length hPt;have h2:=hiq.out;simp at this;omega
        by_cases hi1:i+1<n'
        ·obtain⟨gA,oA,rfl,hgA,a0,a1,a2⟩:=HT.out.at (show i<n' by omega);obtain⟨gB,oB,eB,hgB,b0,b1,b2⟩:=HT.out.at hi1;obtain⟨rfl,rfl⟩:gB=gA∧oB=oA:=by injection eB with e;injection e with e1 e2 e3;exact⟨e1.symm,e2.symm⟩
         have hTi:∀j (hj:j<L.length),(L[j].n,L[j].v)=T[j]'(by have:=HTL.out;have:=HN'.out;omega):=fun j hj=>by
          have h2:=congrArg (fun x:List Tg=>x[j]?) HLT.out;simp only[List.getElem?_map,List.getElem?_eq_getElem hj,List.getElem?_eq_getElem (show j<T.length by have:=HTL.out;have:=HN'.out;omega),Option.map_some,Option.some.injEq]at h2;exact h2
         have ha:=hTi i (by have:=HN'.out;omega);have hb:=hTi (i+1) (by have:=HN'.out;omega);have ha1:=HB15.out _ (List.getElem_mem (show i<T.length by have:=HTL.out;omega));have hb1:=HB15.out _ (List.getElem_mem (show i+1<T.length by have:=HTL.out;omega));have hpt:=Pw T q (by have:=HTL.out;have:=hiq.out;omega);have hpt2:(prT T)[q]'(by rw[gW];have:=HTL.out;have:=hiq.out;omega)=((T[i]'(by have:=HTL.out;omega)).1+(T[i+1]'(by have:=HTL.out;omega)).1,addV (T[i]'(by have:=HTL.out;omega)).2 (T[i+1]'(by have:=HTL.out;omega)).2):=by
          rw[hpt];simp only[hiq.out]
         rw[←ha]at ha1 hpt2;rw[←hb]at hb1 hpt2;have hva:=HT.out.2.2 _ (List.getElem_mem (show i<L.length by have:=HN'.out;omega));have hvb:=HT.out.2.2 _ (List.getElem_mem (show i+1<L.length by have:=HN'.out;omega));obtain⟨xa,hxa⟩:∃xa,xa=L[i]'(by have:=HN'.out;omega):=⟨_,rfl⟩
         obtain⟨xb,hxb⟩:∃xb,xb=L[i+1]'(by have:=HN'.out;omega):=⟨_,rfl⟩
         rw[←hxa]at a0 a1 a2 ha1 hpt2 hva;rw[←hxb]at b0 b1 b2 hb1 hpt2 hvb;have hsn:P.length=q:=by
          have:=congrArg List.length hPt;have h2:=hiq.out;have h3:=HTL.out;have h4:=gW T;simp at this;omega
         have HPT:=qhz (show P.map Th.t++[(xa.n+xb.n,addV xa.v xb.v)]=(prT T).take (q+1) by
          rw[hPt,List.take_succ_eq_append_getElem (by rw[gW];have:=HTL.out;have:=hiq.out;omega),hpt2])
         obtain⟨na,hna⟩:=E1 xa.n;obtain⟨nb,hnb⟩:=E1 xb.n;obtain⟨z,hz⟩:=E1 (na+nb);have hz9:z≤32768000000000:=by omega
         have e0:=hBw.cell a0 (by simp);have f0:=hBw.cell b0 (by simp);rw[←hna]at e0;rw[←hnb]at f0;have A2:=qhz a2;have B2:=qhz b2;have VA:=qhz hva;have VB:=qhz hvb;have HO:=qhz hO;have HV:=qhz hV;have HBW:=qhz hBw;have HNA:=qhz hna;have HNB:=qhz hnb;have HZ:=qhz hz;have HA1:=qhz ha1;have HB1':=qhz hb1;have ez:(na:Int)+(nb:Int)=(z:Int):=by omega
         have wz:IntKind.i64.wrap (z:Int)=(z:Int):=pg _ (by omega) (by omega);have i0':(0:Int)≤(i:Int):=by omega
         have i1':(i:Int)<(n':Int):=by omega
         have j0':(0:Int)≤(i:Int)+1:=by omega
         have j1':(i:Int)+1<(n':Int):=by omega
         have jn:((i:Int)+1).toNat=i+1:=by omega
         clear a0 a1 a2 b0 b1 b2 eB hTi ha hb ha1 hb1 hpt hpt2 hva hvb hxa hxb hsn hO hV hPt hBw hna hnb hz;obtain⟨wq,rfl⟩:=E1 (wr:World);have hmk:=eF len (by omega)
         go_upto_region 39 with(fail)
         go_cut [18] (fun v wx=>NewThing wq wx len z false v)
         case first=>
          have hc1:∀o1,(wq.alloc o1).cell? ⟨gB,oB+i*3,none⟩=some (.int .i64 (na:Int)):=fun o1=>((But.refl [] wq).alloc o1).cell e0 (by simp);have hc2:∀o1 o2,((wq.alloc o1).alloc o2).cell? ⟨gB,oB+i*3,none⟩=some (.int .i64 (na:Int)):=fun o1 o2=>(((But.refl [] wq).alloc o1).alloc o2).cell e0 (by simp);have hc3:∀o1,(wq.alloc o1).cell? ⟨gB,oB+(i+1)*3,none⟩=some (.int .i64 (nb:Int)):=fun o1=>((But.refl [] wq).alloc o1).cell f0 (by simp);have hc4:∀o1 o2,((wq.alloc o1).alloc o2).cell? ⟨gB,oB+(i+1)*3,none⟩=some (.int .i64 (nb:Int)):=fun o1 o2=>(((But.refl [] wq).alloc o1).alloc o2).cell f0 (by simp)
          go_region
          all_goals
           (try go_wp2)
           go_meet
           first|exact NewThing.a _ _ _ _|exact NewThing.b _ _ _ _
         case rest=>
          obtain⟨gc,gt,rfl,hc1,hc2,hc3,hIc,hIt,hBn⟩:=hcut;clear e0 f0 ez wz;rw[←Co len xa.v xb.v]at hIt;have HIC:=qhz hIc;have HIT:=qhz hIt;have HBN:=qhz hBn;clear hIc hIt hBn;obtain⟨wp,rfl⟩:=E1 (wc:World)
          go_upto_block 10 with(fail)
          go_cut [] (fun wx=>Is wx gc 201 #[z,false,.slice gt len len]∧Is wx gt 3 (jt len len xa.v xb.v)∧But [] wq wx)
          case first=>
           go_wp2_with fail
           go_loopw [19] (fun sv wr=>∃s:Nat,s≤len∧sv=.int .i64 s∧Is wr gc 201 #[z,false,.slice gt len len]∧Is wr gt 3 (jt len s xa.v xb.v)∧But [] wq wr) (fun sv _=>len-(intOf sv).toNat)
           case atStart=>exact⟨0,Nat.zero_le _,rfl,HIC.out,HIT.out,HBN.out⟩
           case round=>
            obtain⟨s,hs,rfl,hIc,hIt,hBs⟩:=hrel
            by_cases hsl:s<len
            ·have hBo:=HBW.out.trans hBs;obtain⟨g1,o1,e1,_,u1⟩:=VA.out.at hsl;obtain⟨g2,o2,e2,_,u2⟩:=VB.out.at hsl;have m1:=hBo.cell A2.out (by simp);have m2:=hBo.cell B2.out (by simp);rw[e1]at m1;rw[e2]at m2;have u1':=hBo.cell u1 (by simp);have u2':=hBo.cell u2 (by simp);have ua:xa.v.getD s 0=xa.v[s]'(by have:=VA.out.1;omega):=lz _;have ub:xb.v.getD s 0=xb.v[s]'(by have:=VB.out.1;omega):=lz _;have bu:=(HA1.out.2 s)
             have bv:=(HB1'.out.2 s)
             have hput:=Gh (u:=xa.v) (v:=xb.v) hsl;rw[←ua]at u1';rw[←ub]at u2';generalize xa.v.getD s 0=u at*;generalize xb.v.getD s 0=v at*;obtain⟨t,ht⟩:=E1 (u+v);rw[←ht]at hput;have k1:wr.cell? ⟨gc,2,none⟩=some (.slice gt len len):=hIc.cell 2;have k2:=(hIt.cell s).trans (jq hsl);have k3:=hIt.free s;have et:u+v=t:=ht.symm;have wt:IntKind.i64.wrap t=t:=pg _ (by omega) (by omega);have HIc:=qhz hIc;have HIt:=qhz hIt;have HBs:=qhz hBs;have HPUT:=qhz hput;have s0':(0:Int)≤(s:Int):=by omega
             have s1':(s:Int)<(len:Int):=by omega
             rw[if_neg (by omega)]at k2;clear hIc hIt hBs hput ht hBo u1 u2 e1 e2 ua ub;go_wp2
             go_region
             go_wp2
             go_roundw
             case rel=>exact⟨s+1,by omega,by go_num,(HIc.out.far (p:=⟨gt,s,none⟩) hc3 _).drew,by rw[←HPUT.out];exact(HIt.out.put s _).drew,(HBs.out.setCell (p:=⟨gt,s,none⟩) (.inr hc2) _).drew⟩
             case measure=>simp[intOf];omega
            ·have hsl2:s=len:=by omega
             rw[hsl2]at hIt;have HIc:=qhz hIc;have HIt:=qhz hIt;have HBs:=qhz hBs;clear hIc hIt hBs hsl2;go_wp2
             go_meet
             exact⟨HIc.out,HIt.out,HBs.out⟩
          case rest=>
           obtain⟨hIc,hIt,hBx⟩:=hcut;obtain⟨wx,rfl⟩:=E1 (wc:World);have z0:wx.cell? ⟨gc,0,none⟩=some (.int .i64 (z:Nat)):=hIc.cell 0;have z1:wx.cell? ⟨gc,1,none⟩=some (.bool false):=hIc.cell 1;have z2:wx.cell? ⟨gc,2,none⟩=some (.slice gt len len):=hIc.cell 2;have hints:=Cp hIt VA.out.1 VB.out.1;have HINT:=qhz hints;have HBX:=qt HBW hBx;have HOX:=qhz (HO.out.but hBx);have HVX:=qhz (HV.out.but hBx (by simp));have HITX:=qhz hIt;have hszx:=HBX.out.size;have hwq:=HBW.out.size;clear hIc hIt hBx hints
           go_wp2_with (at_builtin;refine wpList_append_own _ rfl _ _ 199 rfl wo.heap.size 201 i0 (.agg #[(0:Int),false,.slice none 0 0]) 3 40 underlying199 hi0 hz0 hz1 hz2 rfl (by decide) u16 P.length (aM len P) rfl (World.ownsRow.alloc HOX.out _) ⟨wx.heap.size,0,none⟩ 1 1 [.int .i64 (z:Nat),.bool false,.slice gt len len] rfl rfl ?c1 ?c2 ?c3 ?c4 ?c5 ?_)
           case c2=>simp[Value.oneCell']
           case c3=>unfold maxLen;omega
           case c4=>omega
           case c5=>first|omega|(simp;omega)
           intro v6 w6 hown1 hgrow _;have hp6:=OwnT.pushed (x:=⟨z,false,some ⟨gt,0,none⟩,len,addV xa.v xb.v⟩) HBX.out HOX.out hown1 hgrow;have hbut:But u16.ownBlock.toList wx w6:=((But.refl _ wx).alloc _).grown hgrow (fun g e=>.inl (by simp[e]));have hoff:∀g cs,Is wx g 3 cs→g∉u16.ownBlock.toList:=fun g cs hi hm=>by
            have h1:=fy HOX.out hi (by decide);exact h1 (by simpa using hm)
           have hV6:=HVX.out.but hbut hoff;have hI6:=HITX.out.but hbut (hoff _ _ HITX.out);have hv6:=HINT.out.but hbut (fun k hk a ea hab=>by
            injection ea with ea;subst ea;exact hoff _ _ HITX.out (by rw[show gt=k from hab];exact hk))
           have hPS:yq wo w6 len T (q+1) v6:=⟨P++[⟨z,false,some ⟨gt,0,none⟩,len,addV xa.v xb.v⟩],hp6.1,fun y hy=>by
            rcases List.mem_append.1 hy with h|h
            ·exact hV6 y h
            ·have:y=⟨z,false,some ⟨gt,0,none⟩,len,addV xa.v xb.v⟩:=by simpa using h
             subst this;exact⟨gt,_,rfl,by omega,hI6,hv6⟩,by
            rw[←HPT.out,List.map_append,HZ.out,HNA.out,HNB.out];rfl,hp6.2⟩
           have HPS:=qhz hPS;clear hp6 hbut hoff hV6 hI6 hv6 hPS hown1 hgrow z0 z1 z2;go_wp2
           go_roundw
           case rel=>exact⟨q+1,i+2,qhz (by have:=hiq.out;omega),by omega,by go_num,HPS.out⟩
           case measure=>simp[intOf];omega
        ·have hq2:q=n'/2:=by have:=hiq.out;omega
         have hPS:yq wo wr len T (n'/2) u16:=by rw[←hq2];exact⟨P,hO,hV,hPt,hBw⟩
         have HPS:=qhz hPS;have dni:decide ((i:Int)+1<(n':Int))=false:=by simp;omega
         clear hPS hO hV hPt hBw hq2;go_wp2
         go_meet
         exact HPS.out
      case rest=>
       obtain⟨P,hO,hV,hPt,hBw⟩:=hcut;obtain⟨wy,rfl⟩:=E1 (wc:World);obtain⟨AP,cP,rfl,hTP⟩:=hO.open hV.vecs;have hB9y:=HB9R.out.trans hBw;have hPl:P.length≤600:=by
        have:=congrArg List.length hPt;simp at this;omega
       have hrow:=Qe (c:=c9) (d:=cP) (HT9.out.but hB9y) hTP (by omega) hPl;have hPall:P.map Th.t=prT T:=by rw[hPt,List.take_of_length_le (by rw[gW,HTL.out];omega)]
       have hsz1:=HB.out.size;have hszy:=hBw.size;have HROW:=qhz hrow;have HPALL:=qhz hPall;have HV:=qhz hV;have HBW:=qhz hBw;have HB9Y:=qhz hB9y;clear hO hV hPt hBw hTP hB9y hPl hrow hPall
       go_wp2_with fail
       refine HROW.out.mono ?_;rintro e w8 ⟨v8,rfl,hO8,hB8⟩;have hV8:Vecs w8 len (mrgG oI L9 P):=fun y hy=>by
        rcases rn hy with h|h
        ·exact((HT9.out.but (HB9Y.out.trans hB8)).2.2 y h)
        ·exact((HV.out.but hB8 (by simp)).vecs y h)
       obtain⟨A8,c8,rfl,hlc8,hA8,hT8,hab8⟩:=hO8.state hV8;have hmap:(mrgG oI L9 P).map Th.t=rowT csT k:=by
        rw[Ej (key:=oI) (key2:=fun x:Tg=>x.1) Th.t (fun _=>rfl),HLT9.out,HPALL.out,←HTT.out]
        conv=>rhs;rw[show k=(k-1)+1 from by omega]
        rfl
       have hRS:R7 w1 w8 len (rowT csT (k+1-1)) (.slice A8 (mrgG oI L9 P).length c8):=⟨A8,_,c8,_,rfl,rfl,by rw[hmap];congr 1,hT8,⟨fun a e=>Nat.le_trans (Nat.le_trans hsz1 hszy) (hab8 a e),fun y hy a e=>by
        rcases rn hy with h|h
        ·exact HAB9.out.2 y h a e
        ·obtain⟨gt,cs,e2,hb,_,_⟩:=HV.out y h;rw[e2]at e;injection e with e;subst e
         exact Nat.le_trans hsz1 hb⟩,(HB.out.trans HBW.out).trans hB8⟩
       have HRS:=qhz hRS;have HB98:=qt HB9Y hB8;generalize(mrgG oI L9 P).length=n8 at*;clear hV8 hlc8 hA8 hT8 hab8 hmap hRS hO8 hB8;go_wp2
       go_roundw
       case rel=>exact⟨k+1,by omega,by omega,by go_num,HRS.out,HB98.out⟩
       case measure=>simp[intOf];omega
     ·have hkM':k=M:=by omega
      subst hkM';obtain⟨T,hTT⟩:=E1 (rowT csT (k-1));have hb15:∀s i,i≤576→0≤sumT T i s∧sumT T i s≤9437184:=fun s i hi=>by
       have h:=IJ (HBD.out (k-1)) s i;have h1:2^(k-1)≤2^14:=Nat.pow_le_pow_right (by decide) (by omega);have h2:=Nat.mul_le_mul hi h1;have h3:i*2^(k-1)≤9437184:=Nat.le_trans h2 (by decide);rw[←hTT]at h;unfold sumT;generalize i*2^(k-1)=m at h h3;omega
      have hx15:∀x∈T,∀s,0≤x.2.getD s 0∧x.2.getD s 0≤16384:=fun x hx s=>by
       have h:=(HBD.out (k-1) x (by rw[←hTT];exact hx)).2 s;have h1:2^(k-1)≤2^14:=Nat.pow_le_pow_right (by decide) (by omega);have h2:((2^(k-1):Nat):Int)≤16384:=by exact_mod_cast h1
       omega
      have hfin:∀s,s<len→sumT T (2*n9-2) s=(lims k l).getD s 0:=fun s hs=>by
       have h:=Ku (M:=k) (l:=l) hM1 (by rw[HLEN.out];exact HP.out) (by rw[HLEN.out,←HN.out];exact hn1) s;unfold outs at h;rw[HLEN.out,←HCT.out,←hTT,←HN.out]at h;exact h
      have hne:n9≠0→2*n9-2≤n':=fun h0=>by
       have h:=jg (csT.map (·.1)) (k-1) (by rw[show k-1+1=k from by omega,HCT.out,gY,List.length_map];exact HP.out) (by rw[HCT.out,gY,List.length_map,←HN.out];omega);rw[←nf,HTL.out,HCT.out,gY,List.length_map,←HN.out]at h;exact h
      rw[←hTT]at HLT HTL;have HB15:=qhz hb15;have HX15:=qhz hx15;have HFIN:=qhz hfin;have HNE:=qhz hne;have hB0:w.heap.size<w1.heap.size:=HW1.out;have HISO:=qhz (show Is wo w.heap.size 3 (jc T len 0 0)by rw[Bp];exact HO1.out.but HB.out (by simp));have hdl:decide ((k:Int)<(k:Int))=false:=by simp
      clear hb15 hx15 hfin hne hTT;go_wp2
      go_loopw [20,21] (fun iv _ wr=>∃i:Nat,i≤2*n9-2∧iv=.int .i64 i∧Is wr w.heap.size 3 (jc T len i 0)∧But [w.heap.size] wo wr) (fun iv _ _=>2*n9-(intOf iv).toNat)
      case atStart=>exact⟨0,Nat.zero_le _,rfl,HISO.out,But.refl _ _⟩
      case round=>
       obtain⟨i,hi,rfl,hI,hBi⟩:=hrel;obtain⟨wi,rfl⟩:=E1 (wr:World);have HI:=qhz hI;have HBI:=qhz hBi;clear hI hBi
       by_cases hil:i<2*n9-2
       ·have hil2:(i:Int)<2*(n9:Int)-2:=by omega
        have hin:i<n':=by have:=HNE.out (by omega);omega
        obtain⟨gA,oA,rfl,hgA,_,_,a2⟩:=HT.out.at hin;have hTi:(L[i]'(by have:=HN'.out;omega)).t=T[i]'(by have:=HTL.out;omega):=by
         have h2:=congrArg (fun x:List Tg=>x[i]?) HLT.out;simp only[List.getElem?_map,List.getElem?_eq_getElem (show i<L.length by have:=HN'.out;omega),List.getElem?_eq_getElem (show i<T.length by have:=HTL.out;omega),Option.map_some,Option.some.injEq]at h2;exact h2
        have hva:=HT.out.2.2 _ (List.getElem_mem (show i<L.length by have:=HN'.out;omega));have hab1:=HAB.out.1 _ rfl;have hab2:=HAB.out.2 _ (List.getElem_mem (show i<L.length by have:=HN'.out;omega));have hxb:=HX15.out _ (List.getElem_mem (show i<T.length by have:=HTL.out;omega));have hsucc:=fun s=>IL (T:=T) (i:=i) (s:=s) (by have:=HTL.out;omega);rw[←hTi]at hxb;simp only[←hTi]at hsucc;generalize(L[i]'(by have:=HN'.out;omega))=x at*;have A2:=qhz a2;have VA:=qhz hva;have AB2:=qhz hab2;have HXB:=qhz hxb;have HSU:=qhz hsucc;have hgne:gA≠w.heap.size:=by have:w1.heap.size≤gA:=hab1;omega
        clear a2 hTi hva hab1 hab2 hxb hsucc;go_wp2
        go_loopw [21] (fun sv wr=>∃s:Nat,s≤len∧sv=.int .i64 s∧Is wr w.heap.size 3 (jc T len i s)∧But [w.heap.size] wo wr) (fun sv _=>len-(intOf sv).toNat)
        case atStart=>exact⟨0,Nat.zero_le _,rfl,HI.out,HBI.out⟩
        case round=>
         obtain⟨s,hs,rfl,hI,hBs⟩:=hrel
         by_cases hsl:s<len
         ·obtain⟨g1,o1,e1,_,u1⟩:=VA.out.at hsl;have hg1:g1≠w.heap.size:=by have:w1.heap.size≤g1:=AB2.out _ e1;omega
          have m1:=hBs.cell A2.out (by simpa using hgne);rw[e1]at m1;have u1':=hBs.cell u1 (by simpa using hg1);have ua:x.v.getD s 0=x.v[s]'(by have:=VA.out.1;omega):=lz _;rw[←ua]at u1';have bu:=HXB.out s;have hsu:=HSU.out s;have bs:=HB15.out s i (by omega);have bs2:=HB15.out s (i+1) (by omega);have hput:=Fd (T:=T) (i:=i) hsl;have k2:=(hI.cell s).trans (eZ hsl);rw[if_neg (by omega)]at k2;have k3:=hI.free s;have hsu2:sumT T (i+1) s=sumT T i s+x.v.getD s 0:=hsu;have bu2:0≤x.v.getD s 0∧x.v.getD s 0≤16384:=bu;generalize x.v.getD s 0=u at*;generalize sumT T i s=a at*;generalize sumT T (i+1) s=t at*;have et:a+u=t:=hsu2.symm;have wt:IntKind.i64.wrap t=t:=pg _ (by omega) (by omega);have HIs:=qhz hI;have HBs:=qhz hBs;have HPUT:=qhz hput;have i0':(0:Int)≤(i:Int):=by omega
          have i1':(i:Int)<(n':Int):=by omega
          have s0':(0:Int)≤(s:Int):=by omega
          have s1':(s:Int)<(len:Int):=by omega
          clear hI hBs hput hsu hsu2 bu bu2 u1 e1 ua bs;go_wp2
          go_region
          go_wp2
          go_roundw
          case rel=>exact⟨s+1,by omega,by go_num,by rw[←HPUT.out];exact(HIs.out.put s _).drew,(HBs.out.setCell (p:=⟨w.heap.size,s,none⟩) (.inl (by simp)) _).drew⟩
          case measure=>simp[intOf];omega
         ·have hsl2:s=len:=by omega
          rw[hsl2,Bq]at hI;have HIs:=qhz hI;have HBs:=qhz hBs;clear hI hBs hsl2;go_wp2
          go_roundw
          case rel=>exact⟨i+1,by omega,by go_num,HIs.out,HBs.out⟩
          case measure=>simp[intOf];omega
       ·have hil2:¬(i:Int)<2*(n9:Int)-2:=by omega
        have hie:i=2*n9-2:=by omega
        have hown:=zG (base:=w.heap.size) (n:=len) (r:=lims k l) HI.out (Nat.le_refl _) (by rw[aV,HLEN.out]) (by unfold maxLen;omega) (Br (by rw[aV,HLEN.out]) (fun s hs=>by rw[hie];exact HFIN.out s hs));have hbf:=(HB1.out.trans HB.out).fresh HBI.out (fun j hj=>by
         have:j=w.heap.size:=by simpa using hj
         omega)
        have HOWN:=qhz hown;have HBF:=qhz hbf;clear hown hbf hie;go_wp2
        go_ret2
        exact⟨w.heap.size,rfl,HOWN.out,HBF.out⟩
end Go.Proofs.YtbanopnofpjnbaaGreatDoor
