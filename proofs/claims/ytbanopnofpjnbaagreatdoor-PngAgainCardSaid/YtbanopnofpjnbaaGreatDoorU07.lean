/- Own texts in one: Codes, Check, Ord, OrdW, CodesW, Pm. -/
import Derived.Test.YtbanopnofpjnbaaGreatDoorU03
set_option maxRecDepth 1000000
set_option linter.unusedVariables false
set_option maxHeartbeats 4000000
namespace Go.Proofs.YtbanopnofpjnbaaGreatDoor
open Go Go.RowKit Tryz
def kr(x:Int):Nat:=if 0<x then 2^(15-x.toNat)else 0
def ksum(l:List Int):Nat:=(l.map kr).sum
def many(l:List Int):Nat:=(l.filter fun x=>decide (0<x)).length
def top(l:List Int):Int:=l.foldl (fun m x=>if 0<x then max m x else m) 0
def sZ(x:Int):Bool:=decide (0≤x∧x≤15)
def cL(l:List Int):Bool:=l.all sZ
def chk(l:List Int):Int:=
 if 288<l.length then 1 else if cL l=false then 1 else if 32768<ksum l then 10 else
 if ksum l<32768∧0<many l∧¬(many l=1∧ksum l=16384)then 11 else 0
theorem Af(l:List Int)(x:Int):ksum (l++[x])=ksum l+kr x:=by simp[ksum]
theorem zP(l:List Int)(x:Int):many (l++[x])=many l+(if 0<x then 1 else 0):=by
 unfold many;rw[List.filter_append,List.length_append];congr 1
 by_cases h:0<x<;>simp[h]
theorem sX(l:List Int)(x:Int):cL (l++[x])=(cL l&&sZ x):=by simp[cL]
theorem QJ(x:Int):kr x≤32768:=by
 unfold kr;split
 ·exact Nat.le_trans (Nat.pow_le_pow_right (by decide) (Nat.sub_le _ _)) (by decide)
 ·exact Nat.zero_le _
theorem KX(l:List Int):ksum l≤32768*l.length:=by
 induction l with
 |nil=>simp[ksum]
 |cons x l ih=>have:=QJ x;simp only[ksum,List.map_cons,List.sum_cons,List.length_cons]at ih⊢;omega
theorem KL(l:List Int):many l≤l.length:=List.length_filter_le _ _
theorem iT{l:List Int}(h:chk l=0):l.length≤288∧cL l=true∧ksum l≤32768∧(ksum l=32768∨many l=0∨(many l=1∧ksum l=16384)):=by
 unfold chk at h
 by_cases h1:288<l.length
 ·rw[if_pos h1]at h;omega
 rw[if_neg h1]at h
 by_cases h2:cL l=false
 ·rw[if_pos h2]at h;omega
 rw[if_neg h2]at h
 by_cases h3:32768<ksum l
 ·rw[if_pos h3]at h;omega
 rw[if_neg h3]at h
 by_cases h4:ksum l<32768∧0<many l∧¬(many l=1∧ksum l=16384)
 ·rw[if_pos h4]at h;omega
 refine⟨by omega,by simpa using h2,by omega,?_⟩
 by_cases h5:many l=1∧ksum l=16384
 ·exact .inr (.inr h5)
 ·rcases Nat.eq_zero_or_pos (many l)with h6|h6
  ·exact .inr (.inl h6)
  ·left;apply Classical.byContradiction;intro h7;exact h4 ⟨by omega,h6,h5⟩
theorem oF{l:List Int}{k:Nat}(h:k<l.length):l.take (k+1)=l.take k++[l[k]]:=List.take_succ_eq_append_getElem h
theorem RM{x:Int}{m:Nat}(h:x=m)(h0:0<x)(h1:m≤15):(32768:Int)/2^m=(kr x:Nat):=by
 unfold kr;rw[if_pos h0];subst h
 have e:(15:Nat)-(m:Int).toNat=15-m:=by omega
 rw[e];have:(2:Int)^m*2^(15-m)=32768:=by rw[←Int.pow_add,show m+(15-m)=15 from by omega];rfl
 rw[←this,Int.mul_ediv_cancel_left _ (by have:=Int.pow_pos (n:=2) (m:=m) (by decide);omega)];simp
theorem AL{w:World}{A:Option Addr}{len cap:Nat}{l:List Int}(hl:Ints w A len l)(hm:len≤maxLen):
 Calls prog 220 #[.slice A len cap] w fun e w'=>e=.returned (.int .i64 (chk l))∧w=w':=by
 unfold maxLen at hm;have hlen:=hl.1
 by_cases h288:288<len
 ·have hc:chk l=1:=by unfold chk;rw[if_pos (by omega)]
  rw[hc];clear hc hl hlen
  go_enter func220,ntmps220
  go_wp2;go_ret;exact⟨rfl,rfl⟩
 ·go_enter func220,ntmps220
  go_wp2
  go_loop [3,4,13] (fun sm wd i=>∃k:Nat,k≤len∧cL (l.take k)=true∧i=.int .i64 k∧sm=.int .i64 (ksum (l.take k))∧wd=.int .i64 (many (l.take k))) (fun _ _ i=>len-(intOf i).toNat)
  case atStart=>exact⟨0,Nat.zero_le _,rfl,rfl,rfl,rfl⟩
  case round=>
   obtain⟨k,hk,hok,rfl,rfl,rfl⟩:=hrel;have hks:=KX (l.take k);have hms:=KL (l.take k);rw[List.length_take]at hks hms
   by_cases hlt:k<len
   ·obtain⟨g,o,rfl,hg,hc⟩:=hl.at hlt;have hts:=oF (l:=l) (k:=k) (by omega);have HS:=qhz hts;have HX:=qhz (show l[k]'(by omega)∈l from List.getElem_mem _);generalize l[k]'(by omega)=x at*;clear hl hts
    by_cases hr:0≤x∧x≤15
    ·obtain⟨m,rfl⟩:=Int.eq_ofNat_of_zero_le hr.1;have hm15:m≤15:=by omega
     have HO:=qhz (show cL (l.take (k+1))=true by rw[HS.out,sX,hok];simp[sZ];omega);have HK:=qhz (show ksum (l.take (k+1))=ksum (l.take k)+kr m by rw[HS.out,Af]);have HM:=qhz (show many (l.take (k+1))=many (l.take k)+(if 0<(m:Int)then 1 else 0)by rw[HS.out,zP]);have n0:decide ((m:Int)<0)=false:=by simp
     have n1:decide ((15:Int)<(m:Int))=false:=by simp;omega
     clear hr HS hok HX
     by_cases h0:0<(m:Int)
     ·have HP:=qhz (RM (m:=m) rfl h0 hm15);have hkl:=QJ m;go_wp2
      go_round
      case rel=>exact⟨k+1,by omega,HO.out,by go_num,by rw[HP.out,HK.out,IntWalk.wrap64_in _ ⟨by omega,by omega⟩];go_num,by rw[HM.out,if_pos h0];go_num⟩
      case measure=>simp[intOf];omega
     ·go_wp2
      go_round
      case rel=>exact⟨k+1,by omega,HO.out,by go_num,by rw[HK.out];unfold kr;rw[if_neg h0];rfl,by rw[HM.out,if_neg h0];rfl⟩
      case measure=>simp[intOf];omega
    ·have hc1:chk l=1:=by
      unfold chk;split
      ·rfl
      ·rw[if_pos];apply Classical.byContradiction;intro h;have h2:cL l=true:=by simpa using h
       have:=List.all_eq_true.1 h2 x HX.out;simp only[sZ,decide_eq_true_eq]at this;exact hr this
     have HC1:=qhz hc1;clear hc1 HS hok HX hlen
     by_cases hn:x<0
     ·go_wp2;go_ret;rw[HC1.out];exact⟨rfl,rfl⟩
     ·have n0:decide (x<0)=false:=by simp;omega
      have n1:15<x:=by omega
      go_wp2;go_ret;rw[HC1.out];exact⟨rfl,rfl⟩
   ·obtain rfl:k=len:=by omega
    rw[List.take_of_length_le (by omega)]at hok hks hms⊢;have HC:=qhz (show chk l=(if 32768<ksum l then 10 else if ksum l<32768∧0<many l∧¬(many l=1∧ksum l=16384)then 11 else 0) by
     unfold chk;rw[if_neg (by omega),if_neg (by simp[hok])])
    generalize ksum l=S at*;generalize many l=M at*;clear hl hok hlen;obtain⟨s,hs⟩:=E1 ((S:Int):Int);obtain⟨m,hmm⟩:=E1 ((M:Int):Int);have HC2:=qhz (show(if 32768<S then(10:Int)else if S<32768∧0<M∧¬(M=1∧S=16384)then 11 else 0)=(if 32768<s then 10 else if s<32768∧0<m∧¬(m=1∧s=16384)then 11 else 0) by
     have e1:(32768<S)=((32768:Int)<s):=by rw[hs];apply propext;omega
     have e2:(S<32768∧0<M∧¬(M=1∧S=16384))=(s<32768∧0<m∧¬(m=1∧s=16384)):=by rw[hs,hmm];apply propext;omega
     simp only[e1,e2])
    rw[←hs,←hmm];clear hs hmm hks hms
    by_cases c1:32768<s
    ·go_wp2
     all_goals
      go_ret;rw[HC.out,HC2.out,if_pos c1];exact⟨rfl,rfl⟩
    ·have C1:=qhz c1;have d1:decide ((32768:Int)<s)=false:=by simp;omega
     clear c1
     by_cases c2:s<32768
     ·have C2:=qhz c2;have d2:decide (s<32768)=true:=by simp;omega
      clear c2
      by_cases c3:0<m
      ·have C3:=qhz c3;have d3:decide (0<m)=true:=by simp;omega
       clear c3
       by_cases c4:m=1
       ·have e4:(m==1)=true:=by simp;omega
        have C4:=qhz c4;clear c4
        by_cases c5:s=16384
        ·have e5:(s==16384)=true:=by simp;omega
         have C5:=qhz c5;clear c5;go_wp2;go_ret;rw[HC.out,HC2.out,if_neg (by have:=C1.out;omega),if_neg (by have:=C4.out;have:=C5.out;omega)];exact⟨rfl,rfl⟩
        ·have e5:(s==16384)=false:=by simp;omega
         have C5:=qhz c5;clear c5;go_wp2;go_ret;rw[HC.out,HC2.out,if_neg (by have:=C1.out;omega),if_pos (by have:=C2.out;have:=C3.out;have:=C5.out;omega)];exact⟨rfl,rfl⟩
       ·have e4:(m==1)=false:=by simp;omega
        have C4:=qhz c4;clear c4;go_wp2;go_ret;rw[HC.out,HC2.out,if_neg (by have:=C1.out;omega),if_pos (by have:=C2.out;have:=C3.out;have:=C4.out;omega)];exact⟨rfl,rfl⟩
      ·have e4:(m==1)=false:=by simp;omega
       have d3:decide (0<m)=false:=by simp;omega
       have C3:=qhz c3;clear c3;go_wp2;go_ret;rw[HC.out,HC2.out,if_neg (by have:=C1.out;omega),if_neg (by have:=C3.out;omega)];exact⟨rfl,rfl⟩
     ·have C2:=qhz c2;have d2:decide (s<32768)=false:=by simp;omega
      clear c2
      by_cases c4:m=1
      ·have e4:(m==1)=true:=by simp;omega
       have C4:=qhz c4;have e5:(s==16384)=false:=by have:=C2.out;simp;omega
       clear c4;go_wp2;go_ret;rw[HC.out,HC2.out,if_neg (by have:=C1.out;omega),if_neg (by have:=C2.out;omega)];exact⟨rfl,rfl⟩
      ·have e4:(m==1)=false:=by simp;omega
       have C4:=qhz c4;clear c4;go_wp2;go_ret;rw[HC.out,HC2.out,if_neg (by have:=C1.out;omega),if_neg (by have:=C2.out;omega)];exact⟨rfl,rfl⟩
def ly(l:List Int)(n k:Nat):List Nat:=(List.range k).filter fun s=>decide (l.getD s 0=(n:Int))
def bG(l:List Int):Nat→List Nat
 |0=>[]
 |n+1=>bG l n++ly l (n+1) l.length
def ord(l:List Int):List Nat:=bG l 15
def pre(l:List Int)(n k:Nat):List Nat:=bG l n++ly l (n+1) k
def stp(l:List Int)(st:List Int×Nat)(s:Nat):List Int×Nat:=(st.1.set s ((st.2/2^(15-(l.getD s 0).toNat):Nat):Int),st.2+kr (l.getD s 0))
def cst(l:List Int)(p:List Nat):List Int×Nat:=p.foldl (stp l) (List.replicate l.length 0,0)
def cds(l:List Int)(p:List Nat):List Int:=(cst l p).1
def kp(l:List Int)(p:List Nat):Nat:=(cst l p).2
def fI(l:List Int):List Int:=cds l (ord l)
def was(l:List Int)(p:List Nat):Nat:=match p.getLast? with
 |none=>0
 |some s=>(l.getD s 0).toNat
theorem Gw(l:List Int)(n k:Nat):ly l n (k+1)=if l.getD k 0=(n:Int)then ly l n k++[k]else ly l n k:=by
 unfold ly;rw[List.range_succ,List.filter_append]
 by_cases h:l.getD k 0=(n:Int)
 ·rw[if_pos h];simp only[List.filter_cons,List.filter_nil];rw[if_pos (by simpa using h)]
 ·rw[if_neg h];simp only[List.filter_cons,List.filter_nil];rw[if_neg (by simpa using h)];simp
theorem Gv(l:List Int)(n:Nat):ly l n 0=[]:=rfl
theorem xe(l:List Int)(n:Nat):pre l n 0=bG l n:=by simp[pre,Gv]
theorem xh(l:List Int)(n:Nat):pre l n l.length=bG l (n+1):=rfl
theorem xf(l:List Int)(n k:Nat):pre l n (k+1)=if l.getD k 0=((n+1:Nat):Int)then pre l n k++[k]else pre l n k:=by
 unfold pre;rw[Gw];split<;>simp
theorem du{l:List Int}{n k s:Nat}:s∈ly l n k↔s<k∧l.getD s 0=(n:Int):=by
 unfold ly;rw[List.mem_filter,List.mem_range];simp
theorem il{l:List Int}{s:Nat}:∀{n:Nat},s∈bG l n↔s<l.length∧1≤l.getD s 0∧l.getD s 0≤(n:Int)
 |0=>by simp[bG];intro _ _;omega
 |n+1=>by
  rw[bG,List.mem_append,il,du];constructor
  ·rintro(⟨h1,h2,h3⟩|⟨h1,h2⟩)
   ·exact⟨h1,h2,by omega⟩
   ·exact⟨h1,by omega,by omega⟩
  ·rintro⟨h1,h2,h3⟩
   by_cases h:l.getD s 0≤(n:Int)
   ·exact .inl ⟨h1,h2,h⟩
   ·exact .inr ⟨h1,by omega⟩
theorem FM(l:List Int)(n k:Nat)(hk:k≤l.length):∃r,bG l (n+1)=pre l n k++r:=by
 rw[←xh];have:∀d,∃r,pre l n (k+d)=pre l n k++r:=by
  intro d
  induction d with
  |zero=>exact⟨[],by simp⟩
  |succ d ih=>
   obtain⟨r,hr⟩:=ih;rw[←Nat.add_assoc,xf];split
   ·exact⟨r++[k+d],by rw[hr,List.append_assoc]⟩
   ·exact⟨r,hr⟩
 obtain⟨r,hr⟩:=this (l.length-k);exact⟨r,by rw[←hr];congr 1;omega⟩
theorem lh(l:List Int)(n:Nat):∀d,∃r,bG l (n+d)=bG l n++r
 |0=>⟨[],by simp⟩
 |d+1=>by
  obtain⟨r,hr⟩:=lh l n d;exact⟨r++ly l (n+d+1) l.length,by rw[←Nat.add_assoc,bG,hr,List.append_assoc]⟩
theorem J7(l:List Int)(n k:Nat)(hk:k≤l.length)(hn:n<15):∃r,ord l=pre l n k++r:=by
 obtain⟨r,hr⟩:=FM l n k hk;obtain⟨r2,hr2⟩:=lh l (n+1) (15-(n+1));refine⟨r++r2,?_⟩;rw[←List.append_assoc,←hr,←hr2,ord];congr 1;omega
theorem Cm(l:List Int)(n k:Nat):(ly l n k).Nodup:=List.Pairwise.filter _ List.nodup_range
theorem gd(l:List Int):∀n,(bG l n).Nodup
 |0=>List.nodup_nil
 |n+1=>by
  rw[bG,List.nodup_append];refine⟨gd l n,Cm _ _ _,fun a ha b hb e=>?_⟩;subst e;have h1:=(il.1 ha).2.2;have h2:=(du.1 hb).2;omega
theorem kR(l:List Int):∀n,(bG l n).Pairwise fun a b=>l.getD a 0≤l.getD b 0
 |0=>List.Pairwise.nil
 |n+1=>by
  rw[bG,List.pairwise_append];refine⟨kR l n,?_,fun a ha b hb=>?_⟩
  ·refine List.Pairwise.imp_of_mem (R:=fun _ _=>True) ?_ (List.pairwise_of_forall (fun _ _=>trivial));intro a b ha hb _;rw[(du.1 ha).2,(du.1 hb).2];exact Int.le_refl _
  ·have h1:=(il.1 ha).2.2;have h2:=(du.1 hb).2;omega
theorem eU{l:List Int}{s:Nat}(h:s∈ord l):s<l.length∧1≤l.getD s 0∧l.getD s 0≤15:=il.1 h
theorem EH(l:List Int)(p:List Nat)(s:Nat):cst l (p++[s])=stp l (cst l p) s:=by unfold cst;rw[List.foldl_append];rfl
theorem ET(l:List Int)(p:List Nat)(s:Nat):cds l (p++[s])=(cds l p).set s ((kp l p/2^(15-(l.getD s 0).toNat):Nat):Int):=by
 unfold cds;rw[EH];rfl
theorem Cz(l:List Int)(p:List Nat)(s:Nat):kp l (p++[s])=kp l p+kr (l.getD s 0):=by
 unfold kp;rw[EH];rfl
theorem gX(l:List Int)(p:List Nat):(cds l p).length=l.length:=by
 have:∀st:List Int×Nat,st.1.length=l.length→(p.foldl (stp l) st).1.length=l.length:=by
  induction p with
  |nil=>intro st h;exact h
  |cons s p ih=>intro st h;exact ih _ (by simp[stp,h])
 exact this _ (by simp)
theorem Ov(l:List Int)(p:List Nat):kp l p=(p.map fun s=>kr (l.getD s 0)).sum:=by
 have:∀st:List Int×Nat,(p.foldl (stp l) st).2=st.2+(p.map fun s=>kr (l.getD s 0)).sum:=by
  induction p with
  |nil=>intro st;simp
  |cons s p ih=>intro st;simp only[List.foldl_cons,ih,List.map_cons,List.sum_cons];unfold stp;simp only;omega
 have h:=this (List.replicate l.length 0,0);simpa[kp,cst]using h
theorem lG(l:List Int)(p:List Nat)(s:Nat):was l (p++[s])=(l.getD s 0).toNat:=by simp[was]
theorem dL(f:Nat→Nat):∀(n:Nat) (p:List Nat),p.Nodup→(∀s∈p,s<n)→(p.map f).sum≤((List.range n).map f).sum
 |0,p,_,h=>by
  cases p with
  |nil=>simp
  |cons s p=>have:=h s (by simp);omega
 |n+1,p,hn,h=>by
  have ih:=dL f n (p.filter fun s=>decide (s≠n)) (List.Pairwise.filter _ hn) (fun s hs=>by
   obtain⟨h1,h2⟩:=List.mem_filter.1 hs;have:=h s h1;have h3:s≠n:=by simpa using h2
   omega)
  rw[List.range_succ,List.map_append,List.sum_append];have key:(p.map f).sum≤((p.filter fun s=>decide (s≠n)).map f).sum+f n:=by
   clear ih h
   induction p with
   |nil=>simp
   |cons s p ih=>
    have hd:=List.nodup_cons.1 hn;have:=ih hd.2
    by_cases e:s=n
    ·subst e;have:p.filter (fun t=>decide (t≠s))=p:=List.filter_eq_self.2 (fun t ht=>by simp;rintro rfl;exact hd.1 ht);rw[List.filter_cons,if_neg (by simp),this];simp only[List.map_cons,List.sum_cons];omega
    ·rw[List.filter_cons,if_pos (by simpa using e)];simp only[List.map_cons,List.sum_cons];omega
  simp only[List.map_cons,List.map_nil,List.sum_cons,List.sum_nil,Nat.add_zero];omega
theorem sJ(l:List Int):((List.range l.length).map fun s=>kr (l.getD s 0)).sum=ksum l:=by
 unfold ksum
 congr 1
 apply List.ext_getElem
 ·simp
 ·intro i h1 h2;simp only[List.getElem_map,List.getElem_range];rw[List.getD_eq_getElem?_getD,List.getElem?_eq_getElem (by simpa using h2)];rfl
theorem RN{l:List Int}{p r:List Nat}(h:ord l=p++r):kp l p≤ksum l:=by
 rw[Ov,←sJ];have hn:p.Nodup:=(List.nodup_append.1 (h▸gd l 15:(p++r).Nodup)).1;exact dL _ _ _ hn (fun s hs=>(eU (h▸List.mem_append_left r hs)).1)
theorem rj{l:List Int}{p r:List Nat}{s:Nat}(h:ord l=p++s::r):was l p≤(l.getD s 0).toNat:=by
 unfold was;cases e:p.getLast? with
 |none=>exact Nat.zero_le _
 |some t=>
  have ht:t∈p:=List.mem_of_getLast? e;have hs:=(List.pairwise_append.1 (h▸kR l 15:(p++s::r).Pairwise fun a b=>l.getD a 0≤l.getD b 0)).2.2 t ht s (by simp);show(l.getD t 0).toNat≤_;omega
theorem Ou{l:List Int}:∀{p r:List Nat},ord l=p++r→∃c,kp l p=c*2^(15-was l p):=by
 intro p
 induction h:p.length generalizing p with
 |zero=>
  intro r _;have:p=[]:=List.eq_nil_of_length_eq_zero h;subst this;exact⟨0,by simp[kp,cst]⟩
 |succ n ih=>
  intro r hr;rcases List.eq_nil_or_concat p with e|⟨q,s,e⟩
  ·subst e;simp at h
  ·subst e;rw[List.concat_eq_append]at hr h⊢;rw[List.append_assoc,List.singleton_append]at hr;obtain⟨c,hc⟩:=ih (p:=q) (by simp at h;exact h) hr;have hl:=rj hr;have hs:=eU (s:=s) (l:=l) (by rw[hr];simp);rw[lG,Cz,hc];refine⟨c*2^((l.getD s 0).toNat-was l q)+1,?_⟩;have e1:15-was l q=((l.getD s 0).toNat-was l q)+(15-(l.getD s 0).toNat):=by omega
   have e2:kr (l.getD s 0)=2^(15-(l.getD s 0).toNat):=by unfold kr;rw[if_pos (by omega)]
   rw[e2,e1,Nat.add_mul,Nat.mul_assoc,←Nat.pow_add,Nat.one_mul]
theorem zJ{l:List Int}{p r:List Nat}{s:Nat}(h:ord l=p++s::r):
 kp l p/2^(15-was l p)*2^((l.getD s 0).toNat-was l p)=kp l p/2^(15-(l.getD s 0).toNat):=by
 obtain⟨c,hc⟩:=Ou h;have hl:=rj h;have hs:=eU (s:=s) (l:=l) (by rw[h];simp);rw[hc,Nat.mul_div_cancel _ (Nat.two_pow_pos _)];have e1:15-was l p=((l.getD s 0).toNat-was l p)+(15-(l.getD s 0).toNat):=by omega
 rw[e1,Nat.pow_add,←Nat.mul_assoc,Nat.mul_div_cancel _ (Nat.two_pow_pos _)]
theorem ta{l:List Int}{p r:List Nat}{s:Nat}(h:ord l=p++s::r):
 kp l (p++[s])/2^(15-was l (p++[s]))=kp l p/2^(15-(l.getD s 0).toNat)+1:=by
 have hs:=eU (s:=s) (l:=l) (by rw[h];simp);have e2:kr (l.getD s 0)=2^(15-(l.getD s 0).toNat):=by unfold kr;rw[if_pos (by omega)]
 rw[lG,Cz,e2,Nat.add_div_right _ (Nat.two_pow_pos _)]
theorem C0{l:List Int}{p r:List Nat}{s:Nat}(h:ord l=p++s::r)(hk:ksum l≤32768):kp l p/2^(15-(l.getD s 0).toNat)<2^(l.getD s 0).toNat:=by
 have hs:=eU (s:=s) (l:=l) (by rw[h];simp);have e2:kr (l.getD s 0)=2^(15-(l.getD s 0).toNat):=by unfold kr;rw[if_pos (by omega)]
 have hle:=RN (l:=l) (p:=p++[s]) (r:=r) (by rw[h];simp);rw[Cz,e2]at hle;have hp:=Nat.two_pow_pos (15-(l.getD s 0).toNat);rw[Nat.div_lt_iff_lt_mul hp,←Nat.pow_add];rw[show(l.getD s 0).toNat+(15-(l.getD s 0).toNat)=15 from by omega];omega
def OwnI(w:World)(base:Nat)(v:Value)(l:List Int):Prop:=w.ownsRow base 3 1 v l.length (l.map (.int .i64))
theorem cG:(prog.info? 3).map (fun i=>(i.zero,i.size,i.bytes))=some (some (.int .i64 0),1,8):=by kernel_rfl
theorem OwnI.open{w:World}{base:Nat}{v:Value}{l:List Int}(h:OwnI w base v l):∃A c,v=.slice A l.length c∧Ints w A l.length l∧(∀a,A=some a→v.ownBlock=some a.block):=by
 unfold OwnI at h;rcases h.2 with⟨rfl,e⟩|⟨g,cap,cur,rfl,hg,hh,r⟩
 ·have:l=[]:=by cases l with
   |nil=>rfl
   |cons x l=>simp at e
  subst this;exact⟨none,0,rfl,⟨rfl,fun h=>absurd h (by simp)⟩,by simp⟩
 ·refine⟨some ⟨g,0,none⟩,cap,rfl,⟨rfl,fun hn=>⟨g,0,rfl,(h.lt g rfl).2,fun i hi=>?_⟩⟩,by simp[Value.ownBlock]⟩;have hc:=h.cells (g:=g) rfl i (.int .i64 l[i]) (by simp[hi]);rw[Go.WideShapes.add_plain]at hc;exact hc
theorem OwnI.nil(w:World)(base:Nat):OwnI w base (.slice none 0 0) []:=World.ownsRow_nil _ _ _ _
theorem OwnI.but{w w':World}{base:Nat}{v:Value}{l:List Int}(h:OwnI w base v l){S:List Nat}(hw:But S w w')(hS:∀k∈S,v.ownBlock≠some k):OwnI w' base v l:=by
 unfold OwnI at h⊢;refine⟨h.1,?_⟩;rcases h.2 with h2|⟨g,cap,cur,hv,hg,hh,r⟩
 ·exact .inl h2
 ·refine .inr ⟨g,cap,cur,hv,hg,?_,r⟩;have hlt:g<w.heap.size:=(h.lt g (by rw[hv];rfl)).2;rw[hw.block g hlt (fun hk=>hS g hk (by rw[hv];rfl))];exact hh
theorem OwnI.pushed{w wr w':World}{v v':Value}{L:List Int}{x:Int}(hB:But [] w wr)(hO:OwnI wr w.heap.size v L)
 (h1:w'.ownsRow w.heap.size 3 1 v' (L.length+1) (L.map (.int .i64)++[.int .i64 x])) (hg:(wr.alloc (.cells #[x] 3)).grownBy w' v.ownBlock):
 OwnI w' w.heap.size v' (L++[x])∧But [] w w':=by
 refine⟨?_,(hB.alloc _).grown hg (fun g e=>.inr (hO.lt g e).1)⟩;unfold OwnI;rw[List.length_append,List.map_append];exact h1
theorem KD(p:List Nat)(s:Nat):(p++[s]).map (fun s:Nat=>(s:Int))=p.map (fun s:Nat=>(s:Int))++[(s:Int)]:=by simp
theorem Cg{w:World}{A:Option Addr}{len cap:Nat}{l:List Int}(hl:Ints w A len l)(h288:len≤288):
 Calls prog 221 #[.slice A len cap] w fun e w'=>∃v,e=.returned v∧OwnI w' w.heap.size v ((ord l).map fun s:Nat=>(s:Int))∧But [] w w':=by
 obtain⟨i0,hi0,hz0,hz1,hz2⟩:=info_parts cG;have hlen:=hl.1;have hp:∀n k,k≤len→n<15→(pre l n k).length≤288:=fun n k hk hn=>by
  obtain⟨r,hr⟩:=J7 l n k (by omega) hn;have hnd:(pre l n k).Nodup:=(List.nodup_append.1 (hr▸gd l 15:(pre l n k++r).Nodup)).1;have:=dL (fun _=>1) len (pre l n k) hnd (fun s hs=>by
   have:=(eU (l:=l) (s:=s) (hr▸List.mem_append_left r hs)).1;omega)
  simp only[List.map_const',List.sum_replicate_nat,List.length_range,Nat.mul_one]at this;omega
 have HP:=qhz hp;clear hp
 go_enter func221,ntmps221
 go_wp2
 go_loopw [3,4] (fun v n wr=>∃m:Nat,m≤15∧n=.int .i64 ((m:Int)+1)∧OwnI wr w.heap.size v ((bG l m).map fun s:Nat=>(s:Int))∧But [] w wr) (fun _ n _=>16-(intOf n).toNat)
 case atStart=>exact⟨0,by omega,rfl,OwnI.nil _ _,But.refl _ _⟩
 case round=>
  obtain⟨m,hm,rfl,ho,hb⟩:=hrel
  by_cases hlt:m<15
  ·obtain⟨wo,rfl⟩:=E1 (wr:World);have t15:decide ((m:Int)+1≤15)=true:=by simp;omega
   go_wp2;have hlo:=hl.but hb (by simp)
   go_loopw [3,13] (fun v i wr=>∃k:Nat,k≤len∧i=.int .i64 k∧OwnI wr w.heap.size v ((pre l m k).map fun s:Nat=>(s:Int))∧But [] w wr) (fun _ i _=>len-(intOf i).toNat)
   case atStart=>exact⟨0,Nat.zero_le _,rfl,by rw[xe];exact ho,hb⟩
   case round=>
    clear ho hb hlo;obtain⟨k,hk,rfl,ho,hb⟩:=hrel
    by_cases hlt2:k<len
    ·obtain⟨g,o,rfl,hg,hc⟩:=(hl.but hb (by simp)).at hlt2;have hgd:l.getD k 0=l[k]'(by omega):=by rw[List.getD_eq_getElem?_getD,List.getElem?_eq_getElem (by omega)];rfl
     have hps:=xf l m k;rw[hgd]at hps;have HPS:=qhz hps;clear hps hgd;generalize l[k]'(by omega)=x at*;have hlp:=HP.out m k hk hlt;clear hlen
     by_cases he:x=(m:Int)+1
     ·subst he;have hpe:pre l m (k+1)=pre l m k++[k]:=by rw[HPS.out,if_pos (by omega)]
      have HPE:=qhz hpe;have hB0:=hb.alloc (.cells #[.int .i64 (k:Int)] 3);have HO:=qhz ho;have HB:=qhz hb;have hsz:=hb.size;have hpl:((pre l m k).map fun s:Nat=>(s:Int)).length≤288:=by rw[List.length_map];exact hlp
      obtain⟨L,hL⟩:=E1 ((pre l m k).map (fun s:Nat=>(s:Int)));rw[←hL]at ho HO hpl;have HL:=qhz hL.symm;clear hL;clear hpe ho hb hlp
      go_wp2_with (at_builtin;refine wpList_append_own _ rfl _ _ 36 rfl w.heap.size 3 i0 (.int .i64 0) 1 8 underlying36 hi0 hz0 hz1 hz2 rfl (by decide) _ L.length (L.map (.int .i64)) rfl (HO.out.alloc _) ⟨wr.heap.size,0,none⟩ 1 1 [.int .i64 (k:Int)] rfl rfl ?c1 ?c2 ?c3 ?c4 ?c5 ?_)
      case c1=>exact World.news_of_block (cs:=#[.int .i64 (k:Int)]) (t:=3) (fr:=(0,0)) (heap_alloc_new wr _)
      case c2=>simp[Value.oneCell']
      case c3=>unfold maxLen;omega
      case c4=>omega
      case c5=>simp;omega
      intro v' w1 hown1 hgrow _;have HN:=qhz (OwnI.pushed HB.out HO.out hown1 hgrow);clear hown1 hgrow;go_wp2
      go_roundw
      case rel=>exact⟨k+1,by omega,by go_num,by rw[HPE.out,KD,HL.out];exact HN.out.1,HN.out.2⟩
      case measure=>simp[intOf];omega
     ·have hpe:pre l m (k+1)=pre l m k:=by rw[HPS.out,if_neg (by omega)]
      have HPE:=qhz hpe;have he2:(x==(m:Int)+1)=false:=by simp;omega
      clear hpe he;go_wp2
      go_roundw
      case rel=>exact⟨k+1,by omega,by go_num,by rw[HPE.out];exact ho,hb⟩
      case measure=>simp[intOf];omega
    ·obtain rfl:k=len:=by omega
     rw[←hlen,xh]at ho;go_wp2
     go_roundw
     case rel=>exact⟨m+1,by omega,by go_num,ho,hb⟩
     case measure=>simp[intOf];omega
  ·obtain rfl:m=15:=by omega
   go_wp2;go_ret;exact⟨_,rfl,ho,hb⟩
theorem KN(n:Nat):(madeCells (Value.int .i64 0).cells (n*1)).toList=(List.replicate n (0:Int)).map (.int .i64):=by
 have e:(Value.int .i64 0).cells=#[.int .i64 0]:=rfl;rw[e,toList_madeCells_one,Nat.mul_one,List.map_replicate]
theorem OwnI.made{w1:World}{base n:Nat}{v:Value}(h:w1.ownsRow base 3 1 v n (madeCells (Value.int .i64 0).cells (n*1)).toList):OwnI w1 base v (List.replicate n 0):=by
 rw[KN]at h;unfold OwnI;rw[List.length_replicate];exact h
theorem OwnI.len{w:World}{base n c:Nat}{a:Addr}{l:List Int}(h:OwnI w base (.slice (some a) n c) l):n=l.length:=by
 unfold OwnI at h;rcases h.2 with⟨e,_⟩|⟨g,cap,cur,e,_⟩
 ·cases e
 ·injection e
theorem OwnI.set{w:World}{base g n c:Nat}{l:List Int}(h:OwnI w base (.slice g n c) l)(j:Nat)(x:Int):
 OwnI (w.setCell ⟨g,j,none⟩ (.int .i64 x)) base (.slice g n c) (l.set j x):=by
 obtain rfl:=h.len;unfold OwnI at h⊢;have hs:=(h.stored j (.int .i64 x)).1;rw[List.length_set,List.map_set];exact hs
theorem OwnI.cell{w:World}{base g n c:Nat}{l:List Int}(h:OwnI w base (.slice g n c) l){j:Nat}(hj:j<l.length):
 w.cell? ⟨g,j,none⟩=some (.int .i64 l[j]):=by
 have hc:=World.ownsRow.cells h (g:=g) rfl j (.int .i64 l[j]) (by simp[hj]);rw[Go.WideShapes.add_plain,Nat.zero_add]at hc;exact hc
theorem OwnI.free{w:World}{base g n c:Nat}{l:List Int}(h:OwnI w base (.slice g n c) l)(j:Nat):w.frozen? ⟨g,j,none⟩=false:=by
 obtain rfl:=h.len;exact World.ownsRow.frozenAt h _
theorem OwnI.ints{w:World}{base g c n:Nat}{l:List Int}(h:OwnI w base (.slice g n c) l):Ints w (some ⟨g,0,none⟩) n l:=by
 obtain rfl:=h.len;exact⟨rfl,fun _=>⟨g,0,rfl,(World.ownsRow.lt h g rfl).2,fun i hi=>by rw[Nat.zero_add];exact h.cell hi⟩⟩
theorem ES(l:List Int):cds l []=List.replicate l.length 0:=rfl
theorem CZ{w:World}{A B:Option Addr}{len cap m cap2:Nat}{l:List Int}(hl:Ints w A len l)(ho:Ints w B m ((ord l).map fun s:Nat=>(s:Int)))(h288:len≤288)(hk:ksum l≤32768):
 Calls prog 222 #[.slice A len cap,.slice B m cap2] w fun e w'=>e=.returned (.slice w.heap.size len len)∧OwnI w' w.heap.size (.slice w.heap.size len len) (fI l)∧But [] w w':=by
 obtain⟨i0,hi0,hz0,hz1,hz2⟩:=info_parts cG;have hlen:=hl.1;have hom:=ho.1;rw[List.length_map]at hom;have hm288:m≤288:=by
  have:=dL (fun _=>1) len (ord l) (gd l 15) (fun s hs=>by have:=(eU hs).1;omega);simp only[List.map_const',List.sum_replicate_nat,List.length_range,Nat.mul_one]at this;omega
 go_enter func222,ntmps222
 go_wp2_with (at_make;refine wpList_make_full _ rfl _ _ 36 rfl w.heap.size 3 i0 _ 1 underlying36 hi0 hz0 hz1 _ _ _ _ len rfl rfl (by omega) (by omega) (by rw[hz2];omega) (by unfold maxLen;omega) (by simp) ?_;intro w1 hown hgrow)
 have hO1:=OwnI.made hown;have hB1:But [] w w1:=(But.refl [] w).grown hgrow (by simp);clear hown hgrow
 go_loopw [6,7,15] (fun nx la i wr=>∃j:Nat,j≤m∧i=.int .i64 j∧nx=.int .i64 (kp l ((ord l).take j)/2^(15-was l ((ord l).take j)):Nat)∧la=.int .i64 (was l ((ord l).take j))∧
  OwnI wr w.heap.size (.slice w.heap.size len len) (cds l ((ord l).take j))∧But [] w wr) (fun _ _ i _=>m-(intOf i).toNat)
 case atStart=>exact⟨0,Nat.zero_le _,rfl,by simp[kp,cst],rfl,by rw[List.take_zero,ES,hlen];exact hO1,hB1⟩
 case round=>
  obtain⟨j,hj,rfl,rfl,rfl,hO,hB⟩:=hrel;clear hO1 hB1
  by_cases hlt:j<m
  ·have hsp:ord l=(ord l).take j++(ord l)[j]'(by omega)::(ord l).drop (j+1):=by
    rw[List.getElem_cons_drop,List.take_append_drop]
   have hts:(ord l).take (j+1)=(ord l).take j++[(ord l)[j]'(by omega)]:=List.take_succ_eq_append_getElem (by omega);obtain⟨g,o,rfl,hg,hc⟩:=ho.at hlt;replace hc:=hB.cell hc (by simp);rw[List.getElem_map]at hc;have hsl:=eU (List.getElem_mem (show j<(ord l).length by omega));generalize(ord l)[j]'(by omega)=s at*;obtain⟨g2,o2,rfl,hg2,hc2⟩:=hl.at (show s<len by omega);replace hc2:=hB.cell hc2 (by simp);have hgd:l.getD s 0=l[s]'(by omega):=by rw[List.getD_eq_getElem?_getD,List.getElem?_eq_getElem (by omega)];rfl
   have h1:=rj hsp;have h2:=zJ hsp;have h3:=ta hsp;have h4:=C0 hsp hk;have h5:=ET l ((ord l).take j) s;have h6:=lG l ((ord l).take j) s;have hlc:=gX l ((ord l).take j);rw[←hts]at h3 h5 h6;clear hsp hts;obtain⟨n,hn⟩:=E1 ((l.getD s 0).toNat);have hln:l[s]'(by omega)=(n:Int):=by rw[←hgd];omega
   rw[hln]at hc2;rw[←hn]at h1 h2 h3 h4 h5 h6;have hn15:n≤15:=by omega
   clear hln hgd;have H3:=qhz h3;have H5:=qhz h5;have H6:=qhz h6;clear h3 h5 h6 hn;generalize hW:was l ((ord l).take j)=W at*;generalize hK:kp l ((ord l).take j)=K at*;clear hW hK;have hce:=hO.cell (show s<(cds l ((ord l).take j)).length by omega);have hcf:=hO.free s;generalize(cds l ((ord l).take j))[s]'_=cv at hce;have hp15:2^n≤2^15:=Nat.pow_le_pow_right (by decide) hn15;have hc15:K/2^(15-n)<32768:=Nat.lt_of_lt_of_le h4 hp15;obtain⟨d,hd⟩:=E1 (n-W);have hd15:d≤15:=by omega
   have esub:IntKind.i64.wrap ((n:Int)-(W:Int))=(d:Int):=by rw[IntKind.wrap_i64];omega
   have esub2:(n:Int)-(W:Int)=(d:Int):=by omega
   have d0:0≤(n:Int)-(W:Int):=by omega
   rw[←hd]at h2;generalize K/2^(15-n)=c at*;generalize K/2^(15-W)=a at*;have hsh:(a:Int)*2^d=(c:Int):=by rw[←h2];simp
   have s0:0≤(s:Int):=by omega
   have sl:(s:Int)<(len:Int):=by omega
   clear h2 hp15 h4 hd h1 hsl hk;have HO:=qhz hO;have HB:=qhz hB;clear hO hB;have hlen':l.length≤288:=by omega
   clear hlc hlen hom;go_wp2
   go_roundw
   case rel=>
    refine⟨j+1,by omega,by go_num,by rw[H3.out];go_num,by rw[H6.out],?_,HB.out.setCell (.inr (Nat.le_refl _)) _⟩;rw[H5.out];exact HO.out.set s _
   case measure=>simp[intOf];omega
  ·obtain rfl:j=m:=by omega
   rw[List.take_of_length_le (by omega)]at hO;go_wp2;go_ret;exact⟨rfl,hO,hB⟩
theorem Cf{w:World}{A:Option Addr}{len cap:Nat}{l:List Int}(hl:Ints w A len l)(h288:len≤288):
 Calls prog 221 #[.slice A len cap] w fun e w'=>∃B c,e=.returned (.slice B (ord l).length c)∧Ints w' B (ord l).length ((ord l).map fun s:Nat=>(s:Int))∧But [] w w'∧(∀a,B=some a→w.heap.size≤a.block):=by
 refine(Cg hl h288).mono ?_;rintro e w1 ⟨v,rfl,hO,hB⟩;obtain⟨B,c,rfl,hI,hb⟩:=hO.open;rw[List.length_map]at hI⊢;exact⟨B,c,rfl,hI,hB,fun a e=>(World.ownsRow.lt hO _ (hb a e)).1⟩
def Gg(c:Nat)(f:List Nat→List (Nat×Bool)):List Nat→List (Nat×Bool)
 |[]=>(c,false)::f []
 |p::ps=>if p<c then(p,true)::Gg c f ps else(c,false)::f (p::ps)
def mrg:List Nat→List Nat→List (Nat×Bool)
 |[],ps=>ps.map fun p=>(p,true)
 |c::cs,ps=>Gg c (mrg cs) ps
def prs:List (Nat×Bool)→List Nat
 |a::b::l=>(a.1+b.1)::prs l
 |_=>[]
def rowN(ws:List Nat):Nat→List (Nat×Bool)
 |0=>mrg ws []
 |k+1=>mrg ws (prs (rowN ws k))
def gH(l:List (Nat×Bool)):Nat:=(l.filter fun x=>!x.2).length
def tk(row:List (Nat×Bool))(a:Nat):Nat:=gH (row.take a)
theorem j6(ps:List Nat):mrg [] ps=ps.map fun p=>(p,true):=rfl
theorem cZ:∀cs:List Nat,mrg cs []=cs.map fun p=>(p,false)
 |[]=>rfl
 |c::cs=>by show(c,false)::mrg cs []=_;rw[cZ cs];rfl
theorem oC{c p:Nat}{cs ps:List Nat}(h:p<c):mrg (c::cs) (p::ps)=(p,true)::mrg (c::cs) ps:=by
 show Gg c (mrg cs) (p::ps)=_;rw[Gg,if_pos h];rfl
theorem mD{c p:Nat}{cs ps:List Nat}(h:¬p<c):mrg (c::cs) (p::ps)=(c,false)::mrg cs (p::ps):=by
 show Gg c (mrg cs) (p::ps)=_;rw[Gg,if_neg h]
theorem N8{c:Nat}{cs ps:List Nat}(h:∀p,ps.head? =some p→¬p<c):mrg (c::cs) ps=(c,false)::mrg cs ps:=by
 cases ps with
 |nil=>simp[cZ]
 |cons p ps=>exact mD (h p rfl)
theorem m9{P:List Nat→List Nat→Prop}(h1:∀ps,P [] ps)(h2:∀cs,P cs [])(h3:∀c cs p ps,p<c→P (c::cs) ps→P (c::cs) (p::ps))(h4:∀c cs p ps,¬p<c→P cs (p::ps)→P (c::cs) (p::ps)):
 ∀cs ps,P cs ps:=by
 intro cs ps
 induction h:cs.length+ps.length generalizing cs ps with
 |zero=>
  cases cs with
  |nil=>exact h1 ps
  |cons c cs=>simp at h
 |succ n ih=>
  cases cs with
  |nil=>exact h1 ps
  |cons c cs=>
   cases ps with
   |nil=>exact h2 _
   |cons p ps=>
    by_cases hp:p<c
    ·exact h3 _ _ _ _ hp (ih _ _ (by simp at h⊢;omega))
    ·exact h4 _ _ _ _ hp (ih _ _ (by simp at h⊢;omega))
theorem bF(cs ps:List Nat):(mrg cs ps).length=cs.length+ps.length:=by
 induction cs,ps using m9 with
 |h1 ps=>simp[j6]
 |h2 cs=>simp[cZ]
 |h3 c cs p ps h ih=>rw[oC h];simp at ih⊢;omega
 |h4 c cs p ps h ih=>rw[mD h];simp at ih⊢;omega
theorem gh:∀l:List (Nat×Bool),(prs l).length=l.length/2
 |[]=>rfl
 |[_]=>by simp[prs]
 |a::b::l=>by simp[prs,gh l];omega
theorem mN(row:List (Nat×Bool)):tk row 0=0:=rfl
theorem kO(x:Nat×Bool)(row:List (Nat×Bool))(a:Nat):tk (x::row) (a+1)=(if x.2 then 0 else 1)+tk row a:=by
 unfold tk gH;cases h:x.2<;>simp[h];omega
theorem Ix(row:List (Nat×Bool))(a:Nat):tk row a≤a:=by
 unfold tk gH;have:=List.length_filter_le (fun x:Nat×Bool=>!x.2) (row.take a);rw[List.length_take]at this;omega
theorem tb(cs ps:List Nat):∀a,a≤cs.length+ps.length→
 tk (mrg cs ps) a≤cs.length∧a-tk (mrg cs ps) a≤ps.length∧
 (∀f:Nat→Nat,(((mrg cs ps).take a).map fun x=>f x.1).sum=((cs.take (tk (mrg cs ps) a)).map f).sum+((ps.take (a-tk (mrg cs ps) a)).map f).sum):=by
 induction cs,ps using m9 with
 |h1 ps=>
  intro a ha;have h0:tk (mrg [] ps) a=0:=by
   unfold tk gH;rw[j6,←List.map_take,List.filter_map];simp
  rw[h0,j6];refine⟨Nat.zero_le _,by simp at ha⊢;omega,fun f=>?_⟩;rw[←List.map_take,List.map_map];simp[Function.comp_def]
 |h2 cs=>
  intro a ha;simp only[List.length_nil,Nat.add_zero]at ha;have h0:tk (mrg cs []) a=a:=by
   unfold tk gH;rw[cZ,←List.map_take,List.filter_map,List.length_map]
   rw[List.filter_eq_self.2 (by simp),List.length_take];omega
  rw[h0,cZ];refine⟨ha,by omega,fun f=>?_⟩;rw[←List.map_take,List.map_map];simp[Function.comp_def]
 |h3 c cs p ps h ih=>
  intro a ha;rw[oC h];cases a with
  |zero=>simp[mN]
  |succ a=>
   obtain⟨i1,i2,i3⟩:=ih a (by simp at ha⊢;omega);rw[kO];simp only[if_true,Nat.zero_add];have hle:=Ix (mrg (c::cs) ps) a;have e:a+1-tk (mrg (c::cs) ps) a=(a-tk (mrg (c::cs) ps) a)+1:=by omega
   rw[e];refine⟨i1,by simp;omega,fun f=>?_⟩;have:=i3 f;simp only[List.take_succ_cons,List.map_cons,List.sum_cons];omega
 |h4 c cs p ps h ih=>
  intro a ha;rw[mD h];cases a with
  |zero=>simp[mN]
  |succ a=>
   obtain⟨i1,i2,i3⟩:=ih a (by simp at ha⊢;omega);rw[kO];simp only[Bool.false_eq_true,if_false];have e:a+1-(1+tk (mrg cs (p::ps)) a)=a-tk (mrg cs (p::ps)) a:=by omega
   rw[e,Nat.add_comm 1];refine⟨by simp;omega,i2,fun f=>?_⟩;have:=i3 f;simp only[List.take_succ_cons,List.map_cons,List.sum_cons];omega
theorem N7(cs ps:List Nat):cs.Pairwise (· ≤ ·)→∀a,a≤cs.length+ps.length→tk (mrg cs ps) a<a→tk (mrg cs ps) a<cs.length→
 ps.getD (a-tk (mrg cs ps) a-1) 0<cs.getD (tk (mrg cs ps) a) 0:=by
 induction cs,ps using m9 with
 |h1 ps=>intro _ a ha hq ht;simp at ht
 |h2 cs=>
  intro _ a ha hq ht;exfalso;simp only[List.length_nil,Nat.add_zero]at ha;have h0:tk (mrg cs []) a=a:=by
   unfold tk gH;rw[cZ,←List.map_take,List.filter_map,List.length_map]
   rw[List.filter_eq_self.2 (by simp),List.length_take];omega
  omega
 |h3 c cs p ps h ih=>
  intro hs a ha hq ht;rw[oC h]at hq ht⊢;cases a with
  |zero=>omega
  |succ a=>
   rw[kO]at hq ht⊢;simp only[if_true,Nat.zero_add]at hq ht⊢
   by_cases e:tk (mrg (c::cs) ps) a<a
   ·have:=ih hs a (by simp at ha⊢;omega) e ht;have e2:a+1-tk (mrg (c::cs) ps) a-1=(a-tk (mrg (c::cs) ps) a-1)+1:=by omega
    rw[e2,List.getD_cons_succ];exact this
   ·have hle:=Ix (mrg (c::cs) ps) a;have e2:a+1-tk (mrg (c::cs) ps) a-1=0:=by omega
    rw[e2,List.getD_cons_zero];generalize tk (mrg (c::cs) ps) a=t at ht⊢;cases t with
    |zero=>exact h
    |succ t=>
     rw[List.getD_cons_succ];have ht':t<cs.length:=by simpa using ht
     have:=(List.pairwise_cons.1 hs).1 cs[t] (List.getElem_mem ht');rw[List.getD_eq_getElem?_getD,List.getElem?_eq_getElem ht'];exact Nat.lt_of_lt_of_le h this
 |h4 c cs p ps h ih=>
  intro hs a ha hq ht;rw[mD h]at hq ht⊢;cases a with
  |zero=>omega
  |succ a=>
   rw[kO]at hq ht⊢;simp only[Bool.false_eq_true,if_false]at hq ht⊢;have:=ih (List.pairwise_cons.1 hs).2 a (by simp at ha⊢;omega) (by omega) (by simp at ht;omega);have e2:a+1-(1+tk (mrg cs (p::ps)) a)-1=a-tk (mrg cs (p::ps)) a-1:=by omega
   rw[e2,Nat.add_comm 1,List.getD_cons_succ];exact this
def cc(ws:List Nat):Nat→Nat→List Nat
 |0,a=>[tk (rowN ws 0) a]
 |k+1,a=>tk (rowN ws (k+1)) a::cc ws k (2*(a-tk (rowN ws (k+1)) a))
theorem oG(ws:List Nat):∀k a,(cc ws k a).length=k+1
 |0,a=>rfl
 |k+1,a=>by simp[cc,oG ws k]
theorem jx(ws:List Nat):∀k,ws.length≤2^k*(2*ws.length-(rowN ws k).length)∧(rowN ws k).length≤2*ws.length∧ws.length≤(rowN ws k).length∧(2*ws.length-(rowN ws k).length-1)*2^k<ws.length+(if ws.length=0 then 1 else 0)
 |0=>by
  have:=bF ws [];simp only[rowN,this,List.length_nil,Nat.add_zero,Nat.pow_zero,Nat.mul_one,Nat.one_mul];split<;>omega
 |k+1=>by
  obtain⟨h1,h2,h3,h4⟩:=jx ws k;have e:(rowN ws (k+1)).length=ws.length+(rowN ws k).length/2:=by simp[rowN,bF,gh]
  rw[e];have hp:=Nat.two_pow_pos k;refine⟨?_,by omega,by omega,?_⟩
  ·refine Nat.le_trans h1 ?_;rw[Nat.pow_succ,Nat.mul_assoc];exact Nat.mul_le_mul_left _ (by omega)
  ·rw[Nat.pow_succ,Nat.mul_comm (2^k) 2,←Nat.mul_assoc];refine Nat.lt_of_le_of_lt (Nat.mul_le_mul_right _ ?_) h4;omega
theorem jg(ws:List Nat)(k:Nat)(h:ws.length≤2^(k+1))(h2:2≤ws.length):2*ws.length-2≤(rowN ws k).length:=by
 obtain⟨_,h3,_,h4⟩:=jx ws k;rw[if_neg (by omega),Nat.add_zero]at h4;rw[Nat.pow_succ,Nat.mul_comm]at h;apply Classical.byContradiction;intro hc;have hx:2≤2*ws.length-(rowN ws k).length-1:=by omega
 have:=Nat.mul_le_mul_right (2^k) hx;omega
theorem fe(ws:List Nat)(k a:Nat)(h:a≤(rowN ws (k+1)).length):2*(a-tk (rowN ws (k+1)) a)≤(rowN ws k).length:=by
 have e:rowN ws (k+1)=mrg ws (prs (rowN ws k)):=rfl;have hm:=bF ws (prs (rowN ws k));rw[e]at h⊢;have:=(tb ws (prs (rowN ws k)) a (by omega)).2.1;rw[gh]at this;omega
theorem nH(ws:List Nat)(k a:Nat)(h:a≤(rowN ws k).length):tk (rowN ws k) a≤ws.length:=by
 cases k with
 |zero=>
  have hm:=bF ws [];exact(tb ws [] a (by simp only[rowN]at h;omega)).1
 |succ k=>
  have hm:=bF ws (prs (rowN ws k));exact(tb ws _ a (by simp only[rowN]at h;omega)).1
def Asc(l:List Nat):Prop:=l.Pairwise (· ≤ ·)
theorem xz{cs ps:List Nat}{x:Nat×Bool}:x∈mrg cs ps→(x.1∈cs∧x.2=false)∨(x.1∈ps∧x.2=true):=by
 induction cs,ps using m9 with
 |h1 ps=>rw[j6];simp only[List.mem_map];rintro⟨p,hp,rfl⟩;exact .inr ⟨hp,rfl⟩
 |h2 cs=>rw[cZ];simp only[List.mem_map];rintro⟨p,hp,rfl⟩;exact .inl ⟨hp,rfl⟩
 |h3 c cs p ps h ih=>
  rw[oC h];intro hx
  rcases List.mem_cons.1 hx with rfl|hx
  ·exact .inr ⟨by simp,rfl⟩
  ·rcases ih hx with h|h
   ·exact .inl h
   ·exact .inr ⟨List.mem_cons_of_mem _ h.1,h.2⟩
 |h4 c cs p ps h ih=>
  rw[mD h];intro hx
  rcases List.mem_cons.1 hx with rfl|hx
  ·exact .inl ⟨by simp,rfl⟩
  ·rcases ih hx with h|h
   ·exact .inl ⟨List.mem_cons_of_mem _ h.1,h.2⟩
   ·exact .inr h
theorem KF(cs ps:List Nat):Asc cs→Asc ps→Asc ((mrg cs ps).map (·.1)):=by
 unfold Asc
 induction cs,ps using m9 with
 |h1 ps=>intro _ h;rw[j6,List.map_map];simpa[Function.comp_def]using h
 |h2 cs=>intro h _;rw[cZ,List.map_map];simpa[Function.comp_def]using h
 |h3 c cs p ps h ih=>
  intro h1 h2;rw[oC h,List.map_cons,List.pairwise_cons];refine⟨fun y hy=>?_,ih h1 (List.pairwise_cons.1 h2).2⟩;obtain⟨x,hx,rfl⟩:=List.mem_map.1 hy;rcases xz hx with⟨h3,_⟩|⟨h3,_⟩
  ·rcases List.mem_cons.1 h3 with h4|h4
   ·show p≤x.1;omega
   ·have:=(List.pairwise_cons.1 h1).1 _ h4;show p≤x.1;omega
  ·exact(List.pairwise_cons.1 h2).1 _ h3
 |h4 c cs p ps h ih=>
  intro h1 h2;rw[mD h,List.map_cons,List.pairwise_cons];refine⟨fun y hy=>?_,ih (List.pairwise_cons.1 h1).2 h2⟩;obtain⟨x,hx,rfl⟩:=List.mem_map.1 hy;rcases xz hx with⟨h3,_⟩|⟨h3,_⟩
  ·exact(List.pairwise_cons.1 h1).1 _ h3
  ·rcases List.mem_cons.1 h3 with h4|h4
   ·show c≤x.1;omega
   ·have:=(List.pairwise_cons.1 h2).1 _ h4;show c≤x.1;omega
theorem BO:∀{l:List (Nat×Bool)} {y:Nat},y∈prs l→∃a∈l,∃b∈l,y=a.1+b.1
 |[],y,h=>by simp[prs]at h
 |[_],y,h=>by simp[prs]at h
 |a::b::l,y,h=>by
  simp only[prs,List.mem_cons]at h;rcases h with rfl|h
  ·exact⟨a,by simp,b,by simp,rfl⟩
  ·obtain⟨a',ha,b',hb,e⟩:=BO h;exact⟨a',by simp[ha],b',by simp[hb],e⟩
theorem BP:∀l:List (Nat×Bool),Asc (l.map (·.1))→Asc (prs l)
 |[],_=>List.Pairwise.nil
 |[_],_=>by simp[prs,Asc]
 |a::b::l,h=>by
  unfold Asc at h⊢;simp only[List.map_cons,List.pairwise_cons]at h;simp only[prs,List.pairwise_cons];refine⟨fun y hy=>?_,BP l h.2.2⟩;obtain⟨u,hu,v,hv,rfl⟩:=BO hy;have h1:=h.1 u.1 (List.mem_cons_of_mem _ (List.mem_map_of_mem hu));have h2:=h.2.1 v.1 (List.mem_map_of_mem hv);omega
theorem Jx(ws:List Nat)(h:Asc ws):∀k,Asc ((rowN ws k).map (·.1))
 |0=>KF _ _ h List.Pairwise.nil
 |k+1=>KF _ _ h (BP _ (Jx ws h k))
theorem Pv:∀(l:List (Nat×Bool)) (i:Nat),i/2<l.length/2→(l.map (·.1)).getD i 0≤(prs l).getD (i/2) 0
 |[],i,h=>by simp at h
 |[_],i,h=>by simp at h
 |a::b::l,0,h=>by simp[prs]
 |a::b::l,1,h=>by simp[prs]
 |a::b::l,i+2,h=>by
  have:=Pv l i (by simp at h;omega);have e:(i+2)/2=i/2+1:=by omega
  rw[e];simpa[prs]using this
theorem zL(cs ps:List Nat):∀a,a≤cs.length+ps.length→(((mrg cs ps).take a).filter fun x=>!x.2).map (·.1)=cs.take (tk (mrg cs ps) a):=by
 induction cs,ps using m9 with
 |h1 ps=>
  intro a ha;rw[j6,←List.map_take,List.filter_map];simp
 |h2 cs=>
  intro a ha;simp only[List.length_nil,Nat.add_zero]at ha;have h0:tk (mrg cs []) a=a:=by
   unfold tk gH;rw[cZ,←List.map_take,List.filter_map,List.length_map]
   rw[List.filter_eq_self.2 (by simp),List.length_take];omega
  rw[h0,cZ,←List.map_take,List.filter_map,List.map_map,List.filter_eq_self.2 (by simp)];simp[Function.comp_def]
 |h3 c cs p ps h ih=>
  intro a ha;rw[oC h];cases a with
  |zero=>simp[mN]
  |succ a=>
   have:=ih a (by simp at ha⊢;omega);rw[kO];simpa using this
 |h4 c cs p ps h ih=>
  intro a ha;rw[mD h];cases a with
  |zero=>simp[mN]
  |succ a=>
   have:=ih a (by simp at ha⊢;omega);rw[kO];simp only[Bool.false_eq_true,if_false];rw[Nat.add_comm 1];simp[this]
theorem RI(ws:List Nat)(h:Asc ws)(k a:Nat)(ha:a≤(rowN ws (k+1)).length):
 tk (rowN ws k) (2*(a-tk (rowN ws (k+1)) a))≤tk (rowN ws (k+1)) a:=by
 have hpe:=fe ws k a ha;have e:rowN ws (k+1)=mrg ws (prs (rowN ws k)):=rfl;have hlen:a≤ws.length+(prs (rowN ws k)).length:=by rw[←bF,←e];exact ha
 generalize ht:tk (rowN ws (k+1)) a=t at*;apply Classical.byContradiction;intro hc;have hle2:=nH ws k _ hpe;have htw:t<ws.length:=by omega
 have hqpos:t<a:=by
  apply Classical.byContradiction;intro h2;have:a-t=0:=by omega
  rw[this]at hc;simp[mN]at hc
 have hedge:=N7 ws (prs (rowN ws k)) h a hlen (by rw[←e,ht];exact hqpos) (by rw[←e,ht];exact htw);rw[←e,ht]at hedge;have hco:((((rowN ws k).take (2*(a-t))).filter fun x=>!x.2).map (·.1))=ws.take (tk (rowN ws k) (2*(a-t))):=by
  cases k with
  |zero=>exact zL ws [] _ (by rw[←bF];exact hpe)
  |succ k=>exact zL ws _ _ (by rw[←bF];exact hpe)
 have hmem:ws.getD t 0∈((((rowN ws k).take (2*(a-t))).filter fun x=>!x.2).map (·.1)):=by
  rw[hco,List.getD_eq_getElem?_getD,List.getElem?_eq_getElem htw];exact List.mem_take_iff_getElem.2 ⟨t,by omega,rfl⟩
 obtain⟨x,hx,hxe⟩:=List.mem_map.1 hmem;have hx2:=(List.mem_filter.1 hx).1;obtain⟨i,hi,hie⟩:=List.mem_take_iff_getElem.1 hx2;have hi2:i/2<(rowN ws k).length/2:=by omega
 have h1:=Pv (rowN ws k) i hi2;have h2:((rowN ws k).map (·.1)).getD i 0=ws.getD t 0:=by
  rw[←hxe,←hie,List.getD_eq_getElem?_getD,List.getElem?_eq_getElem (by rw[List.length_map];omega)];simp
 have hasc:=BP _ (Jx ws h k);have hl:(prs (rowN ws k)).length=(rowN ws k).length/2:=gh _;have h3:(prs (rowN ws k)).getD (i/2) 0≤(prs (rowN ws k)).getD (a-t-1) 0:=by
  rw[List.getD_eq_getElem?_getD,List.getD_eq_getElem?_getD,List.getElem?_eq_getElem (by omega),List.getElem?_eq_getElem (by omega)];simp only[Option.getD_some];rcases Nat.lt_or_ge (i/2) (a-t-1)with h4|h4
  ·exact List.pairwise_iff_getElem.1 hasc _ _ (by omega) (by omega) h4
  ·have:i/2=a-t-1:=by omega
   simp[this]
 omega
end Go.Proofs.YtbanopnofpjnbaaGreatDoor
