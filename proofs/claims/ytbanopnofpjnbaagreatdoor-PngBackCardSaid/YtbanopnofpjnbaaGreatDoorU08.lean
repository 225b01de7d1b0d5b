/- Own texts in one: Kraft, Merge, SortM, SortW. -/
import Derived.Test.YtbanopnofpjnbaaGreatDoorU07
set_option maxRecDepth 1000000
set_option linter.unusedVariables false
set_option maxHeartbeats 4000000
namespace Go.Proofs.YtbanopnofpjnbaaGreatDoor
open Go Go.RowKit Tryz
section
def upTo:Nat→(Nat→Nat)→Nat
 |0,_=>0
 |n+1,f=>upTo n f+f n
theorem Dv(n:Nat)(f g:Nat→Nat):upTo n (fun r=>f r+g r)=upTo n f+upTo n g:=by
 induction n with
 |zero=>rfl
 |succ n ih=>simp only[upTo,ih];omega
theorem eW{n:Nat}{f g:Nat→Nat}(h:∀r,r<n→f r=g r):upTo n f=upTo n g:=by
 induction n with
 |zero=>rfl
 |succ n ih=>simp only[upTo];rw[ih (fun r hr=>h r (by omega)),h n (by omega)]
theorem ja(n c:Nat):upTo n (fun _=>c)=n*c:=by
 induction n with
 |zero=>simp[upTo]
 |succ n ih=>simp only[upTo,ih,Nat.succ_mul]
theorem M0(n t c:Nat)(h:t≤n):upTo n (fun r=>if r<t then c else 0)=t*c:=by
 induction n with
 |zero=>(have:t=0:=by omega);subst this;simp[upTo]
 |succ n ih=>
  rcases Nat.lt_or_ge n t with h1|h1
  ·have e:t=n+1:=by omega
   subst e;rw[eW (g:=fun _=>c) (fun r hr=>if_pos hr),ja]
  ·simp only[upTo];rw[ih h1,if_neg (by omega)];rfl
theorem rO{n i:Nat}(f:Nat→Nat)(h:i<n):f i≤upTo n f:=by
 induction n with
 |zero=>omega
 |succ n ih=>
  simp only[upTo];rcases Nat.lt_or_ge i n with h1|h1
  ·have:=ih h1;omega
  ·have:i=n:=by omega
   subst this;omega
theorem Bh{n i j:Nat}(f:Nat→Nat)(h:i<n)(h2:j<n)(hij:i≠j):f i+f j≤upTo n f:=by
 induction n with
 |zero=>omega
 |succ n ih=>
  simp only[upTo]
  by_cases h1:i=n
  ·subst h1;have:=rO (n:=i) (i:=j) f (by omega);omega
  ·by_cases h3:j=n
   ·subst h3;have:=rO (n:=j) (i:=i) f (by omega);omega
   ·have:=ih (by omega) (by omega);omega
theorem Ng(l:List Nat)(t:Nat)(h:t≤l.length):(l.take t).sum=upTo t fun r=>l.getD r 0:=by
 induction t with
 |zero=>simp[upTo]
 |succ t ih=>
  rw[List.take_succ_eq_append_getElem (by omega),List.sum_append,ih (by omega)];simp only[upTo,List.sum_cons,List.sum_nil,Nat.add_zero];rw[List.getD_eq_getElem?_getD,List.getElem?_eq_getElem (by omega)];rfl
def rl:List Nat→Nat→Nat
 |[],_=>0
 |t::ts,r=>(if r<t then 1 else 0)+rl ts r
theorem Qg:∀(ts:List Nat) (r:Nat),rl ts r≤ts.length
 |[],_=>Nat.le_refl _
 |t::ts,r=>by have:=Qg ts r;simp only[rl,List.length_cons];split<;>omega
theorem JE:∀(ts:List Nat) (r:Nat),(∀t∈ts,t≤r)→rl ts r=0
 |[],_,_=>rfl
 |t::ts,r,h=>by simp only[rl];rw[if_neg (by have:=h t (by simp);omega),JE ts r (fun x hx=>h x (by simp[hx]))]
def wid:List Nat→Nat
 |[]=>0
 |t::ts=>t*2^ts.length+wid ts
def Desc(l:List Nat):Prop:=l.Pairwise (fun a b=>b≤a)
theorem RK(n:Nat):∀ts:List Nat,Desc ts→(∀t∈ts,t≤n)→wid ts+upTo n (fun r=>2^(ts.length-rl ts r))=n*2^ts.length
 |[],_,_=>by simp[wid,rl,ja]
 |t::ts,hd,hn=>by
  have ih:=RK n ts (List.pairwise_cons.1 hd).2 (fun x hx=>hn x (by simp[hx]));have hmax:=(List.pairwise_cons.1 hd).1;have e:∀r,r<n→2^((t::ts).length-rl (t::ts) r)+(if r<t then 2^ts.length else 0)=2^(ts.length-rl ts r)+2^ts.length:=by
   intro r _;simp only[rl,List.length_cons]
   by_cases h:r<t
   ·rw[if_pos h,if_pos h];have:=Qg ts r
    congr 2;omega
   ·rw[if_neg h,if_neg h,JE ts r (fun x hx=>by have:=hmax x hx;omega)];simp only[Nat.sub_zero,Nat.add_zero,Nat.pow_succ];omega
  have e2:=eW e;rw[Dv,Dv,M0 n t _ (hn t (by simp)),ja]at e2;simp only[wid,List.length_cons,Nat.pow_succ];simp only[List.length_cons]at e2;have e3:n*(2^ts.length*2)=n*2^ts.length+n*2^ts.length:=by rw[←Nat.mul_assoc];omega
  rw[e3];omega
theorem Pq(ws:List Nat):∀k a,a≤(rowN ws k).length→wid (cc ws k a)=a*2^k
 |0,a,h=>by
  have hl:(rowN ws 0).length=ws.length:=by simp[rowN,bF]
  have h0:tk (rowN ws 0) a=a:=by
   unfold tk gH;rw[rowN,cZ,←List.map_take,List.filter_map,List.length_map]
   rw[List.filter_eq_self.2 (by simp),List.length_take];omega
  simp[cc,wid,h0]
 |k+1,a,h=>by
  have hp:=fe ws k a h;have hle:=Ix (rowN ws (k+1)) a;simp only[cc,wid,oG];rw[Pq ws k _ hp];generalize tk (rowN ws (k+1)) a=t at*;obtain⟨q,rfl⟩:∃q,a=t+q:=⟨a-t,by omega⟩
  rw[Nat.add_sub_cancel_left,Nat.pow_succ,Nat.add_mul,Nat.mul_comm (2^k) 2,←Nat.mul_assoc q,Nat.mul_comm q 2]
theorem R0(ws:List Nat):∀k a,a≤(rowN ws k).length→∀t∈cc ws k a,t≤ws.length
 |0,a,h,t,ht=>by simp[cc]at ht;subst ht;exact nH ws 0 a h
 |k+1,a,h,t,ht=>by
  simp only[cc,List.mem_cons]at ht;rcases ht with rfl|ht
  ·exact nH ws (k+1) a h
  ·exact R0 ws k _ (fe ws k a h) t ht
theorem Mj(ws:List Nat)(hs:Asc ws):∀k a,a≤(rowN ws k).length→Desc (cc ws k a)∧∀t∈cc ws k a,t≤tk (rowN ws k) a
 |0,a,h=>by simp[cc,Desc]
 |k+1,a,h=>by
  obtain⟨i1,i2⟩:=Mj ws hs k _ (fe ws k a h);have hn:=RI ws hs k a h;refine⟨List.pairwise_cons.2 ⟨fun t ht=>Nat.le_trans (i2 t ht) hn,i1⟩,fun t ht=>?_⟩;simp only[cc,List.mem_cons]at ht;rcases ht with rfl|ht
  ·exact Nat.le_refl _
  ·exact Nat.le_trans (i2 t ht) hn
def fD(ws:List Nat)(k:Nat):List Nat:=cc ws k (2*ws.length-2)
section
variable (ws:List Nat) (hs:Asc ws) (k:Nat) (h:ws.length≤2^(k+1)) (h2:2≤ws.length)
include hs h h2
theorem EB:upTo ws.length (fun r=>2^(k+1-rl (fD ws k) r))=2^(k+1):=by
 have he:=jg ws k h h2;have h1:=RK ws.length (fD ws k) (Mj ws hs k _ he).1 (R0 ws k _ he);have h3:wid (fD ws k)=_:=Pq ws k _ he;have h4:(fD ws k).length=k+1:=oG ws k _;rw[h3,h4]at h1;have e:(2*ws.length-2)*2^k=(ws.length-1)*2^(k+1):=by
  rw[show 2*ws.length-2=(ws.length-1)*2 from by omega,Nat.pow_succ,Nat.mul_assoc,Nat.mul_comm 2]
 have e2:ws.length*2^(k+1)=(ws.length-1)*2^(k+1)+2^(k+1):=by
  conv=>lhs;rw[show ws.length=(ws.length-1)+1 from by omega,Nat.add_mul,Nat.one_mul]
 omega
theorem Rv(r:Nat)(hr:r<ws.length):0<rl (fD ws k) r:=by
 apply Classical.byContradiction;intro hc;have h0:rl (fD ws k) r=0:=by omega
 have hf:=EB ws hs k h h2;have hq:∃q,q<ws.length∧r≠q:=by
  rcases Nat.eq_zero_or_pos r with e|e
  ·exact⟨1,by omega,by omega⟩
  ·exact⟨0,by omega,by omega⟩
 obtain⟨q,hq,hne⟩:=hq;have:=Bh (fun r=>2^(k+1-rl (fD ws k) r)) hr hq hne;simp only[h0,Nat.sub_zero]at this;have:=Nat.two_pow_pos (k+1-rl (fD ws k) q);omega
omit hs h h2 in
theorem JF(r:Nat):rl (fD ws k) r≤k+1:=by
 have:=Qg (fD ws k) r;have h4:(fD ws k).length=k+1:=oG ws k _;omega
theorem QS(hk:k+1≤15):upTo ws.length (fun r=>2^(15-rl (fD ws k) r))=2^15:=by
 have hf:=EB ws hs k h h2;have e:∀r,2^(15-rl (fD ws k) r)=2^(15-(k+1))*2^(k+1-rl (fD ws k) r):=by
  intro r;have:=JF ws k r;rw[←Nat.pow_add];congr 1;omega
 have e2:∀(n c:Nat) (f:Nat→Nat),upTo n (fun r=>c*f r)=c*upTo n f:=by
  intro n c f
  induction n with
  |zero=>rfl
  |succ n ih=>simp only[upTo,ih,Nat.mul_add]
 rw[eW (fun r _=>e r),e2,hf,←Nat.pow_add]
 congr 1;omega
end
theorem DZ:∀(l:List (Nat×Bool)) (i:Nat),i<l.length/2→(prs l).getD i 0=(l.map (·.1)).getD (2*i) 0+(l.map (·.1)).getD (2*i+1) 0
 |[],i,h=>by simp at h
 |[_],i,h=>by simp at h
 |a::b::l,0,h=>by simp[prs]
 |a::b::l,i+1,h=>by
  have:=DZ l i (by simp at h;omega);rw[show 2*(i+1)=2*i+1+1 from by omega];simpa[prs]using this
end
def Coins(w:World)(A:Option Addr)(n:Nat)(cs:List (Nat×Nat)):Prop:=
 cs.length=n∧(0<n→∃g o,A=some ⟨g,o,none⟩∧g<w.heap.size∧∀(i:Nat) (h:i<cs.length),w.cell? ⟨g,o+i*2,none⟩=some (.int .i64 cs[i].1)∧w.cell? ⟨g,o+i*2+1,none⟩=some (.int .i64 cs[i].2))
theorem Coins.but{w w':World}{A:Option Addr}{n:Nat}{l:List (Nat×Nat)}{S:List Nat}(h:Coins w A n l)(hw:But S w w')(hA:∀k∈S,Off A k):Coins w' A n l:=
 ⟨h.1,fun hn=>by
  obtain⟨g,o,e,hg,hc⟩:=h.2 hn;exact⟨g,o,e,Nat.lt_of_lt_of_le hg hw.size,fun i hi=>⟨hw.cell (hc i hi).1 (fun hS=>hA g hS _ e rfl),hw.cell (hc i hi).2 (fun hS=>hA g hS _ e rfl)⟩⟩⟩
theorem Coins.at{w:World}{A:Option Addr}{n:Nat}{l:List (Nat×Nat)}(h:Coins w A n l){i:Nat}(hi:i<n):
 ∃g o,A=some ⟨g,o,none⟩∧g<w.heap.size∧w.cell? ⟨g,o+i*2,none⟩=some (.int .i64 (l[i]'(by have:=h.1;omega)).1)∧w.cell? ⟨g,o+i*2+1,none⟩=some (.int .i64 (l[i]'(by have:=h.1;omega)).2):=by
 obtain⟨g,o,e,hg,hc⟩:=h.2 (by omega);exact⟨g,o,e,hg,hc i (by have:=h.1;omega)⟩
def bZ(r:List (Nat×Bool)):List Value:=r.flatMap fun x=>[.int .i64 x.1,.bool x.2]
theorem ux(r:List (Nat×Bool))(p:Nat)(b:Bool):bZ (r++[(p,b)])=bZ r++[.int .i64 p,.bool b]:=by simp[bZ]
def OwnR(w:World)(base:Nat)(v:Value)(r:List (Nat×Bool)):Prop:=w.ownsRow base 276 2 v r.length (bZ r)
theorem K7:(prog.info? 276).map (fun i=>(i.zero,i.size,i.bytes))=some (some (.agg #[(0:Int),false]),2,16):=by kernel_rfl
theorem OwnR.but{w w':World}{base:Nat}{v:Value}{l:List (Nat×Bool)}(h:OwnR w base v l){S:List Nat}(hw:But S w w')(hS:∀k∈S,v.ownBlock≠some k):OwnR w' base v l:=by
 unfold OwnR at h⊢;refine⟨h.1,?_⟩;rcases h.2 with h2|⟨g,cap,cur,hv,hg,hh,r⟩
 ·exact .inl h2
 ·refine .inr ⟨g,cap,cur,hv,hg,?_,r⟩;have hlt:g<w.heap.size:=(h.lt g (by rw[hv];rfl)).2;rw[hw.block g hlt (fun hk=>hS g hk (by rw[hv];rfl))];exact hh
def nats(l:List Nat):List Int:=l.map fun s:Nat=>(s:Int)
theorem Ints.empty(w:World)(A:Option Addr):Ints w A 0 []:=⟨rfl,fun h=>absurd h (by omega)⟩
theorem Ints.tail{w:World}{g o n:Nat}{x:Int}{l:List Int}(h:Ints w (some ⟨g,o,none⟩) (n+1) (x::l)):Ints w (some ⟨g,o+1,none⟩) n l:=by
 refine⟨by have:=h.1;simpa using this,fun hn=>?_⟩;obtain⟨g',o',e,hg,hc⟩:=h.2 (by omega);injection e with e;injection e with e1 e2;subst e1 e2;refine⟨g,o+1,rfl,hg,fun i hi=>?_⟩;have:=hc (i+1) (by simp;omega);rw[Nat.add_assoc,Nat.add_comm 1];simpa using this
theorem OwnR.pushed{w wr w1 wx:World}{g c k:Nat}{L:List (Nat×Bool)}{p:Nat}{b:Bool}{cs:Array Value}{t:TypeId}(hB:But [] w wr)(hk:L.length=k)(hx:wx=wr.alloc (.cells cs t))(hg0:w.heap.size≤g)
 (h1:w1.ownsRow w.heap.size 276 2 (.slice g (k+1) c) (k+1) (bZ L++[.int .i64 p,.bool b])) (hg:wx.grownBy w1 (some g)):
 OwnR w1 w.heap.size (.slice g (k+1) c) (L++[(p,b)])∧But [] w w1:=by
 subst hx hk;refine⟨?_,(hB.alloc _).grown hg (fun g' e=>by injection e with e;subst e;exact .inr hg0)⟩;unfold OwnR;rw[List.length_append,ux];exact h1
theorem zM{w:World}{A P:Option Addr}{n cap m cap2:Nat}{cs:List (Nat×Nat)}{ws ps:List Nat}(hws:ws=cs.map (·.2))(hc:Coins w A n cs)(hp:Ints w P m (nats ps))(hn:n≤1000)(hm:m≤1000)(hmc:m≤cap2):
 Calls prog 241 #[.slice A n cap,.slice P m cap2] w fun e w'=>e=.returned (.slice w.heap.size (n+m) (n+m))∧OwnR w' w.heap.size (.slice w.heap.size (n+m) (n+m)) (mrg ws ps)∧But [] w w':=by
 obtain⟨i0,hi0,hz0,hz1,hz2⟩:=info_parts K7;have hcl:=hc.1;have hpl:=hp.1;rw[nats,List.length_map]at hpl
 go_enter func241,ntmps241
 go_wp2_with (at_make;refine wpList_make_own _ rfl _ _ 274 rfl w.heap.size 276 i0 _ 2 underlying274 hi0 hz0 hz1 _ _ _ (n+m) rfl rfl (by omega) (by rw[hz2];omega) (by unfold maxLen;omega) (by simp) ?_;intro w1 hown hgrow)
 have hO1:OwnR w1 w.heap.size (.slice w.heap.size 0 (n+m)) []:=hown;have hB1:But [] w w1:=(But.refl [] w).grown hgrow (by simp);clear hown hgrow;have hwl:ws.length=n:=by rw[hws,List.length_map,hcl]
 go_loopw [1,5,18] (fun pv rv i wr=>∃(k A' n' c':_) (ps':List Nat) (acc:List (Nat×Bool)),k≤n∧i=.int .i64 k∧pv=.slice A' n' c'∧n'≤c'∧n'≤m∧Ints w A' n' (nats ps')∧
  rv=.slice w.heap.size acc.length (n+m)∧OwnR wr w.heap.size (.slice w.heap.size acc.length (n+m)) acc∧acc++mrg (ws.drop k) ps'=mrg ws ps∧But [] w wr) (fun _ _ i _=>n-(intOf i).toNat)
 case atStart=>exact⟨0,P,m,cap2,ps,[],Nat.zero_le _,rfl,rfl,hmc,Nat.le_refl _,hp,rfl,hO1,rfl,hB1⟩
 case round=>
  obtain⟨k,A',n',c',ps',acc,hk,rfl,rfl,hnc,hnm,hI,rfl,hO,hacc,hB⟩:=hrel;clear hO1 hB1
  by_cases hlt:k<n
  ·obtain⟨g,o,rfl,hg,hc0,hc1⟩:=hc.at hlt;replace hc0:=hB.cell hc0 (by simp);replace hc1:=hB.cell hc1 (by simp);have hwk:ws.drop k=ws[k]'(by omega)::ws.drop (k+1):=List.drop_eq_getElem_cons (by omega);have hwe:ws[k]'(by omega)=(cs[k]'(by omega)).2:=by subst hws;simp
   rw[←hwe]at hc1;generalize(cs[k]'(by omega)).1=sy at*;generalize ws[k]'(by omega)=cn at*;have HWK:=qhz hwk;rw[hwk]at hacc;clear hwk hwe;have hgl:=(World.ownsRow.lt hO _ rfl).2;obtain⟨wo,rfl⟩:=E1 (wr:World);have HC:=qhz hc;have HS:=qhz hws;have HPM:=qhz hpl;clear hc hws hcl hpl;go_wp2;have hbx:Is (wo.alloc (.cells #[sy,cn] 253)) wo.heap.size 253 #[sy,cn]:=Is.fresh wo _ _;have hO2:OwnR (wo.alloc (.cells #[sy,cn] 253)) w.heap.size (.slice w.heap.size acc.length (n+m)) acc:=hO.but ((But.refl [] wo).alloc _) (by simp);have hB2:=hB.alloc (.cells #[sy,cn] 253);obtain⟨bx,hbxe⟩:=E1 wo.heap.size;have hbl:w.heap.size<bx:=by omega
   rw[←hbxe]at hbx⊢;have HB0:=qhz hbxe;clear hO hB hc0 hc1 hbxe hgl
   go_loopw [1,5] (fun pv rv wr=>∃(A' n' c':_) (ps':List Nat) (acc:List (Nat×Bool)),pv=.slice A' n' c'∧n'≤c'∧n'≤m∧Ints w A' n' (nats ps')∧
    rv=.slice w.heap.size acc.length (n+m)∧OwnR wr w.heap.size (.slice w.heap.size acc.length (n+m)) acc∧acc++mrg (cn::ws.drop (k+1)) ps'=mrg ws ps∧
    Is wr bx 253 #[sy,cn]∧But [] w wr) (fun pv _ _=>match pv with|.slice _ n _=>n|_=>0)
   case atStart=>exact⟨A',n',c',ps',acc,rfl,hnc,hnm,hI,rfl,hO2,hacc,hbx,hB2⟩
   case round=>
    clear hO2 hB2 hbx hnc hnm hI hacc;obtain⟨A',n',c',ps',acc,rfl,hnc,hnm,hI,rfl,hO,hacc,hbx,hB⟩:=hrel;have hb1:wr.cell? ⟨bx,1,none⟩=some (.int .i64 cn):=hbx.cell 1;have hlen:acc.length+((ws.drop (k+1)).length+1+ps'.length)=n+m:=by
     have h:=congrArg List.length hacc;rw[List.length_append,bF,bF,List.length_cons,hwl,HPM.out]at h;omega
    have hpl:=hI.1;rw[nats,List.length_map]at hpl;rw[List.length_drop,hwl,hpl]at hlen
    by_cases hpos:0<n'
    ·obtain⟨p,ps2,rfl⟩:∃p ps2,ps'=p::ps2:=by
      cases ps' with
      |nil=>simp at hpl;omega
      |cons p ps2=>exact⟨p,ps2,rfl⟩
     obtain⟨g2,o2,rfl,hg2,hcp⟩:=hI.at hpos;replace hcp:=hB.cell hcp (by simp);have hpe:(nats (p::ps2))[0]'(by simp[nats])=(p:Int):=rfl;rw[hpe,Nat.add_zero]at hcp;obtain⟨n2,rfl⟩:∃n2,n'=n2+1:=⟨n'-1,by omega⟩
     have hIt:Ints w (some ⟨g2,o2+1,none⟩) n2 (nats ps2):=Ints.tail hI;have hpl2:ps2.length=n2:=by simpa using hpl
     have hI2:=hI;clear hpe hI hpl;have dpos:decide (((n2+1:Nat):Int)>0)=true:=by simp
     by_cases hpc:p<cn
     ·have dlt:decide ((p:Int)<(cn:Int))=true:=by simp;omega
      have HA:=qhz hacc;have HBX:=qhz hbx;have HB:=qhz hB;have HO:=qhz hO;have HIT:=qhz hIt;have HL:=qhz hlen;have HL2:=qhz hpl2;clear hacc hbx hB hO hIt hpos hlen hpl2 hI2;go_wp2
      go_quiet (fail)
      go_wp2_with (at_builtin;refine wpList_append_fits _ rfl _ _ 274 rfl w.heap.size 276 i0 2 underlying274 hi0 hz1 w.heap.size acc.length (n+m) (bZ acc) rfl (World.ownsRow.alloc (HO.out.but ((But.refl [] wr).drewN nq) (by simp)) _) ⟨wr.heap.size,0,none⟩ 1 1 [.int .i64 p,.bool true] rfl rfl ?c1 ?c2 ?c3 ?_)
      case c1=>exact World.news_of_block (cs:=#[.int .i64 p,.bool true]) (t:=276) (fr:=(0,0)) (heap_alloc_new (wr.drewN nq) _)
      case c2=>simp[Value.oneCell']
      case c3=>have:=HL.out;have:=HL2.out;omega
      intro w2 hown2 hgrow2;have HN:=qhz (OwnR.pushed (HB.out.drewN nq) rfl rfl (Nat.le_refl _) hown2 hgrow2);have HX:=qhz (show Is w2 bx 253 #[sy,cn]from((HBX.out.drewN nq).alloc _).grown hgrow2 (by intro e;injection e with e;omega));have HAC:=qhz (show(acc++[(p,true)])++mrg (cn::ws.drop (k+1)) ps2=mrg ws ps by rw[←HA.out,oC hpc,List.append_assoc];rfl);clear hown2 hgrow2
      by_cases hce:c'=1
      ·go_wp2
       go_roundw
       case rel=>
        have e0:n2=0:=by omega
        have e1:ps2=[]:=List.eq_nil_of_length_eq_zero (by have:=HL2.out;omega);refine⟨_,_,_,ps2,acc++[(p,true)],rfl,by omega,by omega,?_,by rw[List.length_append];rfl,by rw[List.length_append];exact HN.out.1,HAC.out,HX.out,HN.out.2⟩;rw[e1]
        first|exact Ints.empty _ _|(rw[e0];exact Ints.empty _ _)
       case measure=>simp;try omega
      ·go_wp2
       go_roundw
       case rel=>
        refine⟨_,_,_,ps2,acc++[(p,true)],rfl,by omega,by omega,?_,by rw[List.length_append];rfl,by rw[List.length_append];exact HN.out.1,HAC.out,HX.out,HN.out.2⟩;exact HIT.out
       case measure=>simp;try omega
     ·have dlt:decide (p<cn)=false:=by simp;omega
      have HAC:=qhz (show(acc++[(cn,false)])++mrg (ws.drop (k+1)) (p::ps2)=mrg ws ps by rw[←hacc,mD hpc,List.append_assoc];rfl);have HBX:=qhz hbx;have HB:=qhz hB;have HO:=qhz hO;have HI2:=qhz hI2;have HL:=qhz hlen;have HL2:=qhz hpl2;clear hacc hbx hB hO hIt hpos hlen hpl2 hI2;go_wp2
      go_quiet (fail)
      go_wp2_with (at_builtin;refine wpList_append_fits _ rfl _ _ 274 rfl w.heap.size 276 i0 2 underlying274 hi0 hz1 w.heap.size acc.length (n+m) (bZ acc) rfl (World.ownsRow.alloc (HO.out.but ((But.refl [] wr).drewN nq) (by simp)) _) ⟨wr.heap.size,0,none⟩ 1 1 [.int .i64 cn,.bool false] rfl rfl ?d1 ?d2 ?d3 ?_)
      case d1=>exact World.news_of_block (cs:=#[.int .i64 cn,.bool false]) (t:=276) (fr:=(0,0)) (heap_alloc_new (wr.drewN nq) _)
      case d2=>simp[Value.oneCell']
      case d3=>have:=HL.out;omega
      intro w2 hown2 hgrow2;have HN:=qhz (OwnR.pushed (HB.out.drewN nq) rfl rfl (Nat.le_refl _) hown2 hgrow2);clear hown2 hgrow2;go_wp2
      go_roundw
      case rel=>exact⟨k+1,_,_,_,p::ps2,acc++[(cn,false)],by omega,by go_num,rfl,hnc,hnm,HI2.out,by rw[List.length_append];rfl,by rw[List.length_append];exact HN.out.1,HAC.out,HN.out.2⟩
      case measure=>simp[intOf];omega
    ·obtain rfl:n'=0:=by omega
     obtain rfl:ps'=[]:=List.eq_nil_of_length_eq_zero hpl;have HAC:=qhz (show(acc++[(cn,false)])++mrg (ws.drop (k+1)) []=mrg ws ps by rw[←hacc,N8 (by simp),List.append_assoc];rfl);have HBX:=qhz hbx;have HB:=qhz hB;have HO:=qhz hO;have HI2:=qhz hI;have HL:=qhz hlen;clear hacc hbx hB hO hpos hlen hpl hI;have dpos:decide (((0:Nat):Int)>0)=false:=by simp
     go_wp2
     go_quiet (fail)
     go_wp2_with (at_builtin;refine wpList_append_fits _ rfl _ _ 274 rfl w.heap.size 276 i0 2 underlying274 hi0 hz1 w.heap.size acc.length (n+m) (bZ acc) rfl (World.ownsRow.alloc (HO.out.but ((But.refl [] wr).drewN nq) (by simp)) _) ⟨wr.heap.size,0,none⟩ 1 1 [.int .i64 cn,.bool false] rfl rfl ?e1 ?e2 ?e3 ?_)
     case e1=>exact World.news_of_block (cs:=#[.int .i64 cn,.bool false]) (t:=276) (fr:=(0,0)) (heap_alloc_new (wr.drewN nq) _)
     case e2=>simp[Value.oneCell']
     case e3=>have:=HL.out;omega
     intro w2 hown2 hgrow2;have HN:=qhz (OwnR.pushed (HB.out.drewN nq) rfl rfl (Nat.le_refl _) hown2 hgrow2);clear hown2 hgrow2;go_wp2
     go_roundw
     case rel=>exact⟨k+1,_,_,_,[],acc++[(cn,false)],by omega,by go_num,rfl,hnc,hnm,HI2.out,by rw[List.length_append];rfl,by rw[List.length_append];exact HN.out.1,HAC.out,HN.out.2⟩
     case measure=>simp[intOf];omega
  ·obtain rfl:k=n:=by omega
   rw[List.drop_of_length_le (by omega),j6]at hacc;have hpl':=hI.1;rw[nats,List.length_map]at hpl';have hlen:acc.length+n'=k+m:=by
    have h:=congrArg List.length hacc;rw[List.length_append,List.length_map,bF,hwl,hpl,hpl']at h;omega
   have HA:=qhz hacc;have HI:=qhz hI;have HPL:=qhz hpl';have HL:=qhz hlen;clear hacc hI hpl' hlen hc hp hpl hcl hws;go_wp2
   go_loopw [5,51] (fun rv i wr=>∃(j:Nat) (acc:List (Nat×Bool)),j≤n'∧i=.int .i64 j∧rv=.slice w.heap.size acc.length (k+m)∧OwnR wr w.heap.size (.slice w.heap.size acc.length (k+m)) acc∧
    acc.length+(n'-j)=k+m∧acc++(ps'.drop j).map (fun p=>(p,true))=mrg ws ps∧But [] w wr) (fun _ i _=>n'-(intOf i).toNat)
   case atStart=>exact⟨0,acc,Nat.zero_le _,rfl,rfl,hO,HL.out,HA.out,hB⟩
   case round=>
    clear hO hB;obtain⟨j,acc,hj,rfl,rfl,hO,hl2,hacc,hB⟩:=hrel
    by_cases hlt2:j<n'
    ·obtain⟨g2,o2,rfl,hg2,hcp⟩:=HI.out.at hlt2;replace hcp:=hB.cell hcp (by simp);have hpd:ps'.drop j=ps'[j]'(by have:=HPL.out;omega)::ps'.drop (j+1):=List.drop_eq_getElem_cons _;have hpe:(nats ps')[j]'(by have:=HI.out.1;omega)=((ps'[j]'(by have:=HPL.out;omega):Nat):Int):=by simp[nats]
     rw[hpe]at hcp;generalize ps'[j]'(by have:=HPL.out;omega)=p at*;have HAC:=qhz (show(acc++[(p,true)])++(ps'.drop (j+1)).map (fun p=>(p,true))=mrg ws ps by rw[←hacc,hpd,List.append_assoc];rfl);have HB:=qhz hB;have HO:=qhz hO;clear hacc hB hO hpd hpe
     go_wp2_with (at_builtin;refine wpList_append_fits _ rfl _ _ 274 rfl w.heap.size 276 i0 2 underlying274 hi0 hz1 w.heap.size acc.length (k+m) (bZ acc) rfl (World.ownsRow.alloc HO.out _) ⟨wr.heap.size,0,none⟩ 1 1 [.int .i64 p,.bool true] rfl rfl ?f1 ?f2 ?f3 ?_)
     case f1=>exact World.news_of_block (cs:=#[.int .i64 p,.bool true]) (t:=276) (fr:=(0,0)) (heap_alloc_new wr _)
     case f2=>simp[Value.oneCell']
     case f3=>omega
     intro w2 hown2 hgrow2;have HN:=qhz (OwnR.pushed HB.out rfl rfl (Nat.le_refl _) hown2 hgrow2);clear hown2 hgrow2;go_wp2
     go_roundw
     case rel=>exact⟨j+1,acc++[(p,true)],by omega,by go_num,by rw[List.length_append];rfl,by rw[List.length_append];exact HN.out.1,by rw[List.length_append,List.length_singleton];omega,HAC.out,HN.out.2⟩
     case measure=>simp[intOf];omega
    ·obtain rfl:j=n':=by omega
     rw[List.drop_of_length_le (by have:=HPL.out;omega),List.map_nil,List.append_nil]at hacc;subst hacc;have hle:(mrg ws ps).length=k+m:=by omega
     rw[hle]at hO;have HLE:=qhz hle;clear hle hl2;go_wp2;go_ret;rw[HLE.out];exact⟨rfl,hO,hB⟩
def lx(x y:Nat×Nat):Prop:=x.2<y.2∨(x.2=y.2∧x.1<y.1)
theorem fC{x y z:Nat×Nat}(h:lx x y)(k:lx y z):lx x z:=by unfold lx at*;omega
theorem KO(x:Nat×Nat):¬lx x x:=by unfold lx;omega
theorem Ob{x y:Nat×Nat}(h:lx x y)(k:lx y x):False:=KO x (fC h k)
def Srt(l:List (Nat×Nat)):Prop:=l.Pairwise lx
def Crs(X Y:List (Nat×Nat)):Prop:=∀x∈X,∀y∈Y,x.1<y.1
theorem Srt.unique{a b:List (Nat×Nat)}(ha:Srt a)(hb:Srt b)(h:a.Perm b):a=b:=
 List.Perm.eq_of_pairwise (le:=lx) (fun _ _ _ _ h k=>(Ob h k).elim) ha hb h
theorem PD{X1 X2 Y1 Y2 S1 S2:List (Nat×Nat)}(hX:Srt (X1++X2))(hY:Srt (Y1++Y2))(h1:∀x y,X1.getLast? =some x→Y2.head? =some y→lx x y)(h2:∀y x,Y1.getLast? =some y→X2.head? =some x→lx y x)
 (s1:Srt S1) (s2:Srt S2) (p1:S1.Perm (X1++Y1)) (p2:S2.Perm (X2++Y2)):Srt (S1++S2)∧(S1++S2).Perm ((X1++X2)++(Y1++Y2)):=by
 have hX':=List.pairwise_append.1 hX;have hY':=List.pairwise_append.1 hY;have last:∀{l:List (Nat×Nat)},Srt l→∀x∈l,∃z,l.getLast? =some z∧(x=z∨lx x z):=by
  intro l hl x hx;rcases List.eq_nil_or_concat l with e|⟨q,s,e⟩
  ·subst e;cases hx
  ·rw[List.concat_eq_append]at e;subst e;refine⟨s,by simp,?_⟩;rcases List.mem_append.1 hx with h|h
   ·exact .inr ((List.pairwise_append.1 hl).2.2 x h s (by simp))
   ·exact .inl (by simpa using h)
 have first:∀{l:List (Nat×Nat)},Srt l→∀x∈l,∃z,l.head? =some z∧(x=z∨lx z x):=by
  intro l hl x hx;cases l with
  |nil=>cases hx
  |cons s l=>
   refine⟨s,rfl,?_⟩;rcases List.mem_cons.1 hx with h|h
   ·exact .inl h
   ·exact .inr ((List.pairwise_cons.1 hl).1 x h)
 refine⟨List.pairwise_append.2 ⟨s1,s2,fun a ha b hb=>?_⟩,?_⟩
 ·rcases List.mem_append.1 (p1.mem_iff.1 ha)with ha|ha<;>rcases List.mem_append.1 (p2.mem_iff.1 hb)with hb|hb
  ·exact hX'.2.2 a ha b hb
  ·obtain⟨x,hx,hax⟩:=last hX'.1 a ha;obtain⟨y,hy,hby⟩:=first hY'.2.1 b hb
   have:=h1 x y hx hy;rcases hax with rfl|hax<;>rcases hby with rfl|hby
   ·exact this
   ·exact fC this hby
   ·exact fC hax this
   ·exact fC (fC hax this) hby
  ·obtain⟨y,hy,hay⟩:=last hY'.1 a ha;obtain⟨x,hx,hbx⟩:=first hX'.2.1 b hb
   have:=h2 y x hy hx;rcases hay with rfl|hay<;>rcases hbx with rfl|hbx
   ·exact this
   ·exact fC this hbx
   ·exact fC hay this
   ·exact fC (fC hay this) hbx
  ·exact hY'.2.2 a ha b hb
 ·refine(p1.append p2).trans ?_;rw[List.append_assoc,List.append_assoc];refine List.Perm.append_left X1 ?_;rw[←List.append_assoc,←List.append_assoc];exact List.Perm.append_right Y2 List.perm_append_comm
def sw(d:List (Nat×Nat))(i j:Nat):List (Nat×Nat):=(d.set i (d.getD j (0,0))).set j (d.getD i (0,0))
theorem ti(d:List (Nat×Nat))(i j:Nat):(sw d i j).length=d.length:=by simp[sw]
theorem Rp(A M B:List (Nat×Nat))(x y:Nat×Nat)(i j:Nat)(hi:i=A.length)(hj:j=A.length+1+M.length):
 sw (A++x::M++y::B) i j=A++y::M++x::B:=by
 subst hi hj;unfold sw;have e1:(A++x::M++y::B).getD A.length (0,0)=x:=by simp[List.getD_eq_getElem?_getD]
 have e2:(A++x::M++y::B).getD (A.length+1+M.length) (0,0)=y:=by
  rw[List.getD_eq_getElem?_getD,List.getElem?_append_right (by simp;omega)];have:A.length+1+M.length-(A++x::M).length=0:=by simp;omega
  rw[this];rfl
 rw[e1,e2];have e3:(A++x::M++y::B).set A.length y=A++y::M++y::B:=by
  rw[List.append_assoc,List.set_append_right _ _ (Nat.le_refl _),Nat.sub_self];simp
 rw[e3,List.set_append_right _ _ (by simp;omega)];have:A.length+1+M.length-(A++y::M).length=0:=by simp;omega
 rw[this];rfl
theorem Bo(A B:List (Nat×Nat))(x y:Nat×Nat)(i j:Nat)(hi:i=A.length)(hj:j=i+1):sw (A++x::y::B) i j=A++y::x::B:=by
 have h:=Rp A [] B x y i j hi (by simp;omega);simpa using h
theorem IG(d:List (Nat×Nat))(i j:Nat)(h:i≠j):sw d i j=sw d j i:=by
 unfold sw;rw[List.set_comm _ _ h]
def yK(d:List (Nat×Nat))(a b:Nat):Nat→List (Nat×Nat)
 |0=>d
 |n+1=>yK (sw d a b) (a+1) (b+1) n
theorem DD:∀(X Y A M B:List (Nat×Nat)) (a b n:Nat),a=A.length→b=A.length+X.length+M.length→X.length=n→Y.length=n→
 yK (A++X++M++Y++B) a b n=A++Y++M++X++B
 |[],Y,A,M,B,a,b,n,_,_,h3,h4=>by
  have hn:n=0:=by simpa using h3.symm
  subst hn;have:Y=[]:=List.eq_nil_of_length_eq_zero h4;subst this;simp[yK]
 |x::X,[],A,M,B,a,b,n,_,_,h3,h4=>by simp at h3 h4;omega
 |x::X,y::Y,A,M,B,a,b,n,h1,h2,h3,h4=>by
  obtain⟨n,rfl⟩:∃n',n=n'+1:=⟨n-1,by simp at h3;omega⟩
  rw[yK];have e:A++x::X++M++y::Y++B=A++x::(X++M)++y::(Y++B):=by simp
  rw[e,Rp A (X++M) (Y++B) x y a b h1 (by simp at h2⊢;omega)];have e2:A++y::(X++M)++x::(Y++B)=(A++[y])++X++(M++[x])++Y++B:=by simp
  rw[e2,DD X Y (A++[y]) (M++[x]) B (a+1) (b+1) n (by simp;omega) (by simp at h2⊢;omega) (by simpa using h3) (by simpa using h4)];simp
def slc(d:List (Nat×Nat))(lo hi:Nat):List (Nat×Nat):=(d.drop lo).take (hi-lo)
theorem Rs(A X B:List (Nat×Nat))(lo hi:Nat)(h1:lo=A.length)(h2:hi=A.length+X.length):slc (A++X++B) lo hi=X:=by
 subst h1 h2;unfold slc;rw[List.append_assoc,List.drop_left,Nat.add_sub_cancel_left,List.take_left]
theorem sg(d:List (Nat×Nat))(lo hi:Nat)(h:lo≤hi):d=d.take lo++slc d lo hi++d.drop hi:=by
 unfold slc;have e:d.drop hi=(d.drop lo).drop (hi-lo):=by rw[List.drop_drop];congr 1;omega
 rw[e,List.append_assoc,List.take_append_drop,List.take_append_drop]
theorem jw(d:List (Nat×Nat))(lo hi:Nat)(h:lo≤hi)(h2:hi≤d.length):(slc d lo hi).length=hi-lo:=by unfold slc;simp;omega
theorem DI(A B:List (Nat×Nat))(lo hi:Nat)(h:hi≤A.length):slc (A++B) lo hi=slc A lo hi:=by
 unfold slc;rcases Nat.lt_or_ge hi lo with h1|h1
 ·rw[Nat.sub_eq_zero_of_le (by omega),List.take_zero,List.take_zero]
 ·rw[List.drop_append_of_le_length (by omega),List.take_append_of_le_length (by simp;omega)]
theorem Jd(A B C:List (Nat×Nat))(lo hi:Nat)(h:A.length≤lo)(h2:A.length=C.length):slc (A++B) lo hi=slc (C++B) lo hi:=by
 unfold slc
 congr 1
 rw[List.drop_append,List.drop_append,List.drop_of_length_le h,List.drop_of_length_le (by omega:C.length≤lo),h2]
theorem q8(d:List (Nat×Nat))(a m b:Nat)(h1:a≤m)(h2:m≤b):slc d a b=slc d a m++slc d m b:=by
 unfold slc;have e:b-a=(m-a)+(b-m):=by omega
 rw[e,List.take_add,List.drop_drop]
 congr 3;omega
def Good(d0 d:List (Nat×Nat))(lo hi:Nat):Prop:=Srt (slc d lo hi)∧(slc d lo hi).Perm (slc d0 lo hi)
theorem Good.of{d0 d d':List (Nat×Nat)}{lo hi:Nat}(h:Good d0 d lo hi)(e:slc d' lo hi=slc d lo hi):Good d0 d' lo hi:=by unfold Good;rw[e];exact h
theorem Good.crs{d0 d:List (Nat×Nat)}{a m b:Nat}(h0:d0.Pairwise fun x y=>x.1<y.1)(h1:Good d0 d a m)(h2:Good d0 d m b)(ha:a≤m)(hb:m≤b):Crs (slc d a m) (slc d m b):=by
 intro x hx y hy;have hx':=h1.2.mem_iff.1 hx;have hy':=h2.2.mem_iff.1 hy;have hp:(slc d0 a b).Pairwise fun x y=>x.1<y.1:=by
  unfold slc;exact List.Pairwise.sublist ((List.take_sublist _ _).trans (List.drop_sublist _ _)) h0
 rw[q8 d0 a m b ha hb]at hp;exact(List.pairwise_append.1 hp).2.2 x hx' y hy'
theorem Good.whole{d0 d:List (Nat×Nat)}(hl:d.length=d0.length)(h:Good d0 d 0 d0.length):Srt d∧d.Perm d0:=by
 unfold Good slc at h;rw[List.drop_zero,List.drop_zero,Nat.sub_zero,List.take_of_length_le (by omega),List.take_of_length_le (Nat.le_refl _)]at h;exact h
inductive Done(B:Nat)(d0 d:List (Nat×Nat)):Nat→Prop
 |zero:Done B d0 d 0
 |more {a:Nat}:Done B d0 d a→Good d0 d a (a+B)→Done B d0 d (a+B)
inductive Rest(B:Nat)(d0 d:List (Nat×Nat))(n:Nat):Nat→Prop
 |last {a:Nat}:n≤a+B→Good d0 d a n→Rest B d0 d n a
 |more {a:Nat}:a+B≤n→Good d0 d a (a+B)→Rest B d0 d n (a+B)→Rest B d0 d n a
theorem Done.of{B:Nat}{d0 d d':List (Nat×Nat)}{a:Nat}(h:Done B d0 d a)(e:∀lo hi,hi≤a→slc d' lo hi=slc d lo hi):Done B d0 d' a:=by
 induction h with
 |zero=>exact .zero
 |more _ hg ih=>exact .more (ih fun lo hi h=>e lo hi (by omega)) (hg.of (e _ _ (Nat.le_refl _)))
theorem Rest.of{B n:Nat}{d0 d d':List (Nat×Nat)}{a:Nat}(h:Rest B d0 d n a)(e:∀lo hi,a≤lo→slc d' lo hi=slc d lo hi):Rest B d0 d' n a:=by
 induction h with
 |last h hg=>exact .last h (hg.of (e _ _ (Nat.le_refl _)))
 |more h hg _ ih=>exact .more h (hg.of (e _ _ (Nat.le_refl _))) (ih fun lo hi h=>e lo hi (by omega))
theorem Done.join{B n:Nat}{d0 d:List (Nat×Nat)}{a:Nat}(h:Done B d0 d a)(hn:a≤n)(r:Rest B d0 d n a):Rest B d0 d n 0:=by
 induction h with
 |zero=>exact r
 |more _ hg ih=>exact ih (by omega) (.more hn hg r)
def CL(W:World)(b o:Nat)(d:List (Nat×Nat)):Prop:=∀(i:Nat) (h:i<d.length),
 W.cell? ⟨b,o+i*2,none⟩=some (.int .i64 d[i].1)∧W.cell? ⟨b,o+i*2+1,none⟩=some (.int .i64 d[i].2)∧W.frozen? ⟨b,o+i*2,none⟩=false∧W.frozen? ⟨b,o+i*2+1,none⟩=false
theorem CL.heap{W W':World}{b o:Nat}{d:List (Nat×Nat)}(h:CL W b o d)(e:W'.heap[b]? =W.heap[b]?):CL W' b o d:=fun i hi=>by
 obtain⟨h1,h2,h3,h4⟩:=h i hi;have f:∀a:Addr,a.block=b→W'.cell? a=W.cell? a∧W'.frozen? a=W.frozen? a:=fun a ha=>by
  subst ha;exact⟨World.cell?_of_block e,by unfold World.frozen?;rw[e]⟩
 exact⟨(f _ rfl).1.trans h1,(f _ rfl).1.trans h2,(f _ rfl).2.trans h3,(f _ rfl).2.trans h4⟩
theorem ji(W:World)(g i j:Nat)(v:Value)(h:i≠j):(W.setCell ⟨g,i,none⟩ v).cell? ⟨g,j,none⟩=W.cell? ⟨g,j,none⟩:=by
 apply World.cell?_setCell_other;intro e;injection e;exact h (by assumption)
theorem DX{W:World}{g i:Nat}(v:Value){u:Value}(h:W.cell? ⟨g,i,none⟩=some u):(W.setCell ⟨g,i,none⟩ v).cell? ⟨g,i,none⟩=some v:=by
 apply World.cell?_setCell_same;exact h
theorem set2(W:World)(g o p q:Nat)(u v:Value){p0 p1:Value}(h0:W.cell? ⟨g,o+p*2,none⟩=some p0)(h1:W.cell? ⟨g,o+p*2+1,none⟩=some p1):
 ((W.setCell ⟨g,o+p*2,none⟩ u).setCell ⟨g,o+p*2+1,none⟩ v).cell? ⟨g,o+q*2,none⟩=(if q=p then some u else W.cell? ⟨g,o+q*2,none⟩)∧
 ((W.setCell ⟨g,o+p*2,none⟩ u).setCell ⟨g,o+p*2+1,none⟩ v).cell? ⟨g,o+q*2+1,none⟩=(if q=p then some v else W.cell? ⟨g,o+q*2+1,none⟩):=by
 by_cases e:q=p
 ·subst e;rw[if_pos rfl,if_pos rfl];exact⟨(ji _ _ _ _ _ (by omega)).trans (DX _ h0),DX _ ((ji _ _ _ _ _ (by omega)).trans h1)⟩
 ·rw[if_neg e,if_neg e];exact⟨(ji _ _ _ _ _ (by omega)).trans (ji _ _ _ _ _ (by omega)),(ji _ _ _ _ _ (by omega)).trans (ji _ _ _ _ _ (by omega))⟩
theorem CL.swap{W:World}{g o p q xs xc ys yc:Nat}{d:List (Nat×Nat)}(h:CL W g o d)(hp:p<d.length)(hq:q<d.length)(hpq:p≠q)(hx:d.getD p (0,0)=(xs,xc))(hy:d.getD q (0,0)=(ys,yc)):
 CL ((((W.setCell ⟨g,o+p*2,none⟩ (.int .i64 ys)).setCell ⟨g,o+p*2+1,none⟩ (.int .i64 yc)).setCell ⟨g,o+q*2,none⟩ (.int .i64 xs)).setCell ⟨g,o+q*2+1,none⟩ (.int .i64 xc)) g o (sw d p q):=by
 intro i hi;rw[ti]at hi;obtain⟨h0,h1,h2,h3⟩:=h i hi;obtain⟨p0,p1,_,_⟩:=h p hp;obtain⟨q0,q1,_,_⟩:=h q hq;have a1:=fun t=>set2 W g o p t (.int .i64 ys) (.int .i64 yc) p0 p1;have a2:=fun t=>set2 ((W.setCell ⟨g,o+p*2,none⟩ (.int .i64 ys)).setCell ⟨g,o+p*2+1,none⟩ (.int .i64 yc)) g o q t (.int .i64 xs) (.int .i64 xc) (by rw[(a1 q).1,if_neg (Ne.symm hpq)];exact q0) (by rw[(a1 q).2,if_neg (Ne.symm hpq)];exact q1);have hs:(sw d p q)[i]'(by rw[ti];exact hi)=if i=q then(xs,xc)else if i=p then(ys,yc)else d[i]:=by
  simp only[sw,hx,hy,List.getElem_set]
  by_cases e1:i=q
  ·rw[if_pos e1.symm,if_pos e1]
  ·rw[if_neg (Ne.symm e1),if_neg e1]
   by_cases e2:i=p
   ·rw[if_pos e2.symm,if_pos e2]
   ·rw[if_neg (Ne.symm e2),if_neg e2]
 rw[hs];refine⟨?_,?_,by simp only[World.frozen?_setCell];exact h2,by simp only[World.frozen?_setCell];exact h3⟩
 ·rw[(a2 i).1,(a1 i).1];split
  ·rfl
  ·split
   ·rfl
   ·exact h0
 ·rw[(a2 i).2,(a1 i).2];split
  ·rfl
  ·split
   ·rfl
   ·exact h1
theorem But.swap{W w:World}{g o p q:Nat}(h:But [g] w W)(u0 u1 v0 v1:Value):
 But [g] w ((((W.setCell ⟨g,o+p*2,none⟩ u0).setCell ⟨g,o+p*2+1,none⟩ u1).setCell ⟨g,o+q*2,none⟩ v0).setCell ⟨g,o+q*2+1,none⟩ v1):=
 (((h.setCell (.inl (by simp)) _).setCell (.inl (by simp)) _).setCell (.inl (by simp)) _).setCell (.inl (by simp)) _
theorem tF(x:Int)(w:World):Calls prog 247 #[x] w fun e w'=>e=.returned (.bool false)∧w=w':=by
 go_enter func247,ntmps247
 go_wp2;go_ret;exact⟨rfl,rfl⟩
def nm(x y:Int):Int:=if x<y then -1 else if y<x then 1 else 0
theorem Rb(x y:Int)(w:World):Calls prog 239 #[x,y] w fun e w'=>e=.returned (.int .i64 (nm x y))∧w=w':=by
 unfold nm
 by_cases h1:x<y
 ·rw[if_pos h1]
  go_enter func239,ntmps239
  go_wp2_with (go_at_call 247;refine(tF _ _).mono ?_;rintro e w' ⟨rfl,rfl⟩)
  go_ret;exact⟨rfl,rfl⟩
 ·rw[if_neg h1]
  by_cases h2:y<x
  ·rw[if_pos h2]
   go_enter func239,ntmps239
   go_wp2_with (go_at_call 247;refine(tF _ _).mono ?_;rintro e w' ⟨rfl,rfl⟩)
   go_ret;exact⟨rfl,rfl⟩
  ·rw[if_neg h2]
   go_enter func239,ntmps239
   go_wp2_with (go_at_call 247;refine(tF _ _).mono ?_;rintro e w' ⟨rfl,rfl⟩)
   go_ret;exact⟨rfl,rfl⟩
theorem oW(s1 c1 s2 c2:Int)(w:World):Calls prog 238 #[.agg #[s1,c1],.agg #[s2,c2]] w fun e w'=>e=.returned (.int .i64 (nm c1 c2))∧∃q os',w'=Sort.grow (w.drewN q) os':=by
 go_enter func238,ntmps238
 go_wp2_with (go_at_call 239;refine(Rb _ _ _).mono ?_;rintro e w' ⟨rfl,rfl⟩)
 go_ret;refine⟨rfl,0,#[.cells #[s1,c1] 253,.cells #[s2,c2] 253],?_⟩;rw[Sort.alloc_eq_grow,Sort.alloc_eq_grow,Sort.grow_grow];rfl
theorem wF{w:World}{g o n cap a b k:Nat}{d:List (Nat×Nat)}(hd:CL w g o d)(hdl:d.length=n)(hn:n≤1000)(hab:a+k≤b)(hbn:b+k≤n)(f:Value):
 Calls prog 252 #[.slice (some ⟨g,o,none⟩) n cap,a,b,k,f] w fun e w'=>e=.returned (.tuple #[])∧CL w' g o (yK d a b k)∧But [g] w w':=by
 go_enter func252,ntmps252
 go_wp2
 go_loopw [10] (fun iv wr=>∃(i:Nat) (dk:List (Nat×Nat)),i≤k∧iv=.int .i64 i∧dk.length=n∧CL wr g o dk∧yK dk (a+i) (b+i) (k-i)=yK d a b k∧But [g] w wr) (fun iv _=>k-(intOf iv).toNat)
 case atStart=>exact⟨0,d,Nat.zero_le _,rfl,hdl,hd,rfl,But.refl _ _⟩
 case round=>
  clear hd hdl;obtain⟨i,dk,hi,rfl,hdl,hd,hsw,hB⟩:=hrel
  by_cases hlt:i<k
  ·obtain⟨x0,x1,x2,x3⟩:=hd (a+i) (by omega);obtain⟨y0,y1,y2,y3⟩:=hd (b+i) (by omega);have hx:dk.getD (a+i) (0,0)=dk[a+i]'(by omega):=by rw[List.getD_eq_getElem?_getD,List.getElem?_eq_getElem (by omega)];rfl
   have hy:dk.getD (b+i) (0,0)=dk[b+i]'(by omega):=by rw[List.getD_eq_getElem?_getD,List.getElem?_eq_getElem (by omega)];rfl
   generalize dk[a+i]'(by omega)=x at*;generalize dk[b+i]'(by omega)=y at*;obtain⟨xs,xc⟩:=x;obtain⟨ys,yc⟩:=y;dsimp only at x0 x1 y0 y1;obtain⟨p,hp⟩:=E1 (a+i);obtain⟨q,hq⟩:=E1 (b+i);rw[←hp]at x0 x1 x2 x3;rw[←hq]at y0 y1 y2 y3;have ep:(a:Int)+(i:Int)=(p:Int):=by omega
   have eq:(b:Int)+(i:Int)=(q:Int):=by omega
   have p0:(0:Int)≤(p:Int):=by omega
   have pn:(p:Int)<(n:Int):=by omega
   have q0:(0:Int)≤(q:Int):=by omega
   have qn:(q:Int)<(n:Int):=by omega
   have hpq:p<q:=by omega
   have HX:=qhz hx;have HY:=qhz hy;have HP:=qhz hp;have HQ:=qhz hq;have HD:=qhz hd;have HSW:=qhz hsw;have HB:=qhz hB;have HDL:=qhz hdl;clear hx hy hp hq hd hsw hB hdl;go_wp2
   go_region
   go_wp2
   go_roundw
   case rel=>
    refine⟨i+1,sw dk p q,by omega,by go_num,by rw[ti];exact HDL.out,((HD.out.swap (by have:=HDL.out;omega) (by have:=HDL.out;omega) (by omega) (by rw[HP.out];exact HX.out) (by rw[HQ.out];exact HY.out)).heap rfl),?_,(HB.out.swap _ _ _ _).drew⟩;rw[←HSW.out,HP.out,HQ.out,show k-i=(k-(i+1))+1 from by omega];rfl
   case measure=>simp[intOf];omega
  ·obtain rfl:i=k:=by omega
   rw[Nat.sub_self]at hsw;go_wp2
   go_end0
   have e:dk=yK d a b i:=hsw;exact⟨rfl,e▸hd,hB⟩
theorem kP{w:World}{g o n cap a b k:Nat}{A X M Y B:List (Nat×Nat)}(hd:CL w g o (A++X++M++Y++B))(hdl:(A++X++M++Y++B).length=n)(hn:n≤1000)
 (ha:a=A.length) (hb:b=A.length+X.length+M.length) (hX:X.length=k) (hY:Y.length=k) (f:Value):
 Calls prog 252 #[.slice (some ⟨g,o,none⟩) n cap,a,b,k,f] w fun e w'=>e=.returned (.tuple #[])∧CL w' g o (A++Y++M++X++B)∧But [g] w w':=by
 have h:=wF (cap:=cap) (a:=a) (b:=b) (k:=k) hd hdl hn (by omega) (by simp at hdl;omega) f;rw[DD X Y A M B a b k ha hb hX hY]at h;exact h
theorem FB{w:World}{g o n cap a m b:Nat}{A X Y B:List (Nat×Nat)}(hd:CL w g o (A++X++Y++B))(hdl:(A++X++Y++B).length=n)(hn:n≤1000)
 (ha:a=A.length) (hm:m=A.length+X.length) (hb:b=A.length+X.length+Y.length) (hX:0<X.length) (hY:0<Y.length) (f:Value):
 Calls prog 251 #[.slice (some ⟨g,o,none⟩) n cap,a,m,b,f] w fun e w'=>e=.returned (.tuple #[])∧CL w' g o (A++Y++X++B)∧But [g] w w':=by
 have hml:m≤n:=by simp at hdl;omega
 obtain⟨i0,hi0⟩:=E1 X.length;obtain⟨j0,hj0⟩:=E1 Y.length;have e1:(m:Int)-(a:Int)=(i0:Int):=by omega
 have e2:(b:Int)-(m:Int)=(j0:Int):=by omega
 have bn:b≤1000:=by simp at hdl;omega
 have an:a≤1000:=by omega
 have HM:=qhz hm;have HI:=qhz hi0;have HJ:=qhz hj0;have HDL:=qhz hdl;clear hm hi0 hj0 hdl ha hb
 go_enter func251,ntmps251
 go_wp2
 go_loopw [10,11] (fun iv jv wr=>∃(i j:Nat) (P X' Y' Q:List (Nat×Nat)),iv=.int .i64 i∧jv=.int .i64 j∧X'.length=i∧Y'.length=j∧0<i∧0<j∧P.length+i=m∧(P++X'++Y'++Q).length=n∧CL wr g o (P++X'++Y'++Q)∧P++Y'++X'++Q=A++Y++X++B∧But [g] w wr) (fun iv jv _=>(intOf iv).toNat+(intOf jv).toNat)
 case atStart=>exact⟨i0,j0,A,X,Y,B,rfl,rfl,HI.out.symm,HJ.out.symm,by have:=HI.out;omega,by have:=HJ.out;omega,by have:=HM.out;have:=HI.out;omega,HDL.out,hd,rfl,But.refl _ _⟩
 case round=>
  clear e1 e2 hX hY hd;obtain⟨i,j,P,X',Y',Q,rfl,rfl,hX,hY,hi,hj,hP,hL,hd,ht,hB⟩:=hrel;have hLn:P.length+i+j≤n:=by simp at hL;omega
  have emi:(m:Int)-(i:Int)=(P.length:Int):=by omega
  by_cases he:i=j
  ·subst he;have hb1:((i:Int) !=(i:Int))=false:=by simp
   have hsr:=kP (cap:=cap) (a:=P.length) (b:=m) (k:=i) (A:=P) (X:=X') (M:=[]) (Y:=Y') (B:=Q) (by simpa using hd) (by simpa using hL) hn rfl (by simp;omega) hX hY f;have HS:=qhz hsr;have HT:=qhz ht;have HB:=qhz hB;clear hsr ht hB hd hL hX hY
   go_wp2_with fail
   refine HS.out.mono ?_;rintro e w' ⟨rfl,hd',hB'⟩;go_wp2
   go_end0
   refine⟨rfl,?_,HB.out.trans hB'⟩;rw[←HT.out];simpa using hd'
  ·have hne:((i:Int) !=(j:Int))=true:=by simp;omega
   by_cases hlt:j<i
   ·have hgt:decide (j<i)=true:=by simpa using hlt
    have hXs:X'=X'.take j++X'.drop j:=(List.take_append_drop _ _).symm;have hsr:=kP (cap:=cap) (a:=P.length) (b:=m) (k:=j) (A:=P) (X:=X'.take j) (M:=X'.drop j) (Y:=Y') (B:=Q) (by rw[List.append_assoc P,←hXs];exact hd) (by rw[List.append_assoc P,←hXs];exact hL) hn rfl (by simp;omega) (by simp;omega) hY f;have HS:=qhz hsr;have HT:=qhz ht;have HB:=qhz hB;have HL:=qhz hL;have HX:=qhz hX;have HY:=qhz hY;have HXS:=qhz hXs;clear hsr ht hB hd hL hX hY hXs he
    go_wp2_with fail
    refine HS.out.mono ?_;rintro e w' ⟨rfl,hd',hB'⟩;go_wp2
    go_roundw
    case rel=>
     refine⟨i-j,j,P++Y',X'.drop j,X'.take j,Q,by congr 1;omega,rfl,by simp;have:=HX.out;omega,by simp;have:=HX.out;omega,by omega,hj,by simp;have:=HY.out;omega,?_,hd',?_,HB.out.trans hB'⟩
     ·have:=HL.out;have:=HX.out;simp at*;omega
     ·rw[←HT.out];conv=>rhs;rw[HXS.out]
      simp
    case measure=>simp[intOf];omega
   ·have hgt:decide (j<i)=false:=by simpa using hlt
    have hij:i<j:=by omega
    have hYs:Y'=Y'.take (j-i)++Y'.drop (j-i):=(List.take_append_drop _ _).symm;obtain⟨q,hq⟩:=E1 (m+(j-i));have eq:(m:Int)+(j:Int)-(i:Int)=(q:Int):=by omega
    have hsr:=kP (cap:=cap) (a:=P.length) (b:=q) (k:=i) (A:=P) (X:=X') (M:=Y'.take (j-i)) (Y:=Y'.drop (j-i)) (B:=Q) (by rw[List.append_assoc (P++X'),←hYs];exact hd) (by rw[List.append_assoc (P++X'),←hYs];exact hL) hn rfl (by simp;omega) hX (by simp;omega) f;have HS:=qhz hsr;have HT:=qhz ht;have HB:=qhz hB;have HL:=qhz hL;have HX:=qhz hX;have HY:=qhz hY;have HYS:=qhz hYs;clear hsr ht hB hd hL hX hY hYs he hq
    go_wp2_with fail
    refine HS.out.mono ?_;rintro e w' ⟨rfl,hd',hB'⟩;go_wp2
    go_roundw
    case rel=>
     refine⟨i,j-i,P,Y'.drop (j-i),Y'.take (j-i),X'++Q,rfl,by congr 1;omega,by simp;have:=HY.out;omega,by simp;have:=HY.out;omega,hi,by omega,hP,?_,by simpa using hd',?_,HB.out.trans hB'⟩
     ·have:=HL.out;have:=HX.out;have:=HY.out;simp at*;omega
     ·rw[←HT.out];conv=>rhs;rw[HYS.out]
      simp
    case measure=>simp[intOf];omega
end Go.Proofs.YtbanopnofpjnbaaGreatDoor
