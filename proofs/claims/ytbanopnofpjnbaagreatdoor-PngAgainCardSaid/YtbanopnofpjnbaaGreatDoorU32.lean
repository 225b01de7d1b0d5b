/- Own texts in one: DefM, DefN, DefO, DefP, DefQ, DefR, FiD, FiK. -/
import Derived.Test.YtbanopnofpjnbaaGreatDoorU13
import Derived.Test.YtbanopnofpjnbaaGreatDoorU31
set_option maxRecDepth 1000000
set_option linter.unusedVariables false
set_option maxHeartbeats 4000000
namespace Go.Proofs.YtbanopnofpjnbaaGreatDoor
open Go Go.RowKit Tryz
def Ext(q r:Nat×Nat):Prop:=q.2≤r.2∧r.1%2^q.2=q.1∧r.1<2^r.2
theorem Ext.refl{q:Nat×Nat}(h:q.1<2^q.2):Ext q q:=⟨Nat.le_refl _,Nat.mod_eq_of_lt h,h⟩
theorem Ext.trans{a b c:Nat×Nat}(h:Ext a b)(k:Ext b c):Ext a c:=
 ⟨Nat.le_trans h.1 k.1,by rw[←h.2.1,←k.2.1,Nat.mod_mod_of_dvd _ (Nat.pow_dvd_pow 2 h.1)],k.2.2⟩
theorem aw{q:Nat×Nat}{v n:Nat}(hn:n≤24)(hv:v<2^n)(hq:q.1<2^q.2):Ext q (layB q v n):=by
 rw[bX hn hv];refine⟨by dsimp only;omega,?_,?_⟩
 ·dsimp only;rw[Nat.add_mul_mod_self_right,Nat.mod_eq_of_lt hq]
 ·dsimp only;rw[Nat.pow_add];have:=Nat.mul_le_mul_right (2^q.2) (show v+1≤2^n by omega);rw[Nat.add_mul,Nat.mul_comm (2^n)]at this;omega
def Says(s:ByteArray)(r:Nat×Nat):Prop:=r.1<2^r.2∧Pre (eX r.1 r.2) s
theorem DJ{s:ByteArray}{r:Nat×Nat}(h:Says s r){p n:Nat}(hn:n≤24)(hp:p+n≤r.2):au s p n=0∧ax s p n=bK r.1 p n∧aK s p n=p+n:=by
 have he:au (eX r.1 r.2) p n=0:=by
  unfold au;rw[if_neg (by omega),if_neg];rw[fQ];omega
 obtain⟨h1,h2,h3⟩:=E0 h.2 (p:=p) (n:=(n:Int)) (by rw[he];decide);rw[he]at h1;refine⟨h1,?_,?_⟩
 ·rw[h2];unfold ax;rw[if_pos he,vq _ _ h.1,Int.toNat_natCast]
 ·unfold aK;rw[if_pos h1,Int.toNat_natCast]
theorem xY{q r:Nat×Nat}(h:Ext q r){p n:Nat}(hp:p+n≤q.2):bK r.1 p n=bK q.1 p n:=by
 rw[←jH r.1 p n q.2 hp,h.2.1]
theorem d6{s:ByteArray}{q r:Nat×Nat}{v n:Nat}(hs:Says s r)(hn:n≤24)(hv:v<2^n)(hq:q.1<2^q.2)(hr:Ext (layB q v n) r):
 au s q.2 n=0∧ax s q.2 n=v∧aK s q.2 n=(layB q v n).2:=by
 have he:=bX (q:=q) hn hv;have hl:q.2+n≤r.2:=by have:=hr.1;rw[he]at this;exact this
 obtain⟨h1,h2,h3⟩:=DJ hs hn hl;refine⟨h1,?_,by rw[h3,he]⟩;rw[h2,xY hr (by rw[he];exact Nat.le_refl _),he];unfold bK;dsimp only;rw[Nat.add_mul_div_right _ _ (Nat.two_pow_pos _),Nat.div_eq_of_lt hq,Nat.zero_add,Nat.mod_eq_of_lt hv]
theorem a8{l:List Int}(hc:chk l=0){q:Nat×Nat}(hq:q.1<2^q.2)(t:Nat):Ext q (layC l q t):=by
 obtain⟨h1,h2,h3⟩:=KT hc (s:=(t:Int)) hq;exact⟨h3,h2,h1⟩
theorem gC{l:List Int}(hc:chk l=0){s:ByteArray}{q r:Nat×Nat}{t:Nat}(hs:Says s r)(hh:has l t)(hq:q.1<2^q.2)(hr:Ext (layC l q t) r):gK l s q.2=(t,0,(layC l q t).2):=by
 obtain⟨n,j,hj,hn,ht,hl,hcode⟩:=PC hc hh;rw[Int.toNat_natCast]at ht hl hcode;have e3:layC l q t=layG ((2*gN l n+j:Nat):Int) (n+1) q.1 q.2:=by
  unfold layC layS;rw[if_pos hh,Int.toNat_natCast,hcode,hl,Int.toNat_natCast]
 have hsp:=tE (2*gN l n+j) (n+1) q.1 q.2 hq;have hlen:=lZ ((2*gN l n+j:Nat):Int) (n+1) q.1 q.2;have hle:=hr.1;rw[e3,hlen]at hle;rw[e3,hlen];refine Ge hc hn hj ht fun i hi=>?_;obtain⟨h1,h2,h3⟩:=DJ hs (p:=q.2+i) (n:=1) (by omega) (by omega);refine⟨h1,?_⟩;have h2':ax s (q.2+i) 1=bK r.1 (q.2+i) 1:=h2;rw[h2',xY hr (p:=q.2+i) (n:=1) (by rw[e3,hlen];omega),e3,hsp.2.2 i hi,show n+1-1-i=n-i from by omega]
theorem rx{l d:List Int}(hl:chk l=0)(hd:chk d=0){q:Nat×Nat}(hq:q.1<2^q.2){t:Tk}(ht:iC l d t):Ext q (layT l d q t):=by
 unfold layT;unfold iC at ht
 by_cases h0:t.1=0
 ·rw[if_pos h0];exact a8 hl hq _
 ·rw[if_neg h0]at ht⊢;obtain⟨a1,a2,a3,a4,a5,a6⟩:=ht;obtain⟨b1,b2,b3,b4⟩:=eK t.1 (by omega) a1;obtain⟨c1,c2,c3⟩:=eL t.2.1 (by omega) a3;have e1:=a8 hl hq (lsym t.1);have e2:=aw (v:=t.1-ar (lsym t.1)) (n:=aq (lsym t.1)) (by have:=lX (t:=lsym t.1) (by omega) b2;omega) b4 e1.2.2;have e3:=a8 hd e2.2.2 (dsym t.2.1);have e4:=aw (v:=t.2.1-aF (dsym t.2.1)) (n:=aC (dsym t.2.1)) (by have:=mb (u:=dsym t.2.1) c1;omega) c3 e3.2.2;exact((e1.trans e2).trans e3).trans e4
theorem io{l d:List Int}(hl:chk l=0)(hd:chk d=0):∀(ts:List Tk) (q:Nat×Nat),q.1<2^q.2→(∀t∈ts,iC l d t)→Ext q (bC l d q ts)
 |[],q,hq,_=>Ext.refl hq
 |t::ts,q,hq,h=>by
  have e:=rx hl hd hq (h t (by simp));exact e.trans (io hl hd ts _ e.2.2 (fun t ht=>h t (by simp[ht])))
def sayT(out:List UInt8)(t:Tk):List UInt8:=if t.1=0 then out++[UInt8.ofNat t.2.2]else bI t.2.1 t.1 out
def kS(out:List UInt8)(ts:List Tk):List UInt8:=ts.foldl sayT out
def CI:List UInt8→List Tk→Prop
 |_,[]=>True
 |out,t::ts=>(t.1≠0→t.2.1≤out.length)∧CI (sayT out t) ts
theorem DK(out:List UInt8)(t:Tk):(sayT out t).length=out.length+kQ t:=by
 unfold sayT kQ
 by_cases h:t.1=0
 ·rw[if_pos h,h];simp
 ·rw[if_neg h,dT];omega
theorem yW:∀(ts:List Tk) (out:List UInt8),out.length≤(kS out ts).length
 |[],_=>Nat.le_refl _
 |t::ts,out=>by
  have:=yW ts (sayT out t);have h2:=DK out t;show out.length≤(kS (sayT out t) ts).length;omega
theorem rT{l d:List Int}(hl:chk l=0)(hd:chk d=0)(h256:has l (256:Nat)){s:ByteArray}{r:Nat×Nat}(hs:Says s r){most:Int}:∀(ts:List Tk) (f:Nat) (out:List UInt8) (q:Nat×Nat),ts.length<f→q.1<2^q.2→
 (∀t∈ts,iC l d t)→CI out ts→((kS out ts).length:Int)≤most→Ext (layC l (bC l d q ts) 256) r→symG l d most f out s q.2=.ok (kS out ts,(layC l (bC l d q ts) 256).2)
 |[],0,_,_,hf,_,_,_,_,_=>by simp at hf
 |_::_,0,_,_,hf,_,_,_,_,_=>by simp at hf
 |[],f+1,out,q,_,hq,_,_,_,hr=>P1 (gC hl hs h256 hq hr)
 |t::ts,f+1,out,q,hf,hq,hh,hfar,hm,hr=>by
  have ht:=hh t (by simp);have e0:=rx hl hd hq ht;have hh':∀t∈ts,iC l d t:=fun t ht=>hh t (by simp[ht]);have ets:=io hl hd ts _ e0.2.2 hh';have eend:=a8 hl ets.2.2 256;have hr':Ext (layC l (bC l d (layT l d q t) ts) 256) r:=hr;have htr:Ext (layT l d q t) r:=(ets.trans eend).trans hr';have hlen:=yW ts (sayT out t);have hsl:=DK out t;have hm':((kS (sayT out t) ts).length:Int)≤most:=hm;have ih:=rT hl hd h256 hs (most:=most) ts f (sayT out t) (layT l d q t) (by simp at hf;omega) e0.2.2 hh' hfar.2 hm' hr';unfold iC at ht
  by_cases h0:t.1=0
  ·rw[if_pos h0]at ht;have el:layT l d q t=layC l q t.2.2:=by unfold layT;rw[if_pos h0]
   have es:sayT out t=out++[UInt8.ofNat t.2.2]:=by unfold sayT;rw[if_pos h0]
   have hn:=gC hl hs ht.2 hq (by rw[←el];exact htr);have hspn:1≤kQ t:=by unfold kQ;omega
   rw[P0 hn (by omega) (by omega)];rw[el,es]at ih;have e1:kS out (t::ts)=kS (out++[UInt8.ofNat t.2.2]) ts:=by rw[←es];rfl
   have e2:bC l d q (t::ts)=bC l d (layC l q t.2.2) ts:=by rw[←el];rfl
   rw[e1,e2];exact ih
  ·rw[if_neg h0]at ht;obtain⟨a1,a2,a3,a4,a5,a6⟩:=ht;obtain⟨b1,b2,b3,b4⟩:=eK t.1 (by omega) a1;obtain⟨c1,c2,c3⟩:=eL t.2.1 (by omega) a3;have el:layT l d q t=layB (layC d (layB (layC l q (lsym t.1)) (t.1-ar (lsym t.1)) (aq (lsym t.1))) (dsym t.2.1)) (t.2.1-aF (dsym t.2.1)) (aC (dsym t.2.1)):=by unfold layT;rw[if_neg h0]
   have hb1:aq (lsym t.1)≤24:=by have:=lX (t:=lsym t.1) (by omega) b2;omega
   have hb2:aC (dsym t.2.1)≤24:=by have:=mb (u:=dsym t.2.1) c1;omega
   have e1:=a8 hl hq (lsym t.1);have e2:=aw (v:=t.1-ar (lsym t.1)) hb1 b4 e1.2.2;have e3:=a8 hd e2.2.2 (dsym t.2.1);have e4:=aw (v:=t.2.1-aF (dsym t.2.1)) hb2 c3 e3.2.2;rw[el]at htr;have n1:=gC hl hs a5 hq (((e2.trans e3).trans e4).trans htr);obtain⟨x1,x2,x3⟩:=d6 hs hb1 b4 e1.2.2 ((e3.trans e4).trans htr);have n2:=gC hd hs a6 e2.2.2 (e4.trans htr);obtain⟨y1,y2,y3⟩:=d6 hs hb2 c3 e3.2.2 htr;have es:sayT out t=bI t.2.1 t.1 out:=by unfold sayT;rw[if_neg h0]
   have ev:ar (lsym t.1)+(t.1-ar (lsym t.1))=t.1:=by omega
   have ew:aF (dsym t.2.1)+(t.2.1-aF (dsym t.2.1))=t.2.1:=by omega
   have hfr:=hfar.1 h0;have hsp:kQ t=t.1:=by unfold kQ;omega
   rw[IC n1 (by omega) b2];rw[←x3]at n2;rw[Gi x1 n2 (by omega) y1 (by rw[y2,ew];omega) (by rw[x2,ev];omega),x2,y2,y3,ev,ew];rw[el,es]at ih;have e5:kS out (t::ts)=kS (bI t.2.1 t.1 out) ts:=by rw[←es];rfl
   have e6:bC l d q (t::ts)=bC l d (layB (layC d (layB (layC l q (lsym t.1)) (t.1-ar (lsym t.1)) (aq (lsym t.1))) (dsym t.2.1)) (t.2.1-aF (dsym t.2.1)) (aC (dsym t.2.1))) ts:=by rw[←el];rfl
   rw[e5,e6];exact ih
theorem vM(l:List Int)(i:Nat):∀f n k,n≤k→k<kF l i f n→l.getD (i+k) 0=l.getD i 0
 |0,_,_,h1,h2=>by simp only[kF]at h2;omega
 |f+1,n,k,h1,h2=>by
  rw[kF]at h2;split at h2
  ·rename_i hc
   by_cases e:k=n
   ·subst e;exact hc.2
   ·exact vM l i f (n+1) k (by omega) h2
  ·omega
theorem sn{l:List Int}{i k:Nat}(h:k<runN l i):l.getD (i+k) 0=l.getD i 0:=by
 by_cases e:k=0
 ·subst e;rfl
 ·exact vM l i l.length 1 k (by omega) h
theorem nM{l:List Int}{i n:Nat}{v:Int}(hi:i+n≤l.length)(h:∀k,k<n→l.getD (i+k) 0=v):l.take i++List.replicate n v=l.take (i+n):=by
 induction n with
 |zero=>simp
 |succ n ih=>
  have e:=ih (by omega) (fun k hk=>h k (by omega));rw[List.replicate_succ',←List.append_assoc,e,←Nat.add_assoc,List.take_succ_eq_append_getElem (by omega)]
  congr 2
  have:=h n (by omega);rw[List.getD_eq_getElem?_getD,List.getElem?_eq_getElem (by omega)]at this;exact this.symm
def Fu(c:Int×Nat):Prop:=(c.1=16→c.2<4)∧(c.1=17→c.2<8)∧(c.1=18→c.2<128)
theorem xM{small:List Int}(hc:chk small=0){q:Nat×Nat}(hq:q.1<2^q.2){c:Int×Nat}(h:Fu c):Ext q (layR small q c):=by
 unfold layR
 by_cases h1:c.1=16
 ·rw[if_pos h1];have e1:=a8 hc hq 16;exact e1.trans (aw (by omega) (by have:=h.1 h1;omega) e1.2.2)
 ·rw[if_neg h1]
  by_cases h2:c.1=17
  ·rw[if_pos h2];have e1:=a8 hc hq 17;exact e1.trans (aw (by omega) (by have:=h.2.1 h2;omega) e1.2.2)
  ·rw[if_neg h2]
   by_cases h3:c.1=18
   ·rw[if_pos h3];have e1:=a8 hc hq 18;exact e1.trans (aw (by omega) (by have:=h.2.2 h3;omega) e1.2.2)
   ·rw[if_neg h3];exact a8 hc hq _
theorem lr{small:List Int}(hc:chk small=0):∀(cs:List (Int×Nat)) (q:Nat×Nat),q.1<2^q.2→(∀c∈cs,Fu c)→Ext q (dU small q cs)
 |[],q,hq,_=>Ext.refl hq
 |c::cs,q,hq,h=>by
  have e:=xM hc hq (h c (by simp));exact e.trans (lr hc cs _ e.2.2 (fun t ht=>h t (by simp[ht])))
theorem DQ{l:List Int}(h15:∀i,0≤l.getD i 0∧l.getD i 0≤15)(i:Nat):Fu ((aO l i).1,(aO l i).2.1):=by
 have hv:=h15 i;unfold aO Fu
 by_cases h1:l.getD i 0=0∧11≤runN l i
 ·rw[if_pos h1];dsimp only;omega
 ·rw[if_neg h1]
  by_cases h2:l.getD i 0=0∧3≤runN l i
  ·rw[if_pos h2];dsimp only;omega
  ·rw[if_neg h2]
   by_cases h3:l.getD i 0≠0∧0<i∧l.getD (i-1) 0=l.getD i 0∧3≤runN l i
   ·rw[if_pos h3];dsimp only;omega
   ·rw[if_neg h3];dsimp only;omega
theorem lO{l:List Int}(h15:∀i,0≤l.getD i 0∧l.getD i 0≤15):∀f i,∀c∈dM l f i,Fu c
 |0,_,c,h=>by simp[dM]at h
 |f+1,i,c,h=>by
  rw[dM]at h
  by_cases hi:i<l.length
  ·rw[if_pos hi]at h;rcases List.mem_cons.1 h with rfl|h
   ·exact DQ h15 i
   ·exact lO h15 f _ c h
  ·rw[if_neg hi]at h;cases h
theorem yY{l small:List Int}(hc:chk small=0)(h15:∀i,0≤l.getD i 0∧l.getD i 0≤15){s:ByteArray}{r:Nat×Nat}(hs:Says s r):∀(g f i:Nat) (q:Nat×Nat),l.length≤i+g→(dM l g i).length<f→i≤l.length→q.1<2^q.2→
 (∀c∈dM l g i,has small c.1)→Ext (dU small q (dM l g i)) r→lenG small l.length f (l.take i) s q.2=.ok (l,(dU small q (dM l g i)).2)
 |0,f+1,i,q,hg,_,hi,_,_,_=>by
  have:i=l.length:=by omega
  subst this;rw[List.take_length,rp (Nat.le_refl _)];rfl
 |g+1,f+1,i,q,hg,hf,hi,hq,hh,hr=>by
  by_cases hlt:i<l.length
  ·have hacc:(l.take i).length=i:=by simp;omega
   have hrun:dM l (g+1) i=((aO l i).1,(aO l i).2.1)::dM l g (i+(aO l i).2.2):=by rw[dM,if_pos hlt]
   rw[hrun]at hh hr hf⊢;rw[List.length_cons]at hf;have hpos:=n6 l i;have hok:=DQ h15 i;have h0:=hh _ (List.mem_cons_self);have hh':∀c∈dM l g (i+(aO l i).2.2),has small c.1:=fun c hc=>hh c (List.mem_cons_of_mem _ hc);have e0:=xM hc hq hok;have ers:=lr hc (dM l g (i+(aO l i).2.2)) _ e0.2.2 (lO h15 _ _);have hr':Ext (dU small (layR small q ((aO l i).1,(aO l i).2.1)) (dM l g (i+(aO l i).2.2))) r:=hr;have htr:=ers.trans hr';have hgoal:dU small q (((aO l i).1,(aO l i).2.1)::dM l g (i+(aO l i).2.2))=dU small (layR small q ((aO l i).1,(aO l i).2.1)) (dM l g (i+(aO l i).2.2)):=rfl;rw[hgoal];have hin:=xZ l i l.length 1 (by omega);have hrn:i+runN l i≤l.length:=hin;have hv:=h15 i;have ih:=fun hle=>yY hc h15 hs g f (i+(aO l i).2.2) (layR small q ((aO l i).1,(aO l i).2.1)) (by omega) (by omega) hle e0.2.2 hh' hr';have hopen:(l.take i).length<l.length:=by omega
   by_cases h1:l.getD i 0=0∧11≤runN l i
   ·have er:aO l i=(18,min (runN l i) 138-11,min (runN l i) 138):=by unfold aO;rw[if_pos h1]
    rw[er]at ih h0 e0 htr⊢;dsimp only at ih h0 e0 htr⊢;have el:layR small q (18,min (runN l i) 138-11)=layB (layC small q 18) (min (runN l i) 138-11) 7:=rfl;rw[el]at htr ih⊢;have e1:=a8 hc hq 18;have e2:=aw (q:=layC small q 18) (v:=min (runN l i) 138-11) (n:=7) (by omega) (by omega) e1.2.2;have n1:=gC hc hs (t:=18) h0 hq (e2.trans htr);obtain⟨x1,x2,x3⟩:=d6 hs (n:=7) (by omega) (by omega) e1.2.2 htr;rw[Oi hopen n1 (by omega),wV x1 (by rw[x2,hacc];omega),x2,x3];have e3:11+(min (runN l i) 138-11)=min (runN l i) 138:=by omega
    rw[e3,nM (by omega) (fun k hk=>by rw[sn (by omega)];exact h1.1)];exact ih (by omega)
   ·by_cases h2:l.getD i 0=0∧3≤runN l i
    ·have er:aO l i=(17,runN l i-3,runN l i):=by unfold aO;rw[if_neg h1,if_pos h2]
     rw[er]at ih h0 e0 htr⊢;dsimp only at ih h0 e0 htr⊢;have el:layR small q (17,runN l i-3)=layB (layC small q 17) (runN l i-3) 3:=rfl;rw[el]at htr ih⊢;have e1:=a8 hc hq 17;have e2:=aw (q:=layC small q 17) (v:=runN l i-3) (n:=3) (by omega) (by omega) e1.2.2;have n1:=gC hc hs (t:=17) h0 hq (e2.trans htr);obtain⟨x1,x2,x3⟩:=d6 hs (n:=3) (by omega) (by omega) e1.2.2 htr;rw[KQ hopen n1,wV x1 (by rw[x2,hacc];omega),x2,x3];have e3:3+(runN l i-3)=runN l i:=by omega
     rw[e3,nM (by omega) (fun k hk=>by rw[sn hk];exact h2.1)];exact ih (by omega)
    ·by_cases h3:l.getD i 0≠0∧0<i∧l.getD (i-1) 0=l.getD i 0∧3≤runN l i
     ·have er:aO l i=(16,min (runN l i) 6-3,min (runN l i) 6):=by unfold aO;rw[if_neg h1,if_neg h2,if_pos h3]
      rw[er]at ih h0 e0 htr⊢;dsimp only at ih h0 e0 htr⊢;have el:layR small q (16,min (runN l i) 6-3)=layB (layC small q 16) (min (runN l i) 6-3) 2:=rfl;rw[el]at htr ih⊢;have e1:=a8 hc hq 16;have e2:=aw (q:=layC small q 16) (v:=min (runN l i) 6-3) (n:=2) (by omega) (by omega) e1.2.2;have n1:=gC hc hs (t:=16) h0 hq (e2.trans htr);obtain⟨x1,x2,x3⟩:=d6 hs (n:=2) (by omega) (by omega) e1.2.2 htr;rw[KR hopen n1 (by omega),wV x1 (by rw[x2,hacc];omega),x2,x3];have e3:3+(min (runN l i) 6-3)=min (runN l i) 6:=by omega
      have e4:(l.take i).getD ((l.take i).length-1) 0=l.getD i 0:=by
       rw[hacc,←h3.2.2.1,List.getD_eq_getElem?_getD,List.getD_eq_getElem?_getD,List.getElem?_take_of_lt (by omega)]
      rw[e3,e4,nM (by omega) (fun k hk=>sn (by omega))];exact ih (by omega)
     ·have er:aO l i=(l.getD i 0,0,1):=by unfold aO;rw[if_neg h1,if_neg h2,if_neg h3]
      rw[er]at ih h0 e0 htr⊢;dsimp only at ih h0 e0 htr⊢;have el:layR small q (l.getD i 0,0)=layC small q (l.getD i 0).toNat:=by
       unfold layR;rw[if_neg (by dsimp only;omega),if_neg (by dsimp only;omega),if_neg (by dsimp only;omega)]
      rw[el]at htr ih⊢;have e5:(((l.getD i 0).toNat:Nat):Int)=l.getD i 0:=by omega
      have n1:=gC hc hs (t:=(l.getD i 0).toNat) (by rw[e5];exact h0) hq htr;rw[QF hopen n1 (by omega),e5];have e6:l.take i++[l.getD i 0]=l.take (i+1):=by
       have:=nM (l:=l) (i:=i) (n:=1) (v:=l.getD i 0) (by omega) (fun k hk=>by rw[show k=0 from by omega];rfl);simpa using this
      rw[e6];exact ih (by omega)
  ·have:i=l.length:=by omega
   subst this;have e:dM l (g+1) l.length=[]:=by rw[dM,if_neg (by omega)]
   rw[e,List.take_length,rp (Nat.le_refl _)];rfl
def putS(small:List Int)(acc:List Int)(ks:List Nat):List Int:=ks.foldl (fun a k=>a.set k (small.getD k 0)) acc
theorem lq{small:List Int}(h7:∀k,0≤small.getD k 0∧small.getD k 0≤7):∀(ks:List Nat) (q:Nat×Nat),q.1<2^q.2→Ext q (fo small q ks)
 |[],q,hq=>Ext.refl hq
 |k::ks,q,hq=>by
  have h:=h7 k;have e:=aw (q:=q) (v:=(small.getD k 0).toNat) (n:=3) (by omega) (by omega) hq;exact e.trans (lq h7 ks _ e.2.2)
theorem uP{small:List Int}(h7:∀k,0≤small.getD k 0∧small.getD k 0≤7){s:ByteArray}{r:Nat×Nat}(hs:Says s r):∀(ks:List Nat) (acc:List Int) (q:Nat×Nat),q.1<2^q.2→Ext (fo small q ks) r→
 dI ks acc s q.2=.ok (putS small acc ks,(fo small q ks).2)
 |[],acc,q,_,_=>rfl
 |k::ks,acc,q,hq,hr=>by
  have h:=h7 k;have e:=aw (q:=q) (v:=(small.getD k 0).toNat) (n:=3) (by omega) (by omega) hq;have e2:=lq h7 ks _ e.2.2;have hr':Ext (fo small (layB q (small.getD k 0).toNat 3) ks) r:=hr;obtain⟨x1,x2,x3⟩:=d6 hs (n:=3) (by omega) (by omega) hq (e2.trans hr');rw[Fo x1,x2,x3,show(((small.getD k 0).toNat:Nat):Int)=small.getD k 0 from by omega];exact uP h7 hs ks _ _ e.2.2 hr'
theorem tj(small:List Int):∀(ks:List Nat) (acc:List Int),(putS small acc ks).length=acc.length
 |[],_=>rfl
 |k::ks,acc=>by
  show(putS small (acc.set k (small.getD k 0)) ks).length=_;rw[tj small ks,List.length_set]
theorem JU(small:List Int)(j:Nat):∀(ks:List Nat) (acc:List Int),j<acc.length→(putS small acc ks).getD j 0=if j∈ks then small.getD j 0 else acc.getD j 0
 |[],acc,h=>by simp[putS]
 |k::ks,acc,h=>by
  show(putS small (acc.set k (small.getD k 0)) ks).getD j 0=_;rw[JU small j ks _ (by simpa using h),jQ]
  by_cases h1:j∈ks
  ·rw[if_pos h1,if_pos (by simp[h1])]
  ·rw[if_neg h1]
   by_cases h2:k=j
   ·subst h2;rw[if_pos ⟨rfl,h⟩,if_pos (by simp)]
   ·rw[if_neg (by omega),if_neg (by simp[h1];omega)]
theorem FK{small:List Int}(hl:small.length=19){ks:List Nat}(h0:∀j,j<19→j∉ks→small.getD j 0=0):putS small (List.replicate 19 0) ks=small:=by
 apply List.ext_getElem
 ·rw[tj,List.length_replicate,hl]
 ·intro j h1 h2;have hj:j<19:=by omega
  have e:=JU small j ks (List.replicate 19 0) (by simpa using hj);have z:(List.replicate 19 (0:Int)).getD j 0=0:=by
   rw[List.getD_eq_getElem?_getD,List.getElem?_eq_getElem (by rw[List.length_replicate];exact hj),List.getElem_replicate];rfl
  rw[z,List.getD_eq_getElem?_getD,List.getElem?_eq_getElem h1]at e;have e2:small.getD j 0=small[j]:=by rw[List.getD_eq_getElem?_getD,List.getElem?_eq_getElem h2];rfl
  have e3:(putS small (List.replicate 19 0) ks)[j]=if j∈ks then small.getD j 0 else 0:=e
  rw[e3]
  by_cases hk:j∈ks
  ·rw[if_pos hk,e2]
  ·rw[if_neg hk,←e2,h0 j hj hk]
theorem OS{A B small:List Int}{n:Nat}{ts:List Tk}(h:Pp A B small n ts){s:ByteArray}{r:Nat×Nat}(hs:Says s r){most:Int}{F:Nat}{q:Nat×Nat}(hF1:(runs (A++B)).length<F)(hF2:ts.length<F)(hq:q.1<2^q.2)
 (hfar:CI [] ts) (hm:((kS [] ts).length:Int)≤most) (hr:Ext (layD A B small n ts q) r):dynR most F [] s q.2=.ok (kS [] ts,(layD A B small n ts q).2):=by
 have ha1:=h.a1;have ha2:=h.a2;have hb1:=h.b1;have hb2:=h.b2;have hn1:=h.n1;have hn2:=h.n2;have e1:=aw (q:=q) (v:=A.length-257) (n:=5) (by omega) (by omega) hq;have e2:=aw (v:=B.length-1) (n:=5) (by omega) (by omega) e1.2.2;have e3:=aw (v:=n-4) (n:=4) (by omega) (by omega) e2.2.2;have e4:=lq h.s7 (ordS.take n) _ e3.2.2;have e5:=lr h.cs (runs (A++B)) _ e4.2.2 (lO h.ab _ _);have e6:=io h.ca h.cb ts _ e5.2.2 h.tk;have e7:=a8 h.ca e6.2.2 256;have hr7:Ext _ r:=hr;have hr6:=e7.trans hr7;have hr5:=e6.trans hr6;have hr4:=e5.trans hr5;have hr3:=e4.trans hr4;have hr2:=e3.trans hr3;have hr1:=e2.trans hr2;obtain⟨x1,x2,x3⟩:=d6 hs (n:=5) (by omega) (by omega) hq hr1;obtain⟨y1,y2,y3⟩:=d6 hs (n:=5) (by omega) (by omega) e1.2.2 hr2;obtain⟨z1,z2,z3⟩:=d6 hs (n:=4) (by omega) (by omega) e2.2.2 hr3;have hsm:=uP h.s7 hs (ordS.take n) (List.replicate 19 0) _ e3.2.2 hr4;rw[FK h.sl h.s0]at hsm;have hrd:=yY h.cs h.ab hs (A++B).length F 0 _ (by omega) hF1 (Nat.zero_le _) e4.2.2 h.rs hr5;have hab:(A++B).length=A.length-257+257+(B.length-1+1):=by rw[List.length_append];omega
 have hrd':lenG small (A.length-257+257+(B.length-1+1)) F [] s (fo small (layB (layB (layB q (A.length-257) 5) (B.length-1) 5) (n-4) 4) (ordS.take n)).2=.ok (A++B,(dU small (fo small (layB (layB (layB q (A.length-257) 5) (B.length-1) 5) (n-4) 4) (ordS.take n)) (runs (A++B))).2):=by
  rw[←hab];exact hrd
 have hn4:n-4+4=n:=by omega
 rw[LO x1,x2,x3,LM y1,y2,y3,LK z1,z2,z3,hn4,ae hsm,LU h.cs hrd'];have ht:(A++B).take (A.length-257+257)=A:=by rw[show A.length-257+257=A.length from by omega,List.take_left]
 have hd:(A++B).drop (A.length-257+257)=B:=by rw[show A.length-257+257=A.length from by omega,List.drop_left]
 rw[ht,hd,mO h.ca h.cb];exact rT h.ca h.cb h.he hs ts F [] _ hF2 e5.2.2 h.tk hfar hm hr7
theorem vu(far:Nat):∀n out,bI far n out=qB far n out
 |0,_=>rfl
 |n+1,out=>by rw[bI,qB,vu far n]
theorem wD(l:List UInt8):∀f i,l.length≤i+f→i≤l.length→kS (l.take i) (eE l f i)=l∧CI (l.take i) (eE l f i)
 |0,i,h,hi=>by
  have:i=l.length:=by omega
  subst this;simp[eE,kS,CI]
 |f+1,i,h,hi=>by
  rw[eE]
  by_cases hlt:i<l.length
  ·rw[if_pos hlt];have hl:(l.take i).length=i:=by simp;omega
   by_cases hb:3≤(be l i).1
   ·obtain⟨b1,b2,b3,b4,b5,b6⟩:=g7 hlt hb;rw[if_pos hb];have e:sayT (l.take i) ((be l i).1,(be l i).2,0)=l.take (i+(be l i).1):=by
     unfold sayT;rw[if_neg (show ¬(be l i).1=0 by omega),vu];exact tX l _ b1 _ _ b3 b5 b6
    have ih:=wD l f (i+(be l i).1) (by omega) b5;refine⟨?_,?_⟩
    ·show kS (sayT (l.take i) _) _=l;rw[e];exact ih.1
    ·refine⟨fun _=>by rw[hl];exact b3,?_⟩;rw[e];exact ih.2
   ·rw[if_neg hb];have e:sayT (l.take i) (0,0,(l.getD i 0).toNat)=l.take (i+1):=by
     unfold sayT;rw[if_pos rfl];show l.take i++[UInt8.ofNat (l.getD i 0).toNat]=_;rw[UInt8.ofNat_toNat];exact rY hlt
    have ih:=wD l f (i+1) (by omega) (by omega);refine⟨?_,?_⟩
    ·show kS (sayT (l.take i) _) _=l;rw[e];exact ih.1
    ·refine⟨fun h=>absurd rfl h,?_⟩;rw[e];exact ih.2
  ·have:i=l.length:=by omega
   rw[if_neg hlt,this];simp[kS,CI]
theorem kH:((0,0):Nat×Nat).1<2^((0,0):Nat×Nat).2:=by decide
theorem vJ(l:List UInt8):Ext (layB (layB (0,0) 1 1) 1 2) (cm l):=by
 have e1:=aw (q:=(0,0)) (v:=1) (n:=1) (by omega) (by omega) kH;have e2:=aw (q:=layB (0,0) 1 1) (v:=1) (n:=2) (by omega) (by omega) e1.2.2;have e3:=io cH eM (toks l) _ e2.2.2 (gR l);exact e3.trans (a8 cH e3.2.2 256)
theorem qr(l:List UInt8):kS [] (toks l)=l∧CI [] (toks l):=by
 have:=wD l l.length 0 (by omega) (Nat.zero_le _);simpa[toks]using this
theorem sW{s:ByteArray}{r:Nat×Nat}{k:Nat}{most:Int}{F f:Nat}{a:List UInt8}{q:Nat}(hs:Says s r)(hk:k<4)(hr:Ext (layB (layB (0,0) 1 1) k 2) r)
 (h:fh most F k [] s (layB (layB (0,0) 1 1) k 2).2=.ok (a,q)):blkG most F (f+1) [] s 0=.ok (a,q):=by
 have e1:=aw (q:=(0,0)) (v:=1) (n:=1) (by omega) (by omega) kH;have e2:=aw (q:=layB (0,0) 1 1) (v:=k) (n:=2) (by omega) (by omega) e1.2.2;obtain⟨x1,x2,x3⟩:=d6 hs (q:=(0,0)) (v:=1) (n:=1) (by omega) (by omega) kH (e2.trans hr);obtain⟨y1,y2,y3⟩:=d6 hs (q:=layB (0,0) 1 1) (v:=k) (n:=2) (by omega) (by omega) e1.2.2 hr;have x1':au s 0 (1:Nat)=0:=x1;have x2':ax s 0 (1:Nat)=1:=x2;have x3':aK s 0 (1:Nat)=(layB (0,0) 1 1).2:=x3;rw[Pe x1' (by rw[x3'];exact y1),x2',x3',y2,y3];exact Mr h (by omega)
theorem yD{s:ByteArray}{r:Nat×Nat}(h:Says s r):(r.2+7)/8≤s.size:=by
 have:=h.2.size
 rwa [fQ]at this
theorem GE(l:List UInt8){s:ByteArray}(hs:Says s (cm l)){most:Int}(hm:(l.length:Int)≤most):mr s most=.ok (l,(cm l).2):=by
 obtain⟨h1,h2⟩:=qr l;have he:=vJ l;have e1:=aw (q:=(0,0)) (v:=1) (n:=1) (by omega) (by omega) kH;have e2:=aw (q:=layB (0,0) 1 1) (v:=1) (n:=2) (by omega) (by omega) e1.2.2;have hrd:=rT cH eM (hasL (by omega)) hs (most:=most) (toks l) (8*s.size+1) [] _ ?_ e2.2.2 (gR l) h2 (by rw[h1];exact hm) (Ext.refl hs.1)
 ·rw[h1]at hrd;unfold mr;refine sW hs (k:=1) (by omega) he ?_;rw[ui];exact hrd
 ·have h3:∀(ts:List Tk) (q:Nat×Nat),q.1<2^q.2→(∀t∈ts,iC fixL fixD t)→q.2+ts.length≤(bC fixL fixD q ts).2:=by
   intro ts
   induction ts with
   |nil=>intro q _ _;exact Nat.le_refl _
   |cons t ts ih=>
    intro q hq ht;have e:=rx cH eM hq (ht t (by simp));have h4:=ih (layT fixL fixD q t) e.2.2 (fun t h=>ht t (by simp[h]));have h5:q.2+1≤(layT fixL fixD q t).2:=by
     have hone:∀{s:Nat} {q:Nat×Nat},has fixL (s:Nat)→q.2+1≤(layC fixL q s).2:=fun {s q} hh=>by
      unfold layC layS;rw[if_pos hh,lZ];have h6:fixL.getD ((s:Nat):Int).toNat 0≠0:=hh.2.2;have h7:=oX cH;have h8:(s:Int)<fixL.length:=hh.2.1;have h9:=h7 _ (List.getElem_mem (show s<fixL.length by omega));rw[←gv (show s<fixL.length by omega)]at h9;rw[Int.toNat_natCast]at h6⊢;omega
     have htt:=ht t (by simp);unfold iC at htt;unfold layT
     by_cases h0:t.1=0
     ·rw[if_pos h0]at htt⊢;exact hone htt.2
     ·rw[if_neg h0]at htt⊢;obtain⟨a1,a2,a3,a4,a5,a6⟩:=htt;obtain⟨b1,b2,b3,b4⟩:=eK t.1 (by omega) a1;obtain⟨c1,c2,c3⟩:=eL t.2.1 (by omega) a3;have f1:=hone (q:=q) a5;have g1:=a8 cH hq (lsym t.1);have g2:=aw (v:=t.1-ar (lsym t.1)) (n:=aq (lsym t.1)) (by have:=lX (t:=lsym t.1) (by omega) b2;omega) b4 g1.2.2;have g3:=a8 eM g2.2.2 (dsym t.2.1);have g4:=aw (v:=t.2.1-aF (dsym t.2.1)) (n:=aC (dsym t.2.1)) (by have:=mb (u:=dsym t.2.1) c1;omega) c3 g3.2.2;have k2:=g2.1;have k3:=g3.1;have k4:=g4.1;omega
    show q.2+(t::ts).length≤(bC fixL fixD (layT fixL fixD q t) ts).2;rw[List.length_cons];omega
  have h4:=h3 (toks l) _ e2.2.2 (gR l);have h5:=(a8 cH (io cH eM (toks l) _ e2.2.2 (gR l)).2.2 256).1;have h6:=yD hs;have h7:(bC fixL fixD (layB (layB (0,0) 1 1) 1 2) (toks l)).2≤(cm l).2:=h5;omega
theorem pS{l:List Int}(hc:chk l=0){t:Nat}{q:Nat×Nat}(hh:has l (t:Nat)):q.2+1≤(layC l q t).2:=by
 unfold layC layS;rw[if_pos hh,lZ];have h6:l.getD ((t:Nat):Int).toNat 0≠0:=hh.2.2;have h8:(t:Int)<l.length:=hh.2.1;have h9:=oX hc _ (List.getElem_mem (show t<l.length by omega));rw[←gv (show t<l.length by omega)]at h9;rw[Int.toNat_natCast]at h6⊢;omega
theorem tz{l d:List Int}(hl:chk l=0)(hd:chk d=0):∀(ts:List Tk) (q:Nat×Nat),q.1<2^q.2→(∀t∈ts,iC l d t)→q.2+ts.length≤(bC l d q ts).2
 |[],q,_,_=>Nat.le_refl _
 |t::ts,q,hq,ht=>by
  have e:=rx hl hd hq (ht t (by simp));have h4:=tz hl hd ts _ e.2.2 (fun t h=>ht t (by simp[h]));have h5:q.2+1≤(layT l d q t).2:=by
   have htt:=ht t (by simp);unfold iC at htt;unfold layT
   by_cases h0:t.1=0
   ·rw[if_pos h0]at htt⊢;exact pS hl htt.2
   ·rw[if_neg h0]at htt⊢;obtain⟨a1,a2,a3,a4,a5,a6⟩:=htt;obtain⟨b1,b2,b3,b4⟩:=eK t.1 (by omega) a1;obtain⟨c1,c2,c3⟩:=eL t.2.1 (by omega) a3;have f1:=pS hl (q:=q) a5;have g1:=a8 hl hq (lsym t.1);have g2:=aw (v:=t.1-ar (lsym t.1)) (n:=aq (lsym t.1)) (by have:=lX (t:=lsym t.1) (by omega) b2;omega) b4 g1.2.2;have g3:=a8 hd g2.2.2 (dsym t.2.1);have g4:=aw (v:=t.2.1-aF (dsym t.2.1)) (n:=aC (dsym t.2.1)) (by have:=mb (u:=dsym t.2.1) c1;omega) c3 g3.2.2;have k2:=g2.1;have k3:=g3.1;have k4:=g4.1;omega
  show q.2+(t::ts).length≤(bC l d (layT l d q t) ts).2;rw[List.length_cons];omega
theorem tC{small:List Int}(hc:chk small=0):∀(cs:List (Int×Nat)) (q:Nat×Nat),q.1<2^q.2→(∀c∈cs,Fu c∧has small c.1∧0≤c.1)→q.2+cs.length≤(dU small q cs).2
 |[],q,_,_=>Nat.le_refl _
 |c::cs,q,hq,h=>by
  obtain⟨h1,h2,h3⟩:=h c (by simp);have e:=xM hc hq h1;have ih:=tC hc cs _ e.2.2 (fun t ht=>h t (by simp[ht]));have h5:q.2+1≤(layR small q c).2:=by
   have e5:((c.1.toNat:Nat):Int)=c.1:=by omega
   have f1:=pS hc (t:=c.1.toNat) (q:=q) (by rw[e5];exact h2);unfold layR
   by_cases k1:c.1=16
   ·rw[if_pos k1];rw[k1]at f1;have e1:=a8 hc hq 16;have e2:=(aw (q:=layC small q 16) (v:=c.2) (n:=2) (by omega) (by have:=h1.1 k1;omega) e1.2.2).1;have f2:q.2+1≤(layC small q 16).2:=f1;omega
   ·rw[if_neg k1]
    by_cases k2:c.1=17
    ·rw[if_pos k2];rw[k2]at f1;have e1:=a8 hc hq 17;have e2:=(aw (q:=layC small q 17) (v:=c.2) (n:=3) (by omega) (by have:=h1.2.1 k2;omega) e1.2.2).1;have f2:q.2+1≤(layC small q 17).2:=f1;omega
    ·rw[if_neg k2]
     by_cases k3:c.1=18
     ·rw[if_pos k3];rw[k3]at f1;have e1:=a8 hc hq 18;have e2:=(aw (q:=layC small q 18) (v:=c.2) (n:=7) (by omega) (by have:=h1.2.2 k3;omega) e1.2.2).1;have f2:q.2+1≤(layC small q 18).2:=f1;omega
     ·rw[if_neg k3];exact f1
  show q.2+(c::cs).length≤(dU small (layR small q c) cs).2;rw[List.length_cons];omega
theorem LP{A B small:List Int}{n:Nat}{l:List UInt8}(h:Pp A B small n (toks l)){s:ByteArray}(hs:Says s (dynX A B small n (toks l))){most:Int}(hm:(l.length:Int)≤most):
 mr s most=.ok (l,(dynX A B small n (toks l)).2):=by
 obtain⟨h1,h2⟩:=qr l;have ha1:=h.a1;have ha2:=h.a2;have hb1:=h.b1;have hb2:=h.b2;have hn1:=h.n1;have hn2:=h.n2;have d1:=aw (q:=(0,0)) (v:=1) (n:=1) (by omega) (by omega) kH;have d2:=aw (q:=layB (0,0) 1 1) (v:=2) (n:=2) (by omega) (by omega) d1.2.2;have e1:=aw (q:=layB (layB (0,0) 1 1) 2 2) (v:=A.length-257) (n:=5) (by omega) (by omega) d2.2.2;have e2:=aw (v:=B.length-1) (n:=5) (by omega) (by omega) e1.2.2;have e3:=aw (v:=n-4) (n:=4) (by omega) (by omega) e2.2.2;have e4:=lq h.s7 (ordS.take n) _ e3.2.2;have e5:=lr h.cs (runs (A++B)) _ e4.2.2 (lO h.ab _ _);have e6:=io h.ca h.cb (toks l) _ e5.2.2 h.tk;have e7:=a8 h.ca e6.2.2 256;have g5:=tC h.cs (runs (A++B)) _ e4.2.2 (fun c hc=>⟨lO h.ab _ _ c hc,h.rs c hc,(jR h.ab _ _ c hc).1⟩);have g6:=tz h.ca h.cb (toks l) _ e5.2.2 h.tk;have hall:Ext (layB (layB (0,0) 1 1) 2 2) (dynX A B small n (toks l)):=(((((e1.trans e2).trans e3).trans e4).trans e5).trans e6).trans e7;have hz:=yD hs;have l7:(bC A B (dU small (fo small (layB (layB (layB (layB (layB (0,0) 1 1) 2 2) (A.length-257) 5) (B.length-1) 5) (n-4) 4) (ordS.take n)) (runs (A++B))) (toks l)).2≤(dynX A B small n (toks l)).2:=e7.1;have hF1:(runs (A++B)).length<8*s.size+1:=by omega
 have hF2:(toks l).length<8*s.size+1:=by omega
 have hrd:=OS h hs (most:=most) (F:=8*s.size+1) hF1 hF2 d2.2.2 h2 (by rw[h1];exact hm) (Ext.refl hs.1);rw[h1]at hrd;unfold mr;refine sW hs (k:=2) (by omega) hall ?_;rw[AR];exact hrd
theorem LQ(l:List UInt8){s:ByteArray}(hs:Says s (dynL l)){most:Int}(hm:(l.length:Int)≤most):mr s most=.ok (l,(dynL l).2):=LP (EE l) hs hm
theorem Ep{q:Nat×Nat}(bs:List UInt8)(hq:q.1<2^q.2):Ext q (layY q bs):=by
 rw[kg];refine⟨by dsimp only;omega,?_,?_⟩
 ·dsimp only;have e:2^(8*((q.2+7)/8))=2^(8*((q.2+7)/8)-q.2)*2^q.2:=by rw[←Nat.pow_add];congr 1;omega
  rw[e,←Nat.mul_assoc,Nat.add_mul_mod_self_right,Nat.mod_eq_of_lt hq]
 ·dsimp only;have h1:=vr bs;rw[p256]at h1;have h2:q.1<2^(8*((q.2+7)/8)):=Nat.lt_of_lt_of_le hq (Nat.pow_le_pow_right (by decide) (by omega));rw[Nat.pow_add];generalize 2^(8*((q.2+7)/8))=P at*;generalize 2^(8*bs.length)=Q at*;have:=Nat.mul_le_mul_right P (show num bs+1≤Q by omega);rw[Nat.add_mul,Nat.mul_comm Q P]at this;omega
theorem Fc{r q:Nat×Nat}{bs:List UInt8}(hr:r.1<2^r.2)(hq:q.1<2^q.2)(he:Ext (layY q bs) r):((eX r.1 r.2).data.toList.drop ((q.2+7)/8)).take bs.length=bs:=by
 have hle:=he.1;rw[kg]at hle;have hle2:8*((q.2+7)/8)+8*bs.length≤r.2:=hle;have hl:(eX r.1 r.2).data.toList.length=(r.2+7)/8:=by
  have:=fQ r.1 r.2;rw[←this];exact Array.length_toList
 have hll:(((eX r.1 r.2).data.toList.drop ((q.2+7)/8)).take bs.length).length=bs.length:=by
  rw[List.length_take,List.length_drop,hl];omega
 have hnum:num (((eX r.1 r.2).data.toList.drop ((q.2+7)/8)).take bs.length)=num bs:=by
  have h8:q.1<2^(8*((q.2+7)/8)):=Nat.lt_of_lt_of_le hq (Nat.pow_le_pow_right (by decide) (by omega));have hb:bK r.1 (8*((q.2+7)/8)) (8*bs.length)=num bs:=by
   rw[xY he (by rw[kg];exact Nat.le_refl _),kg];unfold bK;dsimp only;rw[Nat.mul_comm (num _),Nat.add_mul_div_left _ _ (Nat.two_pow_pos _),Nat.div_eq_of_lt h8,Nat.zero_add];apply Nat.mod_eq_of_lt;have:=vr bs;rw[p256]at this;exact this
  rw[Ef,xu,vq _ _ hr,p256,p256];exact hb
 rw[jG hll hnum];exact(jG rfl rfl).symm
theorem qk{s:ByteArray}{q r:Nat×Nat}{bs:List UInt8}(hs:Says s r)(hq:q.1<2^q.2)(he:Ext (layY q bs) r){i k p:Nat}(hp:(p+7)/8=(q.2+7)/8+i)(hik:i+k≤bs.length):
 aE s p (k:Nat)=0∧bg s p (k:Nat)=⟨((bs.drop i).take k).toArray⟩∧bT s p (k:Nat)=8*((q.2+7)/8+i+k):=by
 have hle:=he.1;rw[kg]at hle;have hle2:8*((q.2+7)/8)+8*bs.length≤r.2:=hle;have h0:aE (eX r.1 r.2) p (k:Nat)=0:=by
  unfold aE;rw[if_neg (by omega),if_neg];rw[fQ];omega
 obtain⟨x1,x2,x3⟩:=Ml hs.2 (p:=p) (n:=(k:Nat)) (by rw[h0];decide);refine⟨x1.trans h0,?_,?_⟩
 ·rw[x2];unfold bg;rw[if_pos h0,Int.toNat_natCast];have ht:=Fc hs.1 hq he
  congr 2
  rw[hp,←List.drop_drop]
  conv=>rhs;rw[←ht]
  rw[List.drop_take,List.take_take,Nat.min_eq_left (by omega)]
 ·rw[x3];unfold bT;rw[if_neg (by omega),if_pos h0,Int.toNat_natCast,hp]
theorem Dp(a b:UInt8):mt ⟨[a,b].toArray⟩=a.toNat+256*b.toNat:=rfl
theorem Fg{l:List UInt8}(h:l.length≤65535){s:ByteArray}(hs:Says s (dE l)){most:Int}(hm:(l.length:Int)≤most):mr s most=.ok (l,(dE l).2):=by
 have e1:=aw (q:=(0,0)) (v:=1) (n:=1) (by omega) (by omega) kH;have e2:=aw (q:=layB (0,0) 1 1) (v:=0) (n:=2) (by omega) (by omega) e1.2.2;have eY:=Ep (eJ l.length++l) e2.2.2;have hX:dE l=layY (layB (layB (0,0) 1 1) 0 2) (eJ l.length++l):=nQ h;have hq2:(layB (layB (0,0) 1 1) 0 2).2=3:=by rw[bX (by omega) (by omega),bX (by omega) (by omega)]
 have hsz:=uN h;have hlen:(eJ l.length++l).length=4+l.length:=by rw[List.length_append];rfl
 have hself:Ext (layY (layB (layB (0,0) 1 1) 0 2) (eJ l.length++l)) (dE l):=by rw[hX];exact Ext.refl eY.2.2
 obtain⟨x1,x2,x3⟩:=qk hs e2.2.2 hself (i:=0) (k:=2) (p:=(layB (layB (0,0) 1 1) 0 2).2) (by omega) (by rw[hlen];omega);obtain⟨y1,y2,y3⟩:=qk hs e2.2.2 hself (i:=2) (k:=2) (p:=24) (by omega) (by rw[hlen];omega);obtain⟨z1,z2,z3⟩:=qk hs e2.2.2 hself (i:=4) (k:=l.length) (p:=40) (by omega) (by rw[hlen];exact Nat.le_refl _);rw[hq2]at x1 x2 x3 y3 z3;have hx3:bT s 3 ((2:Nat):Int)=24:=x3;have hy3:bT s 24 ((2:Nat):Int)=40:=y3;have hz3:bT s 40 ((l.length:Nat):Int)=8*(l.length+5):=by rw[z3];omega
 have hx2:bg s 3 ((2:Nat):Int)=⟨[UInt8.ofNat l.length,UInt8.ofNat (l.length/256)].toArray⟩:=x2;have hy2:bg s 24 ((2:Nat):Int)=⟨[UInt8.ofNat (255-l.length%256),UInt8.ofNat (255-l.length/256)].toArray⟩:=y2;have hz2:bg s 40 ((l.length:Nat):Int)=⟨l.toArray⟩:=by
  rw[z2];have:(eJ l.length++l).drop 4=l:=rfl;rw[this,List.take_length]
 have n1:(UInt8.ofNat l.length).toNat=l.length%256:=by
  have:=UInt8.toNat_ofNat' (n:=l.length);omega
 have w1:mt (bg s 3 ((2:Nat):Int))=l.length:=by
  rw[hx2,Dp,n1,u8n _ (by omega)];omega
 have w2:mt (bg s 24 ((2:Nat):Int))=65535-l.length:=by
  rw[hy2,Dp,u8n _ (by omega),u8n _ (by omega)];omega
 unfold mr;refine sW hs (k:=0) (by omega) (eY.trans hself) ?_;rw[qN,hq2,Bv x1 (by rw[hx3];exact y1) (by rw[hx3,w1,w2];omega),hx3,hy3,w1];unfold po;rw[ae (lQ z1),aD (by show ¬most<(([]:List UInt8).length:Int)+(l.length:Nat);simp;omega),hz3,hz2,hsz];show Except.ok (([]:List UInt8)++l,8*(l.length+5))=_;rfl
theorem BA{r:Nat×Nat}(hr:r.1<2^r.2)(b:ByteArray):Says (aI r++b) r:=by
 refine⟨hr,?_⟩;show(eX r.1 r.2).data.toList <+: (aI r++b).data.toList;rw[show(aI r++b).data.toList=(aI r).data.toList++b.data.toList by simp];exact List.prefix_append _ _
theorem mP{r:Nat×Nat}{l:List UInt8}(hr:r.1<2^r.2)(h:∀s,Says s r→∀most:Int,(l.length:Int)≤most→mr s most=.ok (l,r.2))(b:ByteArray):
 gy (aI r++b) (l.length:Nat)=(l,(aI r).size,0):=by
 rw[xR (h _ (BA hr b) _ (Int.le_refl _))];unfold aI;rw[fQ]
theorem Lq(l:List UInt8):(cm l).1<2^(cm l).2:=(vJ l).2.2
theorem QZ(l:List UInt8):(dynL l).1<2^(dynL l).2:=by
 have h:=EE l;have ha1:=h.a1;have ha2:=h.a2;have hb1:=h.b1;have hb2:=h.b2;have hn1:=h.n1;have hn2:=h.n2;have d1:=aw (q:=(0,0)) (v:=1) (n:=1) (by omega) (by omega) kH;have d2:=aw (q:=layB (0,0) 1 1) (v:=2) (n:=2) (by omega) (by omega) d1.2.2;have e1:=aw (q:=layB (layB (0,0) 1 1) 2 2) (v:=(lenA (toks l)).length-257) (n:=5) (by omega) (by omega) d2.2.2;have e2:=aw (v:=(lenB (toks l)).length-1) (n:=5) (by omega) (by omega) e1.2.2;have e3:=aw (v:=(told (lenS (lenA (toks l)++lenB (toks l)))).length-4) (n:=4) (by omega) (by omega) e2.2.2;have e4:=lq h.s7 (ordS.take (told (lenS (lenA (toks l)++lenB (toks l)))).length) _ e3.2.2;have e5:=lr h.cs (runs (lenA (toks l)++lenB (toks l))) _ e4.2.2 (lO h.ab _ _);have e6:=io h.ca h.cb (toks l) _ e5.2.2 h.tk;exact(a8 h.ca e6.2.2 256).2.2
theorem Nj{l:List UInt8}(h:l.length≤65535):(dE l).1<2^(dE l).2:=by
 have e1:=aw (q:=(0,0)) (v:=1) (n:=1) (by omega) (by omega) kH;have e2:=aw (q:=layB (0,0) 1 1) (v:=0) (n:=2) (by omega) (by omega) e1.2.2;rw[nQ h];exact(Ep (eJ l.length++l) e2.2.2).2.2
theorem IV{l:List UInt8}(h:l.length≤65535)(b:ByteArray):gy (aI (dE l)++b) (l.length:Nat)=(l,(aI (dE l)).size,0):=mP (Nj h) (fun s hs most hm=>Fg h hs hm) b
theorem GG(l:List UInt8)(b:ByteArray):gy (aI (cm l)++b) (l.length:Nat)=(l,(aI (cm l)).size,0):=mP (Lq l) (fun s hs most hm=>GE l hs hm) b
theorem LS(l:List UInt8)(b:ByteArray):gy (aI (dynL l)++b) (l.length:Nat)=(l,(aI (dynL l)).size,0):=mP (QZ l) (fun s hs most hm=>LQ l hs hm) b
theorem MC{l:List UInt8}(h:l.length≤65535)(b:ByteArray):gy (dH l++b) (l.length:Nat)=(l,(dH l).size,0):=by
 rcases(um l).1 with e|e|e
 ·rw[e];exact IV h b
 ·rw[e];exact GG l b
 ·rw[e];exact LS l b
def uq(bpp kind:Int)(s t:ByteArray):List UInt8:=if aL bpp kind s t=0 then eO kind bpp.toNat s.data.toList t.data.toList else []
theorem Dy{n:Nat}{kind:Int}{s t:ByteArray}(h:aL (n:Int) kind s t=0):uq (n:Int) kind s t=eO kind n s.data.toList t.data.toList:=by unfold uq;rw[if_pos h];rfl
theorem Iv{bpp kind:Int}{s t:ByteArray}(h:aL bpp kind s t≠0):uq bpp kind s t=[]:=by unfold uq;rw[if_neg h]
def midF(U l:List UInt8)(k:Nat):List UInt8:=U.take k++l.drop k
theorem ik{U l:List UInt8}(h:U.length=l.length)(k:Nat):(midF U l k).length=l.length:=by unfold midF;rw[List.length_append,List.length_take,List.length_drop];omega
theorem KJ(U l:List UInt8):midF U l 0=l:=rfl
theorem Oa{U l:List UInt8}(h:U.length=l.length){n:Nat}(hn:n=l.length):midF U l n=U:=by unfold midF;rw[List.take_of_length_le (by omega),List.drop_eq_nil_of_le (by omega),List.append_nil]
theorem xB{U l:List UInt8}(h:U.length=l.length){k i:Nat}(hk:k≤l.length):(midF U l k).getD i 0=if i<k then U.getD i 0 else l.getD i 0:=by
 unfold midF
 by_cases hi:i<k
 ·rw[if_pos hi,jy (by rw[List.length_take];omega),tH hi]
 ·rw[if_neg hi,List.getD_eq_getElem?_getD,List.getElem?_append_right (by rw[List.length_take];omega),List.length_take,List.getElem?_drop,List.getD_eq_getElem?_getD]
  congr 2
  omega
theorem N9{U l:List UInt8}(h:U.length=l.length){k:Nat}(hk:k<l.length):(midF U l k).set k (U.getD k 0)=midF U l (k+1):=by
 refine iQ (by rw[List.length_set,ik h,ik h]) fun i hi=>?_;rw[List.length_set,ik h]at hi;rw[xB h (by omega)]
 by_cases hik:i=k
 ·subst hik;rw[gG (by rw[List.length_set,ik h];exact hi),List.getElem_set_self,if_pos (by omega)]
 ·rw[List.getD_eq_getElem?_getD,List.getElem?_set_ne (by omega),←List.getD_eq_getElem?_getD,xB h (by omega)]
  by_cases h3:i<k
  ·rw[if_pos h3,if_pos (by omega)]
  ·rw[if_neg h3,if_neg (by omega)]
def OneF(w:World)(v:World)(g:Nat)(l:List UInt8):Prop:=RowF v g l∧w.heap.size≤g∧But [] w v
theorem OneF.but{w v v':World}{g:Nat}{l:List UInt8}(h:OneF w v g l)(k:But [] v v'):OneF w v' g l:=⟨h.1.but k,h.2.1,h.2.2.trans k⟩
theorem OneF.put{w v:World}{g:Nat}{l:List UInt8}(h:OneF w v g l){i:Nat}(x:UInt8)(hi:i<l.length):OneF w (v.setCell ⟨g,i,none⟩ (.int .u8 (x.toNat:Nat))) g (l.set i x):=
 ⟨h.1.put i x hi,h.2.1,h.2.2.setCell (p:=⟨g,i,none⟩) (.inr h.2.1) _⟩
theorem JV(w:World)(bpp kind:Int)(s t:ByteArray)(hs:s.size≤140737488351232)(ht:t.size≤140737488351232):
 Calls prog 145 #[bpp,kind,s,t] w (R1z (.tuple #[(strL (uq bpp kind s t)),.int .i64 (aL bpp kind s t)]) w):=by
 have hW:=fun v=>sR v bpp kind s t (by omega) (by omega)
 by_cases h0:aL bpp kind s t≠0
 ·obtain⟨er,her⟩:=E1 (aL bpp kind s t);rw[Iv h0];have h1:er=1∨er=28:=by rcases kK bpp kind s t with h|h|h<;>simp_all
  rw[←her];simp only[←her]at hW;have HW:=qhz hW;clear hW her h0;rcases h1 with rfl|rfl
  ·go_enter func145,ntmps145
   go_wp2_with fail
   refine(HW.out _).mono ?_;rintro e w1 ⟨rfl,rfl⟩;go_wp2
   go_ret2
   exact⟨rfl,But.refl [] _⟩
  ·go_enter func145,ntmps145
   go_wp2_with fail
   refine(HW.out _).mono ?_;rintro e w1 ⟨rfl,rfl⟩;go_wp2
   go_ret2
   exact⟨rfl,But.refl [] _⟩
 have h0:aL bpp kind s t=0:=by simpa using h0
 obtain⟨⟨hb1,hb8⟩,hts,hk0,hk4⟩:=jK h0;obtain⟨n,rfl⟩:∃n:Nat,bpp=(n:Int):=⟨bpp.toNat,by omega⟩
 obtain⟨kd,rfl⟩:∃n:Nat,kind=(n:Int):=⟨kind.toNat,by omega⟩
 have hn1:1≤n:=by omega
 have hn8:n≤8:=by omega
 have hkd:kd≤4:=by omega
 rw[Dy h0,h0];rw[h0]at hW;have HW:=qhz hW;have HTS:=qhz hts;obtain⟨R,hR⟩:=E1 (eO (kd:Int) n s.data.toList t.data.toList);have hRl:R.length=s.data.toList.length:=by rw[hR,iH]
 rw[←hR];have HRl:=qhz hRl;have HR:=qhz hR;clear hW h0 hts hR hRl hb1 hb8 hk0 hk4;have kc:=nY w s;have hro:=ob w s;have hrb:=od w s;have hcap:=iP w s.size 5;obtain⟨c1,hc1⟩:=E1 (grownCap w s.size 0 5);rw[←hc1]at kc hcap;obtain⟨w5,hw5⟩:=E1 (BE w s);rw[←hw5]at kc hro hrb;clear hc1 hw5;obtain⟨g,hg⟩:=E1 w.heap.size;have HO0:Hid (OneF w w5 g (midF R s.data.toList 0)):=qhz ⟨by rw[KJ,hg];exact hro,by rw[hg];exact Nat.le_refl _,hrb⟩;rw[←hg]at kc;clear hro hrb hg
 go_enter func145,ntmps145
 go_wp2_with fail
 refine(HW.out _).mono ?_;rintro e wz ⟨rfl,rfl⟩
 go_wp2_with fail
 go_loopw [25] (fun kv wr=>∃k:Nat,k≤s.size∧kv=.int .i64 k∧Hid (OneF w wr g (midF R s.data.toList k))) (fun kv _=>s.size-(intOf kv).toNat)
 case atStart=>exact⟨0,Nat.zero_le _,rfl,HO0⟩
 case round=>
  clear HO0 kc;obtain⟨k,hk,rfl,HO⟩:=hrel
  by_cases hlt:k<s.size
  ·obtain⟨qa,hqa⟩:=E1 (bU R n k);obtain⟨qb,hqb⟩:=E1 ((t.data.toList.getD k 0).toNat);obtain⟨qc,hqc⟩:=E1 (bU t.data.toList n k);have la:qa<256:=by rw[hqa];exact fj _ _ _
   have lb:qb<256:=by rw[hqb];exact UInt8.toNat_lt _
   have lc:qc<256:=by rw[hqc];exact fj _ _ _
   have hll:s.data.toList.length=s.size:=Array.length_toList;have hpl:=ik HRl.out k;rw[hll]at hpl;obtain⟨b,hb⟩:=E1 ((s.data.toList.getD k 0).toNat);have hcell:∀v,OneF w v g (midF R s.data.toList k)→v.cell? ⟨g,k,none⟩=some (.int .u8 (b:Nat)):=fun v h=>by
    rw[hb,h.1.cell (by rw[hpl];exact hlt),xB HRl.out (by rw[hll];exact hk),if_neg (by omega)]
   have hfree:∀v,OneF w v g (midF R s.data.toList k)→v.frozen? ⟨g,k,none⟩=false:=fun v h=>h.1.free (by rw[hpl];exact hlt);have hb256:b<256:=by rw[hb];exact UInt8.toNat_lt _
   have HP:Hid (∀v,OneF w v g (midF R s.data.toList k)→Calls prog 106 #[n,k,.slice g s.size c1,t] v (R1z (preV qa qb qc) v)):=qhz (fun v h=>by
    rw[hqa,hqb,hqc];refine xj v hn1 hn8 hlt hs hcap h.1.lt (fun i hi=>?_) HTS.out;rw[h.1.cell (by rw[hpl];omega),xB HRl.out (by rw[hll];exact hk),if_pos hi])
   obtain⟨p,hp⟩:=E1 (fx (kd:Int) qa qb qc);have hp256:p<256:=by rw[hp];exact lR _ la lb lc
   have hix:=fun v=>sN (a:=qa) (b:=qb) (c:=qc) hkd la lb v;rw[←hp]at hix;obtain⟨V,hV⟩:=E1 (preV qa qb qc);rw[←hV]at hix HP;obtain⟨y,hy⟩:=E1 (R.getD k 0);have ew:IntKind.u8.wrap ((b:Int)+(p:Int))=((y.toNat:Nat):Int):=by
    have hfo:(gz (kd:Int) n R t.data.toList k).toNat=p:=by
     unfold gz;rw[←hqa,←hqb,←hqc,←hp,UInt8.toNat_ofNat'];omega
    rw[hy,HR.out,Dx hn1 _ _ k (by rw[hll];exact hlt),←HR.out,UInt8.toNat_add,hfo,←hb,IntKind.wrap_u8];omega
   obtain⟨z,hz⟩:=E1 (y.toNat:Nat);rw[←hz]at ew;have HZ:=qhz hz;have HY:=qhz hy;have HPL:=qhz hpl;have HLL:=qhz hll;have HCE:=qhz hcell;have HFR:=qhz hfree;have HPUT:Hid (∀v,OneF w v g (midF R s.data.toList k)→OneF w (v.setCell ⟨g,k,none⟩ (.int .u8 (z:Nat))) g (midF R s.data.toList (k+1))):=qhz (fun v h=>by
    rw[←N9 HRl.out (by rw[hll];exact hlt),←hy,hz];exact h.put y (by rw[hpl];exact hlt))
   clear hqa hqb hqc hb hp hV hy hz hpl hll hcell hfree
   go_upto_region 8 with(fail)
   have c0:=HCE.out _ (HO.out.but ((But.refl [] _).drew))
   go_region_with (refine(HP.out _ (HO.out.but ((But.refl [] _).drew))).mono ?_;rintro e w6 ⟨rfl,hB6⟩;have HO6:=qhz (HO.out.but (((But.refl [] _).drew).trans hB6));have c6:=HCE.out _ HO6.out;have f6:=HFR.out _ HO6.out;have HO7:=qhz (HPUT.out _ HO6.out);clear hB6)
   all_goals go_wp2
   all_goals exact⟨⟨k+1,by omega,by go_num,HO7⟩,by simp[intOf]<;>omega⟩
  ·obtain rfl:k=s.size:=by omega
   have hpa:=Oa HRl.out (n:=s.size) (Array.length_toList).symm;have hct:=HO.out.1.text c1;have hRl2:R.length=s.size:=HRl.out.trans Array.length_toList;rw[hpa,hRl2]at hct;go_wp2
   go_ret2
   exact⟨rfl,HO.out.2.2⟩
end Go.Proofs.YtbanopnofpjnbaaGreatDoor
