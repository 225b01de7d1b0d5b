/- Own texts in one: InfM, InfS, InfT, InfU, InfV, InfW. -/
import Derived.Test.YtbanopnofpjnbaaGreatDoorU11
import Derived.Test.YtbanopnofpjnbaaGreatDoorU30
set_option maxRecDepth 1000000
set_option linter.unusedVariables false
set_option maxHeartbeats 4000000
namespace Go.Proofs.YtbanopnofpjnbaaGreatDoor
open Go Go.RowKit Tryz
section
def Pre(s s':ByteArray):Prop:=s.data.toList <+: s'.data.toList
theorem Pre.size{s s':ByteArray}(h:Pre s s'):s.size≤s'.size:=by
 have:=h.length_le;simpa using this
def Stable{α:Type}(m:Rd α):Prop:=∀s s' p r,Pre s s'→m s p=r→r≠ .error 3→m s' p=r
def Adv{α:Type}(m:Rd α):Prop:=∀s p a q,p≤8*s.size→m s p=.ok (a,q)→p≤q∧q≤8*s.size
section
variable {α β:Type}
theorem Stable.pure(a:α):Stable (aR a):=fun _ _ _ _ _ h _=>h
theorem Stable.bind{m:Rd α}{f:α→Rd β}(hm:Stable m)(hf:∀a,Stable (f a)):Stable (am m f):=by
 intro s s' p r hp h hr;unfold am at h⊢;cases e:m s p with
 |error x=>
  rw[e]at h;rw[hm s s' p _ hp e (fun h2=>by injection h2 with h2;subst h2;exact hr h.symm)];exact h
 |ok y=>
  rw[e]at h;rw[hm s s' p _ hp e (by simp)];exact hf y.1 s s' y.2 r hp h hr
theorem Adv.pure(a:α):Adv (aR a):=fun _ _ _ _ hp h=>by
 unfold aR at h;injection h with h;injection h with h1 h2;omega
theorem Adv.fail(e:Int):Adv (mp e:Rd α):=fun _ _ _ _ _ h=>by unfold mp at h;cases h
theorem Adv.bind{m:Rd α}{f:α→Rd β}(hm:Adv m)(hf:∀a,Adv (f a)):Adv (am m f):=by
 intro s p a q hp h;unfold am at h;cases e:m s p with
 |error x=>rw[e]at h;cases h
 |ok y=>
  rw[e]at h;obtain⟨h1,h2⟩:=hm s p y.1 y.2 hp e;obtain⟨h3,h4⟩:=hf y.1 s y.2 a q h2 h;exact⟨by omega,h4⟩
theorem Adv.when{c:Prop}[Decidable c]{e:Int}{m:Rd α}(hm:Adv m):Adv (bq c e m):=by
 unfold bq;split
 ·exact Adv.fail e
 ·exact hm
end
theorem QB{s s':ByteArray}(h:Pre s s'):∃k,num s'.data.toList=num s.data.toList+256^s.size*k:=by
 obtain⟨t,ht⟩:=h;exact⟨num t,by rw[←ht,fZ];rfl⟩
theorem E0{s s':ByteArray}(h:Pre s s'){p:Nat}{n:Int}(he:au s p n≠3):au s' p n=au s p n∧ax s' p n=ax s p n∧aK s' p n=aK s p n:=by
 have hs:=h.size;have he2:au s' p n=au s p n:=by
  unfold au at he⊢
  by_cases h1:n<0∨24<n
  ·rw[if_pos h1,if_pos h1]
  ·rw[if_neg h1]at he⊢;rw[if_neg h1]
   by_cases h2:(8*s.size-p:Nat)<n
   ·rw[if_pos h2]at he;exact absurd rfl he
   ·rw[if_neg h2,if_neg (by omega)]
 refine⟨he2,?_,by unfold aK;rw[he2]⟩;unfold ax;rw[he2]
 by_cases h0:au s p n=0
 ·rw[if_pos h0,if_pos h0]
  by_cases hn0:n.toNat=0
  ·rw[hn0,nr,nr]
  ·have hb:p+n.toNat≤8*s.size:=by
    unfold au at h0
    by_cases h1:n<0∨24<n
    ·rw[if_pos h1]at h0;omega
    ·rw[if_neg h1]at h0
     by_cases h2:(8*s.size-p:Nat)<n
     ·rw[if_pos h2]at h0;omega
     ·omega
   obtain⟨k,hk⟩:=QB h;rw[hk,p256,←jH _ p n.toNat _ hb,Nat.add_mul_mod_self_left,jH _ p n.toNat _ hb]
 ·rw[if_neg h0,if_neg h0]
theorem Ml{s s':ByteArray}(h:Pre s s'){p:Nat}{n:Int}(he:aE s p n≠3):aE s' p n=aE s p n∧bg s' p n=bg s p n∧bT s' p n=bT s p n:=by
 have hs:=h.size;have he2:aE s' p n=aE s p n:=by
  unfold aE at he⊢
  by_cases h1:n<0
  ·rw[if_pos h1,if_pos h1]
  ·rw[if_neg h1]at he⊢;rw[if_neg h1]
   by_cases h2:(s.size-(p+7)/8:Nat)<n
   ·rw[if_pos h2]at he;exact absurd rfl he
   ·rw[if_neg h2,if_neg (by omega)]
 refine⟨he2,?_,by unfold bT;rw[he2]⟩;unfold bg;rw[he2]
 by_cases h0:aE s p n=0
 ·rw[if_pos h0,if_pos h0];have hb:n.toNat≤s.size-(p+7)/8:=by
   unfold aE at h0
   by_cases h1:n<0
   ·rw[if_pos h1]at h0;omega
   ·rw[if_neg h1]at h0
    by_cases h2:(s.size-(p+7)/8:Nat)<n
    ·rw[if_pos h2]at h0;omega
    ·omega
  obtain⟨t,ht⟩:=h;have hz:s.data.toList.length=s.size:=Array.length_toList
  congr 2
  rw[←ht]
  by_cases hp:(p+7)/8≤s.size
  ·rw[List.drop_append_of_le_length (by omega),List.take_append_of_le_length (by rw[List.length_drop];omega)]
  ·have:n.toNat=0:=by omega
   rw[this,List.take_zero,List.take_zero]
 ·rw[if_neg h0,if_neg h0]
theorem zk(n:Nat):Stable (aY n):=by
 intro s s' p r hp h hr;unfold aY at h⊢
 by_cases he:au s p n=3
 ·rw[if_pos (by rw[he];decide),he]at h;exact absurd h.symm hr
 ·obtain⟨h1,h2,h3⟩:=E0 hp he;rw[h1,h2,h3];exact h
theorem E3{s:ByteArray}{p:Nat}{n:Int}(hp:p≤8*s.size)(h0:au s p n=0):p≤aK s p n∧aK s p n≤8*s.size∧aK s p n=p+n.toNat:=by
 unfold aK;rw[if_pos h0];unfold au at h0
 by_cases h1:n<0∨24<n
 ·rw[if_pos h1]at h0;omega
 ·rw[if_neg h1]at h0
  by_cases h2:(8*s.size-p:Nat)<n
  ·rw[if_pos h2]at h0;omega
  ·omega
theorem bV(n:Nat):Adv (aY n):=by
 intro s p a q hp h;unfold aY at h
 by_cases h0:au s p n=0
 ·rw[if_neg (by simpa using h0)]at h;injection h with h;injection h with h1 h2
  subst h2;have:=E3 hp h0;exact⟨this.1,this.2.1⟩
 ·rw[if_pos h0]at h;cases h
theorem gV(n:Nat):Adv (cQ n):=by
 intro s p a q hp h;unfold cQ at h
 by_cases h0:aE s p n=0
 ·rw[if_neg (by simpa using h0)]at h;injection h with h;injection h with h1 h2
  subst h2;unfold bT;rw[if_neg (by omega),if_pos h0];unfold aE at h0;rw[if_neg (by omega)]at h0
  by_cases h2:(s.size-(p+7)/8:Nat)<(n:Int)
  ·rw[if_pos h2]at h0;omega
  ·omega
 ·rw[if_pos h0]at h;cases h
theorem zK{s:ByteArray}(l:List Int):∀f n c p,p≤8*s.size→(kE l s f n c p).2.1=0→p<(kE l s f n c p).2.2∧(kE l s f n c p).2.2≤8*s.size
 |0,_,_,_,_,h=>by rw[pP]at h;simp at h
 |f+1,n,c,p,hp,h=>by
  rw[jo]at h⊢
  by_cases h0:au s p 1=0
  ·rw[if_neg (by simpa using h0)]at h⊢;obtain⟨h1,h2,h3⟩:=E3 hp h0;have h4:aK s p 1=p+1:=h3;cases e:tM l n (2*c+ax s p 1) with
   |some i=>exact⟨by show p<aK s p 1;omega,h2⟩
   |none=>
    rw[e]at h;have:=zK l f (n+1) _ _ h2 h;exact⟨by have h5:=this.1;show p<(kE l s f (n+1) _ (aK s p 1)).2.2;omega,this.2⟩
  ·rw[if_pos h0]at h;exact absurd h h0
theorem pK(l:List Int){s:ByteArray}{p a q:Nat}(hp:p≤8*s.size)(h:fm l s p=.ok (a,q)):p<q∧q≤8*s.size:=by
 unfold fm at h
 by_cases h0:(gK l s p).2.1=0
 ·rw[if_neg (by simpa using h0)]at h;injection h with h;injection h with h1 h2
  subst h2;exact zK l _ _ _ _ hp h0
 ·rw[if_pos h0]at h;cases h
theorem oh(l:List Int):Adv (fm l):=fun s p a q hp h=>by
 have:=pK l hp h;omega
end
section
theorem dT(far:Nat):∀n out,(bI far n out).length=out.length+n
 |0,_=>rfl
 |n+1,out=>by rw[bI,dT far n];simp;omega
theorem wI:∀(ks:List Nat) (a:List Int),Stable (dI ks a)
 |[],a=>Stable.pure a
 |k::ks,a=>Stable.bind (zk 3) fun v=>wI ks _
theorem Adv.ite{α:Type}{c:Prop}[Decidable c]{m k:Rd α}(hm:Adv m)(hk:Adv k):Adv (if c then m else k):=by
 split
 ·exact hm
 ·exact hk
theorem qZ(l d:List Int)(most:Int):∀f out,Adv (symG l d most f out)
 |0,_=>Adv.fail 3
 |f+1,out=>Adv.bind (oh l) fun t=>Adv.ite (Adv.pure _) (Adv.ite (Adv.when (qZ l d most f _)) (Adv.when (Adv.bind (bV _) fun x=>Adv.bind (oh d) fun u=>
  Adv.when (Adv.bind (bV _) fun y=>Adv.when (Adv.when (qZ l d most f _))))))
theorem rq(small:List Int)(total:Nat):∀f acc,Adv (lenG small total f acc)
 |0,_=>Adv.fail 3
 |f+1,acc=>by
  refine Adv.ite (Adv.pure _) (Adv.bind (oh small) fun t=>Adv.ite (rq small total f _) (Adv.ite (Adv.when ?_) (Adv.ite ?_ ?_)))
  all_goals exact Adv.bind (bV _) fun x=>Adv.when (rq small total f _)
theorem pA:∀(ks:List Nat) (a:List Int),Adv (dI ks a)
 |[],a=>Adv.pure a
 |k::ks,a=>Adv.bind (bV 3) fun v=>pA ks _
theorem Ht(most:Int)(F kind:Nat)(out:List UInt8):Adv (fh most F kind out):=by
 unfold fh;refine Adv.ite (Adv.bind (gV 2) fun a=>Adv.bind (gV 2) fun b=>Adv.when (Adv.bind (gV _) fun x=>Adv.when (Adv.pure _))) (Adv.ite (Adv.when (Adv.when (qZ _ _ _ _ _))) (Adv.ite ?_ (Adv.fail 13)));exact Adv.bind (bV 5) fun a=>Adv.bind (bV 5) fun b=>Adv.bind (bV 4) fun c=>Adv.bind (pA _ _) fun small=>
  Adv.when (Adv.bind (rq _ _ _ _) fun ls=>Adv.when (Adv.when (qZ _ _ _ _ _)))
theorem EY(most:Int)(F:Nat):∀f out,Adv (blkG most F f out)
 |0,_=>Adv.fail 3
 |f+1,out=>Adv.bind (bV 1) fun last=>Adv.bind (bV 2) fun kind=>Adv.bind (Ht most F kind out) fun out'=>Adv.ite (Adv.pure _) (EY most F f out')
theorem CC{s:ByteArray}{most:Int}{a:List UInt8}{q:Nat}(h:mr s most=.ok (a,q)):q≤8*s.size:=(EY most _ _ _ s 0 a q (Nat.zero_le _) h).2
def Grow(most:Int)(out:List UInt8)(m:Rd (List UInt8)):Prop:=∀s p a q,m s p=.ok (a,q)→out.length≤a.length∧((a.length:Int)≤most∨a=out)
section
variable {α:Type} {most:Int} {out:List UInt8}
theorem fY{β:Type}{m:Rd α}{f:α→Rd β}{s:ByteArray}{p:Nat}{r:β×Nat}(h:am m f s p=.ok r):∃y,m s p=.ok y∧f y.1 s y.2=.ok r:=by
 unfold am at h;cases e:m s p with
 |error x=>rw[e]at h;cases h
 |ok y=>rw[e]at h;exact⟨y,rfl,h⟩
theorem lj{c:Prop}[Decidable c]{e:Int}{m:Rd α}{s:ByteArray}{p:Nat}{r:α×Nat}(h:bq c e m s p=.ok r):¬c∧m s p=.ok r:=by
 unfold bq at h
 by_cases hc:c
 ·rw[if_pos hc]at h;cases h
 ·rw[if_neg hc]at h;exact⟨hc,h⟩
theorem aD{c:Prop}[Decidable c]{e:Int}{m:Rd α}{s:ByteArray}{p:Nat}(h:¬c):bq c e m s p=m s p:=by unfold bq;rw[if_neg h]
theorem cU{c:Prop}[Decidable c]{e:Int}{m:Rd α}{s:ByteArray}{p:Nat}(h:c):bq c e m s p=.error e:=by unfold bq;rw[if_pos h];rfl
theorem Grow.bind{m:Rd α}{f:α→Rd (List UInt8)}(hf:∀a,Grow most out (f a)):Grow most out (am m f):=fun s p a q h=>by
 obtain⟨y,_,h2⟩:=fY h;exact hf _ _ _ _ _ h2
theorem Grow.when{c:Prop}[Decidable c]{e:Int}{m:Rd (List UInt8)}(hm:¬c→Grow most out m):Grow most out (bq c e m):=fun s p a q h=>by
 obtain⟨hc,h2⟩:=lj h;exact hm hc _ _ _ _ h2
theorem Grow.ite{c:Prop}[Decidable c]{m k:Rd (List UInt8)}(hm:Grow most out m)(hk:Grow most out k):Grow most out (if c then m else k):=by
 split
 ·exact hm
 ·exact hk
theorem Grow.fail(e:Int):Grow most out (mp e):=fun s p a q h=>by cases h
theorem Grow.pure:Grow most out (aR out):=fun s p a q h=>by
 unfold aR at h;injection h with h;injection h with h1 h2
 subst h1;exact⟨Nat.le_refl _,.inr rfl⟩
theorem Grow.step{out':List UInt8}{m:Rd (List UInt8)}(hl:out.length≤out'.length)(hm:(out'.length:Int)≤most)(h:Grow most out' m):Grow most out m:=fun s p a q e=>by
 obtain⟨h1,h2⟩:=h s p a q e;refine⟨by omega,?_⟩;rcases h2 with h2|h2
 ·exact .inl h2
 ·subst h2;exact .inl hm
end
theorem nO(l d:List Int)(most:Int):∀f out,Grow most out (symG l d most f out)
 |0,_=>Grow.fail 3
 |f+1,out=>by
  refine Grow.bind fun t=>Grow.ite Grow.pure (Grow.ite (Grow.when fun hc=>?_) (Grow.when fun _=>Grow.bind fun x=>Grow.bind fun u=>Grow.when fun _=>Grow.bind fun y=>Grow.when fun _=>Grow.when fun hc=>?_))
  ·exact Grow.step (by simp) (by simp;omega) (nO l d most f _)
  ·exact Grow.step (by rw[dT];omega) (by rw[dT];omega) (nO l d most f _)
theorem ud{s:ByteArray}{p n:Nat}{x:ByteArray}{q:Nat}(h:cQ n s p=.ok (x,q)):x.data.toList.length=n:=by
 unfold cQ at h
 by_cases h0:aE s p n=0
 ·rw[if_neg (by simpa using h0)]at h;injection h with h;injection h with h1 h2
  subst h1;unfold bg;rw[if_pos h0];unfold aE at h0;rw[if_neg (by omega)]at h0
  by_cases h2:(s.size-(p+7)/8:Nat)<(n:Int)
  ·rw[if_pos h2]at h0;omega
  ·have hz:s.data.toList.length=s.size:=Array.length_toList;show((s.data.toList.drop ((p+7)/8)).take (n:Int).toNat).length=n;rw[List.length_take,List.length_drop,Int.toNat_natCast];omega
 ·rw[if_pos h0]at h;cases h
theorem yQ(most:Int)(out:List UInt8):Grow most out (fq most out):=by
 refine Grow.bind fun a=>Grow.bind fun b=>Grow.when fun _=>fun s p r q h=>?_;obtain⟨y,h1,h2⟩:=fY h;obtain⟨hc,h3⟩:=lj h2;have hl:=ud h1;unfold aR at h3;injection h3 with h3;injection h3 with h4 h5
 subst h4;rw[List.length_append,hl];exact⟨by omega,.inl (by omega)⟩
theorem C9(most:Int)(F kind:Nat)(out:List UInt8):Grow most out (fh most F kind out):=by
 unfold fh;refine Grow.ite (yQ most out) (Grow.ite (Grow.when fun _=>Grow.when fun _=>nO _ _ _ _ _) (Grow.ite ?_ (Grow.fail 13)));exact Grow.bind fun a=>Grow.bind fun b=>Grow.bind fun c=>Grow.bind fun small=>Grow.when fun _=>Grow.bind fun ls=>Grow.when fun _=>Grow.when fun _=>nO _ _ _ _ _
theorem AV(most:Int)(F:Nat):∀f out,Grow most out (blkG most F f out)
 |0,_=>Grow.fail 3
 |f+1,out=>Grow.bind fun last=>Grow.bind fun kind=>fun s p a q h=>by
  obtain⟨y,h1,h2⟩:=fY h;obtain⟨g1,g2⟩:=C9 most F kind out _ _ _ _ h1;have h3:Grow most y.1 (if last≠0 then aR y.1 else blkG most F f y.1):=Grow.ite Grow.pure (AV most F f y.1);obtain⟨g3,g4⟩:=h3 _ _ _ _ h2;refine⟨by omega,?_⟩;rcases g4 with g4|g4
  ·exact .inl g4
  ·rw[g4];exact g2
theorem La{s:ByteArray}{most:Int}{a:List UInt8}{q:Nat}(h:mr s most=.ok (a,q)):(a.length:Int)≤most∨a=[]:=(AV most _ _ _ s 0 a q h).2
end
section
theorem eI{n p:Nat}{s:ByteArray}(h:au s p n=0):aY n s p=.ok (ax s p n,aK s p n):=by unfold aY;rw[if_neg (by simpa using h)]
theorem JR{n p:Nat}{s:ByteArray}(h:au s p n≠0):aY n s p=.error (au s p n):=by unfold aY;rw[if_pos h]
theorem lQ{n p:Nat}{s:ByteArray}(h:aE s p n=0):cQ n s p=.ok (bg s p n,bT s p n):=by unfold cQ;rw[if_neg (by simpa using h)]
theorem FH{n p:Nat}{s:ByteArray}(h:aE s p n≠0):cQ n s p=.error (aE s p n):=by unfold cQ;rw[if_pos h]
theorem ft{l:List Int}{p t p1:Nat}{s:ByteArray}(h:gK l s p=(t,0,p1)):fm l s p=.ok (t,p1):=by unfold fm;rw[h];rfl
theorem JP{l:List Int}{p t p1:Nat}{e:Int}{s:ByteArray}(h:gK l s p=(t,e,p1))(he:e≠0):fm l s p=.error e:=by unfold fm;rw[h];exact if_pos he
section
variable {α β:Type} {m:Rd α} {f:α→Rd β} {s:ByteArray} {p q:Nat} {a:α} {e:Int}
theorem ae(h:m s p=.ok (a,q)):am m f s p=f a s q:=by unfold am;rw[h]
theorem aB(h:m s p=.error e):am m f s p=.error e:=by unfold am;rw[h]
end
section
variable {l d:List Int} {most:Int} {f p p1 t:Nat} {out:List UInt8} {s:ByteArray}
theorem P1(h:gK l s p=(256,0,p1)):symG l d most (f+1) out s p=.ok (out,p1):=ae (ft h)
theorem P0(h:gK l s p=(t,0,p1))(ht:t<256)(hm:¬most<(out.length:Int)+1):symG l d most (f+1) out s p=symG l d most f (out++[UInt8.ofNat t]) s p1:=by
 refine(ae (ft h)).trans ?_;rw[if_neg (by omega),if_pos ht,aD hm]
def Px(l d:List Int)(most:Int)(f:Nat)(out:List UInt8)(t:Nat):Rd (List UInt8):=
 am (aY (aq t)) fun x=>am (fm d) fun u=>bq (29<u) 12 (am (aY (aC u)) fun y=>
  bq (out.length<aF u+y) 15 (bq (most<(out.length:Int)+((ar t+x:Nat):Int)) 5 (symG l d most f (bI (aF u+y) (ar t+x) out))))
theorem IC(h:gK l s p=(t,0,p1))(h1:256<t)(h2:t≤285):symG l d most (f+1) out s p=Px l d most f out t s p1:=by
 refine(ae (ft h)).trans ?_;rw[if_neg (by omega),if_neg (by omega),aD (by omega)];rfl
variable {u p2 p3:Nat}
theorem Gi(h0:au s p1 (aq t)=0)(h:gK d s (aK s p1 (aq t))=(u,0,p3))(hu:¬29<u)(he:au s p3 (aC u)=0)(hf:¬out.length<aF u+ax s p3 (aC u))
 (hb:¬most<(out.length:Int)+((ar t+ax s p1 (aq t):Nat):Int)):
 Px l d most f out t s p1=symG l d most f (bI (aF u+ax s p3 (aC u)) (ar t+ax s p1 (aq t)) out) s (aK s p3 (aC u)):=
 (ae (eI h0)).trans ((ae (ft h)).trans ((aD hu).trans ((ae (eI he)).trans ((aD hf).trans (aD hb)))))
end
theorem lX{t:Nat}(h1:256<t)(h2:t≤285):aq t≤5:=by unfold aq;split<;>omega
theorem mb{u:Nat}(h:u≤29):aC u≤13:=by unfold aC;split<;>omega
theorem Cv:∀k,k<29→3≤ar (257+k)∧ar (257+k)≤258∧ar (257+k)+2^aq (257+k)≤259:=by decide+kernel
theorem Gp{t:Nat}(h1:256<t)(h2:t≤285):3≤ar t∧ar t≤258∧ar t+2^aq t≤259:=by
 have:=Cv (t-257) (by omega)
 rwa [show 257+(t-257)=t from by omega]at this
theorem CV:∀u,u<30→1≤aF u∧aF u+2^aC u≤32769:=by decide+kernel
theorem GX{u:Nat}(h:u≤29):1≤aF u∧aF u+2^aC u≤32769:=CV u (by omega)
theorem Hx(s:ByteArray)(p n:Nat):ax s p n<2^n:=by
 unfold ax;split
 ·rw[Int.toNat_natCast];exact o6 _ _ _
 ·exact Nat.two_pow_pos _
section
variable {small:List Int} {total f p p1 t:Nat} {acc:List Int} {s:ByteArray}
theorem rp(h:total≤acc.length):lenG small total (f+1) acc s p=.ok (acc,p):=by rw[lenG,if_pos h];rfl
theorem gM(h:acc.length<total):lenG small total (f+1) acc s p=am (fm small) (fun t=>
 if t<16 then lenG small total f (acc++[(t:Int)]) else
 if t=16 then bq (acc.length=0) 12 (am (aY 2) fun x=>bq (total<acc.length+(3+x)) 12 (lenG small total f (acc++List.replicate (3+x) (acc.getD (acc.length-1) 0)))) else
 if t=17 then am (aY 3) fun x=>bq (total<acc.length+(3+x)) 12 (lenG small total f (acc++List.replicate (3+x) 0)) else
 am (aY 7) fun x=>bq (total<acc.length+(11+x)) 12 (lenG small total f (acc++List.replicate (11+x) 0))) s p:=by rw[lenG,if_neg (by omega)]
theorem QF(h:acc.length<total)(hn:gK small s p=(t,0,p1))(ht:t<16):lenG small total (f+1) acc s p=lenG small total f (acc++[(t:Int)]) s p1:=by
 rw[gM h,ae (ft hn),if_pos ht]
def repR(small:List Int)(total f:Nat)(acc:List Int)(v:Int)(least bits:Nat):Rd (List Int):=am (aY bits) fun x=>bq (total<acc.length+(least+x)) 12 (lenG small total f (acc++List.replicate (least+x) v))
theorem KR(h:acc.length<total)(hn:gK small s p=(16,0,p1))(h0:acc.length≠0):lenG small total (f+1) acc s p=repR small total f acc (acc.getD (acc.length-1) 0) 3 2 s p1:=by
 rw[gM h,ae (ft hn),if_neg (by omega),if_pos rfl,aD h0];rfl
theorem KQ(h:acc.length<total)(hn:gK small s p=(17,0,p1)):lenG small total (f+1) acc s p=repR small total f acc 0 3 3 s p1:=by
 rw[gM h,ae (ft hn),if_neg (by omega),if_neg (by omega),if_pos rfl];rfl
theorem Oi(h:acc.length<total)(hn:gK small s p=(t,0,p1))(ht:17<t):lenG small total (f+1) acc s p=repR small total f acc 0 11 7 s p1:=by
 rw[gM h,ae (ft hn),if_neg (by omega),if_neg (by omega),if_neg (by omega)];rfl
variable {v:Int} {least bits:Nat}
theorem wV(he:au s p1 bits=0)(h:¬total<acc.length+(least+ax s p1 bits)):
 repR small total f acc v least bits s p1=lenG small total f (acc++List.replicate (least+ax s p1 bits) v) s (aK s p1 bits):=(ae (eI he)).trans (aD h)
end
end
section
section
variable {most:Int} {out:List UInt8} {s:ByteArray} {p F f:Nat}
def po(most:Int)(out:List UInt8)(n:Nat):Rd (List UInt8):=am (cQ n) fun x=>bq (most<(out.length:Int)+(n:Nat)) 5 (aR (out++x.data.toList))
theorem Bv(h1:aE s p (2:Nat)=0)(h2:aE s (bT s p (2:Nat)) (2:Nat)=0)(hw:¬mt (bg s (bT s p (2:Nat)) (2:Nat))≠65535-mt (bg s p (2:Nat))):
 fq most out s p=po most out (mt (bg s p (2:Nat))) s (bT s (bT s p (2:Nat)) (2:Nat)):=
 (ae (lQ h1)).trans ((ae (lQ h2)).trans (aD hw))
variable {n:Nat}
theorem Bn{α:Type}{l d:List Int}{m:Rd α}(h:chk l≠0):dD l d m s p=.error (chk l):=cU h
theorem Bm{α:Type}{l d:List Int}{m:Rd α}(h1:chk l=0)(h:chk d≠0):dD l d m s p=.error (chk d):=(aD (by simpa using h1)).trans (cU h)
theorem mO{α:Type}{l d:List Int}{m:Rd α}(h1:chk l=0)(h2:chk d=0):dD l d m s p=m s p:=(aD (by simpa using h1)).trans (aD (by simpa using h2))
theorem ui:fh most F 1 out s p=symG fixL fixD most F out s p:=by
 unfold fh;rw[if_neg (by omega),if_pos rfl];exact mO cH eM
theorem qN:fh most F 0 out s p=fq most out s p:=by unfold fh;rw[if_pos rfl]
theorem AR:fh most F 2 out s p=dynR most F out s p:=by unfold fh;rw[if_neg (by omega),if_neg (by omega),if_pos rfl]
def dyn1(most:Int)(F:Nat)(out:List UInt8)(a:Nat):Rd (List UInt8):=am (aY 5) fun b=>am (aY 4) fun c=>am (dI (ordS.take (c+4)) (List.replicate 19 0)) fun small=>
 bq (chk small≠0) (chk small) (am (lenG small (a+257+(b+1)) F []) fun ls=>dD (ls.take (a+257)) (ls.drop (a+257)) (symG (ls.take (a+257)) (ls.drop (a+257)) most F out))
theorem LO(h:au s p (5:Nat)=0):dynR most F out s p=dyn1 most F out (ax s p (5:Nat)) s (aK s p (5:Nat)):=ae (eI h)
variable {a b c:Nat}
def dyn2(most:Int)(F:Nat)(out:List UInt8)(a b:Nat):Rd (List UInt8):=am (aY 4) fun c=>am (dI (ordS.take (c+4)) (List.replicate 19 0)) fun small=>
 bq (chk small≠0) (chk small) (am (lenG small (a+257+(b+1)) F []) fun ls=>dD (ls.take (a+257)) (ls.drop (a+257)) (symG (ls.take (a+257)) (ls.drop (a+257)) most F out))
theorem LM(h:au s p (5:Nat)=0):dyn1 most F out a s p=dyn2 most F out a (ax s p (5:Nat)) s (aK s p (5:Nat)):=ae (eI h)
def dyn3(most:Int)(F:Nat)(out:List UInt8)(a b:Nat)(small:List Int):Rd (List UInt8):=
 bq (chk small≠0) (chk small) (am (lenG small (a+257+(b+1)) F []) fun ls=>dD (ls.take (a+257)) (ls.drop (a+257)) (symG (ls.take (a+257)) (ls.drop (a+257)) most F out))
theorem LK(h:au s p (4:Nat)=0):dyn2 most F out a b s p=am (dI (ordS.take (ax s p (4:Nat)+4)) (List.replicate 19 0)) (dyn3 most F out a b) s (aK s p (4:Nat)):=ae (eI h)
variable {small ls:List Int} {k:Nat} {ks:List Nat} {q:Nat} {e:Int}
theorem Fo(h:au s p (3:Nat)=0):dI (k::ks) small s p=dI ks (small.set k (ax s p (3:Nat):Nat)) s (aK s p (3:Nat)):=ae (eI h)
theorem LU(h:chk small=0)(he:lenG small (a+257+(b+1)) F [] s p=.ok (ls,q)):dyn3 most F out a b small s p=dD (ls.take (a+257)) (ls.drop (a+257)) (symG (ls.take (a+257)) (ls.drop (a+257)) most F out) s q:=
 (aD (by simpa using h)).trans (ae he)
def blkK(most:Int)(F f last kind:Nat)(out:List UInt8):Rd (List UInt8):=am (fh most F kind out) fun out'=>if last≠0 then aR out' else blkG most F f out'
theorem Pe(h1:au s p (1:Nat)=0)(h2:au s (aK s p (1:Nat)) (2:Nat)=0):
 blkG most F (f+1) out s p=blkK most F f (ax s p (1:Nat)) (ax s (aK s p (1:Nat)) (2:Nat)) out s (aK s (aK s p (1:Nat)) (2:Nat)):=(ae (eI h1)).trans (ae (eI h2))
variable {last kind:Nat} {out':List UInt8}
theorem Mr(h:fh most F kind out s p=.ok (out',q))(hl:last≠0):blkK most F f last kind out s p=.ok (out',q):=by
 refine(ae h).trans ?_;rw[if_pos hl];rfl
end
theorem Ai{s:ByteArray}{most e:Int}(h:mr s most=.error e):gy s most=([],0,e):=by unfold gy;rw[h]
theorem xR{s:ByteArray}{most:Int}{a:List UInt8}{q:Nat}(h:mr s most=.ok (a,q)):gy s most=(a,(q+7)/8,0):=by unfold gy;rw[h]
end
section
def Hard{α:Type}(m:Rd α):Prop:=∀s p,m s p≠ .error 0
section
variable {α β:Type}
theorem Hard.pure(a:α):Hard (aR a):=fun _ _ h=>by cases h
theorem Hard.fail{e:Int}(he:e≠0):Hard (mp e:Rd α):=fun _ _ h=>by
 unfold mp at h;injection h with h;exact he h
theorem Hard.bind{m:Rd α}{f:α→Rd β}(hm:Hard m)(hf:∀a,Hard (f a)):Hard (am m f):=fun s p h=>by
 unfold am at h;cases e:m s p with
 |error x=>rw[e]at h;injection h with h;subst h;exact hm s p e
 |ok y=>rw[e]at h;exact hf _ _ _ h
theorem Hard.when{c:Prop}[Decidable c]{e:Int}{m:Rd α}(he:c→e≠0)(hm:Hard m):Hard (bq c e m):=by
 unfold bq;split
 ·rename_i h;exact Hard.fail (he h)
 ·exact hm
theorem Hard.ite{c:Prop}[Decidable c]{m k:Rd α}(hm:Hard m)(hk:Hard k):Hard (if c then m else k):=by
 split
 ·exact hm
 ·exact hk
theorem d9(n:Nat):Hard (aY n):=fun s p h=>by
 unfold aY at h
 by_cases h0:au s p n=0
 ·rw[if_neg (by simpa using h0)]at h;cases h
 ·rw[if_pos h0]at h;injection h with h;exact h0 h
theorem mX(n:Nat):Hard (cQ n):=fun s p h=>by
 unfold cQ at h
 by_cases h0:aE s p n=0
 ·rw[if_neg (by simpa using h0)]at h;cases h
 ·rw[if_pos h0]at h;injection h with h;exact h0 h
theorem pJ(l:List Int):Hard (fm l):=fun s p h=>by
 unfold fm at h
 by_cases h0:(gK l s p).2.1=0
 ·rw[if_neg (by simpa using h0)]at h;cases h
 ·rw[if_pos h0]at h;injection h with h;exact h0 h
end
theorem nN(l d:List Int)(most:Int):∀f out,Hard (symG l d most f out)
 |0,_=>Hard.fail (by decide)
 |f+1,out=>Hard.bind (pJ l) fun t=>Hard.ite (Hard.pure _) (Hard.ite (Hard.when (fun _=>by decide) (nN l d most f _)) (Hard.when (fun _=>by decide) (Hard.bind (d9 _) fun x=>Hard.bind (pJ d) fun u=>
  Hard.when (fun _=>by decide) (Hard.bind (d9 _) fun y=>Hard.when (fun _=>by decide) (Hard.when (fun _=>by decide) (nN l d most f _))))))
theorem tn(small:List Int)(total:Nat):∀f acc,Hard (lenG small total f acc)
 |0,_=>Hard.fail (by decide)
 |f+1,acc=>by
  refine Hard.ite (Hard.pure _) (Hard.bind (pJ small) fun t=>Hard.ite (tn small total f _) (Hard.ite (Hard.when (fun _=>by decide) ?_) (Hard.ite ?_ ?_)))
  all_goals exact Hard.bind (d9 _) fun x=>Hard.when (fun _=>by decide) (tn small total f _)
theorem sf:∀(ks:List Nat) (a:List Int),Hard (dI ks a)
 |[],a=>Hard.pure a
 |k::ks,a=>Hard.bind (d9 3) fun v=>sf ks _
theorem C8(most:Int)(F kind:Nat)(out:List UInt8):Hard (fh most F kind out):=by
 unfold fh;refine Hard.ite (Hard.bind (mX 2) fun a=>Hard.bind (mX 2) fun b=>Hard.when (fun _=>by decide) (Hard.bind (mX _) fun x=>Hard.when (fun _=>by decide) (Hard.pure _))) (Hard.ite (Hard.when id (Hard.when id (nN _ _ _ _ _))) (Hard.ite ?_ (Hard.fail (by decide))));exact Hard.bind (d9 5) fun a=>Hard.bind (d9 5) fun b=>Hard.bind (d9 4) fun c=>Hard.bind (sf _ _) fun small=>
  Hard.when id (Hard.bind (tn _ _ _ _) fun ls=>Hard.when id (Hard.when id (nN _ _ _ _ _)))
theorem AU(most:Int)(F:Nat):∀f out,Hard (blkG most F f out)
 |0,_=>Hard.fail (by decide)
 |f+1,out=>Hard.bind (d9 1) fun last=>Hard.bind (d9 2) fun kind=>Hard.bind (C8 most F kind out) fun out'=>Hard.ite (Hard.pure _) (AU most F f out')
section
variable {s s' s1:ByteArray} {most M:Int}
theorem K9(s:ByteArray)(most:Int):(∃a q,mr s most=.ok (a,q)∧gy s most=(a,(q+7)/8,0))∨(∃e,e≠0∧mr s most=.error e∧gy s most=([],0,e)):=by
 cases h:mr s most with
 |ok y=>left;exact⟨y.1,y.2,rfl,xR h⟩
 |error e=>right;exact⟨e,fun e0=>AU most _ _ _ s 0 (by subst e0;exact h),rfl,Ai h⟩
theorem pV:(gy s most).2.1≤s.size∧((gy s most).1.length:Int)≤max most 0:=by
 rcases K9 s most with⟨a,q,h,e⟩|⟨x,_,_,e⟩
 ·rw[e];have h1:=CC h;have h2:=La h;refine⟨by dsimp only;omega,?_⟩;rcases h2 with h2|h2
  ·dsimp only;omega
  ·subst h2;simp;omega
 ·rw[e];exact⟨Nat.zero_le _,by simp;omega⟩
end
end
section
section
variable {α β γ:Type}
theorem gD(m:Rd α)(f:α→Rd β)(g:β→Rd γ):am (am m f) g=am m fun a=>am (f a) g:=by
 funext s p;unfold am;cases m s p<;>rfl
theorem jI(a:α)(f:α→Rd β):am (aR a) f=f a:=rfl
theorem AY(e:Int)(f:α→Rd β):am (mp e:Rd α) f=mp e:=rfl
theorem lF(c:Prop)[Decidable c](e:Int)(m:Rd α)(f:α→Rd β):am (bq c e m) f=bq c e (am m f):=by
 unfold bq;split<;>rfl
end
theorem Da(s:ByteArray)(p:Nat){n:Nat}(h:n≤24):au s p (n:Int)=if 8*s.size-p<n then 3 else 0:=by
 unfold au;rw[if_neg (by omega)]
 by_cases h1:8*s.size-p<n
 ·rw[if_pos (by omega),if_pos h1]
 ·rw[if_neg (by omega),if_neg h1]
theorem vZ(x p m n:Nat):bK x p (m+n)=bK x p m+2^m*bK x (p+m) n:=by
 unfold bK;rw[Nat.pow_add,Nat.mod_mul,Nat.pow_add,←Nat.div_div_eq_div_mul]
theorem cx{n:Nat}(h:n≤24)(s:ByteArray)(p:Nat):aY n s p=if 8*s.size-p<n then .error 3 else .ok (bK (num s.data.toList) p n,p+n):=by
 unfold aY ax aK;rw[Da s p h]
 by_cases h1:8*s.size-p<n
 ·simp[h1]
 ·simp[h1]
theorem ql{α:Type}(m n:Nat)(h:m+n≤24)(f:Nat→Nat→Rd α):(am (aY m) fun a=>am (aY n) fun b=>f a b)=am (aY (m+n)) fun v=>f (v%2^m) (v/2^m):=by
 funext s p
 by_cases h1:8*s.size-p<m
 ·rw[aB (e:=3) (by rw[cx (by omega),if_pos h1]),aB (e:=3) (by rw[cx h,if_pos (by omega)])]
 ·rw[ae (a:=bK (num s.data.toList) p m) (q:=p+m) (by rw[cx (by omega),if_neg h1])]
  by_cases h2:8*s.size-(p+m)<n
  ·rw[aB (e:=3) (by rw[cx (by omega),if_pos h2]),aB (e:=3) (by rw[cx h,if_pos (by omega)])]
  ·rw[ae (a:=bK (num s.data.toList) (p+m) n) (q:=p+m+n) (by rw[cx (by omega),if_neg h2]),
    ae (a:=bK (num s.data.toList) p (m+n)) (q:=p+(m+n)) (by rw[cx h,if_neg (by omega)])]
   have hlt:=o6 (num s.data.toList) p m;have e1:bK (num s.data.toList) p (m+n)%2^m=bK (num s.data.toList) p m:=by
    rw[vZ,Nat.add_mul_mod_self_left,Nat.mod_eq_of_lt hlt]
   have e2:bK (num s.data.toList) p (m+n)/2^m=bK (num s.data.toList) (p+m) n:=by
    rw[vZ,Nat.add_mul_div_left _ _ (Nat.two_pow_pos m),Nat.div_eq_of_lt hlt,Nat.zero_add]
   rw[e1,e2,Nat.add_assoc]
theorem Pd(most:Int)(F f:Nat)(out:List UInt8):blkG most F (f+1) out=am (aY 3) fun h=>blkK most F f (h%2) (h/2) out:=by
 have h:=ql 1 2 (by omega) fun last kind=>blkK most F f last kind out;exact h
theorem OT(most:Int)(F:Nat)(out:List UInt8):dynR most F out=am (aY 14) fun v=>am (dI (ordS.take (4+v/1024)) (List.replicate 19 0)) (dyn3 most F out (v%32) (v/32%32)):=by
 have h1:=fun a:Nat=>ql 5 4 (by omega) fun b c=>am (dI (ordS.take (c+4)) (List.replicate 19 0)) (dyn3 most F out a b);have h2:=ql 5 9 (by omega) fun a v=>am (dI (ordS.take (v/2^5+4)) (List.replicate 19 0)) (dyn3 most F out a (v%2^5));have h3:dynR most F out=am (aY 5) fun a=>am (aY (5+4)) fun v=>am (dI (ordS.take (v/2^5+4)) (List.replicate 19 0)) (dyn3 most F out a (v%2^5)):=by
  show(am (aY 5) fun a=>_)=_
  congr 1
  funext a
  exact h1 a
 rw[h3];refine h2.trans ?_
 congr 1
 funext v
 rw[show v/2^5/2^5+4=4+v/1024 from by omega]
def rLen(t:Nat):Rd Nat:=bq (285<t) 12 (am (aY (aq t)) fun x=>aR (ar t+x))
def rDst(d:List Int):Rd Nat:=am (fm d) fun u=>bq (29<u) 12 (am (aY (aC u)) fun y=>aR (aF u+y))
def om(d:List Int)(most:Int)(t:Nat)(out:List UInt8):Rd (List UInt8):=am (rLen t) fun n=>am (rDst d) fun far=>
 bq (out.length<far) 15 (bq (most<(out.length:Int)+(n:Nat)) 5 (aR (bI far n out)))
def qR(d:List Int)(most:Int)(t:Nat)(out:List UInt8):Rd (List UInt8):=if 256<t then om d most t out else bq (most<(out.length:Int)+1) 5 (aR (out++[UInt8.ofNat t]))
theorem Na(l d:List Int)(most:Int)(f:Nat)(out:List UInt8):symG l d most (f+1) out=am (fm l) fun t=>if t=256 then aR out else am (qR d most t out) (symG l d most f):=by
 show(am (fm l) fun t=>_)=_
 congr 1
 funext t
 by_cases h1:t=256
 ·rw[if_pos h1,if_pos h1]
 ·rw[if_neg h1,if_neg h1];unfold qR
  by_cases h2:t<256
  ·rw[if_pos h2,if_neg (by omega),lF,jI]
  ·rw[if_neg h2,if_pos (by omega)];unfold om rLen rDst;simp only[gD,lF,jI]
def dV(k g:Nat):Nat:=if k<2*g then 0 else k/g-1
def jC(k g x:Nat):Nat:=if k<2*g then k else(g+k%g)*2^(k/g-1)+x
def rExt(k g:Nat):Rd Nat:=am (aY (dV k g)) fun x=>aR (jC k g x)
theorem CJ:∀k,k<28→aq (257+k)=dV k 4∧∀x,x<32→ar (257+k)+x=if k<8 then 3+jC k 4 x+x else 3+jC k 4 x:=by decide+kernel
theorem iA{s:ByteArray}{p:Nat}:aY 0 s p=.ok (0,p):=by
 rw[cx (by omega),if_neg (by omega),nr];rfl
theorem QV{t:Nat}(h1:256<t)(h2:t<285):rLen t=am (rExt (t-257) 4) fun n=>aR (3+n):=by
 funext s p
 obtain⟨e1,e2⟩:=CJ (t-257) (by omega);rw[show 257+(t-257)=t from by omega]at e1 e2;unfold rLen rExt;rw[aD (by omega),gD,e1]
 by_cases hk:t-257<8
 ·have e0:dV (t-257) 4=0:=by unfold dV;rw[if_pos (by omega)]
  rw[e0,ae iA,ae iA,jI,e2 0 (by omega),if_pos hk];rfl
 ·unfold am;cases h:aY (dV (t-257) 4) s p with
  |error e=>rfl
  |ok y=>
   obtain⟨x,q⟩:=y;have hb:dV (t-257) 4≤5:=by unfold dV;split<;>omega
   have hx:x<32:=by
    rw[cx (by omega)]at h;split at h
    ·cases h
    ·injection h with h;injection h with h _
     subst h;exact Nat.lt_of_lt_of_le (o6 _ _ _) (Nat.pow_le_pow_right (by decide) hb)
   show aR _ s q=aR _ s q;rw[e2 x hx,if_neg hk]
theorem NB:rLen 285=aR 258:=by
 funext s p
 unfold rLen;rw[aD (by omega),show aq 285=0 from by decide+kernel,ae iA,show ar 285=258 from by decide+kernel]
theorem NC{t:Nat}(h:285<t):rLen t=mp 12:=by
 funext s p
 exact cU h
theorem CK:∀u,u<30→aC u=dV u 2∧aF u=if u<4 then 1+u else 1+jC u 2 0:=by decide+kernel
theorem GK{k g x:Nat}(h:2*g≤k):jC k g x=jC k g 0+x:=by
 unfold jC;rw[if_neg (by omega),if_neg (by omega)];rfl
theorem QW(d:List Int):rDst d=am (fm d) fun u=>bq (29<u) 12 (am (rExt u 2) fun n=>aR (1+n)):=by
 unfold rDst
 congr 1
 funext u
 by_cases hu:29<u
 ·unfold bq;rw[if_pos hu,if_pos hu]
 ·funext s p
  rw[aD hu,aD hu];obtain⟨e1,e2⟩:=CK u (by omega);unfold rExt;rw[gD,e1]
  by_cases hk:u<4
  ·have e0:dV u 2=0:=by unfold dV;rw[if_pos (by omega)]
   rw[e0,ae iA,ae iA,jI,e2,if_pos hk];show aR _ s p=aR _ s p;unfold jC;rw[if_pos (by omega)];rfl
  ·congr 1
   funext x
   show aR _=aR _;rw[e2,if_neg hk,GK (x:=x) (by omega)]
   congr 1
   omega
def i6(a:ByteArray)(i:Nat):Nat:=(a.data.toList.getD i 0).toNat+256*(a.data.toList.getD (i+1) 0).toNat
theorem AN(s:ByteArray)(p n:Nat):aE s p (n:Int)=if s.size-(p+7)/8<n then 3 else 0:=by
 unfold aE;rw[if_neg (by omega)]
 by_cases h1:s.size-(p+7)/8<n
 ·rw[if_pos (by omega),if_pos h1]
 ·rw[if_neg (by omega),if_neg h1]
theorem fW(n:Nat)(s:ByteArray)(p:Nat):cQ n s p=if s.size-(p+7)/8<n then .error 3 else .ok (⟨((s.data.toList.drop ((p+7)/8)).take n).toArray⟩,8*((p+7)/8+n)):=by
 unfold cQ bg bT;rw[AN s p n]
 by_cases h1:s.size-(p+7)/8<n
 ·simp[h1]
 ·rw[if_neg h1,if_neg h1];simp only[if_true,ne_eq,not_true_eq_false,if_false,Int.toNat_natCast];rw[if_neg (show ¬(n:Int)<0 by omega)]
theorem Bu(most:Int)(out:List UInt8):fq most out=am (cQ 4) fun h=>bq (i6 h 2≠65535-i6 h 0) 14 (po most out (i6 h 0)):=by
 funext s p
 by_cases h1:s.size-(p+7)/8<2
 ·have k2:cQ 2 s p=.error 3:=by rw[fW,if_pos h1]
  have k4:cQ 4 s p=.error 3:=by rw[fW,if_pos (by omega)]
  exact(aB k2).trans (aB k4).symm
 ·have k1:cQ 2 s p=.ok (⟨((s.data.toList.drop ((p+7)/8)).take 2).toArray⟩,8*((p+7)/8+2)):=by rw[fW,if_neg h1]
  have hp:(8*((p+7)/8+2)+7)/8=(p+7)/8+2:=by omega
  refine(ae k1).trans ?_
  by_cases h2:s.size-((p+7)/8+2)<2
  ·have k2:cQ 2 s (8*((p+7)/8+2))=.error 3:=by rw[fW,hp,if_pos h2]
   have k4:cQ 4 s p=.error 3:=by rw[fW,if_pos (by omega)]
   exact(aB k2).trans (aB k4).symm
  ·have k2:cQ 2 s (8*((p+7)/8+2))=.ok (⟨((s.data.toList.drop ((p+7)/8+2)).take 2).toArray⟩,8*((p+7)/8+2+2)):=by rw[fW,hp,if_neg h2]
   have k4:cQ 4 s p=.ok (⟨((s.data.toList.drop ((p+7)/8)).take 4).toArray⟩,8*((p+7)/8+4)):=by rw[fW,if_neg (by omega)]
   refine(ae k2).trans (Eq.trans ?_ (ae k4).symm);have hlen:4≤(s.data.toList.drop ((p+7)/8)).length:=by
    have hz:s.data.toList.length=s.size:=Array.length_toList;rw[List.length_drop];omega
   rw[←List.drop_drop];generalize s.data.toList.drop ((p+7)/8)=l at *
   match l,hlen with
   |x0::x1::x2::x3::r,_=>rfl
end
end Go.Proofs.YtbanopnofpjnbaaGreatDoor
