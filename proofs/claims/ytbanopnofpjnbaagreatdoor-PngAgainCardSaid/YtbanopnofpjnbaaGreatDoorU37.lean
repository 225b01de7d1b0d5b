/- Own texts in one: InfX, InfY, InfZ, InfSt, InfPr, Rep, MkT. -/
import Derived.Test.YtbanopnofpjnbaaGreatDoorU31
set_option maxRecDepth 1000000
set_option linter.unusedVariables false
set_option maxHeartbeats 4000000
namespace Go.Proofs.YtbanopnofpjnbaaGreatDoor
open Go Go.RowKit Tryz
section
def Foot(b rb:Nat)(og:Option Nat):List Nat:=b::rb::og.toList
structure Mv(b rb:Nat)(w w':World)(og og':Option Nat):Prop where
 but:But (Foot b rb og) w w'
 own:∀g,og'=some g→og=some g∨w.heap.size≤g
theorem Mv.foot{b rb:Nat}{w w':World}{og og':Option Nat}(h:Mv b rb w w' og og'):∀i∈Foot b rb og',i∈Foot b rb og∨w.heap.size≤i:=fun i hi=>by
 unfold Foot at hi⊢;rcases List.mem_cons.1 hi with h1|hi
 ·left;simp[h1]
 rcases List.mem_cons.1 hi with h1|hi
 ·left;simp[h1]
 rcases h.own i (by simpa using hi)with h1|h1
 ·left;simp[h1]
 ·right;exact h1
theorem Mv.refl(b rb:Nat)(w:World)(og:Option Nat):Mv b rb w w og og:=⟨But.refl _ _,fun _ h=>.inl h⟩
theorem Mv.trans{b rb:Nat}{w w1 w2:World}{og og1 og2:Option Nat}(h:Mv b rb w w1 og og1)(k:Mv b rb w1 w2 og1 og2):Mv b rb w w2 og og2:=
 ⟨h.but.join k.but h.foot,fun g hg=>by
  rcases k.own g hg with h1|h1
  ·exact h.own g h1
  ·right;have:=h.but.size;omega⟩
theorem Mv.keep{b rb:Nat}{w w1:World}{og og1:Option Nat}{Q:World→Prop}(h:Mv b rb w w1 og og1)(k:Keep (Foot b rb og) w Q):Keep (Foot b rb og1) w1 Q:=k.step h.but h.foot
theorem Mv.keepX{b rb:Nat}{w w1:World}{og og1:Option Nat}{Q:World→Prop}{X:List Nat}(h:Mv b rb w w1 og og1)(k:Keep (X++Foot b rb og) w Q):Keep (X++Foot b rb og1) w1 Q:=
 k.step (h.but.more fun i hi=>List.mem_append_right _ hi) fun i hi=>by
  rcases List.mem_append.1 hi with h1|h1
  ·exact .inl (List.mem_append_left _ h1)
  ·rcases h.foot i h1 with h2|h2
   ·exact .inl (List.mem_append_right _ h2)
   ·exact .inr h2
theorem Mv.of{b rb:Nat}{w w':World}{og:Option Nat}{S:List Nat}(h:But S w w')(hS:∀k∈S,k∈Foot b rb og∨w.heap.size≤k):Mv b rb w w' og og:=
 ⟨⟨h.os,h.tape,h.output,h.size,fun k hk hn=>h.block k hk fun hs=>by
  rcases hS k hs with h1|h1
  ·exact hn h1
  ·omega⟩,fun _ h=>.inl h⟩
theorem Mv.drewN{b rb:Nat}{w:World}{og:Option Nat}(n:Nat):Mv b rb w (w.drewN n) og og:=Mv.of ((But.refl [] w).drewN n) (by simp)
section
variable {w w':World} {b rb db:Nat} {og:Option Nat} {s:ByteArray} {p:Nat} {M:Int} {L:List UInt8} {fs fd:Option Nat}
theorem SS.at(h:SS w b rb db og s p M L fs fd):∃A c,Is w b 169 #[.pointer rb,.slice A L.length c,M,ptr fs,ptr fd]∧w.ownsRow (b+1) 5 1 (.slice A L.length c) L.length (ah L)∧(Value.slice A L.length c).ownBlock=og:=by
 obtain⟨ov,h1,h2,h3⟩:=h.cells;rcases h2.2 with⟨rfl,e⟩|⟨g,cap,cur,rfl,_⟩
 ·have:L=[]:=by cases L with
   |nil=>rfl
   |cons x l=>simp at e
  subst this;exact⟨none,0,h1,h2,h3⟩
 ·exact⟨_,_,h1,h2,h3⟩
theorem SS.out(h:SS w b rb db og s p M L fs fd):∀g,og=some g→b<g∧g<w.heap.size:=fun g hg=>by
 obtain⟨ov,h1,h2,h3⟩:=h.cells;have:=h2.lt g (by rw[h3];exact hg);omega
theorem SS.lt(h:SS w b rb db og s p M L fs fd):b<w.heap.size:=by
 obtain⟨ov,h1,h2,h3⟩:=h.cells;exact h1.lt
theorem SS.read{q:Nat}{S:List Nat}(h:SS w b rb db og s p M L fs fd)(hR:RS w' rb db s q)(hB:But S w w')(hS:∀k∈S,k=rb∨w.heap.size≤k):SS w' b rb db og s q M L fs fd:=by
 have hlt:=h.lt;have hout:=h.out;have hr:=h.hr;have hb:b∉S:=fun hk=>by rcases hS b hk with e|e<;>omega
 obtain⟨ov,h1,h2,h3⟩:=h.cells;refine⟨hR,h.hd,h.hr,h.hs,h.hM,h.hL,ov,h1.but hB hb,aU h2 hB fun g hg hk=>?_,h3⟩;have:=hout g (h3▸hg);rcases hS g hk with e|e<;>omega
theorem SS.but{S:List Nat}(h:SS w b rb db og s p M L fs fd)(hB:But S w w')(hS:∀k∈S,w.heap.size≤k):SS w' b rb db og s p M L fs fd:=by
 have hlt:=h.lt;have h1:=h.hd;have h2:=h.hr;exact h.read (h.rs.but hB (fun hk=>by have:=hS _ hk;omega) (fun hk=>by have:=hS _ hk;omega)) hB fun k hk=>.inr (hS k hk)
theorem SS.away{S:List Nat}(h:SS w b rb db og s p M L fs fd)(hB:But S w w')(hS:∀k∈S,k∉Foot b rb og∧k≠db):SS w' b rb db og s p M L fs fd:=by
 obtain⟨ov,h1,h2,h3⟩:=h.cells;have f1:b∉S:=fun hk=>(hS b hk).1 (by simp[Foot]);have f2:rb∉S:=fun hk=>(hS rb hk).1 (by simp[Foot]);exact⟨h.rs.but hB f2 (fun hk=>(hS db hk).2 rfl),h.hd,h.hr,h.hs,h.hM,h.hL,ov,h1.but hB f1,aU h2 hB fun g hg hk=>(hS g hk).1 (by rw[←h3,hg];simp[Foot]),h3⟩
theorem tJ(h:SS w b rb db og s p M L fs fd):∀k∈Foot b rb og,k<w.heap.size:=fun k hk=>by
 have h1:=h.lt;have h2:=h.hr;unfold Foot at hk;rcases List.mem_cons.1 hk with e|hk
 ·omega
 rcases List.mem_cons.1 hk with e|hk
 ·omega
 exact(h.out k (by simpa using hk)).2
theorem SS.drewN(h:SS w b rb db og s p M L fs fd)(n:Nat):SS (w.drewN n) b rb db og s p M L fs fd:=h.but ((But.refl [] w).drewN n) (by simp)
theorem SS.room(h:SS w b rb db og s p M L fs fd)(n:Nat)(hn:n≤1000000):
 Calls prog 213 #[.pointer b,n] w fun e w'=>e=.returned (.int .i64 (if M<(L.length:Int)+(n:Int)then 5 else 0))∧∃nq,w'=w.drewN nq:=by
 have hL:=h.hL;have hM:=h.hM;obtain⟨A,c,hi,_,_⟩:=h.at;have h1:w.cell? ⟨b,1,none⟩=some (.slice A L.length c):=hi.cell 1;have h2:w.cell? ⟨b,2,none⟩=some (.int .i64 M):=hi.cell 2;have hb:L.length≤1099511627776:=by omega
 generalize L.length=k at*;have e1:IntKind.i64.wrap ((k:Int)+(n:Int))=(k:Int)+(n:Int):=IntWalk.i64_in _ (by omega);clear h hi hL hM
 by_cases hm:M<(k:Int)+(n:Int)
 ·rw[if_pos hm];have d:decide (M<(k:Int)+(n:Int))=true:=by simpa using hm
  clear hm
  go_enter func213,ntmps213
  go_wp2
  go_quiet (fail)
  go_wp2;go_ret;exact⟨rfl,nq,rfl⟩
 ·rw[if_neg hm];have d:decide (M<(k:Int)+(n:Int))=false:=by simpa using hm
  clear hm
  go_enter func213,ntmps213
  go_wp2
  go_quiet (fail)
  go_wp2;go_ret;exact⟨rfl,nq,rfl⟩
def GotN(w:World)(b rb db:Nat)(og:Option Nat)(s:ByteArray)(M:Int)(L:List UInt8)(fs fd:Option Nat)(r:Except Int (Nat×Nat))(e:Ending)(w':World):Prop:=
 ∃(v:Nat) (er:Int) (q:Nat),e=.returned (.tuple #[v,er])∧Mv b rb w w' og og∧(er≠0→r=.error er)∧(er=0→r=.ok (v,q)∧SS w' b rb db og s q M L fs fd)
theorem BJ:∀k∈[rb],k∈Foot b rb og∨w.heap.size≤k:=fun k hk=>.inl (by simp at hk;subst hk;simp[Foot])
theorem SS.bits(h:SS w b rb db og s p M L fs fd)(n:Nat):
 Calls prog 208 #[.pointer rb,n] w (GotN w b rb db og s M L fs fd (aY n s p)):=by
 refine(h.rs.bits_w (by have:=h.hs;omega) (n:Int)).mono ?_;rintro e w' ⟨rfl,hR,hB⟩;refine⟨_,_,aK s p n,rfl,Mv.of hB BJ,fun he=>JR he,fun he=>⟨eI he,h.read hR hB fun k hk=>.inl (by simpa using hk)⟩⟩
theorem SS.next{l:List Int}{bt:Nat}(h:SS w b rb db og s p M L fs fd)(hc:chk l=0)(hT:Keep (Foot b rb og) w fun w'=>TT w' bt l):
 Calls prog 175 #[.pointer bt,.pointer rb] w (GotN w b rb db og s M L fs fd (fm l s p)):=by
 refine(RG (bt:=bt) hc h.rs (by have:=h.hs;omega) (fun w' hw=>hT w' (hw.more (by simp[Foot])))).mono ?_;rintro e w' ⟨⟨q1,q2,q3⟩,hq,rfl,hR,hB⟩;refine⟨_,_,q3,rfl,Mv.of hB BJ,fun he=>JP hq he,fun he=>?_⟩;dsimp only at he;subst he;exact⟨ft hq,h.read hR hB fun k hk=>.inl (by simpa using hk)⟩
theorem gq{n x q:Nat}(h:aY n s p=.ok (x,q)):x<2^n:=by
 unfold aY at h;split at h
 ·cases h
 ·injection h with h;injection h with h _
  subst h;exact Hx s p n
end
end
section
section
variable {w w':World} {b rb db:Nat} {og:Option Nat} {s:ByteArray} {p:Nat} {M:Int} {L:List UInt8} {fs fd:Option Nat}
theorem SS.bitsI(h:SS w b rb db og s p M L fs fd){i:Int}(n:Nat)(hi:i=n):
 Calls prog 208 #[.pointer rb,i] w (GotN w b rb db og s M L fs fd (aY n s p)):=by
 subst hi;exact h.bits n
theorem SS.inCell(h:SS w b rb db og s p M L fs fd):w.cell? ⟨b,0,none⟩=some (.pointer rb):=by
 obtain⟨ov,h1,_⟩:=h.cells;exact h1.cell 0
theorem GotN.of{r:Except Int (Nat×Nat)}{v q:Nat}{er:Int}{e:Ending}(he:e=.returned (.tuple #[v,er]))(hM:Mv b rb w w' og og)(h1:er≠0→r=.error er)
 (h2:er=0→r=.ok (v,q)∧SS w' b rb db og s q M L fs fd):GotN w b rb db og s M L fs fd r e w':=⟨v,er,q,he,hM,h1,h2⟩
theorem wU{a b x:Int}(h:a=b):Ending.returned (.tuple #[a,x])=.returned (.tuple #[b,x]):=by rw[h]
theorem Du{m n v:Nat}(hm:m≤8)(hn:n≤13)(hv:v<2^n):wrap64 (wrap64 ((m:Int)*2^n)+(v:Int))=((m*2^n+v:Nat):Int):=by
 have h1:2^n≤2^13:=Nat.pow_le_pow_right (by decide) hn;have h2:m*2^n≤8*2^13:=Nat.mul_le_mul hm h1;rw[xO];generalize m*2^n=z at*;have e1:wrap64 ((z:Nat):Int)=(z:Int):=IntWalk.wrap64_in _ ⟨by omega,by omega⟩;rw[e1];have e2:wrap64 ((z:Int)+(v:Int))=(z:Int)+(v:Int):=IntWalk.wrap64_in _ ⟨by omega,by omega⟩;rw[e2];omega
theorem ext2(h:SS w b rb db og s p M L fs fd)(k:Nat)(hk:k<30):
 Calls prog 245 #[.pointer b,k,(2:Int)] w (GotN w b rb db og s M L fs fd (rExt k 2 s p)):=by
 have h0:=h.inCell
 by_cases hlo:k<4
 ·have d:decide ((k:Int)<4)=true:=by simp;omega
  have hr:rExt k 2 s p=.ok (k,p):=by
   unfold rExt dV jC;rw[if_pos (by omega),ae iA,if_pos (by omega)];rfl
  have H:=qhz h;have HR:=qhz hr;clear h hr
  go_enter func245,ntmps245
  go_wp2
  go_ret2
  exact GotN.of rfl (Mv.refl _ _ _ _) (fun e=>absurd rfl e) (fun _=>⟨HR.out,H.out⟩)
 ·have d:decide ((k:Int)<4)=false:=by simp;omega
  obtain⟨n,hn⟩:=E1 (k/2-1);obtain⟨m,hm⟩:∃m,m=2+k%2:=⟨_,rfl⟩
  have hn14:n≤13:=by omega
  have hr:rExt k 2 s p=am (aY n) (fun x=>aR (m*2^n+x)) s p:=by
   unfold rExt dV jC;rw[if_neg (by omega),←hn,←hm];simp only[if_neg (show ¬k<2*2 by omega)]
  have hb:=h.bitsI (i:=(k:Int)/2-1) n (by omega);have H:=qhz h;have HR:=qhz hr;have HB:=qhz hb;clear h hr hb
  go_enter func245,ntmps245
  go_wp2_with fail
  refine HB.out.mono ?_;rintro e w1 ⟨v,er,q,rfl,hMv,he1,he2⟩;have HM:=qhz hMv;have HE1:=qhz he1;have HE2:=qhz he2;clear hMv he1 he2
  by_cases her:er=0
  ·obtain⟨hr,hS⟩:=HE2.out her;have hv:=gq hr;have HRR:=qhz hr;have HS:=qhz hS;have HV:=qhz hv;clear hr hS hv HE1 HE2;subst her;go_wp2
   go_ret2
   exact GotN.of (v:=m*2^n+v) (wU (by rw[←Du (by omega) hn14 HV.out,hm,hn];rfl)) HM.out (fun e=>absurd rfl e) (fun _=>⟨by rw[HR.out,ae HRR.out];rfl,HS.out⟩)
  ·have d2:(er !=0)=true:=by simpa using her
   have HER:=qhz her;clear her;go_wp2
   go_ret2
   exact GotN.of (q:=0) rfl HM.out (fun _=>by rw[HR.out,aB (HE1.out HER.out)]) (fun e=>absurd e HER.out)
theorem ext4(h:SS w b rb db og s p M L fs fd)(k:Nat)(hk:k<30):
 Calls prog 245 #[.pointer b,k,(4:Int)] w (GotN w b rb db og s M L fs fd (rExt k 4 s p)):=by
 have h0:=h.inCell
 by_cases hlo:k<8
 ·have d:decide ((k:Int)<8)=true:=by simp;omega
  have hr:rExt k 4 s p=.ok (k,p):=by
   unfold rExt dV jC;rw[if_pos (by omega),ae iA,if_pos (by omega)];rfl
  have H:=qhz h;have HR:=qhz hr;clear h hr
  go_enter func245,ntmps245
  go_wp2
  go_ret2
  exact GotN.of rfl (Mv.refl _ _ _ _) (fun e=>absurd rfl e) (fun _=>⟨HR.out,H.out⟩)
 ·have d:decide ((k:Int)<8)=false:=by simp;omega
  obtain⟨n,hn⟩:=E1 (k/4-1);obtain⟨m,hm⟩:∃m,m=4+k%4:=⟨_,rfl⟩
  have hn14:n≤13:=by omega
  have hr:rExt k 4 s p=am (aY n) (fun x=>aR (m*2^n+x)) s p:=by
   unfold rExt dV jC;rw[if_neg (by omega),←hn,←hm];simp only[if_neg (show ¬k<2*4 by omega)]
  have hb:=h.bitsI (i:=(k:Int)/4-1) n (by omega);have H:=qhz h;have HR:=qhz hr;have HB:=qhz hb;clear h hr hb
  go_enter func245,ntmps245
  go_wp2_with fail
  refine HB.out.mono ?_;rintro e w1 ⟨v,er,q,rfl,hMv,he1,he2⟩;have HM:=qhz hMv;have HE1:=qhz he1;have HE2:=qhz he2;clear hMv he1 he2
  by_cases her:er=0
  ·obtain⟨hr,hS⟩:=HE2.out her;have hv:=gq hr;have HRR:=qhz hr;have HS:=qhz hS;have HV:=qhz hv;clear hr hS hv HE1 HE2;subst her;go_wp2
   go_ret2
   exact GotN.of (v:=m*2^n+v) (wU (by rw[←Du (by omega) hn14 HV.out,hm,hn];rfl)) HM.out (fun e=>absurd rfl e) (fun _=>⟨by rw[HR.out,ae HRR.out];rfl,HS.out⟩)
  ·have d2:(er !=0)=true:=by simpa using her
   have HER:=qhz her;clear her;go_wp2
   go_ret2
   exact GotN.of (q:=0) rfl HM.out (fun _=>by rw[HR.out,aB (HE1.out HER.out)]) (fun e=>absurd e HER.out)
end
end
section
section
variable {w w':World} {b rb db:Nat} {og:Option Nat} {s:ByteArray} {p:Nat} {M:Int} {L:List UInt8} {fs fd:Option Nat}
theorem Si(h:SS w b rb db og s p M L fs fd){i:Int}(k:Nat)(hi:i=k)(hk:k<30):
 Calls prog 245 #[.pointer b,i,(4:Int)] w (GotN w b rb db og s M L fs fd (rExt k 4 s p)):=by
 subst hi;exact ext4 h k hk
theorem JQ{k g v q:Nat}(h:rExt k g s p=.ok (v,q))(hk:k<30)(hg:g=2∨g=4):v<65536:=by
 unfold rExt at h;obtain⟨⟨x,q1⟩,h1,h2⟩:=fY h;have hb:dV k g≤13:=by unfold dV;split<;>rcases hg with rfl|rfl<;>omega
 have hx:=gq h1;have hx2:x<2^13:=Nat.lt_of_lt_of_le hx (Nat.pow_le_pow_right (by decide) hb);unfold aR at h2;injection h2 with h2;injection h2 with h2 _;subst h2;unfold jC;unfold dV at hb;split
 ·rcases hg with rfl|rfl<;>omega
 ·rename_i hn;rw[if_neg hn]at hb;have h3:2^(k/g-1)≤2^13:=Nat.pow_le_pow_right (by decide) hb;have h4:g+k%g≤7:=by rcases hg with rfl|rfl<;>omega
  have h5:=Nat.mul_le_mul h4 h3;show(g+k%g)*2^(k/g-1)+x<65536;omega
theorem zN(h:SS w b rb db og s p M L fs fd)(t:Nat)(h1:256<t):
 Calls prog 233 #[.pointer b,t] w (GotN w b rb db og s M L fs fd (rLen t s p)):=by
 by_cases h2:285<t
 ·have d:decide ((285:Int)<(t:Int))=true:=by simp;omega
  have hr:rLen t s p=.error 12:=by rw[NC h2];rfl
  have HR:=qhz hr;clear hr h h1 h2
  go_enter func233,ntmps233
  go_wp2
  go_ret2
  exact GotN.of (v:=0) (q:=0) rfl (Mv.refl _ _ _ _) (fun _=>HR.out) (fun e=>absurd e (by decide))
 ·have d:decide ((285:Int)<(t:Int))=false:=by simp;omega
  by_cases h3:t=285
  ·subst h3;have hr:rLen 285 s p=.ok (258,p):=by rw[NB];rfl
   have HR:=qhz hr;have H:=qhz h;clear hr h h1 h2
   go_enter func233,ntmps233
   go_wp2
   go_ret2
   exact GotN.of (v:=258) (q:=p) rfl (Mv.refl _ _ _ _) (fun e=>absurd rfl e) (fun _=>⟨HR.out,H.out⟩)
  ·have d2:((t:Int)==285)=false:=by simp;omega
   have hr:rLen t s p=am (rExt (t-257) 4) (fun n=>aR (3+n)) s p:=by rw[QV h1 (by omega)]
   have hx:=Si h (i:=(t:Int)-256-1) (t-257) (by omega) (by omega);have HR:=qhz hr;have HX:=qhz hx;have HT:=qhz h2;clear hr hx h h2 h3;have ht2:t≤285:=by have:=HT.out;omega
   go_enter func233,ntmps233
   go_wp2_with fail
   refine HX.out.mono ?_;rintro e w1 ⟨v,er,q,rfl,hMv,he1,he2⟩;have HM:=qhz hMv;have HE1:=qhz he1;have HE2:=qhz he2;clear hMv he1 he2
   by_cases her:er=0
   ·obtain⟨hr,hS⟩:=HE2.out her;have hv:=JQ hr (by omega) (.inr rfl);have HRR:=qhz hr;have HS:=qhz hS;clear hr hS HE1 HE2;subst her;go_wp2
    go_ret2
    exact GotN.of (v:=3+v) (wU (by omega)) HM.out (fun e=>absurd rfl e) (fun _=>⟨by rw[HR.out,ae HRR.out];rfl,HS.out⟩)
   ·have d2:(er !=0)=true:=by simpa using her
    have HER:=qhz her;clear her;go_wp2
    go_ret2
    exact GotN.of (v:=0) (q:=0) rfl HM.out (fun _=>by rw[HR.out,aB (HE1.out HER.out)]) (fun e=>absurd e HER.out)
theorem SS.alloc(h:SS w b rb db og s p M L fs fd)(o:Obj):SS (w.alloc o) b rb db og s p M L fs fd:=h.but ((But.refl [] w).alloc o) (by simp)
theorem SS.drew(h:SS w b rb db og s p M L fs fd):SS w.drew b rb db og s p M L fs fd:=h.but ((But.refl [] w).drew) (by simp)
theorem Mv.alloc{og:Option Nat}(o:Obj):Mv b rb w (w.alloc o) og og:=Mv.of ((But.refl [] w).alloc o) (by simp)
theorem Mv.drew{og:Option Nat}:Mv b rb w w.drew og og:=Mv.of ((But.refl [] w).drew) (by simp)
theorem Pc(w:World)(cs:Array Value)(t:TypeId)(i:Nat):(w.alloc (.cells cs t)).cell? ⟨w.heap.size,i,none⟩=cs[i]?:=(Is.fresh w t cs).cell i
theorem xC{d:List Int}{bd:Nat}{x:Option Addr}(h:SS w b rb db og s p M L fs fd)(hc:chk d=0)(hT:Keep (Foot b rb og) w fun w'=>TT w' bd d):
 Calls prog 234 #[.pointer b,.agg #[.pointer x,.pointer bd]] w (GotN w b rb db og s M L fs fd (rDst d s p)):=by
 have hr:rDst d s p=am (fm d) (fun u=>bq (29<u) 12 (am (rExt u 2) fun n=>aR (1+n))) s p:=by rw[QW]
 have h1:=(h.alloc (.cells #[.pointer x,.pointer bd] 167)).drew;have m1:=(Mv.alloc (b:=b) (rb:=rb) (w:=w) (og:=og) (.cells #[.pointer x,.pointer bd] 167)).trans Mv.drew;have hn:=h1.next hc (m1.keep hT);have hin:=h1.inCell;have hbx:(w.alloc (.cells #[.pointer x,.pointer bd] 167)).drew.cell? ⟨w.heap.size,1,none⟩=some (.pointer bd):=Pc w _ _ 1;have HR:=qhz hr;have HN:=qhz hn;have HM1:=qhz m1;have HIN:=qhz hin;have HBX:=qhz hbx;clear hr hn m1 h1 hT hc h hin hbx
 go_enter func234,ntmps234
 go_upto_region 1 with(fail)
 go_cut [6,7] (fun v6 v7 wc=>∃(u:Nat) (er:Int) (q:Nat),v6=.int .i64 u∧v7=.int .i64 er∧Hid (Mv b rb w wc og og)∧Hid (er≠0→fm d s p=.error er)∧Hid (er=0→fm d s p=.ok (u,q)∧SS wc b rb db og s q M L fs fd))
 case first=>
  have hin:=HIN.out;have hbx:=HBX.out
  go_region_with (go_at_call 175;refine HN.out.mono ?_;rintro e w1 ⟨v,er,q,rfl,hMv,he1,he2⟩;have HMV:=qhz hMv;have HE1:=qhz he1;have HE2:=qhz he2;clear hMv he1 he2)
  all_goals
   (try go_wp2)
   go_meet
   exact⟨_,_,_,rfl,rfl,HM1.out.trans HMV.out,HE1.out,HE2.out⟩
 case rest=>
  obtain⟨u,er,q,rfl,rfl,HMV,HE1,HE2⟩:=hcut;obtain⟨w1,rfl⟩:=E1 (wc:World);clear HN HIN HBX HM1
  by_cases her:er=0
  ·obtain⟨hr,hS⟩:=HE2.out her;have HRR:=qhz hr;clear hr HE1 HE2;subst her
   by_cases hu:29<u
   ·have d:decide ((29:Int)<(u:Int))=true:=by simp;omega
    have HU:=qhz hu;clear hS hu;go_wp2
    go_ret2
    exact GotN.of (v:=0) (q:=0) rfl HMV.out (fun _=>by rw[HR.out,ae HRR.out,cU HU.out]) (fun e=>absurd e (by decide))
   ·have d:decide ((29:Int)<(u:Int))=false:=by simp;omega
    have hx:=ext2 hS u (by omega);have HX:=qhz hx;have HU:=qhz hu;clear hS hu hx
    go_wp2_with fail
    refine HX.out.mono ?_;rintro e w2 ⟨v,er,q2,rfl,hMv,he1,he2⟩;have HM2:=qhz hMv;have HE1:=qhz he1;have HE2:=qhz he2;clear hMv he1 he2
    by_cases her:er=0
    ·obtain⟨hr,hS⟩:=HE2.out her;have hv:=JQ hr (by have:=HU.out;omega) (.inl rfl);have HR2:=qhz hr;have HS:=qhz hS;clear hr hS HE1 HE2;subst her;go_wp2
     go_ret2
     exact GotN.of (v:=1+v) (wU (by omega)) (HMV.out.trans HM2.out) (fun e=>absurd rfl e) (fun _=>⟨by rw[HR.out,ae HRR.out,aD HU.out,ae HR2.out];rfl,HS.out⟩)
    ·have d2:(er !=0)=true:=by simpa using her
     have HER:=qhz her;clear her;go_wp2
     go_ret2
     exact GotN.of (v:=0) (q:=0) rfl (HMV.out.trans HM2.out) (fun _=>by rw[HR.out,ae HRR.out,aD HU.out,aB (HE1.out HER.out)]) (fun e=>absurd e HER.out)
  ·have d2:(er !=0)=true:=by simpa using her
   have HER:=qhz her;clear her;go_wp2
   go_ret2
   exact GotN.of (v:=0) (q:=0) rfl HMV.out (fun _=>by rw[HR.out,aB (HE1.out HER.out)]) (fun e=>absurd e HER.out)
end
end
section
section
variable {w w':World} {b rb db:Nat} {og:Option Nat} {s:ByteArray} {p:Nat} {M:Int} {L:List UInt8} {fs fd:Option Nat}
def GotB(w:World)(b rb db:Nat)(og:Option Nat)(s:ByteArray)(M:Int)(L:List UInt8)(fs fd:Option Nat)(r:Except Int (ByteArray×Nat))(e:Ending)(w':World):Prop:=
 ∃(v:ByteArray) (er:Int) (q:Nat),e=.returned (.tuple #[v,er])∧Mv b rb w w' og og∧(er≠0→r=.error er)∧(er=0→r=.ok (v,q)∧SS w' b rb db og s q M L fs fd)
theorem SS.bytes(h:SS w b rb db og s p M L fs fd)(n:Nat):
 Calls prog 228 #[.pointer rb,n] w (GotB w b rb db og s M L fs fd (cQ n s p)):=by
 refine(h.rs.bytes_w (by have:=h.hs;omega) (n:Int)).mono ?_;rintro e w' ⟨rfl,hR,hB⟩;refine⟨_,_,bT s p n,rfl,Mv.of hB BJ,fun he=>FH he,fun he=>⟨lQ he,h.read hR hB fun k hk=>.inl (by simpa using hk)⟩⟩
def GotE(w:World)(b rb db:Nat)(og:Option Nat)(s:ByteArray)(M:Int)(fs fd:Option Nat)(r:Except Int (List UInt8×Nat))(e:Ending)(w':World):Prop:=
 ∃(er:Int) (L':List UInt8) (q:Nat) (og':Option Nat),e=.returned (.int .i64 er)∧Mv b rb w w' og og'∧(er≠0→r=.error er)∧(er=0→r=.ok (L',q)∧SS w' b rb db og' s q M L' fs fd)
theorem GotE.of{r:Except Int (List UInt8×Nat)}{er:Int}{L':List UInt8}{q:Nat}{og':Option Nat}{e:Ending}(he:e=.returned (.int .i64 er))(hM:Mv b rb w w' og og')(h1:er≠0→r=.error er)
 (h2:er=0→r=.ok (L',q)∧SS w' b rb db og' s q M L' fs fd):GotE w b rb db og s M fs fd r e w':=⟨er,L',q,og',he,hM,h1,h2⟩
theorem Il(v:ByteArray)(i:Nat)(h:i+1<v.size):Go.bits .or .i64 (wrap64 ((v[i]'(by omega)).toNat:Int)) (wrap64 (wrap64 ((v[i+1]'h).toNat:Int)*256))=(i6 v i:Int):=by
 have e1:i6 v i=(v[i]'(by omega)).toNat+(v[i+1]'h).toNat*2^8:=by
  unfold i6;have hz:v.data.toList.length=v.size:=Array.length_toList;rw[List.getD_eq_getElem?_getD,List.getD_eq_getElem?_getD,List.getElem?_eq_getElem (show i<v.data.toList.length by omega),List.getElem?_eq_getElem (show i+1<v.data.toList.length by omega),Mm v i (by omega),Mm v (i+1) h];show _+256*_=_+_*2^8;rw[Nat.mul_comm];rfl
 rw[e1];have h1:=(v[i]'(by omega)).toNat_lt;have h2:=(v[i+1]'h).toNat_lt;generalize(v[i]'(by omega)).toNat=x at*;generalize(v[i+1]'h).toNat=y at*;have ex:wrap64 (x:Int)=(x:Int):=IntWalk.wrap64_in _ ⟨by omega,by omega⟩;have ey:wrap64 (y:Int)=(y:Int):=IntWalk.wrap64_in _ ⟨by omega,by omega⟩;have e3:(y:Int)*256=((y*2^8:Nat):Int):=by simp
 have ez:wrap64 ((y*2^8:Nat):Int)=((y*2^8:Nat):Int):=IntWalk.wrap64_in _ ⟨by omega,by omega⟩;rw[ex,ey,e3,ez];exact xT _ _ 8 (by omega) (by omega) (Nat.mul_mod_left y (2^8)) (by omega)
theorem yA(v:ByteArray)(i:Nat):i6 v i<65536:=by
 unfold i6;have h1:=(v.data.toList.getD i 0).toNat_lt;have h2:=(v.data.toList.getD (i+1) 0).toNat_lt;omega
theorem Eb{A:Option Addr}{k c:Nat}{cs:Array Value}{t:TypeId}{xs:List Value}(h:w.ownsRow (b+1) 5 1 (.slice A k c) k xs)(_hi:Is w b t cs):(Value.slice A k c).ownBlock≠some b:=fun e=>by
 have:=(h.lt b e).1;omega
theorem SS.put(h:SS w b rb db og s p M L fs fd){A A2:Option Addr}{c k c2:Nat}{w1 w2:World}{L2:List UInt8}(hB1:But [] w w1)
 (hi:Is w b 169 #[.pointer rb,.slice A L.length c,M,ptr fs,ptr fd]) (hog:(Value.slice A L.length c).ownBlock=og)
 (hg:w1.grownBy w2 (Value.slice A L.length c).ownBlock) (ho:w2.ownsRow (b+1) 5 1 (.slice A2 k c2) k (ah L2)) (hk:L2.length=k)
 (hat:∀g,(Value.slice A2 k c2).ownBlock=some g→(Value.slice A L.length c).ownBlock=some g∨w.heap.size≤g) (hL2:(L2.length:Int)≤max M 0):
 SS (w2.setCell ⟨b,1,none⟩ (.slice A2 k c2)) b rb db (Value.slice A2 k c2).ownBlock s p M L2 fs fd∧Mv b rb w (w2.setCell ⟨b,1,none⟩ (.slice A2 k c2)) og (Value.slice A2 k c2).ownBlock:=by
 have hout:=h.out;have hlt:=h.lt;have hd:=h.hd;have hr:=h.hr;subst hk;have hB2:But (b::rb::og.toList) w w2:=(hB1.more (by simp)).grown hg (fun g e=>.inl (by rw[hog]at e;simp[e]));have hB3:But og.toList w w2:=(hB1.more (by simp)).grown hg (fun g e=>.inl (by rw[hog]at e;simp[e]));have hfar:∀x,x≤b→x∉og.toList:=fun x hx hm=>by
  have:=(hout x (by simpa using hm)).1;omega
 have hne2:=Eb ho (hi.but hB3 (hfar b (Nat.le_refl _)));have hB4:But (b::rb::og.toList) w (w2.setCell ⟨b,1,none⟩ (.slice A2 L2.length c2)):=hB2.setCell (.inl (by simp)) _;have hB5:But (b::og.toList) w (w2.setCell ⟨b,1,none⟩ (.slice A2 L2.length c2)):=(hB3.more (fun k hk=>List.mem_cons_of_mem _ hk)).setCell (.inl (by simp)) _;have hnb:∀x,x<b→x∉b::og.toList:=fun x hx hm=>by
  rcases List.mem_cons.1 hm with e|e
  ·omega
  ·exact hfar x (by omega) e
 refine⟨⟨h.rs.but hB5 (hnb rb hr) (hnb db hd),hd,hr,h.hs,h.hM,hL2,_,?_,?_,rfl⟩,⟨hB4,fun g e=>?_⟩⟩
 ·simpa using(hi.but hB3 (hfar b (Nat.le_refl _))).put 1 (.slice A2 L2.length c2)
 ·exact ownsRow_setCell_other ho (a:=⟨b,1,none⟩) hne2 _
 ·rcases hat g e with h1|h1
  ·exact .inl (hog▸h1)
  ·exact .inr h1
theorem Ff(h:SS w b rb db og s p M L fs fd):
 Calls prog 209 #[.pointer b] w (GotE w b rb db og s M fs fd (fq M L s p)):=by
 have hr:fq M L s p=am (cQ 4) (fun h=>bq (i6 h 2≠65535-i6 h 0) 14 (po M L (i6 h 0))) s p:=by rw[Bu]
 have hin:=h.inCell;have hb:=h.bytes 4;have HR:=qhz hr;have HB:=qhz hb;have H:=qhz h;clear hr hb h
 go_enter func209,ntmps209
 go_wp2_with fail
 refine HB.out.mono ?_;rintro e w1 ⟨v,er,q,rfl,hMv,he1,he2⟩;have HM:=qhz hMv;have HE1:=qhz he1;have HE2:=qhz he2;clear hMv he1 he2
 by_cases her:er=0
 ·obtain⟨hr,hS⟩:=HE2.out her;have hlen:=ud hr;have hin2:=hS.inCell;have HRR:=qhz hr;have HS:=qhz hS;clear hr hS HE1 HE2 hin;subst her;have hz:v.size=4:=by rw[←hlen];exact Array.length_toList.symm
  have hw0:=Il v 0 (by omega);have hw2:=Il v 2 (by omega);have hn:=yA v 0;have hm:=yA v 2;clear hlen;obtain⟨n,hn0⟩:=E1 (i6 v 0);obtain⟨m,hm0⟩:=E1 (i6 v 2);rw[←hn0]at hw0 hn;rw[←hm0]at hw2 hm;have HN:=qhz hn0.symm;have HM0:=qhz hm0.symm;have e1:wrap64 (65535-(n:Int))=65535-(n:Int):=IntWalk.wrap64_in _ ⟨by omega,by omega⟩;clear hn0 hm0
  by_cases hne:m≠65535-n
  ·have d:((m:Int) !=65535-(n:Int))=true:=by simp;omega
   have HNE:=qhz hne;clear hne;go_wp2
   go_quiet (fail)
   go_wp2
   go_quiet (fail)
   go_wp2;go_ret;exact GotE.of (L':=[]) (q:=0) rfl ((HM.out.trans (Mv.drewN _)).trans (Mv.drewN _)) (fun _=>by rw[HR.out,ae HRR.out,HN.out,HM0.out,cU HNE.out]) (fun e=>absurd e (by decide))
  ·have d:((m:Int) !=65535-(n:Int))=false:=by simp;omega
   have HNE:=qhz hne;clear hne;go_wp2
   go_quiet (fail)
   go_wp2
   go_quiet (fail)
   go_wp2_with fail
   refine((HS.out.drewN _).bytes n).mono ?_;rintro e w2 ⟨x,er,q2,rfl,hMv,he1,he2⟩;have hM2:=(HM.out.trans (Mv.drewN _)).trans hMv;have HM2:=qhz hM2;have HE1:=qhz he1;have HE2:=qhz he2;have hr2:fq M L s p=po M L n s q:=by rw[HR.out,ae HRR.out,HN.out,HM0.out,aD HNE.out]
   have HR2:=qhz hr2;clear hMv he1 he2 hM2 hr2 HR hw0 hw2 e1 d hin2
   by_cases her:er=0
   ·obtain⟨hrx,hS2⟩:=HE2.out her;have hxl:=ud hrx;have hzx:x.size=n:=by rw[←hxl];exact Array.length_toList.symm
    have hr3:po M L n s q=bq (M<(L.length:Int)+(n:Int)) 5 (aR (L++x.data.toList)) s q2:=ae hrx;have hrm:=hS2.room n (by omega);have HS2:=qhz hS2;have HR3:=qhz hr3;have HXL:=qhz hxl;have HZX:=qhz hzx;have hzb:x.size≤65535:=by omega
    clear hrx hS2 hxl hr3 HE1 HE2 hzx;subst her
    by_cases hbig:M<(L.length:Int)+(n:Int)
    ·rw[if_pos hbig]at hrm;have HRM:=qhz hrm;have HBIG:=qhz hbig;clear hrm hbig
     go_wp2_with fail
     refine HRM.out.mono ?_;rintro e w3 ⟨rfl,nq3,rfl⟩;go_wp2;go_ret;exact GotE.of (L':=[]) (q:=0) rfl (HM2.out.trans (Mv.drewN _)) (fun _=>by rw[HR2.out,HR3.out,cU HBIG.out]) (fun e=>absurd e (by decide))
    ·rw[if_neg hbig]at hrm;have HRM:=qhz hrm;have HBIG:=qhz hbig;clear hrm;have hLM:=HS2.out.hM;have hLb:L.length≤1099511627776:=by omega
     clear hbig hLM
     go_wp2_with fail
     refine HRM.out.mono ?_;rintro e w3 ⟨rfl,nq3,rfl⟩;have hS3:=HS2.out.drewN nq3;obtain⟨A,c,hi,hown,hog⟩:=hS3.at;have h1:(w2.drewN nq3).cell? ⟨b,1,none⟩=some (.slice A L.length c):=hi.cell 1;have hne:=Eb hown hi;have hlt:=hS3.lt;have HS3:=qhz hS3;have HI:=qhz hi;have HOG:=qhz hog;have HNE:=qhz hne;clear hS3 hi hog hne;obtain⟨i0,hi0,hz0,hz1,hz2⟩:=info_parts lw
     go_wp2_with (at_builtin;go_loud (refine fN _ rfl _ _ 47 9 rfl (b+1) 5 i0 underlying47 underlying9 hi0 hz0 hz1 hz2 (.slice A L.length c) L.length (ah L) rfl hown x rfl (by omega) hlt ?_;intro A2 c2 w4 hown2 hgrow hat;have hi2:=HI.out.grown hgrow (Ne.symm HNE.out);have g0:w4.cell? ⟨b,1,none⟩=some (.slice A L.length c):=hi2.cell 1;have g1:w4.frozen? ⟨b,1,none⟩=false:=hi2.free 1;have HOWN:=qhz hown2;have HGROW:=qhz hgrow;have HAT:=qhz hat;clear hi2 hown2 hgrow hat))
     go_ret;have hl2:(L++x.data.toList).length=L.length+x.size:=by rw[List.length_append,HXL.out,HZX.out]
     have hp:=HS3.out.put (L2:=L++x.data.toList) (But.refl [] _) HI.out HOG.out HGROW.out (by rw[dB];exact HOWN.out) hl2 HAT.out (by have:=HBIG.out;rw[hl2,HZX.out];omega);exact GotE.of rfl ((HM2.out.trans (Mv.drewN _)).trans hp.2) (fun e=>absurd rfl e) (fun _=>⟨by rw[HR2.out,HR3.out,aD (by have:=HBIG.out;omega)];rfl,hp.1⟩)
   ·have d2:(er !=0)=true:=by simpa using her
    have HER:=qhz her;clear her;go_wp2;go_ret;exact GotE.of (L':=[]) (q:=0) rfl HM2.out (fun _=>by rw[HR2.out];exact aB (HE1.out HER.out)) (fun e=>absurd e HER.out)
 ·have d2:(er !=0)=true:=by simpa using her
  have HER:=qhz her;clear her;go_wp2;go_ret;exact GotE.of (L':=[]) (q:=0) rfl HM.out (fun _=>by rw[HR.out,aB (HE1.out HER.out)]) (fun e=>absurd e HER.out)
end
end
section
theorem oD(far:Nat):∀n L,bI far (n+1) L=bI far n L++[(bI far n L).getD ((bI far n L).length-far) 0]
 |0,_=>rfl
 |n+1,L=>by
  rw[bI,oD far n,bI]
section
variable {w w':World} {b rb db:Nat} {og:Option Nat} {s:ByteArray} {p:Nat} {M:Int} {L:List UInt8} {fs fd:Option Nat}
theorem NY{A:Option Addr}{c:Nat}(h:w.ownsRow (b+1) 5 1 (.slice A L.length c) L.length (ah L)){i:Nat}(hi:i<L.length):
 ∃g,A=some ⟨g,0,none⟩∧b<g∧g<w.heap.size∧w.cell? ⟨g,i,none⟩=some (.int .u8 ((L.getD i 0).toNat:Int)):=by
 obtain⟨g,cap,e,h1,h2⟩:=h.form (by omega);injection e with e1 e2 e3;subst e1 e3;refine⟨g,rfl,by omega,h2,?_⟩;have hc:=World.ownsRow.cells h (g:=g) rfl i (.int .u8 (L[i].toNat:Int)) (by simp[ah,hi]);have e2:(⟨g,0,none⟩:Addr).add i=⟨g,i,none⟩:=by unfold Addr.add;split<;>simp_all
 rw[e2]at hc;rw[hc,List.getD_eq_getElem?_getD,List.getElem?_eq_getElem hi];rfl
theorem SS.room1(h:SS w b rb db og s p M L fs fd):
 Calls prog 213 #[.pointer b,(1:Int)] w fun e w'=>e=.returned (.int .i64 (if M<(L.length:Int)+1 then 5 else 0))∧∃nq,w'=w.drewN nq:=h.room 1 (by omega)
theorem BQ{tv:Value}{x y:Option Addr}(h:SS w b rb db og s p M L fs fd){d:List Int}(t:Nat)(ht:t<256)(htv:tv=.agg #[.pointer x,.pointer y]):
 Calls prog 176 #[.pointer b,t,tv] w (GotE w b rb db og s M fs fd (qR d M t L s p)):=by
 subst htv;have hr:qR d M t L s p=bq (M<(L.length:Int)+1) 5 (aR (L++[UInt8.ofNat t])) s p:=by unfold qR;rw[if_neg (by omega)]
 have h1:=h.alloc (.cells #[.pointer x,.pointer y] 167);have m1:=Mv.alloc (b:=b) (rb:=rb) (w:=w) (og:=og) (.cells #[.pointer x,.pointer y] 167);have hrm:=h1.room1;have d1:decide ((256:Int)<(t:Int))=false:=by simp;omega
 have HS:=qhz h1;have HM:=qhz m1;have HR:=qhz hr;clear h hr m1 h1
 by_cases hbig:M<(L.length:Int)+1
 ·rw[if_pos hbig]at hrm;have HRM:=qhz hrm;have HBIG:=qhz hbig;clear hrm hbig
  go_enter func176,ntmps176
  go_wp2_with fail
  refine HRM.out.mono ?_;rintro e w3 ⟨rfl,nq3,rfl⟩;go_wp2;go_ret;exact GotE.of (L':=[]) (q:=0) rfl (HM.out.trans (Mv.drewN _)) (fun _=>by rw[HR.out,cU (by have:=HBIG.out;omega)]) (fun e=>absurd e (by decide))
 ·rw[if_neg hbig]at hrm;have HRM:=qhz hrm;have HBIG:=qhz hbig;have hLb:L.length≤1099511627776:=by have:=HS.out.hM;omega
  clear hrm hbig;have hS3:=fun n=>HS.out.drewN n
  go_enter func176,ntmps176
  go_wp2_with fail
  refine HRM.out.mono ?_;rintro e w3 ⟨rfl,nq3,rfl⟩;have hS:=hS3 nq3;clear hS3;have HM3:=qhz (HM.out.trans (Mv.drewN nq3));generalize((w.alloc (.cells #[.pointer x,.pointer y] 167)).drewN nq3)=W at*;obtain⟨A,c,hi,hown,hog⟩:=hS.at;have k1:W.cell? ⟨b,1,none⟩=some (.slice A L.length c):=hi.cell 1;have hne:=Eb hown hi;have hlt:=hS.lt;have HS3:=qhz hS;have HI:=qhz hi;have HOG:=qhz hog;have HNE:=qhz hne;have HOWN0:=qhz hown;clear hS hi hog hne hown HS HM;obtain⟨i0,hi0,hz0,hz1,hz2⟩:=info_parts lw
  go_wp2_with (at_builtin;go_loud (refine wpList_append_lies _ rfl _ _ 47 rfl (b+1) 5 i0 _ 1 1 underlying47 hi0 hz0 hz1 hz2 rfl (by omega) (.slice A L.length c) L.length (ah L) rfl (HOWN0.out.alloc _) ⟨W.heap.size,0,none⟩ 1 1 [.int .u8 (t:Int)] rfl rfl (World.news_of_block (cs:=#[.int .u8 (t:Int)]) (t:=5) (fr:=(0,0)) (heap_alloc_new W _)) (by simp[Value.oneCell']) (by omega) (by unfold maxLen;omega) (by omega) (by simp;omega) (W.heap.size+1) (by simp) ?_;intro gg cap w4 hown2 hgrow hat _;have hi2:=((HI.out.alloc (.cells #[.int .u8 (t:Int)] 5)).grown hgrow (Ne.symm HNE.out));have g0:w4.cell? ⟨b,1,none⟩=some (.slice A L.length c):=hi2.cell 1;have g1:w4.frozen? ⟨b,1,none⟩=false:=hi2.free 1;have HOWN:=qhz hown2;have HGROW:=qhz hgrow;have HAT:=qhz hat;clear hi2 hown2 hgrow hat))
  go_ret;have hl2:(L++[UInt8.ofNat t]).length=L.length+1:=by simp
  have hc2:ah L++[Value.int .u8 (t:Int)]=ah (L++[UInt8.ofNat t]):=by
   have h8:(UInt8.ofNat t).toNat=t:=by
    have h:=UInt8.toNat_ofNat' (n:=t);omega
   rw[iU,h8]
  have hp:=HS3.out.put (L2:=L++[UInt8.ofNat t]) ((But.refl [] W).alloc _) HI.out HOG.out HGROW.out (by rw[←hc2];exact HOWN.out) hl2 (fun g e=>by
   rcases HAT.out with h|h
   ·left;rw[h];exact e
   ·right;have:gg=g:=by simpa[Value.ownBlock]using e
    omega) (by have:=HBIG.out;rw[hl2];omega)
  exact GotE.of rfl (HM3.out.trans hp.2) (fun e=>absurd rfl e) (fun _=>⟨by rw[HR.out,aD (by have:=HBIG.out;omega)];rfl,hp.1⟩)
theorem Qn{t n q:Nat}(h:rLen t s p=.ok (n,q))(ht:256<t):3≤n∧n≤258:=by
 unfold rLen at h;obtain⟨h1,h2⟩:=lj h;obtain⟨⟨x,q1⟩,h3,h4⟩:=fY h2;have hx:=gq h3;have hl:=Gp ht (by omega);unfold aR at h4;injection h4 with h4;injection h4 with h4 _;subst h4;dsimp only;omega
theorem Qo{d:List Int}{n q:Nat}(h:rDst d s p=.ok (n,q)):1≤n∧n≤32768:=by
 unfold rDst at h;obtain⟨⟨u,q1⟩,h1,h2⟩:=fY h;obtain⟨hu,h3⟩:=lj h2;obtain⟨⟨x,q2⟩,h4,h5⟩:=fY h3;have hx:=gq h4;have hl:=GX (u:=u) (by dsimp only at hu;omega);unfold aR at h5;injection h5 with h5;injection h5 with h5 _;subst h5;dsimp only at hx⊢;omega
theorem My(x:UInt8):IntKind.u8.wrap (x.toNat:Int)=(x.toNat:Int):=by
 have:=x.toNat_lt;rw[IntKind.wrap_u8];omega
theorem KK{d:List Int}{bd:Nat}{x:Option Addr}{tv:Value}(h:SS w b rb db og s p M L fs fd)(hc:chk d=0)(hT:Keep (Foot b rb og) w fun w'=>TT w' bd d)(t:Nat)(ht:256<t)
 (htv:tv=.agg #[.pointer x,.pointer bd]):
 Calls prog 212 #[.pointer b,t,tv] w (GotE w b rb db og s M fs fd (om d M t L s p)):=by
 subst htv;have h1:=h.alloc (.cells #[.pointer x,.pointer bd] 167);have m1:=Mv.alloc (b:=b) (rb:=rb) (w:=w) (og:=og) (.cells #[.pointer x,.pointer bd] 167);have hlen:=zN h1 t ht;have hI:=Is.fresh w 167 #[.pointer x,.pointer bd];have hwb:=h.lt;have hft:w.heap.size∉Foot b rb og:=fun hk=>by
  have h2:=h.hr;unfold Foot at hk;rcases List.mem_cons.1 hk with e|hk
  ·omega
  rcases List.mem_cons.1 hk with e|hk
  ·omega
  have:=h.out w.heap.size (by simpa using hk);omega
 have HFT:=qhz hft;have HL:=qhz hlen;clear hft;have HM1:=qhz m1;have HT:=qhz (m1.keep hT);have HC:=qhz hc;have HI:=qhz hI;clear h h1 m1 hlen hT hc hI
 go_enter func212,ntmps212
 go_wp2_with fail
 refine HL.out.mono ?_;rintro e w1 ⟨n,er,q,rfl,hMv,he1,he2⟩;have hI1:=HI.out.but hMv.but (fun hk=>by
  rcases hMv.foot _ hk with h|h<;>rcases List.mem_cons.1 hk with h2|h2
  all_goals first|omega|exact HFT.out hk)
 have HI1:=qhz hI1;have HM:=qhz (HM1.out.trans hMv);have HT1:=qhz (hMv.keep HT.out);have HE1:=qhz he1;have HE2:=qhz he2;have k0:w1.cell? ⟨w.heap.size,0,none⟩=some (.pointer x):=hI1.cell 0;have k1:w1.cell? ⟨w.heap.size,1,none⟩=some (.pointer bd):=hI1.cell 1;clear hI1 hMv he1 he2 HI
 by_cases her:er=0
 ·obtain⟨hr,hS⟩:=HE2.out her;have hdst:=xC (x:=x) hS HC.out HT1.out;have HRR:=qhz hr;have HD:=qhz hdst;clear hr hS HE1 HE2 hdst;subst her
  go_wp2_with fail
  refine HD.out.mono ?_;rintro e w2 ⟨far,er,q2,rfl,hMv,he1,he2⟩;have HM2:=qhz (HM.out.trans hMv);have HE1:=qhz he1;have HE2:=qhz he2;have hr2:om d M t L s p=am (rDst d) (fun far=>bq (L.length<far) 15 (bq (M<(L.length:Int)+(n:Nat)) 5 (aR (bI far n L)))) s q:=by unfold om;exact ae HRR.out
  have HR2:=qhz hr2;have hn:=Qn HRR.out ht;clear hMv he1 he2 hr2 k0 k1 HD HI1 HT1
  by_cases her:er=0
  ·obtain⟨hr,hS⟩:=HE2.out her;have hf:=Qo hr;have hr3:om d M t L s p=bq (L.length<far) 15 (bq (M<(L.length:Int)+(n:Nat)) 5 (aR (bI far n L))) s q2:=by rw[HR2.out];exact ae hr
   have HR3:=qhz hr3;have HS:=qhz hS;have hLb:L.length≤1099511627776:=by have:=hS.hM;have:=hS.hL;omega
   obtain⟨A,c,hi,_,_⟩:=hS.at;have k1:w2.cell? ⟨b,1,none⟩=some (.slice A L.length c):=hi.cell 1;have hrm:=hS.room n (by omega);have HRM:=qhz hrm;clear hr hS hr3 HE1 HE2 hrm hi;subst her
   by_cases hfar:L.length<far
   ·have HFAR:=qhz hfar;have d1:decide (L.length<far)=true:=by simpa using hfar
    clear hfar;go_wp2;go_ret;exact GotE.of (L':=[]) (q:=0) rfl HM2.out (fun _=>by rw[HR3.out,cU HFAR.out]) (fun e=>absurd e (by decide))
   ·have HFAR:=qhz hfar;have d1:decide (L.length<far)=false:=by simpa using hfar
    clear hfar
    by_cases hbig:M<(L.length:Int)+(n:Int)
    ·have HBIG:=qhz hbig;have hrm:=HRM.out;rw[if_pos hbig]at hrm;have HRM:=qhz hrm;clear hrm hbig
     go_wp2_with fail
     refine HRM.out.mono ?_;rintro e w3 ⟨rfl,nq3,rfl⟩;go_wp2;go_ret;exact GotE.of (L':=[]) (q:=0) rfl (HM2.out.trans (Mv.drewN _)) (fun _=>by rw[HR3.out,aD (by have:=HFAR.out;omega),cU (by have:=HBIG.out;omega)]) (fun e=>absurd e (by decide))
    ·have HBIG:=qhz hbig;have hrm:=HRM.out;rw[if_neg hbig]at hrm;have HRM:=qhz hrm;clear hrm hbig
     go_wp2_with fail
     refine HRM.out.mono ?_;rintro e w3 ⟨rfl,nq3,rfl⟩;have HS3:=qhz (HS.out.drewN nq3);have HM3:=qhz (HM2.out.trans (Mv.drewN nq3));clear k1 d1;generalize w2.drewN nq3=w3 at*;go_wp2
     go_loopw [45] (fun iv wr=>∃(j:Nat) (og1:Option Nat),j≤n∧iv=.int .i64 j∧SS wr b rb db og1 s q2 M (bI far j L) fs fd∧Mv b rb w wr og og1) (fun iv _=>n-(intOf iv).toNat)
     case atStart=>exact⟨0,og,Nat.zero_le _,rfl,HS3.out,HM3.out⟩
     case round=>
      obtain⟨j,og1,hj,rfl,hS,hMv⟩:=hrel;clear HS3 HM3 HRM HS HM HM2 HM1;have HMV:=qhz hMv;clear hMv
      by_cases hlt:j<n
      ·have hms:=oD far j L;have hml:=dT far j L;generalize hL1:bI far j L=L1 at*;have HMS:=qhz hms;have HL1:=qhz hL1;have hk1:far≤L1.length:=by have:=HFAR.out;omega
       have hk2:L1.length≤1099511627776+258:=by omega
       obtain⟨i,hie⟩:=E1 (L1.length-far);obtain⟨A,c,hi,hown,hog⟩:=hS.at;obtain⟨g,rfl,hbg,hgl,hcell⟩:=NY hown (i:=i) (by omega);have k1:wr.cell? ⟨b,1,none⟩=some (.slice (some ⟨g,0,none⟩) L1.length c):=hi.cell 1;have hne:=Eb hown hi;have hblt:=hS.lt;have hby:=My (L1.getD i 0);obtain⟨y,hy⟩:=E1 (L1.getD i 0);rw[←hy]at hcell hby;have HY:=qhz hy;have HS:=qhz hS;have HI:=qhz hi;have HOG:=qhz hog;have HNE:=qhz hne;have HOWN0:=qhz hown;have HML:=qhz hml;have ei:((L1.length:Int)-(far:Int))=(i:Int):=by omega
       have ew:IntKind.i64.wrap (i:Int)=(i:Int):=IntWalk.i64_in _ (by omega);have b0:(0:Int)≤(i:Int):=by omega
       have b1:(i:Int)<(L1.length:Int):=by omega
       have HIE:=qhz hie;clear hms hL1 hS hi hog hne hown hy hml hie;obtain⟨i0,hi0,hz0,hz1,hz2⟩:=info_parts lw;go_wp2
       go_region_law (go_loud (refine step_append_lies _ (by rfl) _ _ _ (by rfl) (b+1) 5 i0 _ 1 1 underlying47 hi0 hz0 hz1 hz2 rfl (by omega) (.slice (some ⟨g,0,none⟩) L1.length c) L1.length (ah L1) (by rfl) ((HOWN0.out.alloc _).drew) ⟨wr.heap.size,0,none⟩ 1 1 [.int .u8 (y.toNat:Int)] (by rfl) (by rfl) (World.news_of_block (cs:=#[.int .u8 (y.toNat:Int)]) (t:=5) (fr:=(0,0)) (heap_alloc_new wr _)) (by simp[Value.oneCell']) (by omega) (by unfold maxLen;omega) (by omega) (by simp;omega) (wr.heap.size+1) (by simp) ?_;intro gg cap w4 hown2 hgrow hat _;have hi2:=(((HI.out.alloc (.cells #[.int .u8 (y.toNat:Int)] 5)).drew).grown hgrow (Ne.symm HNE.out));have g0:w4.cell? ⟨b,1,none⟩=some (.slice (some ⟨g,0,none⟩) L1.length c):=hi2.cell 1;have g1:w4.frozen? ⟨b,1,none⟩=false:=hi2.free 1;have HOWN:=qhz hown2;have HGROW:=qhz hgrow;have HAT:=qhz hat;clear hi2 hown2 hgrow hat))
       all_goals
        go_wp2
        go_roundw
        case rel=>
         have hp:=HS.out.put (L2:=L1++[y]) (((But.refl [] wr).alloc _).drew) HI.out HOG.out HGROW.out (by rw[iU];exact HOWN.out) (by simp) (fun g e=>by
          rcases HAT.out with h|h
          ·left;rw[h];exact e
          ·right;have:gg=g:=by simpa[Value.ownBlock]using e
           omega) (by have:=HBIG.out;have:=HML.out;simp;omega)
         refine⟨j+1,_,by omega,by go_num,?_,HMV.out.trans hp.2⟩;rw[HMS.out,←HIE.out,←HY.out];exact hp.1
        case measure=>simp[intOf];omega
      ·obtain rfl:j=n:=by omega
       have HS:=qhz hS;clear hS;go_wp2;go_ret;exact GotE.of rfl HMV.out (fun e=>absurd rfl e) (fun _=>⟨by rw[HR3.out,aD (by have:=HFAR.out;omega),aD (by have:=HBIG.out;omega)];rfl,HS.out⟩)
  ·have d2:(er !=0)=true:=by simpa using her
   have HER:=qhz her;clear her;go_wp2;go_ret;exact GotE.of (L':=[]) (q:=0) rfl HM2.out (fun _=>by rw[HR2.out];exact aB (HE1.out HER.out)) (fun e=>absurd e HER.out)
 ·have d2:(er !=0)=true:=by simpa using her
  have HER:=qhz her;clear her;go_wp2;go_ret;exact GotE.of (L':=[]) (q:=0) rfl HM.out (fun _=>by unfold om;exact aB (HE1.out HER.out)) (fun e=>absurd e HER.out)
end
end
section
attribute [local irreducible] nk
theorem e9(x:Int){n:Nat}(w:World)(hn0:0<n)(hn:n≤100000):
 Calls prog 229 #[x,n] w fun e w'=>∃gg cc,e=.returned (.slice (some ⟨gg,0,none⟩) n cc)∧OwnI w' w.heap.size (.slice (some ⟨gg,0,none⟩) n cc) (List.replicate n x)∧But [] w w':=by
 have hr:=uY x (c:=1) (w:=w.alloc (.cells #[x] 3)) (g:=w.heap.size) ((Is.fresh w 3 #[x]).cell 0) hn0 hn;have HR:=qhz hr;clear hr
 go_enter func229,ntmps229
 go_wp2_with fail
 refine HR.out.mono ?_;rintro e w' ⟨gg,cc,rfl,hO,hB⟩;have HO:=qhz hO;have HB:=qhz hB;clear hO hB;go_wp2;go_ret;refine⟨gg,cc,rfl,?_,((But.refl [] w).alloc _).trans HB.out⟩;have h:=HO.out;unfold OwnI at h⊢;refine⟨h.1,?_⟩;rcases h.2 with h2|⟨g,cap,cur,h1,h2,h3⟩
 ·exact .inl h2
 ·exact .inr ⟨g,cap,cur,h1,by simp at h2;omega,h3⟩
end
def GotT(w:World)(l d:List Int)(e:Ending)(w':World):Prop:=
 ∃(p1 p2:Value) (er:Int),e=.returned (.tuple #[.agg #[p1,p2],er])∧But [] w w'∧(er≠0→p1=.pointer none∧p2=.pointer none∧(chk l=er∨(chk l=0∧chk d=er)))∧
  (er=0→chk l=0∧chk d=0∧∃b1 b2,p1=ptr (some b1)∧p2=ptr (some b2)∧NewT w.heap.size w' b1 l∧NewT w.heap.size w' b2 d)
theorem NewT.lower{lo lo' b:Nat}{w:World}{l:List Int}(h:NewT lo w b l)(hl:lo'≤lo):NewT lo' w b l:=by
 obtain⟨Ao,co,Al,cl,Ac,cc,h1,h2,h3,h4,h5,h6,h7,h8⟩:=h;exact⟨Ao,co,Al,cl,Ac,cc,h1,h2,h3,h4,by omega,fun a e=>Nat.le_trans hl (h6 a e),fun a e=>Nat.le_trans hl (h7 a e),fun a e=>Nat.le_trans hl (h8 a e)⟩
theorem D9{w w2:World}{k:Nat}{t:TypeId}{x y p1 p2:Value}(hI:Is w2 k t #[x,y])(hB:But [] w w2)(hk:w.heap.size≤k):
 Is ((w2.setCell ⟨k,0,none⟩ p1).setCell ⟨k,1,none⟩ p2) k t #[p1,p2]∧But [] w ((w2.setCell ⟨k,0,none⟩ p1).setCell ⟨k,1,none⟩ p2)∧But [k] w2 ((w2.setCell ⟨k,0,none⟩ p1).setCell ⟨k,1,none⟩ p2):=by
 refine⟨?_,?_,?_⟩
 ·simpa using(hI.put 0 p1).put 1 p2
 ·exact(hB.setCell (.inr hk) _).setCell (.inr hk) _
 ·exact((But.refl [k] w2).setCell (.inl (by simp)) _).setCell (.inl (by simp)) _
theorem ij{w:World}{k:Nat}{t:TypeId}{x y p1 p2:Value}(hI:Is w k t #[x,y]):
 Is ((w.setCell ⟨k,0,none⟩ p1).setCell ⟨k,1,none⟩ p2) k t #[p1,p2]∧But [k] w ((w.setCell ⟨k,0,none⟩ p1).setCell ⟨k,1,none⟩ p2):=
 ⟨by simpa using(hI.put 0 p1).put 1 p2,((But.refl [k] w).setCell (.inl (by simp)) _).setCell (.inl (by simp)) _⟩
theorem mE{w:World}{A B:Option Addr}{n m cA cB:Nat}{l d:List Int}(hl:Ints w A n l)(hd:Ints w B m d)(hn:n*8≤140737488351232)(hm:m*8≤140737488351232)
 (hA:A=none→cA=0) (hB:B=none→cB=0):
 Calls prog 230 #[.slice A n cA,.slice B m cB] w (GotT w l d):=by
 have hB0:But [] w (w.alloc (.cells #[.pointer none,.pointer none] 167)):=(But.refl [] w).alloc _;have hI:=Is.fresh w 167 #[.pointer none,.pointer none];have hl1:=hl.but hB0 (by simp);have hd1:=hd.but hB0 (by simp);have hn1:n≤maxLen:=by unfold maxLen;omega
 have hm1:m≤maxLen:=by unfold maxLen;omega
 by_cases hc:chk l=0
 ·have hmk:=lW (cap:=cA) hl1 hn hA hc;have HMK:=qhz hmk;have HI:=qhz hI;have HD:=qhz hd1;have HC:=qhz hc;have HHB:=qhz hB;have HB0:=qhz hB0;clear hmk hl hd hl1 hd1 hA hc hI hB hB0
  go_enter func230,ntmps230
  go_wp2_with fail
  refine HMK.out.mono ?_;rintro e w1 ⟨b1,rfl,hT1,hB1⟩;have hI1:=HI.out.but hB1 (by simp);have hd2:=HD.out.but hB1 (by simp);have hB01:=HB0.out.trans hB1
  by_cases hc2:chk d=0
  ·have hmk2:=lW (cap:=cB) hd2 hm HHB.out hc2;have HMK2:=qhz hmk2;have HI1:=qhz hI1;have HT1:=qhz hT1;have HB01:=qhz hB01;have HC2:=qhz hc2;clear hmk2 hI1 hT1 hB01 hB1 hd2 hc2 HMK
   go_wp2_with fail
   refine HMK2.out.mono ?_;rintro e w2 ⟨b2,rfl,hT2,hB2⟩;have hI2:=HI1.out.but hB2 (by simp);have g0:w2.cell? ⟨w.heap.size,0,none⟩=some (.pointer none):=hI2.cell 0;have g1:w2.cell? ⟨w.heap.size,1,none⟩=some (.pointer none):=hI2.cell 1;have f0:w2.frozen? ⟨w.heap.size,0,none⟩=false:=hI2.free 0;have f1:w2.frozen? ⟨w.heap.size,1,none⟩=false:=hI2.free 1;obtain⟨q1,q2,q3⟩:=D9 (p1:=.pointer b1) (p2:=.pointer b2) hI2 (HB01.out.trans hB2) (Nat.le_refl _);have t1:=((HT1.out.but hB2 (by simp)).but q3 (by simp)).lower (lo':=w.heap.size) (by simp);have t2:=(hT2.but q3 (by have:=HB01.out.size;have:=HI1.out.lt;simp;omega)).lower (lo':=w.heap.size) (by have:=HB01.out.size;omega);have HQ1:=qhz q1;have HQ2:=qhz q2;have HT1':=qhz t1;have HT2:=qhz t2;clear hI2 hT2 hB2 q1 q2 q3 t1 t2 HT1;go_wp2;generalize((w2.setCell ⟨w.heap.size,0,none⟩ (.pointer b1)).setCell ⟨w.heap.size,1,none⟩ (.pointer b2))=wf at*;have c0:wf.cell? ⟨w.heap.size,0,none⟩=some (.pointer b1):=HQ1.out.cell 0;have c1:wf.cell? ⟨w.heap.size,1,none⟩=some (.pointer b2):=HQ1.out.cell 1;refine bodyPost_ret (v:=.tuple #[.agg #[.pointer b1,.pointer b2],(0:Int)]) (by simp[results,results230,go_sem,c0,c1]) rfl ?_;exact⟨_,_,0,rfl,HQ2.out,fun e=>absurd rfl e,fun _=>⟨HC.out,HC2.out,b1,b2,rfl,rfl,HT1'.out,HT2.out⟩⟩
  ·have hmk2:=xD (cap:=cB) hd2 hm1 hc2;have hx:(chk d !=0)=true:=by simpa using hc2
   obtain⟨x,hxe⟩:∃x,chk d=x:=⟨_,rfl⟩
   rw[hxe]at hmk2 hx hc2;have HXE:=qhz hxe;have HNE:=qhz hc2;have HMK2:=qhz hmk2;have HI1:=qhz hI1;have HB01:=qhz hB01;clear hmk2 hI1 hT1 hB01 hB1 hd2 hc2 HMK hxe
   go_wp2_with fail
   refine HMK2.out.mono ?_;rintro e w2 ⟨rfl,rfl⟩;have hI2:=HI1.out;have g0:w1.cell? ⟨w.heap.size,0,none⟩=some (.pointer none):=hI2.cell 0;have g1:w1.cell? ⟨w.heap.size,1,none⟩=some (.pointer none):=hI2.cell 1;have f0:w1.frozen? ⟨w.heap.size,0,none⟩=false:=hI2.free 0;have f1:w1.frozen? ⟨w.heap.size,1,none⟩=false:=hI2.free 1;obtain⟨q1,q2,q3⟩:=D9 (p1:=.pointer none) (p2:=.pointer none) hI2 HB01.out (Nat.le_refl _);have HQ1:=qhz q1;have HQ2:=qhz q2;clear hI2 q1 q2 q3;go_wp2;generalize((w1.setCell ⟨w.heap.size,0,none⟩ (.pointer none)).setCell ⟨w.heap.size,1,none⟩ (.pointer none))=wf at*;have c0:wf.cell? ⟨w.heap.size,0,none⟩=some (.pointer none):=HQ1.out.cell 0;have c1:wf.cell? ⟨w.heap.size,1,none⟩=some (.pointer none):=HQ1.out.cell 1;refine bodyPost_ret (v:=.tuple #[.agg #[.pointer none,.pointer none],.int .i64 x]) (by simp[results,results230,go_sem,c0,c1]) rfl ?_;exact⟨_,_,x,rfl,HQ2.out,fun _=>⟨rfl,rfl,.inr ⟨HC.out,HXE.out⟩⟩,fun e=>absurd e HNE.out⟩
 ·have hmk2:=xD (cap:=cA) hl1 hn1 hc;have hx:(chk l !=0)=true:=by simpa using hc
  obtain⟨x,hxe⟩:∃x,chk l=x:=⟨_,rfl⟩
  rw[hxe]at hmk2 hx hc;have HXE:=qhz hxe;have HNE:=qhz hc;have HMK2:=qhz hmk2;have HI1:=qhz hI;clear hmk2 hI hl hd hl1 hd1 hA hB hB0 hc hxe
  go_enter func230,ntmps230
  go_wp2_with fail
  refine HMK2.out.mono ?_;rintro e w2 ⟨rfl,rfl⟩;go_wp2;have c0:(w.alloc (.cells #[.pointer none,.pointer none] 167)).cell? ⟨w.heap.size,0,none⟩=some (.pointer none):=HI1.out.cell 0;have c1:(w.alloc (.cells #[.pointer none,.pointer none] 167)).cell? ⟨w.heap.size,1,none⟩=some (.pointer none):=HI1.out.cell 1;have HB0:=qhz (dZ w (.cells #[.pointer none,.pointer none] 167));refine bodyPost_ret (v:=.tuple #[.agg #[.pointer none,.pointer none],.int .i64 x]) (by simp[results,results230,go_sem,c0,c1]) rfl ?_;exact⟨_,_,x,rfl,HB0.out,fun _=>⟨rfl,rfl,.inl HXE.out⟩,fun e=>absurd e HNE.out⟩
end Go.Proofs.YtbanopnofpjnbaaGreatDoor
