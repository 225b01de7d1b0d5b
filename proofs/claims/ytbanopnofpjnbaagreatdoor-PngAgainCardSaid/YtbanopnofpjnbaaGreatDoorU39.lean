/- Own texts in one: FixT, Bgn, Blk, Inf. -/
import Derived.Test.YtbanopnofpjnbaaGreatDoorU38
set_option maxRecDepth 1000000
set_option linter.unusedVariables false
set_option maxHeartbeats 4000000
namespace Go.Proofs.YtbanopnofpjnbaaGreatDoor
open Go Go.RowKit Tryz
section
section
variable {w w':World} {b rb db:Nat} {og:Option Nat} {s:ByteArray} {p:Nat} {M:Int} {L:List UInt8} {fs fd:Option Nat}
def FX(w:World)(F:List Nat)(fs fd:Option Nat):Prop:=
 (fs=none∧fd=none)∨∃f1 f2,fs=some f1∧fd=some f2∧Keep F w (fun w'=>TT w' f1 fixL)∧Keep F w (fun w'=>TT w' f2 fixD)
theorem FX.mv{og og':Option Nat}{X:List Nat}(h:FX w (X++Foot b rb og) fs fd)(hM:Mv b rb w w' og og'):FX w' (X++Foot b rb og') fs fd:=by
 rcases h with h|⟨f1,f2,h1,h2,h3,h4⟩
 ·exact .inl h
 ·exact .inr ⟨f1,f2,h1,h2,hM.keepX h3,hM.keepX h4⟩
theorem FX.step{F F':List Nat}(h:FX w F fs fd)(hB:But F w w')(hF:∀i∈F',i∈F∨w.heap.size≤i):FX w' F' fs fd:=by
 rcases h with h|⟨f1,f2,h1,h2,h3,h4⟩
 ·exact .inl h
 ·exact .inr ⟨f1,f2,h1,h2,h3.step hB hF,h4.step hB hF⟩
def GotF(X:List Nat)(w:World)(b rb db:Nat)(og:Option Nat)(s:ByteArray)(p:Nat)(M:Int)(L:List UInt8)(e:Ending)(w':World):Prop:=
 ∃f1 f2,e=.returned (.tuple #[.agg #[ptr (some f1),ptr (some f2)],(0:Int)])∧Mv b rb w w' og og∧SS w' b rb db og s p M L (some f1) (some f2)∧FX w' (X++Foot b rb og) (some f1) (some f2)
theorem SS.fix(h:SS w b rb db og s p M L fs fd)(f1 f2:Nat):
 SS ((w.setCell ⟨b,3,none⟩ (ptr (some f1))).setCell ⟨b,4,none⟩ (ptr (some f2))) b rb db og s p M L (some f1) (some f2)∧Mv b rb w ((w.setCell ⟨b,3,none⟩ (ptr (some f1))).setCell ⟨b,4,none⟩ (ptr (some f2))) og og:=by
 have hlt:=h.lt;have hd:=h.hd;have hr:=h.hr;have hout:=h.out;obtain⟨ov,h1,h2,h3⟩:=h.cells;have hB:But [b] w ((w.setCell ⟨b,3,none⟩ (ptr (some f1))).setCell ⟨b,4,none⟩ (ptr (some f2))):=((But.refl [b] w).setCell (.inl (by simp)) _).setCell (.inl (by simp)) _;refine⟨⟨h.rs.but hB (by simp;omega) (by simp;omega),hd,hr,h.hs,h.hM,h.hL,ov,?_,aU h2 hB fun g hg hk=>?_,h3⟩,Mv.of hB fun k hk=>.inl ?_⟩
 ·simpa using(h1.put 3 (ptr (some f1))).put 4 (ptr (some f2))
 ·have:=hout g (h3▸hg);simp at hk;omega
 ·simp at hk;subst hk;simp[Foot]
theorem tK{X:List Nat}(h:SS w b rb db og s p M L fs fd)(hX:∀k∈X,k<w.heap.size)(hF:FX w (X++Foot b rb og) fs fd):
 Calls prog 210 #[.pointer b] w (GotF X w b rb db og s p M L):=by
 have h1:=h.alloc (.cells #[.pointer none,.pointer none] 167);have m1:=Mv.alloc (b:=b) (rb:=rb) (w:=w) (og:=og) (.cells #[.pointer none,.pointer none] 167);have hI:=Is.fresh w 167 #[.pointer none,.pointer none];have hF1:=hF.mv m1;have hwb:=h.lt;have hfl:=tJ h;have HXL:=qhz hX;clear hX;have hb0:=dZ w (.cells #[.pointer none,.pointer none] 167);rcases hF with⟨rfl,rfl⟩|⟨f1,f2,rfl,rfl,hf1,hf2⟩
 ·obtain⟨ov,hi,_,_⟩:=h1.cells;have k3:(w.alloc (.cells #[.pointer none,.pointer none] 167)).cell? ⟨b,3,none⟩=some (.pointer none):=hi.cell 3;have HS:=qhz h1;have HM:=qhz m1;have HI:=qhz hI;have HB0:=qhz hb0;have HFL:=qhz hfl;clear h h1 m1 hI hi hF1 hb0 hfl
  go_enter func210,ntmps210
  go_wp2_with fail
  refine(e9 8 (n:=144) _ (by omega) (by omega)).mono ?_;rintro e w1 ⟨g1,c1,rfl,hO1,hB1⟩;have HO1:=qhz hO1;have HB1:=qhz hB1;clear hO1 hB1
  go_wp2_with fail
  refine(e9 9 (n:=112) _ (by omega) (by omega)).mono ?_;rintro e w2 ⟨g2,c2,rfl,hO2,hB2⟩;have HO2:=qhz hO2;have HB2:=qhz hB2;clear hO2 hB2
  go_wp2_with fail
  refine(e9 7 (n:=24) _ (by omega) (by omega)).mono ?_;rintro e w3 ⟨g3,c3,rfl,hO3,hB3⟩;have HO3:=qhz hO3;have HB3:=qhz hB3;clear hO3 hB3
  go_wp2_with fail
  refine(e9 8 (n:=8) _ (by omega) (by omega)).mono ?_;rintro e w4 ⟨g4,c4,rfl,hO4,hB4⟩;have HO4:=qhz hO4;have HB4:=qhz hB4;clear hO4 hB4;have hI4:=HO4.out.ints;have hI3:=HO3.out.ints.but HB4.out (by simp);have hI2:=HO2.out.ints.but (HB3.out.trans HB4.out) (by simp);have hI1:=HO1.out.ints.but ((HB2.out.trans HB3.out).trans HB4.out) (by simp);have hB14:=((HB1.out.trans HB2.out).trans HB3.out).trans HB4.out;have hhd:=PB (t:=36) (c1:=c1) (c2:=c2) (c3:=c3) (c4:=c4) hI1 hI2 hI3 hI4 (by omega) (by omega) (by omega) (by omega);have hcc:=qg (c:=4) hhd (by rw[jB];decide+kernel) (by rw[jB];decide+kernel) (by simp);rw[jB]at hcc;have HCC:=qhz hcc;have HB14:=qhz (hB14.alloc (.cells #[.slice g1 144 c1,.slice g2 112 c2,.slice g3 24 c3,.slice g4 8 c4] 36));clear hI1 hI2 hI3 hI4 hB14 hhd hcc HO1 HO2 HO3 HO4 HB1 HB2 HB3 HB4
  go_wp2_with fail
  refine HCC.out.mono ?_;rintro e w5 ⟨v5,rfl,hO5,hB5⟩;have hB15:=HB14.out.trans hB5;obtain⟨A5,c5,rfl,hI5⟩:=xp hO5 (by decide+kernel);have HI5:=qhz hI5;have HB15:=qhz hB15;clear HCC HB14 hO5 hB5 hI5 hB15;rw[show fixL.length=288 from by decide+kernel]at *
  go_wp2_with fail
  refine(e9 5 (n:=32) _ (by omega) (by omega)).mono ?_;rintro e w6 ⟨g6,c6,rfl,hO6,hB6⟩;have hI6:=hO6.ints;have hI5:=HI5.out.but hB6 (by simp);have hB16:=HB15.out.trans hB6;have hmt:=mE (cA:=c5) (cB:=c6) hI5 hI6 (by omega) (by omega) (fun e=>by cases e) (fun e=>by cases e);have HMT:=qhz hmt;have HB16:=qhz hB16;clear hO6 hB6 hI6 hI5 hB16 hmt HI5 HB15
  go_wp2_with fail
  refine HMT.out.mono ?_;rintro e w7 ⟨p1,p2,er,rfl,hB7,he1,he2⟩;have her:er=0:=Classical.byContradiction fun hne=>by
   rcases(he1 hne).2.2 with h|⟨_,h⟩
   ·exact hne (h.symm.trans cH)
   ·exact hne (h.symm.trans eM)
  subst her;obtain⟨_,_,b1,b2,e1,e2,hT1,hT2⟩:=he2 rfl;obtain rfl:p1=.pointer b1:=e1;obtain rfl:p2=.pointer b2:=e2;have hBa:=HB16.out.trans hB7;have hSa:=HS.out.but hBa (by simp);have hIa:=HI.out.but hBa (by simp);have hsz6:=HB16.out.size;obtain⟨ov7,hi7,_,_⟩:=hSa.cells;have k3:w7.cell? ⟨b,3,none⟩=some (.pointer none):=hi7.cell 3;have k4:w7.cell? ⟨b,4,none⟩=some (.pointer none):=hi7.cell 4;have l3:w7.frozen? ⟨b,3,none⟩=false:=hi7.free 3;have l4:w7.frozen? ⟨b,4,none⟩=false:=hi7.free 4;have k0:w7.cell? ⟨w.heap.size,0,none⟩=some (.pointer none):=hIa.cell 0;have k1:w7.cell? ⟨w.heap.size,1,none⟩=some (.pointer none):=hIa.cell 1;have l0:w7.frozen? ⟨w.heap.size,0,none⟩=false:=hIa.free 0;have l1:w7.frozen? ⟨w.heap.size,1,none⟩=false:=hIa.free 1;have hbl:=hSa.lt;have hrl:=hIa.lt;have hne:b≠w.heap.size:=by omega
  have hne':w.heap.size≠b:=by omega
  have HSa:=qhz hSa;have HIa:=qhz hIa;have HT1:=qhz hT1;have HT2:=qhz hT2;have HBa:=qhz hBa;clear he1 he2 hB7 hBa hSa hIa hi7 hT1 hT2 HMT;go_wp2;obtain⟨s8,_⟩:=HSa.out.fix b1 b2;have hbw:But [] w w7:=HB0.out.trans HBa.out;have hb8:But [b] w7 ((w7.setCell ⟨b,3,none⟩ (.pointer b1)).setCell ⟨b,4,none⟩ (.pointer b2)):=((But.refl [b] w7).setCell (.inl (by simp)) _).setCell (.inl (by simp)) _;have hbf:But (Foot b rb og) w ((w7.setCell ⟨b,3,none⟩ (.pointer b1)).setCell ⟨b,4,none⟩ (.pointer b2)):=((hbw.more (by simp)).setCell (.inl (by simp[Foot])) _).setCell (.inl (by simp[Foot])) _;have i8:=HIa.out.but hb8 (by simp;omega);change SS ((w7.setCell ⟨b,3,none⟩ (.pointer b1)).setCell ⟨b,4,none⟩ (.pointer b2)) b rb db og s p M L (some b1) (some b2)at s8;have hb9':But [b,w.heap.size] w7 ((((w7.setCell ⟨b,3,none⟩ (.pointer b1)).setCell ⟨b,4,none⟩ (.pointer b2)).setCell ⟨w.heap.size,0,none⟩ (.pointer b1)).setCell ⟨w.heap.size,1,none⟩ (.pointer b2)):=
   ((hb8.more (by simp)).setCell (.inl (by simp)) _).setCell (.inl (by simp)) _
  generalize((w7.setCell ⟨b,3,none⟩ (.pointer b1)).setCell ⟨b,4,none⟩ (.pointer b2))=w8 at*;obtain⟨i9,hb9⟩:=ij (p1:=.pointer b1) (p2:=.pointer b2) i8;have s9:=s8.away hb9 (fun k hk=>by
   have hd:=s8.hd;obtain rfl:k=w.heap.size:=by simpa using hk
   exact⟨fun h=>by have:=HFL.out _ h;omega,by omega⟩)
  have hbf9:But (Foot b rb og) w ((w8.setCell ⟨w.heap.size,0,none⟩ (.pointer b1)).setCell ⟨w.heap.size,1,none⟩ (.pointer b2)):=(hbf.setCell (.inr (Nat.le_refl _)) _).setCell (.inr (Nat.le_refl _)) _;generalize((w8.setCell ⟨w.heap.size,0,none⟩ (.pointer b1)).setCell ⟨w.heap.size,1,none⟩ (.pointer b2))=w9 at*;have i10:=i9.alloc (.cells #[.pointer b1,.pointer b2] 167);have s10:=s9.alloc (.cells #[.pointer b1,.pointer b2] 167);have hbf10:=hbf9.alloc (.cells #[.pointer b1,.pointer b2] 167);have hb10:=hb9'.alloc (.cells #[.pointer b1,.pointer b2] 167);generalize w9.alloc (.cells #[.pointer b1,.pointer b2] 167)=wf at*;have hlo:w.heap.size+1≤w6.heap.size:=by simpa using hsz6
  have hkp:∀k∈[b,w.heap.size],k<w6.heap.size:=fun k hk=>by
   rcases List.mem_cons.1 hk with e|e
   ·omega
   ·simp at e;omega
  have t1:=(HT1.out.but hb10 hkp).keep (F:=X++Foot b rb og) (fun k hk=>by rcases List.mem_append.1 hk with hk|hk;(have:=HXL.out k hk;omega);(have:=HFL.out k hk;omega));have t2:=(HT2.out.but hb10 hkp).keep (F:=X++Foot b rb og) (fun k hk=>by rcases List.mem_append.1 hk with hk|hk;(have:=HXL.out k hk;omega);(have:=HFL.out k hk;omega));have c0:wf.cell? ⟨w.heap.size,0,none⟩=some (.pointer b1):=i10.cell 0;have c1:wf.cell? ⟨w.heap.size,1,none⟩=some (.pointer b2):=i10.cell 1;refine bodyPost_ret (v:=.tuple #[.agg #[.pointer b1,.pointer b2],(0:Int)]) (by simp[results,results210,go_sem,c0,c1]) rfl ?_;exact⟨b1,b2,rfl,⟨hbf10,fun g hg=>.inl hg⟩,s10,.inr ⟨b1,b2,rfl,rfl,t1,t2⟩⟩
 ·obtain⟨ov,hi,_,_⟩:=h1.cells;have hi3:(w.alloc (.cells #[.pointer none,.pointer none] 167)).cell? ⟨b,3,none⟩=some (.pointer f1):=hi.cell 3;have hi4:(w.alloc (.cells #[.pointer none,.pointer none] 167)).cell? ⟨b,4,none⟩=some (.pointer f2):=hi.cell 4;have ha:But [] w (w.alloc (.cells #[.pointer f1,.pointer f2] 167)):=dZ w _;have m2:Mv b rb w (w.alloc (.cells #[.pointer f1,.pointer f2] 167)) og og:=Mv.of ha (by simp);have s2:=h.alloc (.cells #[.pointer f1,.pointer f2] 167);have i2:=Is.fresh w 167 #[.pointer f1,.pointer f2];have t1:=m2.keepX hf1;have t2:=m2.keepX hf2;have HS:=qhz s2;have HM:=qhz m2;have HI:=qhz i2;have HT1:=qhz t1;have HT2:=qhz t2;clear h h1 m1 hI hi hF1 hb0 hfl ha m2 s2 i2 t1 t2 hf1 hf2
  go_enter func210,ntmps210
  go_wp2;obtain⟨c0,c1,_⟩:=HI.out.c2;refine bodyPost_ret (v:=.tuple #[.agg #[.pointer f1,.pointer f2],(0:Int)]) (by simp[results,results210,go_sem,c0,c1]) rfl ?_;exact⟨f1,f2,rfl,HM.out,HS.out,.inr ⟨f1,f2,rfl,rfl,HT1.out,HT2.out⟩⟩
end
end
section
def fu(M:Int)(F:Nat)(L:List UInt8):Rd (Nat×List UInt8×Option (List Int×List Int)):=am (aY 3) fun h=>
 if h/2=0 then am (fq M L) fun L'=>aR (h%2,L',none)else if h/2=1 then aR (h%2,L,some (fixL,fixD))else if h/2=2 then am (dW F) fun x=>aR (h%2,L,some x)else mp 13
def blkN(M:Int)(F f:Nat)(x:Nat×List UInt8×Option (List Int×List Int)):Rd (List UInt8):=match x with
 |(last,L,none)=>if last≠0 then aR L else blkG M F f L
 |(last,L,some (l,d))=>am (symG l d M F L) fun L2=>if last≠0 then aR L2 else blkG M F f L2
theorem Mq(M:Int)(F f:Nat)(L:List UInt8):blkG M F (f+1) L=am (fu M F L) (blkN M F f):=by
 rw[Pd];unfold fu;rw[gD]
 congr 1
 funext h
 unfold blkK
 by_cases h0:h/2=0
 ·rw[if_pos h0,gD,h0];have e:fh M F 0 L=fq M L:=by funext s p;exact qN
  rw[e];rfl
 ·rw[if_neg h0]
  by_cases h1:h/2=1
  ·rw[if_pos h1,h1,jI];have e:fh M F 1 L=symG fixL fixD M F L:=by funext s p;exact ui
   rw[e];rfl
  ·rw[if_neg h1]
   by_cases h2:h/2=2
   ·rw[if_pos h2,h2,gD];have e:fh M F 2 L=dynR M F L:=by funext s p;exact AR
    rw[e,OQ,gD];rfl
   ·rw[if_neg h2,AY];unfold fh;rw[if_neg h0,if_neg h1,if_neg h2,AY]
section
variable {w w':World} {b rb db:Nat} {og:Option Nat} {s:ByteArray} {p:Nat} {M:Int} {L:List UInt8} {fs fd:Option Nat}
def HasT(w:World)(F:List Nat)(p1 p2:Option Addr):Option (List Int×List Int)→Prop
 |none=>p1=none∧p2=none
 |some (l,d)=>chk l=0∧chk d=0∧∃b1 b2,p1=some ⟨b1,0,none⟩∧p2=some ⟨b2,0,none⟩∧Keep F w (fun x=>TT x b1 l)∧Keep F w (fun x=>TT x b2 d)
theorem HasT.step{F F':List Nat}{p1 p2:Option Addr}{o:Option (List Int×List Int)}(h:HasT w F p1 p2 o)(hB:But F w w')(hF:∀i∈F',i∈F∨w.heap.size≤i):HasT w' F' p1 p2 o:=by
 match o,h with
 |none,h=>exact h
 |some (l,d),⟨h1,h2,b1,b2,e1,e2,k1,k2⟩=>exact⟨h1,h2,b1,b2,e1,e2,k1.step hB hF,k2.step hB hF⟩
def Sb(X:List Nat)(w:World)(b rb db:Nat)(og:Option Nat)(s:ByteArray)(M:Int)(r:Except Int ((Nat×List UInt8×Option (List Int×List Int))×Nat))(e:Ending)(w':World):Prop:=
 ∃(l:Nat) (p1 p2:Option Addr) (er:Int) (og':Option Nat),e=.returned (.tuple #[.bool (decide (l=1)),.agg #[.pointer p1,.pointer p2],er])∧Mv b rb w w' og og'∧(er≠0→r=.error er)∧
  (er=0→∃(q:Nat) (L':List UInt8) (o:Option (List Int×List Int)) (fs' fd':Option Nat),r=.ok ((l,L',o),q)∧l<2∧SS w' b rb db og' s q M L' fs' fd'∧FX w' (X++Foot b rb og') fs' fd'∧HasT w' (X++Foot b rb og') p1 p2 o)
theorem yn{X:List Nat}{w2:World}{og':Option Nat}{r:Except Int ((Nat×List UInt8×Option (List Int×List Int))×Nat)}{l:Nat}{er:Int}{p1 p2:Option Addr}{x y:Value}{t:TypeId}
 (hfl:∀k∈Foot b rb og,k<w.heap.size) (hd:db<b) (hM:Mv b rb w w2 og og') (hI:Is w2 w.heap.size t #[x,y]) (ht:5≠t) (hl:l<2) (h1:er≠0→r=.error er)
 (h2:er=0→∃(q:Nat) (L':List UInt8) (o:Option (List Int×List Int)) (fs' fd':Option Nat),r=.ok ((l,L',o),q)∧SS w2 b rb db og' s q M L' fs' fd'∧FX w2 (w.heap.size::X++Foot b rb og') fs' fd'∧HasT w2 (w.heap.size::X++Foot b rb og') p1 p2 o):
 Sb X w b rb db og s M r (.returned (.tuple #[.bool (decide (l=1)),.agg #[.pointer p1,.pointer p2],er])) ((w2.setCell ⟨w.heap.size,0,none⟩ (.pointer p1)).setCell ⟨w.heap.size,1,none⟩ (.pointer p2)).drew:=by
 have hbl:=hfl b (by simp[Foot]);have hrl:=hfl rb (by simp[Foot]);have hB:But [w.heap.size] w2 ((w2.setCell ⟨w.heap.size,0,none⟩ (.pointer p1)).setCell ⟨w.heap.size,1,none⟩ (.pointer p2)).drew:=(((But.refl [w.heap.size] w2).setCell (.inl (by simp)) _).setCell (.inl (by simp)) _).drew;refine⟨l,p1,p2,er,og',rfl,⟨((hM.but.setCell (.inr (Nat.le_refl _)) _).setCell (.inr (Nat.le_refl _)) _).drew,hM.own⟩,h1,fun e=>?_⟩;obtain⟨q,L',o,fs',fd',e1,e2,e3,e4⟩:=h2 e;have hns:w.heap.size∉Foot b rb og':=fun hk=>by
  unfold Foot at hk;rcases List.mem_cons.1 hk with e|hk
  ·omega
  rcases List.mem_cons.1 hk with e|hk
  ·omega
  obtain⟨ov,c1,c2,c3⟩:=e2.cells;exact fy c2 hI ht (by rw[c3];simpa using hk)
 refine⟨q,L',o,fs',fd',e1,hl,e2.away hB (fun k hk=>?_),e3.step (hB.more (by simp)) (fun i hi=>.inl (by simp at hi⊢;exact .inr hi)),e4.step (hB.more (by simp)) (fun i hi=>.inl (by simp at hi⊢;exact .inr hi))⟩;obtain rfl:k=w.heap.size:=by simpa using hk
 exact⟨hns,by omega⟩
theorem and1(v:Nat):Go.bits .and .i64 (v:Int) 1=((v%2:Nat):Int):=by
 have:=iO (v:Int) 1 (by omega);simpa using this
theorem GotD.pt{r:Except Int ((List Int×List Int)×Nat)}{e:Ending}(h:GotD w b rb db og s M L fs fd r e w'):
 ∃(x1 x2:Option Addr) (er:Int),e=.returned (.tuple #[.agg #[.pointer x1,.pointer x2],er])∧Mv b rb w w' og og∧(er≠0→r=.error er)∧
  (er=0→∃q l d,r=.ok ((l,d),q)∧SS w' b rb db og s q M L fs fd∧∀F,(∀k∈F,k<w.heap.size)→HasT w' F x1 x2 (some (l,d))):=by
 obtain⟨p1,p2,er,q,l,d,rfl,hM,h1,h2⟩:=h
 by_cases her:er=0
 ·obtain⟨r1,r2,c1,c2,b1,b2,rfl,rfl,k1,k2⟩:=h2 her;exact⟨_,_,er,rfl,hM,fun e=>absurd her e,fun _=>⟨q,l,d,r1,r2,fun F hF=>⟨c1,c2,b1,b2,rfl,rfl,k1 F hF,k2 F hF⟩⟩⟩
 ·obtain⟨r1,rfl,rfl⟩:=h1 her;exact⟨none,none,er,rfl,hM,fun _=>r1,fun e=>absurd e her⟩
theorem FX.hasT{F:List Nat}{f1 f2:Nat}(h:FX w F (some f1) (some f2)):HasT w F (some ⟨f1,0,none⟩) (some ⟨f2,0,none⟩) (some (fixL,fixD)):=by
 rcases h with⟨h,_⟩|⟨g1,g2,h1,h2,h3,h4⟩
 ·cases h
 ·injection h1 with h1;injection h2 with h2;subst h1 h2;exact⟨cH,eM,f1,f2,rfl,rfl,h3,h4⟩
theorem MD{X:List Nat}(h:SS w b rb db og s p M L fs fd)(hG:Keep (Foot b rb og) w GL)(hX:∀k∈X,k<w.heap.size)(hF:FX w (X++Foot b rb og) fs fd){F:Nat}(hFu:8*s.size-p<F):
 Calls prog 174 #[.pointer b] w (Sb X w b rb db og s M (fu M F L s p)):=by
 have h1:=h.alloc (.cells #[.pointer none,.pointer none] 167);have m1:=Mv.alloc (b:=b) (rb:=rb) (w:=w) (og:=og) (.cells #[.pointer none,.pointer none] 167);have hI:=Is.fresh w 167 #[.pointer none,.pointer none];have hin:=h1.inCell;have hbt:=h1.bits 3;have hfl:=tJ h;have hft:=tI h;have hdb:=h.hd;have hp8:=h.rs.1;have hFX0:FX (w.alloc (.cells #[.pointer none,.pointer none] 167)) ((w.heap.size::X)++Foot b rb og) fs fd:=hF.step ((dZ w _).more (by simp)) (fun i hi=>by
  rcases List.mem_cons.1 hi with e|e
  ·right;omega
  ·exact .inl e)
 have HBT:=qhz hbt;have HM:=qhz m1;have HI:=qhz hI;have HG:=qhz hG;have HFX:=qhz hFX0;have HFL:=qhz hfl;have HFT:=qhz hft;have HP8:=qhz hp8;have HFU:=qhz hFu;have HX:=qhz hX;clear h h1 m1 hI hbt hfl hft hG hp8 hF hFu hFX0 hX
 go_enter func174,ntmps174
 go_wp2_with fail
 refine HBT.out.mono ?_;rintro e w1 ⟨v,er,q,rfl,hMv,he1,he2⟩;have hI1:=HI.out.but hMv.but HFT.out;have hMW:=HM.out.trans hMv;have hFX1:=HFX.out.mv hMv;have g0:w1.cell? ⟨w.heap.size,0,none⟩=some (.pointer none):=hI1.cell 0;have g1:w1.cell? ⟨w.heap.size,1,none⟩=some (.pointer none):=hI1.cell 1;have f0:w1.frozen? ⟨w.heap.size,0,none⟩=false:=hI1.free 0;have f1:w1.frozen? ⟨w.heap.size,1,none⟩=false:=hI1.free 1;have HE1:=qhz he1;have HE2:=qhz he2;have HI1:=qhz hI1;have HMW:=qhz hMW;have HFX1:=qhz hFX1;clear hMv he1 he2 hI1 hMW HBT HM HI hFX1 HFX
 by_cases her:er=0
 ·obtain⟨hr,hS⟩:=HE2.out her;have hv8:v<8:=gq hr;have hadv:=bV 3 s p v q HP8.out hr;obtain⟨k,hk⟩:=E1 (v/2);obtain⟨l,hl⟩:=E1 (v%2);have a1:=and1 v;rw[←hl]at a1;have a2:(v:Int)/2=(k:Int):=by omega
  have hrb:fu M F L s p=(if k=0 then am (fq M L) fun L'=>aR (l,L',none)else if k=1 then aR (l,L,some (fixL,fixD))else if k=2 then am (dW F) fun x=>aR (l,L,some x)else mp 13) s q:=by
   rw[hk,hl];exact ae hr
  have hl2:l<2:=by omega
  have hk4:k<4:=by omega
  have bl:((l:Int)==1)=decide (l=1):=by
   by_cases e:l=1
   ·subst e;rfl
   ·rw[decide_eq_false e];simp;omega
  have HRB:=qhz hrb;have HADV:=qhz hadv;have hrl:=HI1.out.lt;have h2:=hS.alloc (.cells #[.pointer none,.pointer none] 167);have m2:=Mv.alloc (b:=b) (rb:=rb) (w:=w1) (og:=og) (.cells #[.pointer none,.pointer none] 167);have hI7:=Is.fresh w1 167 #[.pointer none,.pointer none];have hft7:=tI hS;have hFX2:FX (w1.alloc (.cells #[.pointer none,.pointer none] 167)) ((w1.heap.size::w.heap.size::X)++Foot b rb og) fs fd:=HFX1.out.step ((dZ w1 _).more (by simp)) (fun i hi=>by
   rcases List.mem_cons.1 hi with e|e
   ·right;omega
   ·exact .inl e)
  have hXl:∀k∈w1.heap.size::w.heap.size::X,k<(w1.alloc (.cells #[.pointer none,.pointer none] 167)).heap.size:=fun k hk=>by
   rw[World.size_alloc];rcases List.mem_cons.1 hk with e|hk
   ·omega
   rcases List.mem_cons.1 hk with e|hk
   ·omega
   have:=HX.out k hk;omega
  have HFX2:=qhz hFX2;have HXL:=qhz hXl;have HM2:=qhz (HMW.out.trans m2);have HS2:=qhz h2;have HI7:=qhz hI7;have HI2:=qhz (HI1.out.alloc (.cells #[.pointer none,.pointer none] 167));have HFT7:=qhz hft7;have hrne:w.heap.size≠w1.heap.size:=by omega
  clear hr hS hadv hk hl hrb HE1 HE2 h2 m2 hI7 hft7 hFX2 hXl;subst her
  by_cases k0:k=0
  ·subst k0;have hrb0:fu M F L s p=am (fq M L) (fun L'=>aR (l,L',none)) s q:=by rw[HRB.out,if_pos rfl]
   have HRB0:=qhz hrb0;have hst:=Ff HS2.out;have HST:=qhz hst;clear hst hrb0 HRB
   go_wp2_with fail
   refine HST.out.mono ?_;rintro e w2 ⟨er,L',q2,og',rfl,hMv,he1,he2⟩;have hI2:=HI2.out.but hMv.but HFT.out;have hI72:=HI7.out.but hMv.but HFT7.out;have g0:w2.cell? ⟨w.heap.size,0,none⟩=some (.pointer none):=hI2.cell 0;have g1:w2.cell? ⟨w.heap.size,1,none⟩=some (.pointer none):=hI2.cell 1;have f0:w2.frozen? ⟨w.heap.size,0,none⟩=false:=hI2.free 0;have f1:w2.frozen? ⟨w.heap.size,1,none⟩=false:=hI2.free 1;have t0:w2.cell? ⟨w1.heap.size,0,none⟩=some (.pointer none):=hI72.cell 0;have t1:w2.cell? ⟨w1.heap.size,1,none⟩=some (.pointer none):=hI72.cell 1;have v0:w2.frozen? ⟨w1.heap.size,0,none⟩=false:=hI72.free 0;have v1:w2.frozen? ⟨w1.heap.size,1,none⟩=false:=hI72.free 1;have HI3:=qhz hI2;have HM3:=qhz (HM2.out.trans hMv);have hFX3:=HFX2.out.mv hMv;have hend1:er≠0→fu M F L s p=.error er:=fun e=>by rw[HRB0.out];exact aB (he1 e)
   have hend2:er=0→∃(q:Nat) (L':List UInt8) (o:Option (List Int×List Int)) (fs' fd':Option Nat),fu M F L s p=.ok ((l,L',o),q)∧SS w2 b rb db og' s q M L' fs' fd'∧FX w2 (w.heap.size::X++Foot b rb og') fs' fd'∧HasT w2 (w.heap.size::X++Foot b rb og') none none o:=fun e=>by
    obtain⟨r1,r2⟩:=he2 e;exact⟨q2,L',none,fs,fd,by rw[HRB0.out];exact ae r1,r2,hFX3.step (But.refl _ _) (fun i hi=>.inl (List.mem_cons_of_mem _ hi)),rfl,rfl⟩
   have HEND1:=qhz hend1;have HEND2:=qhz hend2;clear hMv he1 he2 hI2 hI72 hFX3 hend1 hend2 HST HRB0;go_wp2
   go_region
   all_goals
    go_wp2;have hend:=yn (X:=X) (s:=s) (M:=M) (r:=fu M F L s p) (l:=l) (er:=er) (p1:=none) (p2:=none) HFL.out hdb HM3.out HI3.out (by decide) hl2 (fun e=>(HEND1.out e)) (fun e=>(HEND2.out e));have c:=ij (p1:=.pointer none) (p2:=.pointer none) HI3.out;have c2:=c.1.drew;generalize((w2.setCell ⟨w.heap.size,0,none⟩ (.pointer none)).setCell ⟨w.heap.size,1,none⟩ (.pointer none)).drew=wf at*;have c0:wf.cell? ⟨w.heap.size,0,none⟩=some (.pointer none):=c2.cell 0;have c1:wf.cell? ⟨w.heap.size,1,none⟩=some (.pointer none):=c2.cell 1;exact bodyPost_ret (v:=.tuple #[.bool (decide (l=1)),.agg #[.pointer none,.pointer none],.int .i64 (er)]) (by simp[results,results174,go_sem,c0,c1]) rfl hend
  ·by_cases k1:k=1
   ·subst k1;have hrb0:fu M F L s p=.ok ((l,L,some (fixL,fixD)),q):=by rw[HRB.out,if_neg k0,if_pos rfl];rfl
    have HRB0:=qhz hrb0;have hst:=tK HS2.out HXL.out HFX2.out;have HST:=qhz hst;have d0:(((1:Nat):Int)==0)=false:=by decide
    clear hst hrb0 HRB k0
    go_wp2_with fail
    refine HST.out.mono ?_;rintro e w2 ⟨a1',a2',he,hMv,hS3,hFX3⟩;obtain rfl:e=.returned (.tuple #[.agg #[.pointer a1',.pointer a2'],(0:Int)]):=he;have hI2:=HI2.out.but hMv.but HFT.out;have hI72:=HI7.out.but hMv.but HFT7.out;have g0:w2.cell? ⟨w.heap.size,0,none⟩=some (.pointer none):=hI2.cell 0;have g1:w2.cell? ⟨w.heap.size,1,none⟩=some (.pointer none):=hI2.cell 1;have f0:w2.frozen? ⟨w.heap.size,0,none⟩=false:=hI2.free 0;have f1:w2.frozen? ⟨w.heap.size,1,none⟩=false:=hI2.free 1;have t0:w2.cell? ⟨w1.heap.size,0,none⟩=some (.pointer none):=hI72.cell 0;have t1:w2.cell? ⟨w1.heap.size,1,none⟩=some (.pointer none):=hI72.cell 1;have v0:w2.frozen? ⟨w1.heap.size,0,none⟩=false:=hI72.free 0;have v1:w2.frozen? ⟨w1.heap.size,1,none⟩=false:=hI72.free 1;have hb7:But [w1.heap.size] w2 ((w2.setCell ⟨w1.heap.size,0,none⟩ (.pointer a1')).setCell ⟨w1.heap.size,1,none⟩ (.pointer a2')):=((But.refl [w1.heap.size] w2).setCell (.inl (by simp)) _).setCell (.inl (by simp)) _;have hs7:=hS3.away hb7 (fun k hk=>by
     have hk':k=w1.heap.size:=by simpa using hk
     subst hk';have:=HFL.out b (by simp[Foot]);exact⟨HFT7.out,by omega⟩)
    have hf7:FX ((w2.setCell ⟨w1.heap.size,0,none⟩ (.pointer a1')).setCell ⟨w1.heap.size,1,none⟩ (.pointer a2')) ((w.heap.size::X)++Foot b rb og) (some a1') (some a2'):=hFX3.step (hb7.more (by simp)) (fun i hi=>.inl (List.mem_cons_of_mem _ hi));have hi7:=hI2.but hb7 (by simp;omega);have hm7:Mv b rb w ((w2.setCell ⟨w1.heap.size,0,none⟩ (.pointer a1')).setCell ⟨w1.heap.size,1,none⟩ (.pointer a2')) og og:=⟨(((HM2.out.trans hMv).but.setCell (.inr (by show w.heap.size≤w1.heap.size;omega)) _).setCell (.inr (by show w.heap.size≤w1.heap.size;omega)) _),(HM2.out.trans hMv).own⟩
    have HI3:=qhz hi7;have HM3:=qhz hm7;have hend2:∃(q:Nat) (L':List UInt8) (o:Option (List Int×List Int)) (fs' fd':Option Nat),fu M F L s p=.ok ((l,L',o),q)∧SS ((w2.setCell ⟨w1.heap.size,0,none⟩ (.pointer a1')).setCell ⟨w1.heap.size,1,none⟩ (.pointer a2')) b rb db og s q M L' fs' fd'∧FX ((w2.setCell ⟨w1.heap.size,0,none⟩ (.pointer a1')).setCell ⟨w1.heap.size,1,none⟩ (.pointer a2')) (w.heap.size::X++Foot b rb og) fs' fd'∧HasT ((w2.setCell ⟨w1.heap.size,0,none⟩ (.pointer a1')).setCell ⟨w1.heap.size,1,none⟩ (.pointer a2')) (w.heap.size::X++Foot b rb og) (some ⟨a1',0,none⟩) (some ⟨a2',0,none⟩) o:=
     ⟨q,L,some (fixL,fixD),some a1',some a2',HRB0.out,hs7,hf7,hf7.hasT⟩
    have HEND2:=qhz hend2;clear hMv hI2 hI72 hFX3 hend2 HST HRB0 hb7 hs7 hf7 hi7 hm7 hS3;go_wp2
    go_region
    all_goals
     go_wp2;have hend:=yn (X:=X) (s:=s) (M:=M) (r:=fu M F L s p) (l:=l) (er:=0) (p1:=(some ⟨a1',0,none⟩)) (p2:=(some ⟨a2',0,none⟩)) HFL.out hdb HM3.out HI3.out (by decide) hl2 (fun e=>absurd rfl e) (fun _=>HEND2.out);have c:=ij (p1:=.pointer a1') (p2:=.pointer a2') HI3.out;have c2:=c.1.drew;generalize((((w2.setCell ⟨w1.heap.size,0,none⟩ (.pointer a1')).setCell ⟨w1.heap.size,1,none⟩ (.pointer a2')).setCell ⟨w.heap.size,0,none⟩ (.pointer a1')).setCell ⟨w.heap.size,1,none⟩ (.pointer a2')).drew=wf at*;have c0:wf.cell? ⟨w.heap.size,0,none⟩=some (.pointer a1'):=c2.cell 0;have c1:wf.cell? ⟨w.heap.size,1,none⟩=some (.pointer a2'):=c2.cell 1;exact bodyPost_ret (v:=.tuple #[.bool (decide (l=1)),.agg #[.pointer a1',.pointer a2'],.int .i64 (0)]) (by simp[results,results174,go_sem,c0,c1]) rfl hend
   ·by_cases k2:k=2
    ·subst k2;have hrb0:fu M F L s p=am (dW F) (fun x=>aR (l,L,some x)) s q:=by rw[HRB.out,if_neg k0,if_neg k1,if_pos rfl]
     have HRB0:=qhz hrb0;have hst:=qd HS2.out (HM2.out.keep HG.out) (F:=F) (by have:=HADV.out;have:=HFU.out;omega);have HST:=qhz hst;have d0:(((2:Nat):Int)==0)=false:=by decide
     have d1:(((2:Nat):Int)==1)=false:=by decide
     clear hst hrb0 HRB k0 k1
     go_wp2_with fail
     refine HST.out.mono ?_;intro e w2 hgot;obtain⟨x1,x2,er,he,hMv,hIX⟩:=hgot.pt;subst he;have hI2:=HI2.out.but hMv.but HFT.out;have hI72:=HI7.out.but hMv.but HFT7.out;have g0:w2.cell? ⟨w.heap.size,0,none⟩=some (.pointer none):=hI2.cell 0;have g1:w2.cell? ⟨w.heap.size,1,none⟩=some (.pointer none):=hI2.cell 1;have f0:w2.frozen? ⟨w.heap.size,0,none⟩=false:=hI2.free 0;have f1:w2.frozen? ⟨w.heap.size,1,none⟩=false:=hI2.free 1;have t0:w2.cell? ⟨w1.heap.size,0,none⟩=some (.pointer none):=hI72.cell 0;have t1:w2.cell? ⟨w1.heap.size,1,none⟩=some (.pointer none):=hI72.cell 1;have v0:w2.frozen? ⟨w1.heap.size,0,none⟩=false:=hI72.free 0;have v1:w2.frozen? ⟨w1.heap.size,1,none⟩=false:=hI72.free 1;have hb7:But [w1.heap.size] w2 ((w2.setCell ⟨w1.heap.size,0,none⟩ (.pointer x1)).setCell ⟨w1.heap.size,1,none⟩ (.pointer x2)):=((But.refl [w1.heap.size] w2).setCell (.inl (by simp)) _).setCell (.inl (by simp)) _;have hi7:=hI2.but hb7 (by simp;omega);have hm7:Mv b rb w ((w2.setCell ⟨w1.heap.size,0,none⟩ (.pointer x1)).setCell ⟨w1.heap.size,1,none⟩ (.pointer x2)) og og:=⟨(((HM2.out.trans hMv).but.setCell (.inr (by show w.heap.size≤w1.heap.size;omega)) _).setCell (.inr (by show w.heap.size≤w1.heap.size;omega)) _),(HM2.out.trans hMv).own⟩
     have hFX3:=HFX2.out.mv hMv;have hend1:er≠0→fu M F L s p=.error er:=fun e=>by rw[HRB0.out];exact aB (hIX.1 e)
     have hend2:er=0→∃(q:Nat) (L':List UInt8) (o:Option (List Int×List Int)) (fs' fd':Option Nat),fu M F L s p=.ok ((l,L',o),q)∧SS ((w2.setCell ⟨w1.heap.size,0,none⟩ (.pointer x1)).setCell ⟨w1.heap.size,1,none⟩ (.pointer x2)) b rb db og s q M L' fs' fd'∧FX ((w2.setCell ⟨w1.heap.size,0,none⟩ (.pointer x1)).setCell ⟨w1.heap.size,1,none⟩ (.pointer x2)) (w.heap.size::X++Foot b rb og) fs' fd'∧HasT ((w2.setCell ⟨w1.heap.size,0,none⟩ (.pointer x1)).setCell ⟨w1.heap.size,1,none⟩ (.pointer x2)) (w.heap.size::X++Foot b rb og) x1 x2 o:=fun e=>by
      obtain⟨q2,l2,d2,r1,r2,r3⟩:=hIX.2 e;refine⟨q2,L,some (l2,d2),fs,fd,by rw[HRB0.out];exact ae r1,r2.away hb7 (fun k hk=>?_),hFX3.step (hb7.more (by simp)) (fun i hi=>.inl (List.mem_cons_of_mem _ hi)),(r3 ((w1.heap.size::w.heap.size::X)++Foot b rb og) (fun k hk=>?_)).step (hb7.more (by simp)) (fun i hi=>.inl (List.mem_cons_of_mem _ hi))⟩
      ·have hk':k=w1.heap.size:=by simpa using hk
       subst hk';have:=HFL.out b (by simp[Foot]);exact⟨HFT7.out,by omega⟩
      ·rcases List.mem_append.1 hk with hk|hk
       ·exact HXL.out k hk
       ·have:=HFL.out k hk;rw[World.size_alloc];omega
     have HI3:=qhz hi7;have HM3:=qhz hm7;have HEND1:=qhz hend1;have HEND2:=qhz hend2;clear hMv hI2 hI72 hFX3 hend1 hend2 HST HRB0 hb7 hi7 hm7 hIX hgot;go_wp2
     go_region
     all_goals
      go_wp2;have hend:=yn (X:=X) (s:=s) (M:=M) (r:=fu M F L s p) (l:=l) (er:=er) (p1:=x1) (p2:=x2) HFL.out hdb HM3.out HI3.out (by decide) hl2 (fun e=>HEND1.out e) (fun e=>HEND2.out e);have c:=ij (p1:=.pointer x1) (p2:=.pointer x2) HI3.out;have c2:=c.1.drew;generalize((((w2.setCell ⟨w1.heap.size,0,none⟩ (.pointer x1)).setCell ⟨w1.heap.size,1,none⟩ (.pointer x2)).setCell ⟨w.heap.size,0,none⟩ (.pointer x1)).setCell ⟨w.heap.size,1,none⟩ (.pointer x2)).drew=wf at*;have c0:wf.cell? ⟨w.heap.size,0,none⟩=some (.pointer x1):=c2.cell 0;have c1:wf.cell? ⟨w.heap.size,1,none⟩=some (.pointer x2):=c2.cell 1;exact bodyPost_ret (v:=.tuple #[.bool (decide (l=1)),.agg #[.pointer x1,.pointer x2],.int .i64 (er)]) (by simp[results,results174,go_sem,c0,c1]) rfl hend
    ·obtain rfl:k=3:=by omega
     have hrb0:fu M F L s p=.error 13:=by rw[HRB.out,if_neg k0,if_neg k1,if_neg k2];rfl
     have HRB0:=qhz hrb0;have d0:(((3:Nat):Int)==0)=false:=by decide
     have d1:(((3:Nat):Int)==1)=false:=by decide
     have d2:(((3:Nat):Int)==2)=false:=by decide
     have hI2:=HI2.out;have hI72:=HI7.out;have hmf:Mv b rb w ((w1.alloc (.cells #[.pointer none,.pointer none] 167))) og og:=HM2.out;have HI3:=qhz hI2;have HM3:=qhz hmf;clear hrb0 HRB k0 k1 k2 hmf HFX2 HXL HS2 HM2 HI2 HI7;go_wp2;generalize(w1.alloc (.cells #[.pointer none,.pointer none] 167))=w2 at*;have g0:w2.cell? ⟨w.heap.size,0,none⟩=some (.pointer none):=hI2.cell 0;have g1:w2.cell? ⟨w.heap.size,1,none⟩=some (.pointer none):=hI2.cell 1;have f0:w2.frozen? ⟨w.heap.size,0,none⟩=false:=hI2.free 0;have f1:w2.frozen? ⟨w.heap.size,1,none⟩=false:=hI2.free 1;have t0:w2.cell? ⟨w1.heap.size,0,none⟩=some (.pointer none):=hI72.cell 0;have t1:w2.cell? ⟨w1.heap.size,1,none⟩=some (.pointer none):=hI72.cell 1;clear hI2 hI72
     go_region
     all_goals
      go_wp2;have hend:=yn (X:=X) (s:=s) (M:=M) (r:=fu M F L s p) (l:=l) (er:=13) (p1:=none) (p2:=none) HFL.out hdb HM3.out HI3.out (by decide) hl2 (fun _=>HRB0.out) (fun e=>absurd e (by decide));have c:=ij (p1:=.pointer none) (p2:=.pointer none) HI3.out;have c2:=c.1.drew;generalize((w2.setCell ⟨w.heap.size,0,none⟩ (.pointer none)).setCell ⟨w.heap.size,1,none⟩ (.pointer none)).drew=wf at*;have c0:wf.cell? ⟨w.heap.size,0,none⟩=some (.pointer none):=c2.cell 0;have c1:wf.cell? ⟨w.heap.size,1,none⟩=some (.pointer none):=c2.cell 1;exact bodyPost_ret (v:=.tuple #[.bool (decide (l=1)),.agg #[.pointer none,.pointer none],.int .i64 (13)]) (by simp[results,results174,go_sem,c0,c1]) rfl hend
 ·have d2:(er !=0)=true:=by simpa using her
  have HER:=qhz her;clear her;go_wp2;have c:=ij (p1:=.pointer none) (p2:=.pointer none) HI1.out;have hm:Mv b rb w ((w1.setCell ⟨w.heap.size,0,none⟩ (.pointer none)).setCell ⟨w.heap.size,1,none⟩ (.pointer none)) og og:=⟨(HMW.out.but.setCell (.inr (Nat.le_refl _)) _).setCell (.inr (Nat.le_refl _)) _,HMW.out.own⟩
  generalize((w1.setCell ⟨w.heap.size,0,none⟩ (.pointer none)).setCell ⟨w.heap.size,1,none⟩ (.pointer none))=wf at*;have c0:wf.cell? ⟨w.heap.size,0,none⟩=some (.pointer none):=c.1.cell 0;have c1:wf.cell? ⟨w.heap.size,1,none⟩=some (.pointer none):=c.1.cell 1;refine bodyPost_ret (v:=.tuple #[false,.agg #[.pointer none,.pointer none],er]) (by simp[results,results174,go_sem,c0,c1]) rfl ?_;exact⟨0,none,none,er,og,rfl,hm,fun _=>aB (HE1.out HER.out),fun e=>absurd e HER.out⟩
end
end
section
section
variable {w w':World} {b rb db:Nat} {og:Option Nat} {s:ByteArray} {p:Nat} {M:Int} {L:List UInt8} {fs fd:Option Nat}
theorem wZ{d:List Int}{bd:Nat}{x:Option Addr}{tv:Value}(h:SS w b rb db og s p M L fs fd)(hc:chk d=0)(hT:Keep (Foot b rb og) w fun w'=>TT w' bd d)(t:Nat)(ht:256<t)
 (htv:tv=.agg #[.pointer x,.pointer bd]):
 Calls prog 176 #[.pointer b,t,tv] w (GotE w b rb db og s M fs fd (qR d M t L s p)):=by
 subst htv;have hr:qR d M t L s p=om d M t L s p:=by unfold qR;rw[if_pos ht]
 have h1:=h.alloc (.cells #[.pointer x,.pointer bd] 167);have m1:=Mv.alloc (b:=b) (rb:=rb) (w:=w) (og:=og) (.cells #[.pointer x,.pointer bd] 167);have hm:=KK h1 hc (m1.keep hT) t ht (x:=x) rfl;have d1:decide ((256:Int)<(t:Int))=true:=by simp;omega
 have HM:=qhz hm;have HR:=qhz hr;have HM1:=qhz m1;clear h h1 m1 hm hr hc hT ht
 go_enter func176,ntmps176
 go_wp2_with fail
 refine HM.out.mono ?_;rintro e w2 ⟨er,L',q,og',rfl,hMv,he1,he2⟩;have HMV:=qhz hMv;have HE1:=qhz he1;have HE2:=qhz he2;clear hMv he1 he2;go_wp2;go_ret;exact⟨er,L',q,og',rfl,HM1.out.trans HMV.out,fun e=>by rw[HR.out];exact HE1.out e,fun e=>by rw[HR.out];exact HE2.out e⟩
theorem BR{d:List Int}{bd:Nat}{x:Option Addr}(h:SS w b rb db og s p M L fs fd)(hc:chk d=0)(hT:Keep (Foot b rb og) w fun w'=>TT w' bd d)(t:Nat)(ht:t≠256):
 Calls prog 176 #[.pointer b,t,.agg #[.pointer x,.pointer bd]] w (GotE w b rb db og s M fs fd (qR d M t L s p)):=by
 by_cases h1:256<t
 ·exact wZ h hc hT t h1 rfl
 ·exact BQ h t (by omega) rfl
theorem Mv.notin{og':Option Nat}{r:Nat}(h:Mv b rb w w' og og')(hn:r∉Foot b rb og)(hr:r<w.heap.size):r∉Foot b rb og':=fun hk=>by
 rcases h.foot r hk with e|e
 ·exact hn e
 ·omega
def PL(M:Int)(F f:Nat)(s:ByteArray)(R:Except Int (List UInt8×Nat))(l:Nat)(L:List UInt8)(q:Nat):Prop:=
 (l=1∧R=.ok (L,q))∨(l=0∧blkG M F f L s q=R∧8*s.size-q<f)
theorem uj{F f l q:Nat}{R:Except Int (List UInt8×Nat)}(hl:l<2)(h:(if l≠0 then aR L else blkG M F f L) s q=R)(hq:8*s.size-q<f):PL M F f s R l L q:=by
 by_cases h0:l=0
 ·subst h0;rw[if_neg (by decide)]at h;exact .inr ⟨rfl,h,hq⟩
 ·rw[if_pos h0]at h;exact .inl ⟨by omega,h.symm⟩
theorem FI(M:Int)(F:Nat)(L:List UInt8){s:ByteArray}{p q:Nat}{x:Nat×List UInt8×Option (List Int×List Int)}(hp:p≤8*s.size)(h:fu M F L s p=.ok (x,q)):p<q∧q≤8*s.size:=by
 unfold fu at h;obtain⟨⟨v,q1⟩,h1,h2⟩:=fY h;have hb:q1=p+3∧q1≤8*s.size:=by
  rw[cx (by omega)]at h1;split at h1
  ·cases h1
  ·injection h1 with h1;injection h1 with _ h1;omega
 have hst:Adv (fq M L):=Adv.bind (gV 2) fun a=>Adv.bind (gV 2) fun b=>Adv.when (Adv.bind (gV _) fun x=>Adv.when (Adv.pure _));have hdy:Adv (dW F):=by
  unfold dW dD;exact Adv.bind (bV 14) fun v=>Adv.bind (uZ _) fun sm=>Adv.bind (rq _ _ _ _) fun ls=>Adv.when (Adv.when (Adv.pure _))
 have key:Adv (if v/2=0 then am (fq M L) fun L'=>aR (v%2,L',none)else if v/2=1 then aR (v%2,L,some (fixL,fixD))else if v/2=2 then am (dW F) fun x=>aR (v%2,L,some x)else(mp 13:Rd (Nat×List UInt8×Option (List Int×List Int)))):=
  Adv.ite (Adv.bind hst fun _=>Adv.pure _) (Adv.ite (Adv.pure _) (Adv.ite (Adv.bind hdy fun _=>Adv.pure _) (Adv.fail 13)))
 have:=key s q1 x q hb.2 h2;omega
theorem JO(d:List Int)(M:Int)(t:Nat)(L:List UInt8):Adv (qR d M t L):=by
 unfold qR om rLen rDst;exact Adv.ite (Adv.bind (Adv.when (Adv.bind (bV _) fun _=>Adv.pure _)) fun _=>Adv.bind (Adv.bind (oh d) fun _=>Adv.when (Adv.bind (bV _) fun _=>Adv.pure _)) fun _=>Adv.when (Adv.when (Adv.pure _))) (Adv.when (Adv.pure _))
def Sk(w:World)(b rb db:Nat)(og:Option Nat)(s:ByteArray)(M:Int)(r:Except Int (List UInt8×Nat))(e:Ending)(w':World):Prop:=
 ∃(er:Int) (og':Option Nat),e=.returned (.int .i64 er)∧Mv b rb w w' og og'∧(er≠0→r=.error er)∧(er=0→∃L' q fs' fd',r=.ok (L',q)∧SS w' b rb db og' s q M L' fs' fd')
theorem Hs(h:SS w b rb db og s p M L fs fd)(hG:Keep (Foot b rb og) w GL)(hF:FX w (Foot b rb og) fs fd){F f0:Nat}(hFu:8*s.size<F)(hf0:8*s.size-p<f0):
 Calls prog 140 #[.pointer b] w (Sk w b rb db og s M (blkG M F f0 L s p)):=by
 obtain⟨R,hR⟩:=E1 (blkG M F f0 L s p);rw[←hR];have HS:=qhz h;have HG:=qhz hG;have HFX:=qhz hF;have HR:=qhz hR;have HF0:=qhz hf0;have HFU:=qhz hFu;clear h hG hF hR hf0 hFu
 go_enter func140,ntmps140
 go_wp2
 go_step3
 go_wp2
 go_step3
 go_wp2
 go_loopg [3,4] f0 (fun f ev lv wr=>∃(l:Nat) (L1:List UInt8) (q:Nat) (og1 fs1 fd1:Option Nat),ev=.int .i64 0∧lv=.bool (decide (l=1))∧SS wr b rb db og1 s q M L1 fs1 fd1∧Mv b rb w wr og og1∧FX wr (Foot b rb og1) fs1 fd1∧PL M F f s R l L1 q)
 case atStart=>exact⟨0,L,p,og,fs,fd,rfl,rfl,HS.out,Mv.refl _ _ _ _,HFX.out,.inr ⟨rfl,HR.out.symm,HF0.out⟩⟩
 case round=>
  obtain⟨l,L1,q,og1,fs1,fd1,rfl,rfl,hS,hMv,hF,hB⟩:=hrel;have HMV:=qhz hMv
  by_cases hl:l=1
  ·subst hl;have hR:R=.ok (L1,q):=by
    rcases hB with h|h
    ·exact h.2
    ·exact absurd h.1 (by decide)
   have HRR:=qhz hR;have HS1:=qhz hS;clear hR hS hB hF hMv HS HFX;go_wp2
   try rw[Exit.noGoto_ret]
   go_ret;exact⟨0,og1,rfl,HMV.out,fun e=>absurd rfl e,fun _=>⟨L1,q,fs1,fd1,HRR.out,HS1.out⟩⟩
  ·have hl0:decide (l=1)=false:=by simpa using hl
   obtain⟨hl00,hR,hf⟩:l=0∧blkG M F gk L1 s q=R∧8*s.size-q<gk:=by
    rcases hB with h|h
    ·exact absurd h.1 hl
    ·exact h
   obtain⟨f,rfl⟩:∃f,gk=f+1:=⟨gk-1,by omega⟩
   obtain⟨wo,rfl⟩:=E1 (wr:World);have h1:=hS.alloc (.cells #[.pointer none,.pointer none] 167);have m1:=Mv.alloc (b:=b) (rb:=rb) (w:=wo) (og:=og1) (.cells #[.pointer none,.pointer none] 167);have hI:=Is.fresh wo 167 #[.pointer none,.pointer none];have hft:=tI hS;have hq8:=hS.rs.1;have hFX0:FX (wo.alloc (.cells #[.pointer none,.pointer none] 167)) ([wo.heap.size]++Foot b rb og1) fs1 fd1:=hF.step ((dZ wo _).more (by simp)) (fun i hi=>by
    rcases List.mem_cons.1 hi with e|e
    ·right;omega
    ·exact .inl e)
   have hbg:=MD (X:=[wo.heap.size]) h1 ((HMV.out.trans m1).keep HG.out) (fun k hk=>by simp at hk;rw[World.size_alloc];omega) hFX0 (F:=F) (by have:=HFU.out;omega);have hbl:=Mq M F f L1;have hwr:=hMv.but.size;have hdb:=hS.hd;have hfl:=tJ hS;have HBG:=qhz hbg;have HBL:=qhz hbl;have HI:=qhz hI;have HFT:=qhz hft;have HQ8:=qhz hq8;have HM1:=qhz (HMV.out.trans m1);have HRR:=qhz hR;have HFF:=qhz hf;have HFL:=qhz hfl;clear h1 m1 hI hft hFX0 hbg hbl hR hf hS hB hF hMv HS HFX hl00 hq8 hfl
   go_wp2_with fail
   refine HBG.out.mono ?_;rintro e w2 ⟨l2,p1,p2,er,og2,rfl,hMv,he1,he2⟩;have hI2:=HI.out.but hMv.but HFT.out;have t0:w2.cell? ⟨wo.heap.size,0,none⟩=some (.pointer none):=hI2.cell 0;have t1:w2.cell? ⟨wo.heap.size,1,none⟩=some (.pointer none):=hI2.cell 1;have v0:w2.frozen? ⟨wo.heap.size,0,none⟩=false:=hI2.free 0;have v1:w2.frozen? ⟨wo.heap.size,1,none⟩=false:=hI2.free 1;have hns:=hMv.notin HFT.out (by rw[World.size_alloc];omega);have HM2:=qhz (HM1.out.trans hMv);have HE1:=qhz he1;have HE2:=qhz he2;have HI2:=qhz hI2;have HNS:=qhz hns;clear hMv he1 he2 hI2 hns HBG
   by_cases her:er=0
   ·obtain⟨q2,L2,o,fs2,fd2,hr,hl2,hS2,hF2,hT2⟩:=HE2.out her;have hadv:=FI M F L1 HQ8.out hr;have hR2:blkN M F f (l2,L2,o) s q2=R:=by
     rw[←HRR.out,HBL.out];exact(ae hr).symm
    have HR2:=qhz hR2;have HADV:=qhz hadv;have HS2:=qhz hS2;have HF2:=qhz hF2;have HT2:=qhz hT2;clear hR2 hadv hS2 hF2 hT2 hr HE1 HE2 HRR;subst her;have c:=ij (p1:=.pointer p1) (p2:=.pointer p2) HI2.out;have s3:=HS2.out.away c.2 (fun k hk=>by
     obtain rfl:k=wo.heap.size:=by simpa using hk
     have:=HFL.out b (by simp[Foot]);exact⟨HNS.out,by omega⟩)
    have f3:=HF2.out.step (F':=Foot b rb og2) (c.2.more (by simp)) (fun i hi=>.inl (List.mem_append_right _ hi));have k3:=HT2.out.step (F':=Foot b rb og2) (c.2.more (by simp)) (fun i hi=>.inl (List.mem_append_right _ hi));have m3:Mv b rb w ((w2.setCell ⟨wo.heap.size,0,none⟩ (.pointer p1)).setCell ⟨wo.heap.size,1,none⟩ (.pointer p2)) og og2:=⟨(HM2.out.but.setCell (.inr hwr) _).setCell (.inr hwr) _,HM2.out.own⟩
    have HI3:=qhz c.1;have HS3:=qhz s3;have HF3:=qhz f3;have HK3:=qhz k3;have HM3:=qhz m3;clear c s3 f3 k3 m3 HS2 HF2 HT2 HM1 HI HFT HM2 HI2 HMV
    go_wp2_with fail
    generalize((w2.setCell ⟨wo.heap.size,0,none⟩ (.pointer p1)).setCell ⟨wo.heap.size,1,none⟩ (.pointer p2))=w3 at*;clear t0 t1 v0 v1;rcases o with _|⟨ls,ds⟩
    ·obtain⟨rfl,rfl⟩:=HK3.out;have t0:w3.cell? ⟨wo.heap.size,0,none⟩=some (.pointer none):=HI3.out.cell 0
     go_loopg [3,6] 0 (fun g ev _ wr=>ev=.int .i64 0∧wr=w3)
     case atStart=>exact⟨rfl,rfl⟩
     case round=>
      obtain⟨rfl,rfl⟩:=hrel;go_wp2
      go_roundg f
      case measure=>omega
      case rel=>exact⟨l2,L2,q2,og2,fs2,fd2,rfl,rfl,HS3.out,HM3.out,HF3.out,uj hl2 HR2.out (by have:=HADV.out;have:=HFF.out;omega)⟩
    ·obtain⟨hc1,hc2,b1,b2,rfl,rfl,hk1,hk2⟩:=HK3.out;obtain⟨R2,hR2e⟩:=E1 (symG ls ds M F L2 s q2);have hRb:am (symG ls ds M F L2) (fun L2=>if l2≠0 then aR L2 else blkG M F f L2) s q2=R:=HR2.out;have hRe:∀e,R2=.error e→R=.error e:=fun e he=>by
      have k:symG ls ds M F L2 s q2=.error e:=hR2e.symm.trans he;rw[←hRb];exact aB k
     have hRk:∀a q,R2=.ok (a,q)→(if l2≠0 then aR a else blkG M F f a) s q=R:=fun a q he=>by
      have k:symG ls ds M F L2 s q2=.ok (a,q):=hR2e.symm.trans he;rw[←hRb,ae k]
     have HRE:=qhz hRe;have HRK:=qhz hRk;have hst:symG ls ds M F L2 s q2=R2∧8*s.size-q2<F:=⟨hR2e.symm,by have:=HFU.out;omega⟩
     have hq2:=HADV.out;have HST:=qhz hst;have HQ2:=qhz hq2;have HC1:=qhz hc1;have HC2:=qhz hc2;have HK1:=qhz hk1;have HK2:=qhz hk2;clear hR2e hRb hRe hRk hst hc1 hc2 hk1 hk2 HK3 HR2 hq2
     go_loopg [3,6] F (fun g ev _ wr=>∃(L3:List UInt8) (q3:Nat) (og3:Option Nat),ev=.int .i64 0∧SS wr b rb db og3 s q3 M L3 fs2 fd2∧Mv b rb w wr og og3∧FX wr (Foot b rb og3) fs2 fd2∧
      Keep (Foot b rb og3) wr (fun x=>TT x b1 ls)∧Keep (Foot b rb og3) wr (fun x=>TT x b2 ds)∧Is wr wo.heap.size 167 #[.pointer b1,.pointer b2]∧wo.heap.size∉Foot b rb og3∧Hid (symG ls ds M g L3 s q3=R2∧8*s.size-q3<g)∧q2≤q3)
     case atStart=>exact⟨L2,q2,og2,rfl,HS3.out,HM3.out,HF3.out,HK1.out,HK2.out,HI3.out,HNS.out,HST.out,Nat.le_refl _⟩
     case round=>
      obtain⟨L3,q3,og3,rfl,hS,hMv,hF,hk1,hk2,hI,hns,HG3,hq23⟩:=hrel;obtain⟨g,hge⟩:∃g,gk=g+1:=⟨gk-1,by have:=HG3.out.2;omega⟩
      subst hge;obtain⟨wi,rfl⟩:=E1 (wr:World);have t0:wi.cell? ⟨wo.heap.size,0,none⟩=some (.pointer b1):=hI.cell 0;have t1:wi.cell? ⟨wo.heap.size,1,none⟩=some (.pointer b2):=hI.cell 1;have hin:=hS.inCell;have hnx:=hS.drew.next HC1.out (Mv.drew.keep hk1);have hq8:=hS.rs.1;have HNX:=qhz hnx;have HMI:=qhz hMv;have HFI:=qhz hF;have HKI1:=qhz hk1;have HKI2:=qhz hk2;have HII:=qhz hI;have HNI:=qhz hns;have HQ83:=qhz hq8;have hrl:=hI.lt;clear hnx hMv hF hk1 hk2 hI hns hS HS3 HM3 HF3 HK1 HK2 HI3 HST hq8
      go_upto_region 9 with(fail)
      go_cut [3,6]from 17 to 39 (fun v3 v6 wc=>∃(t:Nat) (er:Int) (q:Nat),v6=.int .i64 t∧v3=.int .i64 er∧Hid (Mv b rb wi wc og3 og3)∧Hid (er≠0→fm ls s q3=.error er)∧Hid (er=0→fm ls s q3=.ok (t,q)∧SS wc b rb db og3 s q M L3 fs2 fd2))
      case first=>
       have t0':wi.drew.cell? ⟨wo.heap.size,0,none⟩=some (.pointer b1):=t0;have hin':wi.drew.cell? ⟨b,0,none⟩=some (.pointer rb):=hin
       go_region_with (go_at_call 175;refine HNX.out.mono ?_;rintro e w4 ⟨v,er,q,rfl,hMv,he1,he2⟩;have HMV:=qhz hMv;have HE1:=qhz he1;have HE2:=qhz he2;clear hMv he1 he2)
       all_goals
        (try go_wp2)
        go_meet
        exact⟨_,_,_,rfl,rfl,Mv.drew.trans HMV.out,HE1.out,HE2.out⟩
      case rest=>
       obtain⟨t,er,q4,rfl,rfl,HMV,HE1,HE2⟩:=hcut;obtain⟨w4,rfl⟩:=E1 (wc:World);clear HNX hin t0 t1;have hst:=Na ls ds M g L3;have HSTEP:=qhz hst;clear hst
       by_cases her:er=0
       ·obtain⟨hr,hS4⟩:=HE2.out her;have hadv:=pK ls HQ83.out hr;have HRN:=qhz hr;have HS4:=qhz hS4;have HADV4:=qhz hadv;clear hr hS4 hadv HE1 HE2;subst her
        by_cases ht:t=256
        ·subst ht;have hR2k:R2=.ok (L3,q4):=by
          rw[←HG3.out.1,HSTEP.out,ae HRN.out];rfl
         have HR2K:=qhz hR2k;clear hR2k;go_wp2
         go_roundg f
         case measure=>omega
         case rel=>
          exact⟨l2,L3,q4,og3,fs2,fd2,rfl,rfl,HS4.out,HMI.out.trans HMV.out,HFI.out.mv (X:=[]) HMV.out,uj hl2 (HRK.out _ _ HR2K.out) (by have:=HADV.out;have:=HFF.out;have:=HADV4.out;omega)⟩
        ·have d256:((t:Int)==256)=false:=by simp;omega
         have hI4:=HII.out.but HMV.out.but HNI.out;have t0:w4.cell? ⟨wo.heap.size,0,none⟩=some (.pointer b1):=hI4.cell 0;have t1:w4.cell? ⟨wo.heap.size,1,none⟩=some (.pointer b2):=hI4.cell 1;have hpr:=BR (x:=some ⟨b1,0,none⟩) HS4.out HC2.out (HMV.out.keep HKI2.out) t ht;have HPR:=qhz hpr;have HI4:=qhz hI4;have hrl4:=hI4.lt;have hg1:symG ls ds M (g+1) L3 s q3=am (qR ds M t L3) (symG ls ds M g) s q4:=by
          rw[HSTEP.out,ae HRN.out,if_neg ht]
         have HG1:=qhz hg1;clear hpr hI4 hg1 ht
         go_wp2_with fail
         refine HPR.out.mono ?_;rintro e w5 ⟨er,L5,q5,og5,rfl,hMv5,he1,he2⟩;have HM5:=qhz hMv5;have HE1:=qhz he1;have HE2:=qhz he2;clear hMv5 he1 he2 t0 t1
         by_cases her:er=0
         ·obtain⟨hr5,hS5⟩:=HE2.out her;have hpa:=JO ds M t L3 s q4 L5 q5 HADV4.out.2 hr5;have hg5:symG ls ds M g L5 s q5=R2:=by
           rw[←HG3.out.1,HG1.out];exact(ae hr5).symm
          have HG5:=qhz hg5;have HPA:=qhz hpa;have HS5:=qhz hS5;clear hr5 hS5 hpa hg5 HE1 HE2;subst her;go_wp2
          go_roundg g
          case measure=>omega
          case rel=>
           have m5:=HMV.out.trans HM5.out;refine⟨L5,q5,og5,rfl,HS5.out,HMI.out.trans m5,HFI.out.mv (X:=[]) m5,m5.keep HKI1.out,m5.keep HKI2.out,HI4.out.but HM5.out.but (HMV.out.notin HNI.out hrl),m5.notin HNI.out hrl,⟨HG5.out,?_⟩,?_⟩
           ·have:=HG3.out.2;have:=HADV4.out;have:=HPA.out;omega
           ·have:=HADV4.out;have:=HPA.out;omega
         ·have d2:(er !=0)=true:=by simpa using her
          have HER:=qhz her;have hR2k:R2=.error er:=by
           rw[←HG3.out.1,HG1.out];exact aB (HE1.out her)
          have HR2K:=qhz hR2k;clear her hR2k;go_wp2
          try rw[Exit.noGoto_ret]
          go_ret;exact⟨er,og5,rfl,HMI.out.trans (HMV.out.trans HM5.out),fun _=>HRE.out _ HR2K.out,fun e=>absurd e HER.out⟩
       ·have d2:(er !=0)=true:=by simpa using her
        have HER:=qhz her;have hR2k:R2=.error er:=by
         rw[←HG3.out.1,HSTEP.out];exact aB (HE1.out her)
        have HR2K:=qhz hR2k;clear her hR2k;go_wp2
        try rw[Exit.noGoto_ret]
        go_ret;exact⟨er,og3,rfl,HMI.out.trans HMV.out,fun _=>HRE.out _ HR2K.out,fun e=>absurd e HER.out⟩
   ·have d2:(er !=0)=true:=by simpa using her
    have HER:=qhz her;clear her;go_wp2
    try rw[Exit.noGoto_ret]
    go_ret;refine⟨er,og2,rfl,⟨(HM2.out.but.setCell (.inr hwr) _).setCell (.inr hwr) _,HM2.out.own⟩,fun _=>?_,fun e=>absurd e HER.out⟩;rw[←HRR.out,HBL.out];exact aB (HE1.out HER.out)
end
end
section
section
variable {w:World}
def tell(r:List UInt8×Nat×Int):Ending:=.returned (.tuple #[.string ⟨r.1.toArray⟩,r.2.1,r.2.2])
theorem CB(s:ByteArray)(M:Int)(hs:s.size≤140737489403904)(hM:M≤1099511627776)(hG:GL w):
 Calls prog 90 #[s,M] w fun e w'=>e=tell (gy s M)∧But [] w w':=by
 go_enter func90,ntmps90
 go_wp2_with fail
 refine(Mu _ _).mono ?_;rintro e w1 ⟨rfl,hR,hB1,hs1⟩;have hb:w1.heap.size=w.heap.size+2:=hs1;have hI:=Is.fresh w1 169 #[.pointer (some ⟨w.heap.size+1,0,none⟩),.slice none 0 0,M,.pointer none,.pointer none];rw[hb]at hI;have hBa:=hB1.alloc (.cells #[.pointer (some ⟨w.heap.size+1,0,none⟩),.slice none 0 0,M,.pointer none,.pointer none] 169);have hS:SS (w1.alloc (.cells #[.pointer (some ⟨w.heap.size+1,0,none⟩),.slice none 0 0,M,.pointer none,.pointer none] 169)) (w.heap.size+2) (w.heap.size+1) w.heap.size none s 0 M [] none none:=
  ⟨hR.but (dZ w1 _) (by simp) (by simp),by omega,by omega,hs,hM,by simp;omega,.slice none 0 0,hI,World.ownsRow_nil _ _ _ _,rfl⟩
 have hKG:Keep (Foot (w.heap.size+2) (w.heap.size+1) none) (w1.alloc (.cells #[.pointer (some ⟨w.heap.size+1,0,none⟩),.slice none 0 0,M,.pointer none,.pointer none] 169)) GL:=
  (show Keep [] w GL from fun w' hw=>hG.but hw).step hBa (fun i hi=>by
   unfold Foot at hi;simp at hi;right;omega)
 have hbk:=Hs (F:=8*s.size+1) (f0:=8*s.size+1) hS hKG (.inl ⟨rfl,rfl⟩) (by omega) (by omega);have HBK:=qhz hbk;have HBA:=qhz hBa;have hfr:∀i∈Foot (w.heap.size+2) (w.heap.size+1) none,w.heap.size≤i:=fun i hi=>by
  unfold Foot at hi;simp at hi;omega
 have HFR:=qhz hfr;clear hR hB1 hI hBa hS hKG hbk hG hs1 hfr
 go_wp2_with fail
 refine HBK.out.mono ?_;rintro e w2 ⟨er,og2,rfl,hMv,he1,he2⟩;have hBf:=HBA.out.fresh hMv.but HFR.out;have HBF:=qhz hBf;have HE1:=qhz he1;have HE2:=qhz he2;clear hMv he1 he2 hBf HBK HBA
 by_cases her:er=0
 ·obtain⟨L,q,fs,fd,hr,hS⟩:=HE2.out her;obtain⟨A,c,hi,hown,_⟩:=hS.at;have k0:w2.cell? ⟨w.heap.size+2,0,none⟩=some (.pointer (some ⟨w.heap.size+1,0,none⟩)):=hi.cell 0;have k1:w2.cell? ⟨w.heap.size+2,1,none⟩=some (.slice A L.length c):=hi.cell 1;have hcv:∀n,(convert 47 9 (.slice A L.length c)).run prog (w2.drewN n)=.ok (.string ⟨L.toArray⟩) (w2.drewN n):=fun n=>ox (aU hown ((But.refl [] w2).drewN n) (by simp));have hlf:=fun n=>(hS.drewN n).rs.left_w (by omega);have hq8:=hS.rs.1;obtain⟨x,hx⟩:∃x,x=8*s.size-q:=⟨_,rfl⟩
  rw[←hx]at hlf;obtain⟨y,hy⟩:=E1 (x/8);obtain⟨z,hz⟩:=E1 ((q+7)/8);have a1:(x:Int)/8=(y:Int):=by omega
  have a2:IntKind.i64.wrap (y:Int)=(y:Int):=IntWalk.i64_in _ (by omega);have a3:(s.size:Int)-(y:Int)=(z:Int):=by omega
  have a4:IntKind.i64.wrap (z:Int)=(z:Int):=IntWalk.i64_in _ (by omega);have HR:=qhz hr;have HL:=qhz hlf;have HCV:=qhz hcv;have hcv0:=hcv 0;have HZ:=qhz hz;clear hr hS hi hown hlf hx hy hz hq8 HE1 HE2 hcv hcv0 HFR;subst her;have hcv:=HCV.out;go_wp2
  go_quiet ((go_at_call 141;exact Calls.quiet_of (HL.out _)))
  go_wp2
  go_ret3
  exact⟨by rw[xR HR.out,←HZ.out];rfl,HBF.out.drewN nq⟩
 ·have d2:(er !=0)=true:=by simpa using her
  have HER:=qhz her;clear her;go_wp2
  go_ret3
  exact⟨by rw[Ai (HE1.out HER.out)];rfl,HBF.out⟩
end
end
end Go.Proofs.YtbanopnofpjnbaaGreatDoor
