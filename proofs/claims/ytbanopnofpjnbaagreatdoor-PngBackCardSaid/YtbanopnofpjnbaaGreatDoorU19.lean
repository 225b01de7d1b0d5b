/- Own texts in one: DgC, DgD, DgK, DgL, DgM, DgE. -/
import Derived.Test.YtbanopnofpjnbaaGreatDoorU17
set_option maxRecDepth 1000000
set_option linter.unusedVariables false
set_option maxHeartbeats 4000000
namespace Go.Proofs.YtbanopnofpjnbaaGreatDoor
open Go Go.RowKit Tryz
section
theorem zY(q:Nat×Nat):layB q 0 0=q:=by
 rw[bX (by omega) (by decide)];simp
attribute [local irreducible] bC layC layB fixL fixD toks aI
section
variable {w w1 w2 w':World} {lo b:Nat} {og:Option Nat} {r:Nat×Nat}
theorem ve{l d:List Int}{n c nl nd cl cd:Nat}{A Al Ad:Option Addr}{ts:List Tk}(hL:Keep (b::og.toList) w fun w'=>Ints w' Al nl l)(hD:Keep (b::og.toList) w fun w'=>Ints w' Ad nd d)(hK:Keep (b::og.toList) w fun w'=>Tks w' A n (ts.map tkI))
 (hcl:chk l=0) (hcd:chk d=0) (hnl:nl≤300) (hnd:nd≤300) (hn1:Al=none→cl=0) (hn2:Ad=none→cd=0) (hh:∀t∈ts,iC l d t) (h256:has l (256:Nat)) (hn:n≤1000000) (hW:WroteP w w1 lo b og r) (hlo:lo≤w.heap.size) (hN:r.2≤100000):
 Calls prog 163 #[.pointer b,.slice A n c,.slice Al nl cl,.slice Ad nd cd] w1 fun e w'=>e=.returned (.tuple #[])∧WroteP w w' lo b og (layC l (bC l d r ts) 256):=by
 have hlen:ts.length=n:=by
  have:=(hK.now).1
  rwa [List.length_map]at this
 have HLN:=qhz hlen;have HK:=qhz hK;have HH:=qhz hh;have HW:=qhz hW;have hL1:=hW.keep hL;have hm1:=lW (cap:=cl) hL1 (by omega) hn1 hcl;have HM1:=qhz hm1;have HD:=qhz hD;have HL15:=qhz (okl hcl);have HD15:=qhz (okl hcd);have H256:=qhz h256;have HCD:=qhz hcd;have HN2:=qhz hn2;clear hlen hL hD hK hh hW hL1 hm1 h256 hcl hcd hn1 hn2
 go_enter func163,ntmps163
 go_wp2_with fail
 refine HM1.out.mono ?_;rintro e w2 ⟨bt,rfl,hT2,hB2⟩;have hD2:=(HW.out.other hB2).keep HD.out;have hm2:=lW (cap:=cd) hD2 (by omega) HN2.out HCD.out;have HM2:=qhz hm2;have HT2:=qhz hT2;have HB2:=qhz hB2;clear hD2 hm2 hT2 hB2 HM1
 go_wp2_with fail
 refine HM2.out.mono ?_;rintro e w3 ⟨bu,rfl,hT3,hB3⟩;have hB13:=HB2.out.trans hB3;obtain⟨og',hR,hlt,hKp,hback⟩:=HW.out.rebase hB13;have hs12:=HB2.out.size;have hTl:Keep (b::og'.toList) w3 fun w'=>TT w' bt l:=(HT2.out.but hB3 (by simp)).keep fun k hk=>(hlt k hk).1;have hTd:Keep (b::og'.toList) w3 fun w'=>TT w' bu d:=hT3.keep (fun k hk=>Nat.lt_of_lt_of_le (hlt k hk).1 hs12);have hlo3:lo≤w3.heap.size:=Nat.le_trans hlo (Nat.le_trans HW.out.but.size hB13.size);have hK3:=hKp _ HK.out;have HK3:=qhz hK3;have HTL:=qhz hTl;have HTD:=qhz hTd;have HR:=qhz (show WroteP w3 w3 lo b og' (bC l d r (ts.take 0))from by rw[List.take_zero];unfold bC;exact hR);have hr0:(bC l d r (ts.take 0)).2≤100000+60*0:=by rw[List.take_zero];unfold bC;exact hN
 have HBACK:=qhz hback;clear hB13 hR hlt hKp hback hTl hTd hK3 hT3 hB3 HT2 HB2 HM2 HD HK HW hs12;go_wp2
 go_loopw [26] (fun iv wr=>∃k:Nat,k≤n∧iv=.int .i64 k∧Hid (WroteP w3 wr lo b og' (bC l d r (ts.take k)))∧(bC l d r (ts.take k)).2≤100000+60*k) (fun iv _=>n-(intOf iv).toNat)
 case atStart=>exact⟨0,Nat.zero_le _,rfl,HR,hr0⟩
 case round=>
  obtain⟨k,hk,rfl,HP,hb⟩:=hrel;clear HR hr0;obtain⟨q,hq⟩:=E1 (bC l d r (ts.take k));rw[←hq]at HP hb;have HQ:=qhz hq;clear hq
  by_cases hlt:k<n
  ·have hkt:k<ts.length:=by have:=HLN.out;omega
   have hmem:=HH.out _ (List.getElem_mem hkt);have hts:ts.take (k+1)=ts.take k++[ts[k]]:=List.take_succ_eq_append_getElem hkt;have hnx:bC l d r (ts.take (k+1))=layT l d q ts[k]:=by rw[hts,vE,←HQ.out]
   have hfw:=xL HL15.out HD15.out hmem q;obtain⟨g,o,bb,xx,zz,rfl,hg,c0,c1,c2,h1⟩:=(HP.out.keep HK3.out).at hlt;rw[List.getElem?_map,List.getElem?_eq_getElem hkt]at h1;injection h1 with h1;unfold tkI at h1;injection h1 with h2 h3;injection h3 with h3 h4;subst h2 h3 h4;obtain⟨t,ht⟩:=E1 (ts[k]);rw[←ht]at hmem hnx hfw c0 c1 c2;obtain⟨x,z,y⟩:=t;have HNX:=qhz hnx;dsimp only at c0 c1 c2;have k0:(0:Int)≤(k:Int):=by omega
   have k1:(k:Int)<(n:Int):=by omega
   unfold iC at hmem;dsimp only at hmem;obtain⟨wb,hwb⟩:=E1 (wr.alloc (.cells #[y,x,z] 149));have hIb:Is wb wr.heap.size 149 #[y,x,z]:=by rw[hwb];exact Is.fresh wr _ _
   have hBb:But [] wr wb:=by rw[hwb];exact(But.refl [] wr).alloc _
   have HIB:=qhz hIb;have HBB:=qhz hBb;have HWB:=qhz hwb;clear ht hts hnx hwb hIb hBb
   by_cases hx:x=0
   ·rw[if_pos hx]at hmem;have eT:layT l d q (x,z,y)=layC l q y:=by unfold layT;rw[if_pos (show(x,z,y).1=0 from hx)]
    rw[eT]at hfw;have HE:=qhz eT;subst hx;have HWB:Hid (wb=wr.alloc (.cells #[y,(0:Int),z] 149)):=qhz HWB.out;have HIB:Hid (Is wb wr.heap.size 149 #[y,(0:Int),z]):=qhz HIB.out;have HSY:Hid (Calls prog 198 #[.agg #[y,(0:Int),z]] wb (R1z (dJ y 0 0) wb)):=qhz (qv wb y z);clear eT
    go_wp2_with fail
    rw[←HWB.out];refine HSY.out.mono ?_;rintro e wy ⟨rfl,hBy⟩;obtain⟨og2,hR2,hlt2,hKp2,hback2⟩:=HP.out.rebase (HBB.out.trans hBy);have hq1:(layC l q y).2≤100000000:=by omega
    have hcall:=ru (m:=0) (e:=0) (hKp2 _ HTL.out) HL15.out hR2 (Nat.le_trans hlo3 (Nat.le_trans HP.out.but.size (HBB.out.trans hBy).size)) (by omega) hmem.2 hq1;have hIy:=HIB.out.but hBy (by simp);have HCALL:=qhz hcall;have HIY:=qhz hIy;have HLT2:=qhz hlt2;have HBK2:=qhz hback2;clear hBy hR2 hlt2 hKp2 hback2 hcall hIy hq1 HSY;unfold dJ at HCALL⊢
    go_wp2_with fail
    refine HCALL.out.mono ?_;rintro e wz ⟨rfl,hWz⟩;have hIz:=HIY.out.but hWz.but (fun hk=>by have:=(HLT2.out _ hk).1;omega);have cz:=hIz.cell 1;have hz2:layB (layC l q y) 0 0=layC l q y:=zY _;rw[hz2]at hWz;have HWz:=qhz (HBK2.out _ _ hWz);clear hIz hWz hz2 c0 c1 c2;go_wp2
    go_roundw
    case rel=>exact⟨k+1,by omega,by go_num,qhz (by rw[HNX.out,HE.out];exact HWz.out),by rw[HNX.out,HE.out];omega⟩
    case measure=>simp[intOf];omega
   ·rw[if_neg hx]at hmem;obtain⟨a1,a2,a3,a4,a5,a6⟩:=hmem;obtain⟨b1,b2,b3,b4⟩:=eK x (by omega) a1;obtain⟨d1,d2,d3⟩:=eL z (by omega) a3;have f5:=kb (lsym x) (by omega) b1;have f6:=ki (dsym z) (by omega);have f1:=dg HL15.out q (lsym x);have f2:=dh (layC l q (lsym x)) (x-ar (lsym x)) (aq (lsym x));have f3:=dg HD15.out (layB (layC l q (lsym x)) (x-ar (lsym x)) (aq (lsym x))) (dsym z);have eT:layT l d q (x,z,y)=layB (layC d (layB (layC l q (lsym x)) (x-ar (lsym x)) (aq (lsym x))) (dsym z)) (z-aF (dsym z)) (aC (dsym z)):=by unfold layT;rw[if_neg (show ¬(x,z,y).1=0 from hx)]
    rw[eT]at hfw;have HE:=qhz eT;have HSY:Hid (Calls prog 198 #[.agg #[y,x,z]] wb (R1z (dJ (lsym x) (x-ar (lsym x)) (aq (lsym x))) wb)):=qhz (qu wb x z y a1 a2);have HDY:Hid (∀W:World,Calls prog 199 #[.agg #[y,x,z]] W (R1z (dJ (dsym z) (z-aF (dsym z)) (aC (dsym z))) W)):=qhz (fun W=>mI W x z y a3 a4);have x0:decide ((0:Int)<(x:Int))=true:=by simp;omega
    have x0':decide (0<x)=true:=by simp;omega
    clear eT hx b4 d3 b3 d2;obtain⟨S1,hS1⟩:=E1 (lsym x);obtain⟨S2,hS2⟩:=E1 (dsym z);rw[←hS1]at HSY a5 HE f1 f2 f3 f5 hfw b1 b2;simp only[←hS2]at HDY a6 HE f6 f3 hfw d1;obtain⟨V1,hV1⟩:=E1 (x-ar S1);obtain⟨V2,hV2⟩:=E1 (z-aF S2);rw[←hV1]at HSY HE f2 f3 hfw;simp only[←hV2]at HDY HE hfw;obtain⟨M1,hM1⟩:=E1 (aq S1);obtain⟨M2,hM2⟩:=E1 (aC S2);rw[←hM1]at HSY HE f2 f3 f5 hfw;simp only[←hM2]at HDY HE hfw f6;obtain⟨q2,hq2⟩:=E1 (layB (layC l q S1) V1 M1);rw[←hq2]at HE f2 f3 hfw;have HQ2:=qhz hq2;clear hS1 hS2 hV1 hV2 hM1 hM2 hq2
    go_wp2_with fail
    rw[←HWB.out];refine HSY.out.mono ?_;rintro e wy ⟨rfl,hBy⟩;obtain⟨og2,hR2,hlt2,hKp2,hback2⟩:=HP.out.rebase (HBB.out.trans hBy);have hloy:lo≤wy.heap.size:=Nat.le_trans hlo3 (Nat.le_trans HP.out.but.size (HBB.out.trans hBy).size);have hcall:=ru (m:=V1) (e:=M1) (hKp2 _ HTL.out) HL15.out hR2 hloy (by omega) a5 (by omega);rw[←HQ2.out]at hcall;have hIy:=HIB.out.but hBy (by simp);have HCALL:=qhz hcall;have HIY:=qhz hIy;have HLT2:=qhz hlt2;have HBK2:=qhz hback2;clear hBy hR2 hlt2 hKp2 hback2 hcall hIy HSY;unfold dJ at HCALL⊢
    go_wp2_with fail
    refine HCALL.out.mono ?_;rintro e wz ⟨rfl,hWz⟩;have hIz:=HIY.out.but hWz.but (fun hk=>by have:=(HLT2.out _ hk).1;omega);obtain⟨z0,z1,z2,_⟩:=hIz.c3;have HWz:=qhz (HBK2.out _ _ hWz);clear hIz hWz c0 c1 c2 HCALL HIY HLT2 HBK2
    go_wp2_with fail
    refine(HDY.out _).mono ?_;rintro e wd ⟨rfl,hBd⟩;obtain⟨og4,hR4,hlt4,hKp4,hback4⟩:=HWz.out.rebase hBd;have hlod:lo≤wd.heap.size:=Nat.le_trans hlo3 (Nat.le_trans HWz.out.but.size hBd.size);have hcall:=ru (m:=V2) (e:=M2) (hKp4 _ HTD.out) HD15.out hR4 hlod (by omega) a6 (by omega);have HCALL:=qhz hcall;have HBK4:=qhz hback4;clear hBd hR4 hlt4 hKp4 hback4 hcall HDY z0 z1 z2;unfold dJ at HCALL⊢
    go_wp2_with fail
    refine HCALL.out.mono ?_;rintro e wf ⟨rfl,hWf⟩;have HWf:=qhz (HBK4.out _ _ hWf);clear hWf HCALL HBK4;go_wp2
    go_roundw
    case rel=>exact⟨k+1,by omega,by go_num,qhz (by rw[HNX.out,HE.out];exact HWf.out),by rw[HNX.out,HE.out];omega⟩
    case measure=>simp[intOf];omega
  ·have hqe:q=bC l d r ts:=by rw[HQ.out,List.take_of_length_le (by have:=HLN.out;omega)]
   have HQE:=qhz hqe;have HCALL:=qhz (D4 (s:=256) HTL.out HL15.out HP.out hlo3 (by omega) H256.out);clear hqe
   go_wp2_with fail
   refine HCALL.out.mono ?_;rintro e w4 ⟨rfl,hW4⟩;have HW4:=qhz (HBACK.out _ _ hW4);clear hW4;go_wp2
   go_end0
   exact⟨rfl,by rw[←HQE.out];exact HW4.out⟩
end
end
section
theorem tA{l d:List Int}(hl:∀x∈l,0≤x∧x≤15)(hd:∀x∈d,0≤x∧x≤15):∀(ts:List Tk) (q:Nat×Nat),(∀t∈ts,iC l d t)→(bC l d q ts).2≤q.2+60*ts.length
 |[],q,_=>Nat.le_refl _
 |t::ts,q,h=>by
  have h1:=xL hl hd (h t (by simp)) q;have h2:=tA hl hd ts (layT l d q t) (fun x hx=>h x (by simp[hx]));have e:bC l d q (t::ts)=bC l d (layT l d q t) ts:=rfl;rw[e,List.length_cons];omega
attribute [local irreducible] bC layC layB fixL fixD toks aI
theorem OwnI.keep{w:World}{base n c:Nat}{A:Option Addr}{l:List Int}(h:OwnI w base (.slice A n c) l){S:List Nat}(hS:∀k∈S,k<base)(hn:n=l.length):Keep S w fun w'=>Ints w' A n l:=fun w' hB=>by
 have h2:OwnI w' base (.slice A n c) l:=aU h hB fun g e hg=>by have:=(World.ownsRow.lt h g e).1;have:=hS g hg;omega
 exact h2.ints_of hn
theorem Tks.keep{w w1:World}{n:Nat}{A:Option Addr}{L:List T3}(h:Tks w A n L)(hB:But [] w w1){S:List Nat}(hS:∀k∈S,w.heap.size≤k):Keep S w1 fun w'=>Tks w' A n L:=fun w' hw=>h.but (hB.fresh hw hS)
theorem fw(x:Int){n:Nat}(w:World)(hn0:0<n)(hn:n≤100000):
 Calls prog 162 #[x,n] w fun e w'=>∃gg cc,e=.returned (.slice (some ⟨gg,0,none⟩) n cc)∧OwnI w' w.heap.size (.slice (some ⟨gg,0,none⟩) n cc) (List.replicate n x)∧But [] w w':=by
 have hr:=uY x (c:=1) (w:=w.alloc (.cells #[x] 3)) (g:=w.heap.size) ((Is.fresh w 3 #[x]).cell 0) hn0 hn;have HR:=qhz hr;clear hr
 go_enter func162,ntmps162
 go_wp2_with fail
 refine HR.out.mono ?_;rintro e w' ⟨gg,cc,rfl,hO,hB⟩;have HO:=qhz hO;have HB:=qhz hB;clear hO hB;go_wp2;go_ret;refine⟨gg,cc,rfl,?_,((But.refl [] w).alloc _).trans HB.out⟩;have h:=HO.out;unfold OwnI at h⊢;refine⟨h.1,?_⟩;rcases h.2 with h2|⟨g,cap,cur,h1,h2,h3⟩
 ·exact .inl h2
 ·exact .inr ⟨g,cap,cur,h1,by simp at h2;omega,h3⟩
theorem OJ:List.replicate 32 (5:Int)=fixD:=by unfold fixD;rfl
def Au(ts:List Tk):Nat×Nat:=layC fixL (bC fixL fixD (layB (layB (0,0) 1 1) 1 2) ts) 256
theorem GF(w:World){A:Option Addr}{n c:Nat}{ts:List Tk}(hK:Tks w A n (ts.map tkI))(hn:n≤10000)(hh:∀t∈ts,iC fixL fixD t):
 Calls prog 114 #[.slice A n c] w (R1z (.string (aI (Au ts))) w):=by
 obtain⟨q2,hq2,hl2⟩:∃q,q=layB (layB (0,0) 1 1) 1 2∧q.2≤3:=⟨_,rfl,by
  have h1:(layB (0,0) 1 1).2=1:=by rw[bX (by omega) (by omega)]
  rw[bX (by omega) (by omega)];show(layB (0,0) 1 1).2+2≤3;omega⟩
 have hX:Au ts=layC fixL (bC fixL fixD q2 ts) 256:=by unfold Au;rw[hq2]
 have hlen:ts.length=n:=by have:=hK.1;rwa [List.length_map]at this
 have HX:=qhz hX;have HQ2:=qhz hq2;have HK:=qhz hK;have HH:=qhz hh;have HLEN:=qhz hlen;clear hX hq2 hK hh hlen
 go_enter func114,ntmps114
 go_wp2_with fail
 refine(KC w (w.heap.size+1) w.heap.size rfl).mono ?_;rintro e w1 ⟨rfl,hS1,hB1,hz1⟩;have hW1:WroteP w1 w1 (w.heap.size+1) w.heap.size none (0,0):=WroteP.refl hS1;have hc:=mg hW1 (Nat.le_of_eq hz1.symm) (by decide) (last:=1) (kind:=1) (by omega) (by omega);rw[←HQ2.out]at hc;have HC:=qhz hc;have HB1:=qhz hB1;have HZ1:=qhz hz1;clear hS1 hB1 hz1 hW1 hc
 go_wp2_with fail
 refine HC.out.mono ?_;rintro e w2 ⟨rfl,hW2⟩;have HW2:=qhz hW2;clear hW2 HC
 go_wp2_with fail
 refine(fw 8 (n:=144) _ (by omega) (by omega)).mono ?_;rintro e wa ⟨g1,c1,rfl,hO1,hBa⟩;have HO1:=qhz hO1;have HBa:=qhz hBa;clear hO1 hBa
 go_wp2_with fail
 refine(fw 9 (n:=112) _ (by omega) (by omega)).mono ?_;rintro e wb ⟨g2,c2,rfl,hO2,hBb⟩;have HO2:=qhz hO2;have HBb:=qhz hBb;clear hO2 hBb
 go_wp2_with fail
 refine(fw 7 (n:=24) _ (by omega) (by omega)).mono ?_;rintro e wc ⟨g3,c3,rfl,hO3,hBc⟩;have HO3:=qhz hO3;have HBc:=qhz hBc;clear hO3 hBc
 go_wp2_with fail
 refine(fw 8 (n:=8) _ (by omega) (by omega)).mono ?_;rintro e wd ⟨g4,c4,rfl,hO4,hBd⟩;have HO4:=qhz hO4;have HBd:=qhz hBd;clear hO4 hBd;have hI4:=HO4.out.ints;have hI3:=HO3.out.ints.but HBd.out (by simp);have hI2:=HO2.out.ints.but (HBc.out.trans HBd.out) (by simp);have hI1:=HO1.out.ints.but ((HBb.out.trans HBc.out).trans HBd.out) (by simp);have hB14:=((HBa.out.trans HBb.out).trans HBc.out).trans HBd.out;have hhd:=PB (t:=36) (c1:=c1) (c2:=c2) (c3:=c3) (c4:=c4) hI1 hI2 hI3 hI4 (by omega) (by omega) (by omega) (by omega);have hcc:=qg (c:=4) hhd (by rw[jB];decide+kernel) (by rw[jB];decide+kernel) (by simp);rw[jB]at hcc;have HCC:=qhz hcc;have HB14:=qhz (hB14.alloc (.cells #[.slice g1 144 c1,.slice g2 112 c2,.slice g3 24 c3,.slice g4 8 c4] 36));clear hI1 hI2 hI3 hI4 hB14 hhd hcc HO1 HO2 HO3 HO4 HBa HBb HBc HBd
 go_wp2_with fail
 refine HCC.out.mono ?_;rintro e w5 ⟨v5,rfl,hO5,hB5⟩;have hB25:=HB14.out.trans hB5;obtain⟨A5,c5,rfl,hI5⟩:=xp hO5 (by decide+kernel);have hsz5:=HB14.out.size;rw[show fixL.length=288 from by decide+kernel]at*;have HO5:=qhz hO5;have HB25:=qhz hB25;have HSZ5:=qhz hsz5;clear HCC HB14 hO5 hB5 hI5 hB25 hsz5
 go_wp2_with fail
 refine(fw 5 (n:=32) _ (by omega) (by omega)).mono ?_;rintro e w6 ⟨g6,c6,rfl,hO6,hB6⟩;rw[OJ]at hO6;have hB26:=HB25.out.trans hB6;obtain⟨og',hR,hlt,hKp,hback⟩:=HW2.out.rebase hB26;have hs5:=HSZ5.out;have hs25:=HB25.out.size;have hz1:=HZ1.out;have hL:Keep (w.heap.size::og'.toList) w6 fun w'=>Ints w' (some A5) 288 fixL:=(OwnI.keep (S:=w.heap.size::og'.toList) (OwnI.but HO5.out hB6 (by simp)) (fun k hk=>by have:=(hlt k hk).1;omega) (by decide+kernel))
 have hD:Keep (w.heap.size::og'.toList) w6 fun w'=>Ints w' (some ⟨g6,0,none⟩) 32 fixD:=OwnI.keep hO6 (fun k hk=>by have:=(hlt k hk).1;omega) (by decide+kernel);have hB12:But [] w w2:=HB1.out.fresh HW2.out.but (fun i hi=>by simp at hi;omega);have hK6:Keep (w.heap.size::og'.toList) w6 fun w'=>Tks w' A n (ts.map tkI):=Tks.keep HK.out (hB12.trans hB26) (fun k hk=>by
  rcases(hlt k hk).2 with h|h
  ·simp at h;omega
  ·omega)
 have hs6:=hB26.size;have hs12:=hB12.size;have hs12':=HW2.out.but.size;have hcall:=ve (c:=c) (cl:=c5) (cd:=c6) hL hD hK6 cH eM (by omega) (by omega) (fun e=>by cases e) (fun e=>by cases e) HH.out (hasL (by omega)) (by omega) hR (by omega) (by omega);have HCALL:=qhz hcall;have HBACK:=qhz hback;rw[←HX.out]at HCALL;clear hR hlt hKp hback hs5 hs25 hL hD hK6 hcall hO6 hB6 hB26 hB12 hs6 hs12 hs12'
 go_wp2_with fail
 refine HCALL.out.mono ?_;rintro e w7 ⟨rfl,hW7⟩;have hW8:=HBACK.out _ _ hW7;have hbig:(Au ts).2≤100000000:=by
  rw[HX.out];have h1:=dg (okl cH) (bC fixL fixD q2 ts) 256;have h2:=tA (okl cH) (okl eM) ts q2 HH.out;have h3:=HLEN.out;omega
 have HW8:=qhz hW8;clear hW7 hW8 HCALL HBACK
 go_wp2_with fail
 refine(HW8.out.text (by omega)).mono ?_;rintro e w9 ⟨rfl,hB9⟩;have HBe:Hid (But [] w w9):=qhz ((HB1.out.fresh HW8.out.but (fun i hi=>by simp at hi;omega)).trans hB9);clear hB9 hz1;go_wp2;go_ret;exact⟨rfl,HBe.out⟩
end
section
attribute [local irreducible] bC layC layB fixL fixD toks aI cntA cntB ap dynL inc lsym dsym lims cntR runs ct
def ordK(S:List Int)(k:Nat):List Int:=(ordS.take k).map (fun j=>S.getD j 0)++List.replicate (19-k) 0
theorem N1(S:List Int){k:Nat}(hk:k≤19):(ordK S k).length=19:=by
 unfold ordK;rw[List.length_append,rV S hk,List.length_replicate];omega
theorem N0(S:List Int){k:Nat}(hk:k<19):(ordK S k).set k (S.getD (ordS.getD k 0) 0)=ordK S (k+1):=by
 unfold ordK;rw[uJ S hk,List.set_append_right _ _ (by rw[rV S (by omega)];exact Nat.le_refl _),rV S (by omega),Nat.sub_self];obtain⟨m,hm⟩:∃m,19-k=m+1:=⟨19-k-1,by omega⟩
 rw[hm,show 19-(k+1)=m from by omega,List.replicate_succ,List.set_cons_zero,List.append_assoc];rfl
theorem N2(S:List Int):ordK S 19=ordS.map (fun j=>S.getD j 0):=by
 unfold ordK;rw[show 19-19=0 from rfl,List.replicate_zero,List.append_nil,List.take_of_length_le (Nat.le_refl 19)]
theorem Ky(S:List Int):ordK S 0=List.replicate 19 0:=rfl
attribute [local irreducible] ordK
theorem zH(w:World)(hG:GD w){A:Option Addr}{c:Nat}{S:List Int}(hI:Ints w A 19 S):
 Calls prog 204 #[.slice A 19 c] w fun e w'=>e=.returned (.slice w.heap.size 19 19)∧Row w' w.heap.size 3 (ordS.map (fun j=>S.getD j 0))∧But [] w w':=by
 have hSl:=hI.1;obtain⟨g,o,rfl,hg,hc0⟩:=hI.at (show 0<19 by omega);clear hc0;have hcl:∀k,k<19→w.cell? ⟨g,o+k,none⟩=some (.int .i64 (S.getD k 0)):=fun k hk=>by
  obtain⟨g2,o2,e,_,hc⟩:=hI.at hk;injection e with e;injection e with e1 e2;subst e1 e2;rw[hc,List.getD_eq_getElem?_getD,List.getElem?_eq_getElem (by omega)];rfl
 have HCL:=qhz hcl;have hmkS:∀W:World,(Instr.makeSlice 36 (.int .i64 19) (.int .i64 19)).run prog W=.ok (.slice (some ⟨W.heap.size,0,none⟩) 19 19) (W.alloc (.cells (ap 19) 3)):=fun W=>eF 19 (by omega) W;have hr0:=ig w 19;rw[←Ky S]at hr0;have hB0:=(But.refl [] w).alloc (.cells (ap 19) 3);have HROW:=qhz hr0;have HBW:=qhz hB0;have HG1:=qhz (hG.but hB0);clear hr0 hB0 hG hcl hI hSl
 go_enter func204,ntmps204
 go_wp2_with (refine pi rfl _ rfl rfl HG1.out ?_)
 go_loopw [8] (fun iv wr=>∃k:Nat,k≤19∧iv=.int .i64 k∧Hid (Row wr w.heap.size 3 (ordK S k))∧Hid (But [] w wr)) (fun iv _=>19-(intOf iv).toNat)
 case atStart=>exact⟨0,Nat.zero_le _,rfl,HROW,HBW⟩
 case round=>
  obtain⟨k,hk,rfl,HA,HB⟩:=hrel;clear HROW HBW hmkS
  by_cases hlt:k<19
  ·have hoi:=Ft k hlt;have hol:=Ch hlt;have hst:=N0 S hlt;obtain⟨oi,hoi2⟩:=E1 (ordS.getD k 0);rw[←hoi2]at hol hst;simp only[←hoi2]at hoi;have c0:=HB.out.cell (HCL.out oi hol) (by simp);obtain⟨x,hx⟩:=E1 (S.getD oi 0);rw[←hx]at c0 hst;have f0:=HA.out.at (i:=k) (by rw[N1 S (by omega)];exact hlt);have f1:=HA.out.free k;obtain⟨v0,hv0⟩:=E1 ((ordK S k).getD k 0);rw[←hv0]at f0;have hnx:=HA.out.set k x;rw[hst]at hnx;have hbw:=HB.out.setCell (p:=⟨w.heap.size,k,none⟩) (.inr (Nat.le_refl _)) (.int .i64 x);have HNX:=qhz hnx;have HBW3:=qhz hbw;have k0:(0:Int)≤(k:Int):=by omega
   have k1:(k:Int)<19:=by omega
   have o0:(0:Int)≤(oi:Int):=by omega
   have o1:(oi:Int)<19:=by omega
   clear hoi2 hst hx hnx hbw hv0;go_wp2
   go_roundw
   case rel=>exact⟨k+1,by omega,by go_num,HNX,HBW3⟩
   case measure=>simp[intOf];omega
  ·obtain rfl:k=19:=by omega
   rw[N2]at HA;go_wp2;go_ret;exact⟨rfl,HA.out,HB.out⟩
theorem RQ{w:World}{A1 A2:Addr}{l1 l2:List Int}{n1 n2 c1 c2:Nat}{t:TypeId}(h1:Ints w (some A1) n1 l1)(h2:Ints w (some A2) n2 l2)(p1:0<n1)(p2:0<n2):
 Bc (w.alloc (.cells #[.slice (some A1) n1 c1,.slice (some A2) n2 c2] t)) w.heap.size [.slice (some A1) n1 c1,.slice (some A2) n2 c2] [l1,l2]:=by
 have hI:=Is.fresh w t #[.slice (some A1) n1 c1,.slice (some A2) n2 c2];have hB:=dZ w (.cells #[.slice (some A1) n1 c1,.slice (some A2) n2 c2] t);have q1:=h1.but hB (by simp);have q2:=h2.but hB (by simp);obtain rfl:=h1.1;obtain rfl:=h2.1;unfold Bc;refine⟨rfl,fun i hi=>?_⟩
 match i,hi with
 |0,_=>exact⟨hI.cell 0,A1,c1,rfl,q1,p1⟩
 |1,_=>exact⟨hI.cell 1,A2,c2,rfl,q2,p2⟩
theorem OwnP.keep{w:World}{base n c:Nat}{A:Option Addr}{L:List (Int×Nat)}(h:OwnP w base (.slice A n c) L){S:List Nat}(hS:∀k∈S,k<base):Keep S w fun w'=>Qs w' A n L:=fun w' hB=>by
 have h2:OwnP w' base (.slice A n c) L:=aU h hB fun g e hg=>by have:=(World.ownsRow.lt h g e).1;have:=hS g hg;omega
 obtain⟨A2,c2,e,hT⟩:=h2.open;injection e with e1 e2 e3;subst e1 e2;exact hT
end
section
theorem Fs(l:List Int):∀c∈runs l,c.1<16→c.2=0:=by
 have key:∀f i,∀c∈dM l f i,c.1<16→c.2=0:=by
  intro f
  induction f with
  |zero=>intro i c hc;cases hc
  |succ f ih=>
   intro i c hc;rw[dM]at hc;split at hc
   ·rcases List.mem_cons.1 hc with h|h
    ·subst h;unfold aO;split
     ·intro h;dsimp only at h;omega
     ·split
      ·intro h;dsimp only at h;omega
      ·split
       ·intro h;dsimp only at h;omega
       ·intro _;rfl
    ·exact ih _ c h
   ·cases hc
 exact key _ _
attribute [local irreducible] bC layC layB fixL fixD toks aI cntA cntB ap dynL inc lsym dsym lims cntR runs ct ordK
theorem xX(a b:List Int): [a,b].flatten=a++b:=by simp
theorem QX{y m:Nat}{S:List Int}{q:Nat×Nat}(h16:y≤18):layR S q ((y:Int),m)=if y=16 then layB (layC S q y) m 2 else if y=17 then layB (layC S q y) m 3 else if y=18 then layB (layC S q y) m 7 else layC S q y:=by
 by_cases h1:y=16
 ·rw[if_pos h1,Et h1]
 ·rw[if_neg h1]
  by_cases h2:y=17
  ·rw[if_pos h2,Es h2]
  ·rw[if_neg h2]
   by_cases h3:y=18
   ·rw[if_pos h3,Er h3]
   ·rw[if_neg h3,vH (by omega)]
theorem KU{y m:Nat}{S:List Int}{q:Nat×Nat}(h18:y≤18)(hm:y<16→m=0):layR S q ((y:Int),m)=layB (layC S q y) m (extN y):=by
 rw[QX h18];unfold extN
 by_cases h1:y=16
 ·rw[if_pos h1,if_pos h1]
 ·rw[if_neg h1,if_neg h1]
  by_cases h2:y=17
  ·rw[if_pos h2,if_pos h2]
  ·rw[if_neg h2,if_neg h2]
   by_cases h3:y=18
   ·rw[if_pos h3,if_pos h3]
   ·rw[if_neg h3,if_neg h3,hm (by omega),zY]
theorem OwnI.cap{w:World}{base n c:Nat}{A:Option Addr}{l:List Int}(h:OwnI w base (.slice A n c) l):n≤c:=by
 unfold OwnI at h;rcases h.2 with⟨e,h0⟩|⟨g',cap,cur,e,hb,hh,h1,h2,h3,h4⟩
 ·injection e with e1 e2 e3;omega
 ·injection e with e1 e2 e3;omega
section
variable {w w1 w':World} {lo b:Nat} {og:Option Nat} {r:Nat×Nat}
theorem tD{XA XB SM:List Int}{nA cA nB cB nT:Nat}{Aa Ab:Addr}{ts:List Tk}(hA:Keep (b::og.toList) w fun w'=>Ints w' (some Aa) nA XA)(hB:Keep (b::og.toList) w fun w'=>Ints w' (some Ab) nB XB)(hG:GD w1)
 (ha1:257≤nA) (ha2:nA≤286) (hb1:1≤nB) (hb2:nB≤30) (hD:Pp XA XB SM nT ts) (hSM:SM=lims 7 (cntR (runs (XA++XB)))) (hnT:nT=(told SM).length) (hW:WroteP w w1 lo b og r) (hlo:lo≤w.heap.size) (hN:r.2≤1000):
 Calls prog 167 #[.pointer b,.slice (some Aa) nA cA,.slice (some Ab) nB cB] w1 fun e w'=>e=.returned (.tuple #[])∧WroteP w w' lo b og (dU SM (fo SM (layB (layB (layB r (nA-257) 5) (nB-1) 5) (nT-4) 4) (ordS.take nT)) (runs (XA++XB))):=by
 have hIA:=hW.keep hA;have hIB:=hW.keep hB;have hla:=hIA.1;have hlb:=hIB.1;have hlY:(XA++XB).length=nA+nB:=by rw[List.length_append,hla,hlb]
 have hhd:=RQ (t:=36) (c1:=cA) (c2:=cB) hIA hIB (by omega) (by omega);have hcc:=qg (c:=2) hhd (by rw[xX,hlY];omega) (by rw[xX,hlY];omega) (by simp);rw[xX]at hcc;obtain⟨Y,hY⟩:=E1 (XA++XB);rw[←hY]at hcc hlY hSM⊢;obtain⟨N,hNY⟩:=E1 (nA+nB);rw[←hNY]at hlY;have hab:=hD.ab;have hrs:=hD.rs;rw[←hY]at hab hrs;have hcd:=uT hab;have hRN:=wO Y;rw[hlY]at hRN;obtain⟨R,hR⟩:=E1 (runs Y);have hok:=Fs Y;rw[←hR]at hok;rw[←hR]at hcd hRN hrs hSM⊢;have hB0:=dZ w1 (.cells #[.slice (some Aa) nA cA,.slice (some Ab) nB cB] 36);have HCC:=qhz hcc;have HB0:=qhz hB0;have HG:=qhz hG;have HW:=qhz hW;have HD:=qhz hD;have HSM:=qhz hSM;have HNT:=qhz hnT;have HR:=qhz hR;have HCD:=qhz hcd;have HRS:=qhz hrs;have HOK:=qhz hok;have HLY:=qhz hlY;have hN316:N≤316:=by omega
 have ht4:=hD.n1;have ht19:=hD.n2;clear hhd hcc hA hB hG hW hD hSM hnT hIA hIB hla hlb hlY hY hab hrs hcd hR hok hB0 hNY;obtain⟨mA,hmA⟩:∃m,nA=m+257:=⟨nA-257,by omega⟩
 obtain⟨mB,hmB⟩:∃m,nB=m+1:=⟨nB-1,by omega⟩
 obtain⟨mT,hmT⟩:∃m,nT=m+4:=⟨nT-4,by omega⟩
 have e1:nA-257=mA:=by omega
 have e2:nB-1=mB:=by omega
 have e3:nT-4=mT:=by omega
 rw[e1,e2,e3];have wA:(nA:Int)-257=(mA:Int):=by omega
 have wB:(nB:Int)-1=(mB:Int):=by omega
 have wT:(nT:Int)-4=(mT:Int):=by omega
 have hmA2:mA<32:=by omega
 have hmB2:mB<32:=by omega
 have hmT2:mT<16:=by omega
 obtain⟨q3,hq3⟩:=E1 (layB r mA 5);obtain⟨q4,hq4⟩:=E1 (layB q3 mB 5);obtain⟨q5,hq5⟩:=E1 (layB q4 mT 4);have hf3:q3.2≤1000+5:=by rw[hq3,bX (by omega) (by omega)];exact Nat.add_le_add_right hN 5
 have hf4:q4.2≤1000+5+5:=by rw[hq4,bX (by omega) (by omega)];exact Nat.add_le_add_right hf3 5
 have hf5:q5.2≤1000+5+5+4:=by rw[hq5,bX (by omega) (by omega)];exact Nat.add_le_add_right hf4 4
 rw[←hq3,←hq4,←hq5];have HQ3:=qhz hq3;have HQ4:=qhz hq4;have HQ5:=qhz hq5;clear hmA hmB hmT e1 e2 e3 hq3 hq4 hq5
 go_enter func167,ntmps167
 go_wp2_with fail
 refine HCC.out.mono ?_;rintro e w2 ⟨v2,rfl,hO2,hB2⟩;obtain⟨A2,c2,rfl,hI2,hx2⟩:=hO2.open;rw[HLY.out]at hI2⊢;have hc2:N≤c2:=by have:=hO2.cap;rw[HLY.out]at this;exact this
 have hQ:=Jp hI2 (by omega) hc2;rw[←HR.out]at hQ;have HQ:=qhz hQ;have HB2:=qt HB0 hB2;clear hO2 hI2 hx2 hB2 hQ HCC HB0
 go_wp2_with fail
 refine HQ.out.mono ?_;rintro e w3 ⟨v3,rfl,hP3,hB3⟩;obtain⟨A3,c3,rfl,hQ3⟩:=hP3.open;have hS:=pz (c:=c3) w3 hQ3 (by omega) HCD.out;rw[←HSM.out]at hS;have HS:=qhz hS;have HP3:=qhz hP3;have HB3:=qt HB2 hB3;have hsz2:=HB2.out.size;clear hP3 hB3 hQ3 hS HQ
 go_wp2_with fail
 refine HS.out.mono ?_;rintro e w4 ⟨gS,rfl,hOS,hB4⟩;have hO:=zH w4 (HG.out.but (HB3.out.trans hB4)) (c:=19) hOS.ints;have HO:=qhz hO;have HOS:=qhz hOS;have HP4:=qhz (HP3.out.but hB4);have HB4:=qt HB3 hB4;have hsz3:=HB3.out.size;clear hO hOS hB4 HS HP3
 go_wp2_with fail
 refine HO.out.mono ?_;rintro e w5 ⟨rfl,hRow5,hB5⟩;have hI5:=hRow5.ints;rw[List.length_map,show ordS.length=19 from rfl]at hI5;have hT:=kN (c:=19) (least:=4) hI5 (by omega) (by omega) (by omega) (by omega);have hnT2:cE (ordS.map fun j=>SM.getD j 0) 4 19=nT:=by
  rw[HNT.out];unfold told;rw[dr,List.length_map];rfl
 rw[hnT2]at hT;have HT:=qhz hT;have HROW:=qhz hRow5;have HOS5:=qhz (HOS.out.but hB5 (by simp));have HP5:=qhz (HP4.out.but hB5);have HB5:=qt HB4 hB5;have hsz4:=HB4.out.size;clear hRow5 hI5 hT hnT2 hB5 HO HOS HP4
 go_wp2_with fail
 refine HT.out.mono ?_;rintro e w6 ⟨rfl,rfl⟩;obtain⟨og5,hW5,hlt5,hKp5,hback5⟩:=HW.out.rebase HB5.out;have hlo5:lo≤w5.heap.size:=Nat.le_trans hlo (Nat.le_trans HW.out.but.size HB5.out.size);have hw13:w1.heap.size≤w4.heap.size:=hsz4;have HKROW:=qhz (show Keep (b::og5.toList) w5 fun w'=>Row w' w4.heap.size 3 (ordS.map (fun j=>SM.getD j 0))from fun w' hw=>HROW.out.but hw (fun hk=>by have:=(hlt5 _ hk).1;omega));have HKSM:=qhz (OwnI.keep (S:=b::og5.toList) HOS5.out (fun k hk=>by have:=(hlt5 _ hk).1;omega) (by rw[HD.out.sl]));have HKR:=qhz (HP5.out.keep (S:=b::og5.toList) (fun k hk=>by have:=(hlt5 _ hk).1;omega));have HW5:=qhz hW5;have HBK5:=qhz hback5;clear hlt5 hKp5 hback5 hW5 HT HOS5 HP5 HROW
 go_wp2_with fail
 refine(HW5.out.bits hlo5 (by omega) mA 5).mono ?_;rintro e wa ⟨rfl,ha⟩;rw[←HQ3.out]at ha;have Ha:=qhz ha;clear ha
 go_wp2_with fail
 refine(Ha.out.bits hlo5 (by omega) mB 5).mono ?_;rintro e wb ⟨rfl,hb⟩;rw[←HQ4.out]at hb;have Hb:=qhz hb;clear hb
 go_wp2_with fail
 refine(Hb.out.bits hlo5 (by omega) mT 4).mono ?_;rintro e wd ⟨rfl,hd⟩;rw[←HQ5.out]at hd;have Hd:=qhz hd;clear hd Ha Hb HW5 wA wB wT;have H7:=qhz HD.out.s7;have HS0:=qhz (show WroteP w5 wd lo b og5 (fo SM q5 (ordS.take 0))from by rw[tB];exact Hd.out);have hf6:(fo SM q5 (ordS.take 0)).2≤1014+3*0:=by rw[tB];exact hf5
 clear Hd;go_wp2
 go_loopw [42] (fun iv wx=>∃j:Nat,j≤nT∧iv=.int .i64 j∧Hid (WroteP w5 wx lo b og5 (fo SM q5 (ordS.take j)))∧(fo SM q5 (ordS.take j)).2≤1014+3*j) (fun iv _=>nT-(intOf iv).toNat)
 case atStart=>exact⟨0,Nat.zero_le _,rfl,HS0,hf6⟩
 case round=>
  obtain⟨j,hj,rfl,HWJ,hfj⟩:=hrel;clear HS0 hf6
  by_cases hlt:j<nT
  ·have hj19:j<19:=by omega
   have hsn:=vF SM q5 hj19;have h7j:=H7.out (ordS.getD j 0);obtain⟨x,hx⟩:∃x:Nat,SM.getD (ordS.getD j 0) 0=(x:Int):=⟨(SM.getD (ordS.getD j 0) 0).toNat,by omega⟩
   have hrow:=HWJ.out.keep HKROW.out;have hc:=hrow.at (i:=j) (by rw[List.length_map];exact hj19);rw[Ek (show j<ordS.length from hj19),hx]at hc;rw[hx]at hsn h7j;rw[Int.toNat_natCast]at hsn;have hx7:x≤7:=by omega
   obtain⟨qj,hqj⟩:=E1 (fo SM q5 (ordS.take j));rw[←hqj]at hsn hfj HWJ;have hf9:(layB qj x 3).2≤1014+3*(j+1):=by rw[bX (by omega) (by omega)];show qj.2+3≤_;omega
   rw[←hsn]at hf9;have HSN:=qhz hsn;have j0:(0:Int)≤(j:Int):=by omega
   have j1:(j:Int)<(nT:Int):=by omega
   clear hx hqj hsn hrow h7j
   go_wp2_with fail
   refine(HWJ.out.bits hlo5 (by omega) x 3).mono ?_;rintro e w10 ⟨rfl,hW10⟩;rw[←HSN.out]at hW10;have HW10:=qhz hW10;clear hW10 hc;go_wp2
   go_roundw
   case rel=>exact⟨j+1,by omega,by go_num,HW10,hf9⟩
   case measure=>simp[intOf];omega
  ·obtain rfl:j=nT:=by omega
   obtain⟨q6,hq6⟩:=E1 (fo SM q5 (ordS.take j));rw[←hq6]at hfj HWJ;have HQ6:=qhz hq6;have hcs:=HD.out.cs;have hmk:=lW (cap:=19) (HWJ.out.keep HKSM.out) (by omega) (fun e=>by cases e) hcs;have HMK:=qhz hmk;have HOKS:=qhz (okl hcs);clear hq6 hcs hmk hlt hj H7
   go_wp2_with fail
   refine HMK.out.mono ?_;rintro e w10 ⟨bt,rfl,hN10,hB10⟩;obtain⟨og6,hW6,hlt6,hKp6,hback6⟩:=HWJ.out.rebase hB10;have hlo6:lo≤w10.heap.size:=Nat.le_trans hlo5 (Nat.le_trans HWJ.out.but.size hB10.size);have HKT:=qhz (hN10.keep (F:=b::og6.toList) (fun k hk=>(hlt6 k hk).1));have HKR6:=qhz (hKp6 _ HKR.out);have HBK6:=qhz hback6;have HW6:=qhz (show WroteP w10 w10 lo b og6 (dU SM q6 (R.take 0))from hW6);have hfa:(dU SM q6 (R.take 0)).2≤1100+40*0:=by show q6.2≤_;omega
   clear hN10 hB10 hW6 hlt6 hKp6 hback6 HMK HWJ HKR HKSM HKROW;go_wp2;obtain⟨wm,rfl⟩:∃W,W=w10:=⟨w10,rfl⟩
   obtain⟨nR,hnR⟩:=E1 R.length;rw[←hnR]at hRN⊢;have HNR:=qhz hnR;clear hnR
   go_loopw [57] (fun iv wx=>∃j:Nat,j≤nR∧iv=.int .i64 j∧Hid (WroteP wm wx lo b og6 (dU SM q6 (R.take j)))∧(dU SM q6 (R.take j)).2≤1100+40*j) (fun iv _=>nR-(intOf iv).toNat)
   case atStart=>exact⟨0,Nat.zero_le _,rfl,HW6,hfa⟩
   case round=>
    obtain⟨n,hn,rfl,HWN,hfn⟩:=hrel;clear HW6 hfa
    by_cases hlt:n<nR
    ·have hltR:n<R.length:=by rw[←HNR.out];exact hlt
     have hmem:=HCD.out _ (List.getElem_mem hltR);have hh:=HRS.out _ (List.getElem_mem hltR);have hpl:=HOK.out _ (List.getElem_mem hltR);have hts:R.take (n+1)=R.take n++[R[n]]:=List.take_succ_eq_append_getElem hltR;have hsn:=vG SM q6 (R.take n) R[n];rw[←hts]at hsn;have hQn:=HWN.out.keep HKR6.out;rw[←HNR.out]at hQn;obtain⟨g,o,cc,mm,rfl,hg,c00,c01,h1⟩:=hQn.at hlt;rw[List.getElem?_eq_getElem hltR]at h1;injection h1 with h1;rw[h1]at hmem hsn hh hpl;dsimp only at hmem hsn hh hpl;obtain⟨y,rfl⟩:∃y:Nat,cc=(y:Int):=⟨cc.toNat,by omega⟩
     rw[KU (by omega) (fun h=>hpl (by omega))]at hsn;obtain⟨q,hq⟩:=E1 (dU SM q6 (R.take n));rw[←hq]at hsn HWN hfn;have hf1:=dg HOKS.out q y;have hf2:=dh (layC SM q y) mm (extN y);have hx7:extN y≤7:=by unfold extN;split;omega;split;omega;split<;>omega
     obtain⟨wb,hwb⟩:=E1 (wr.alloc (.cells #[y,mm] 234));have hIb:Is wb wr.heap.size 234 #[y,mm]:=by rw[hwb];exact Is.fresh wr _ _
     have hBb:But [] wr wb:=by rw[hwb];exact(But.refl [] wr).alloc _
     have HSN:=qhz hsn;have HIB:=qhz hIb;have HBB:=qhz hBb;have HWB:=qhz hwb;have i0':(0:Int)≤(n:Int):=by omega
     have i1':(n:Int)<(nR:Int):=by omega
     have hbb:=hBb.size;clear hts hq h1 hg hltR hsn hpl hQn hwb hIb hBb
     go_upto_region 15 with(fail)
     rw[←HWB.out];obtain⟨og7,hR7,hlt7,hKp7,hback7⟩:=HWN.out.rebase (HBB.out.drewN 1);have hlo7:lo≤(wb.drewN 1).heap.size:=Nat.le_trans hlo6 (Nat.le_trans HWN.out.but.size hbb);have hcall:=ru (m:=mm) (e:=extN y) (hKp7 _ HKT.out) HOKS.out hR7 hlo7 (by omega) hh (by omega);unfold dJ at hcall;have hcall2:Calls prog 197 #[.pointer b,.pointer bt,.agg #[y,mm,(extN y:Nat)]] wb.drew _:=hcall;have HCALL:=qhz hcall2;have HBK7:=qhz hback7;obtain⟨q0,q1,_⟩:=HIB.out.c2;clear hR7 hlt7 hKp7 hback7 hcall hcall2 c00 c01 hh
     go_region_with (first|(go_at_call 205;go_loud (refine(Ay _ y).mono ?_;rintro e w3 ⟨rfl,rfl⟩))|(go_at_call 197;go_loud (refine HCALL.out.mono ?_;rintro e w3 ⟨rfl,hW3⟩;have HW3:=qhz (HBK7.out _ _ hW3);clear hW3)))
     all_goals
      go_simp;go_wp2
      go_roundw
      case rel=>exact⟨n+1,by omega,by go_num,qhz (by rw[HSN.out];exact HW3.out),by rw[HSN.out];omega⟩
      case measure=>simp[intOf];omega
    ·obtain rfl:n=nR:=by omega
     have hRR:R.take n=R:=List.take_of_length_le (by have:=HNR.out;omega);rw[hRR]at HWN;have HF:=qhz (HBK5.out _ _ (HBK6.out _ _ HWN.out));clear hRR;go_wp2
     go_end0
     exact⟨rfl,by rw[←HQ6.out];exact HF.out⟩
end
end
section
theorem QG(ls:List Int):lenS ls=lims 7 (cntR (runs ls)):=by unfold lenS;rw[Mg]
attribute [local irreducible] bC layC layB fixL fixD toks aI cntA cntB ap dynL inc lsym dsym lims cntR runs ct ordK lenA lenB lenS told
theorem Oo{S:List Int}(hS:∀x∈S,0≤x∧x≤15)(q:Nat×Nat)(c:Int×Nat):(layR S q c).2≤q.2+40:=by
 unfold layR;split
 ·have h1:=dg hS q 16;have h2:=dh (layC S q 16) c.2 2;omega
 ·split
  ·have h1:=dg hS q 17;have h2:=dh (layC S q 17) c.2 3;omega
  ·split
   ·have h1:=dg hS q 18;have h2:=dh (layC S q 18) c.2 7;omega
   ·have h1:=dg hS q c.1.toNat;omega
theorem zX{S:List Int}(hS:∀x∈S,0≤x∧x≤15):∀(rs:List (Int×Nat)) (q:Nat×Nat),(dU S q rs).2≤q.2+40*rs.length
 |[],q=>Nat.le_refl _
 |c::rs,q=>by
  have h1:=Oo hS q c;have h2:=zX hS rs (layR S q c);have e:dU S q (c::rs)=dU S (layR S q c) rs:=rfl;rw[e,List.length_cons];omega
theorem zW(S:List Int):∀(ks:List Nat) (q:Nat×Nat),(fo S q ks).2≤q.2+3*ks.length
 |[],q=>Nat.le_refl _
 |k::ks,q=>by
  have h1:=dh q (S.getD k 0).toNat 3;have h2:=zW S ks (layB q (S.getD k 0).toNat 3);have e:fo S q (k::ks)=fo S (layB q (S.getD k 0).toNat 3) ks:=rfl;rw[e,List.length_cons];omega
theorem AE(w:World)(hG:GD w){A:Option Addr}{n c:Nat}{l:List UInt8}(hK:Tks w A n ((toks l).map tkI))(hn:n≤10000):
 Calls prog 115 #[.slice A n c] w (R1z (.string (aI (dynL l))) w):=by
 have hsh:=fP l l.length 0;have hsh2:∀t∈toks l,(t.1=0∧t.2.2≤255)∨(t.1≠0∧3≤t.1∧t.1≤258∧1≤t.2.1∧t.2.1≤512):=by unfold toks;exact hsh
 have hdl:=LR l;have hd:=EE l;obtain⟨P,hP⟩:=E1 (toks l);rw[←hP]at hsh2 hdl hd hK;have hlen:P.length=n:=by have:=hK.1;rwa [List.length_map]at this
 have ha2:=xK P;have hb2:=Cw P;have htA:=tu P;have htB:=tq P;have huA:cE (lims 15 (cntA P)) 257 286=(lenA P).length:=by unfold lenA;rw[dr,aV,cC]
 have huB:cE (lims 15 (cntB P)) 1 30=(lenB P).length:=by unfold lenB;rw[dr,aV,bW]
 obtain⟨XA,hXA⟩:=E1 (lenA P);obtain⟨XB,hXB⟩:=E1 (lenB P);rw[←hXA,←hXB]at hdl hd;rw[←hXA]at ha2 htA huA;rw[←hXB]at hb2 htB huB;have hSM:=QG (XA++XB);obtain⟨SM,hSM2⟩:=E1 (lenS (XA++XB));rw[←hSM2]at hdl hd hSM;obtain⟨nT,hnT⟩:=E1 ((told SM).length);rw[←hnT]at hdl hd;obtain⟨nA,hnA⟩:=E1 XA.length;obtain⟨nB,hnB⟩:=E1 XB.length;have ha1:=hd.a1;have hb1:=hd.b1;rw[←hnA]at hdl ha1 ha2 htA huA;rw[←hnB]at hdl hb1 hb2 htB huB;obtain⟨qb,hqb⟩:=E1 (layB (layB (0,0) 1 1) 2 2);have hqb2:qb.2≤3:=by
  have h1:(layB (0,0) 1 1).2=1:=by rw[bX (by omega) (by omega)]
  rw[hqb,bX (by omega) (by omega)];show(layB (0,0) 1 1).2+2≤3;omega
 rw[←hqb]at hdl;obtain⟨qh,hqh⟩:=E1 (dU SM (fo SM (layB (layB (layB qb (nA-257) 5) (nB-1) 5) (nT-4) 4) (ordS.take nT)) (runs (XA++XB)));have hqh2:qh.2≤100000:=by
  have hr:=wO (XA++XB);rw[List.length_append,←hnA,←hnB]at hr;have h1:=zX (okl hd.cs) (runs (XA++XB)) (fo SM (layB (layB (layB qb (nA-257) 5) (nB-1) 5) (nT-4) 4) (ordS.take nT));have h2:=zW SM (ordS.take nT) (layB (layB (layB qb (nA-257) 5) (nB-1) 5) (nT-4) 4);have h3:=dh (layB (layB qb (nA-257) 5) (nB-1) 5) (nT-4) 4;have h4:=dh (layB qb (nA-257) 5) (nB-1) 5;have h5:=dh qb (nA-257) 5;have h6:(ordS.take nT).length≤19:=by rw[List.length_take];show min nT 19≤19;omega
  rw[hqh];omega
 rw[←hqh]at hdl;have hbig:(dynL l).2≤100000000:=by
  rw[hdl];have h1:=dg (okl hd.ca) (bC XA XB qh P) 256;have h2:=tA (okl hd.ca) (okl hd.cb) P qh hd.tk;omega
 have HG:=qhz hG;have HSH:=qhz hsh2;have HDL:=qhz hdl;have HD:=qhz hd;have HSM:=qhz hSM;have HNT:=qhz hnT;have HTA:=qhz htA;have HTB:=qhz htB;have HUA:=qhz huA;have HUB:=qhz huB;have HQB:=qhz hqb;have HQH:=qhz hqh;have HK:=qhz hK;have hcA:=csA (cC P) (show 286≤2^15 by decide);have hcB:=csA (bW P) (show 30≤2^15 by decide);have HCA:=qhz hcA;have HCB:=qhz hcB;have hP4:P.length≤10000:=by omega
 have HP4:=qhz hP4;have HNA:=qhz hnA;have HNB:=qhz hnB;clear hG hsh hsh2 hdl hd hSM hSM2 hnT htA htB huA huB hqb hqh hK hcA hcB hP hXA hXB hlen hnA hnB
 go_enter func115,ntmps115
 go_wp2_with fail
 refine(KC w (w.heap.size+1) w.heap.size rfl).mono ?_;rintro e w1 ⟨rfl,hS1,hB1,hz1⟩;have hW1:WroteP w1 w1 (w.heap.size+1) w.heap.size none (0,0):=WroteP.refl hS1;have hc:=mg hW1 (Nat.le_of_eq hz1.symm) (by decide) (last:=1) (kind:=2) (by omega) (by omega);rw[←HQB.out]at hc;have HC:=qhz hc;have HB1:=qhz hB1;have HZ1:=qhz hz1;clear hS1 hB1 hz1 hW1 hc
 go_wp2_with fail
 refine HC.out.mono ?_;rintro e w2 ⟨rfl,hW2⟩;have hB02:But [] w w2:=HB1.out.fresh hW2.but (fun i hi=>by simp at hi;omega);have hcnt:=G9 (c:=c) w2 (HK.out.but hB02) hn HSH.out;have HCNT:=qhz hcnt;have HW2:=qhz hW2;have HB02:=qhz hB02;clear hW2 HC hB02 hcnt
 go_wp2_with fail
 refine HCNT.out.mono ?_;rintro e w3 ⟨rfl,hRA,hRB,hB3⟩;have hIA:=hRA.ints;rw[cC]at hIA;have hLA:=lp (cap:=286) (M:=15) (m:=15) hIA (by omega) (by omega) (by omega) (okCe fun j=>by have:=rE P j;have:=HP4.out;omega) HCA.out rfl;have HLA:=qhz hLA;have HRB:=qhz hRB;have HB3:=qhz hB3;clear hRA hRB hB3 hIA hLA HCNT
 go_wp2_with fail
 refine HLA.out.mono ?_;rintro e w4 ⟨gA,rfl,hOA,hB4⟩;have hIA:=hOA.ints;have hTA:=kN (c:=286) (least:=257) hIA (by omega) (by omega) (by omega) (by omega);rw[HUA.out]at hTA;have HTRA:=qhz hTA;have HOA:=qhz hOA;have HRB4:=qhz (HRB.out.but hB4 (by simp));have HB4:=qt HB3 hB4;have hsz3:=HB3.out.size;clear hOA hB4 hIA hTA HLA HRB
 go_wp2_with fail
 refine HTRA.out.mono ?_;rintro e w4' ⟨rfl,rfl⟩;have hIB:=HRB4.out.ints;rw[bW]at hIB;have hLB:=lp (cap:=30) (M:=15) (m:=15) hIB (by omega) (by omega) (by omega) (okCe fun j=>by have:=rD P j;have:=HP4.out;omega) HCB.out rfl;have HLB:=qhz hLB;clear hIB hLB HTRA HRB4
 go_wp2_with fail
 refine HLB.out.mono ?_;rintro e w5 ⟨gB,rfl,hOB,hB5⟩;have hIB:=hOB.ints;have hTB:=kN (c:=30) (least:=1) hIB (by omega) (by omega) (by omega) (by omega);rw[HUB.out]at hTB;have HTRB:=qhz hTB;have hOA5:=HOA.out.but hB5 (by simp);have hB25:=HB4.out.trans hB5;have hsz4:=HB4.out.size;obtain⟨og',hR,hlt,hKp,hback⟩:=HW2.out.rebase hB25;have hKA:Keep (w.heap.size::og'.toList) w5 fun w'=>Ints w' (some ⟨gA,0,none⟩) nA XA:=fun w' hw=>by
  have h:=((OwnI.keep hOA5 (fun k hk=>by have:=(hlt k hk).1;omega) (by rw[aV,cC])) w' hw).take (k:=nA) ha2;rw[HTA.out]at h;exact h
 have hKB:Keep (w.heap.size::og'.toList) w5 fun w'=>Ints w' (some ⟨gB,0,none⟩) nB XB:=fun w' hw=>by
  have h:=((OwnI.keep hOB (fun k hk=>by have:=(hlt k hk).1;omega) (by rw[aV,bW])) w' hw).take (k:=nB) hb2;rw[HTB.out]at h;exact h
 have hK5:Keep (w.heap.size::og'.toList) w5 fun w'=>Tks w' A n (P.map tkI):=Tks.keep HK.out (HB02.out.trans hB25) (fun k hk=>by
  have:=HZ1.out;rcases(hlt k hk).2 with h|h
  ·simp at h;omega
  ·omega)
 have hs1:=HB02.out.size;have hs25:=hB25.size;have hz1:=HZ1.out;have hs12:=HW2.out.but.size;have hlo5:w.heap.size+1≤w5.heap.size:=by omega
 have hG5:=HG.out.but (HB02.out.trans hB25);have hLL:=tD (cA:=286) (cB:=30) hKA hKB hG5 ha1 ha2 hb1 hb2 HD.out HSM.out HNT.out hR hlo5 (by omega);rw[←HQH.out]at hLL;have HLL:=qhz hLL;have HKA:=qhz hKA;have HKB:=qhz hKB;have HK5:=qhz hK5;have HBACK:=qhz hback;clear hOB hB5 hIB hTB hOA5 hB25 hR hlt hKp hback hKA hKB hK5 hG5 hLL HLB HOA hs1 hs25 hz1 hs12
 go_wp2_with fail
 refine HTRB.out.mono ?_;rintro e w5' ⟨rfl,rfl⟩
 go_wp2_with fail
 refine HLL.out.mono ?_;rintro e w6 ⟨rfl,hW6⟩;have hcall:=ve (c:=c) (cl:=286) (cd:=30) HKA.out HKB.out HK5.out HD.out.ca HD.out.cb (by omega) (by omega) (fun e=>by cases e) (fun e=>by cases e) HD.out.tk HD.out.he (by omega) hW6 hlo5 hqh2;rw[←HDL.out]at hcall;have HCALL:=qhz hcall;clear hW6 hcall HLL HTRB
 go_wp2_with fail
 refine HCALL.out.mono ?_;rintro e w7 ⟨rfl,hW7⟩;have HW8:=qhz (HBACK.out _ _ hW7);clear hW7 HCALL HBACK
 go_wp2_with fail
 refine(HW8.out.text (by omega)).mono ?_;rintro e w9 ⟨rfl,hB9⟩;have HBe:Hid (But [] w w9):=qhz ((HB1.out.fresh HW8.out.but (fun i hi=>by simp at hi;omega)).trans hB9);clear hB9;go_wp2;go_ret;exact⟨rfl,HBe.out⟩
end
section
theorem On(q:Nat×Nat)(a c:List UInt8):layY (layY q a) c=layY q (a++c):=by
 simp only[kg];have e1:(8*((q.2+7)/8)+8*a.length+7)/8=(q.2+7)/8+a.length:=by omega
 rw[e1,fZ,List.length_append,Nat.mul_add 8,Nat.pow_add,p256];refine Prod.ext ?_ ?_
 ·dsimp only;rw[Nat.add_mul,Nat.add_assoc,Nat.mul_comm (2^(8*a.length)) (num c),Nat.mul_assoc,Nat.mul_comm (2^(8*a.length))]
 ·dsimp only;omega
theorem Hg(W:World){n:Nat}(hn:n≤65535):
 (convert 47 9 (.slice W.heap.size 4 4)).run prog (W.alloc (.cells #[.int .u8 ((n:Int)%256),.int .u8 ((n:Int)/256),.int .u8 ((65535-(n:Int))%256),.int .u8 ((65535-(n:Int))/256)] 5))=.ok (.string ⟨(eJ n).toArray⟩) (W.alloc (.cells #[.int .u8 ((n:Int)%256),.int .u8 ((n:Int)/256),.int .u8 ((65535-(n:Int))%256),.int .u8 ((65535-(n:Int))/256)] 5)):=by
 refine Ma (L:=eJ n) (cap:=4) fun j hj=>?_;have a1:=UInt8.toNat_ofNat' (n:=n);have a2:=u8n (n/256) (by omega);have a3:=u8n (255-n%256) (by omega);have a4:=u8n (255-n/256) (by omega);rw[(Is.fresh W 5 #[.int .u8 ((n:Int)%256),.int .u8 ((n:Int)/256),.int .u8 ((65535-(n:Int))%256),.int .u8 ((65535-(n:Int))/256)]).cell j];rw[kh]at hj;unfold eJ
 match j,hj with
 |0,_=>show some (Value.int .u8 ((n:Int)%256))=some (Value.int .u8 ((UInt8.ofNat n).toNat:Int));rw[a1];congr 2
 |1,_=>show some (Value.int .u8 ((n:Int)/256))=some (Value.int .u8 ((UInt8.ofNat (n/256)).toNat:Int));rw[a2];congr 2
 |2,_=>show some (Value.int .u8 ((65535-(n:Int))%256))=some (Value.int .u8 ((UInt8.ofNat (255-n%256)).toNat:Int));rw[a3];congr 2;omega
 |3,_=>show some (Value.int .u8 ((65535-(n:Int))/256))=some (Value.int .u8 ((UInt8.ofNat (255-n/256)).toNat:Int));rw[a4];congr 2;omega
theorem vD(q:Nat×Nat)(s:ByteArray):(lC q.1 q.2 s,iu q.2 s)=layY q s.data.toList:=rfl
attribute [local irreducible] layB layY dE aI eJ
theorem Eo(last:Nat)(hl:last≤1)(q:Nat×Nat)(l:List UInt8):(layZ last q l).2≤q.2+42+8*l.length:=by
 unfold layZ;rw[kg,List.length_append,kh,bX (v:=0) (by omega) (by omega),bX (v:=last) (by omega) (by omega)];dsimp only;omega
theorem IW{l:List UInt8}(h:l.length≤65535)(q:Nat×Nat):pr l.length q l=layZ 1 q l:=pq 0 l.length q l (by omega) (Nat.zero_le _)
theorem Fh{l:List UInt8}(h:65535<l.length)(q:Nat×Nat):pr l.length q l=pr (l.drop 65535).length (layZ 0 q (l.take 65535)) (l.drop 65535):=by
 obtain⟨n,hn⟩:∃n,l.length=n+1:=⟨l.length-1,by omega⟩
 rw[hn,pr,if_neg (by omega)];exact pq _ _ _ _ (by omega) (by rw[List.length_drop];omega)
theorem Jg(n:Nat):(⟨(eJ n).toArray⟩:ByteArray).size=4:=by show(eJ n).toArray.size=4;rw[List.size_toArray,kh]
section
variable {w w1 w2 w':World} {lo b:Nat} {og:Option Nat} {r:Nat×Nat}
theorem mG(h:WroteP w w1 lo b og r)(hlo:lo≤w.heap.size)(hN:r.2≤1000000000){s:ByteArray}(hs:s.size≤65535):
 Calls prog 159 #[.pointer b,s] w1 fun e w'=>e=.returned (.tuple #[])∧WroteP w w' lo b og (layY r (eJ s.size++s.data.toList)):=by
 have kc:=fun W=>Hg W hs;have hh4:=Jg s.size;obtain⟨hd,hhd⟩:∃hd:ByteArray,hd=⟨(eJ s.size).toArray⟩:=⟨_,rfl⟩
 simp only[←hhd]at kc hh4;have hy:layY r (eJ s.size++s.data.toList)=layY (layY r hd.data.toList) s.data.toList:=by rw[On,hhd]
 have hq2:(layY r hd.data.toList).2≤100000000000:=by
  rw[kg,hhd];show 8*((r.2+7)/8)+8*(eJ s.size).length≤_;rw[kh];omega
 rw[hy];obtain⟨q,hq⟩:=E1 (layY r hd.data.toList);rw[←hq]at hq2⊢;have HQ:=qhz hq;have H:=qhz h;clear h hq hhd hy
 go_enter func159,ntmps159
 go_wp2_with fail
 refine((H.out.other ((But.refl [] w1).alloc _)).bytes hlo (by omega) hd (by omega)).mono ?_;rintro e w3 ⟨rfl,hW3⟩;rw[vD,←HQ.out]at hW3;have HW3:=qhz hW3;clear hW3 kc
 go_wp2_with fail
 refine(HW3.out.bytes hlo (by omega) s (by omega)).mono ?_;rintro e w4 ⟨rfl,hW4⟩;rw[vD]at hW4;have HW4:=qhz hW4;clear hW4;go_wp2
 go_end0
 exact⟨rfl,HW4.out⟩
theorem but0(w:World)(h:But [] w w1)(hS:∀i∈b::og.toList,w.heap.size≤i)(hW:WroteP w1 w' lo b og r):But [] w w':=h.fresh hW.but hS
theorem Bt(w:World){s:ByteArray}(hs:s.size≤1000000):
 Calls prog 113 #[s] w (R1z (.string (aI (dE s.data.toList))) w):=by
 have hls:=bP s;obtain⟨X,hX⟩:=E1 (dE s.data.toList);have h0:pr s.size (0,0) s.data.toList=X:=by rw[hX];unfold dE;rw[hls]
 rw[←hX];have H0:=qhz h0;clear hls hX h0
 go_enter func113,ntmps113
 go_wp2_with fail
 refine(KC w (w.heap.size+1) w.heap.size rfl).mono ?_;rintro e w1 ⟨rfl,hS1,hB1,hz1⟩;have hW1:WroteP w1 w1 (w.heap.size+1) w.heap.size none (0,0):=WroteP.refl hS1;have HW1:=qhz hW1;have HB1:=qhz hB1;have HZ1:=qhz hz1;clear hS1 hB1 hz1 hW1;go_wp2
 go_loopw [0] (fun dv wr=>∃(d:ByteArray) (q:Nat×Nat),dv=.string d∧d.size≤s.size∧Hid (pr d.size q d.data.toList=X)∧Hid (WroteP w1 wr (w.heap.size+1) w.heap.size none q)∧q.2+16*d.size≤16*s.size) (fun dv _=>match dv with|.string d=>d.size|_=>0)
 case atStart=>exact⟨s,(0,0),rfl,Nat.le_refl _,H0,HW1,by show 0+16*s.size≤_;omega⟩
 case round=>
  obtain⟨d,q,rfl,hd,HG,HW,hq⟩:=hrel;clear HW1 H0;have hld:=bP d
  by_cases hlt:65535<d.size
  ·have dl:decide ((65535:Int)<(d.size:Int))=true:=by simp;omega
   have hst:=Fh (l:=d.data.toList) (by omega) q;obtain⟨a,ha⟩:=E1 (d.extract 0 65535);obtain⟨c,hc⟩:=E1 (d.extract 65535 d.size);have hda:a.data.toList=d.data.toList.take 65535:=by rw[ha,ByteArray.data_extract,Array.toList_extract];simp
   have hdc:c.data.toList=d.data.toList.drop 65535:=by
    rw[hc,ByteArray.data_extract,Array.toList_extract];rw[List.extract_eq_take_drop,List.take_of_length_le (by rw[List.length_drop];omega)]
   have hsa:a.size=65535:=by rw[ha,ByteArray.size_extract];omega
   have hsc:c.size=d.size-65535:=by rw[hc,ByteArray.size_extract];omega
   have hlc:=bP c;rw[hld,HG.out,←hda,←hdc,hlc]at hst;have hlz:=Eo 0 (by omega) q a.data.toList;rw[bP a,hsa]at hlz;obtain⟨qb,hqb⟩:=E1 (layB (layB q 0 1) 0 2);have hqb2:qb.2≤20000000:=by
    rw[hqb,bX (v:=0) (n:=2) (by omega) (by omega),bX (v:=0) (n:=1) (by omega) (by omega)];show q.2+1+2≤_;omega
   have hz:layZ 0 q a.data.toList=layY qb (eJ a.size++a.data.toList):=by unfold layZ;rw[hqb,bP a]
   obtain⟨qn,hqn⟩:=E1 (layZ 0 q a.data.toList);rw[←hqn]at hst hlz hz;have HST:=qhz hst.symm;have HQB:=qhz hqb;have HZ:=qhz hz;have hsl1:∀w,(Instr.slice 9 (.string d) none (some (.int .i64 65535)) none).run prog w=.ok (.string a) w:=fun w=>by
    rw[run_slice_string_to_if w 9 d .i64 _ underlying9,if_pos (by omega),ha];rfl
   have hsl2:∀w,(Instr.slice 9 (.string d) (some (.int .i64 65535)) none none).run prog w=.ok (.string c) w:=fun w=>by
    rw[run_slice_string_from_if w 9 d .i64 _ underlying9,if_pos (by omega),hc];rfl
   clear hst ha hc hda hdc hlc hqb hz hqn hld
   go_wp2_with fail
   refine(mg HW.out (by have:=HZ1.out;omega) (by omega) (last:=0) (kind:=0) (by omega) (by omega)).mono ?_;rintro e w2 ⟨rfl,hW2⟩;rw[←HQB.out]at hW2;have HW2:=qhz hW2;clear hW2
   go_wp2_with fail
   refine(mG HW2.out (by have:=HZ1.out;omega) (by omega) (s:=a) (by omega)).mono ?_;rintro e w3 ⟨rfl,hW3⟩;rw[←HZ.out]at hW3;have HW3:=qhz hW3;clear hW3;go_wp2
   go_roundw
   case rel=>exact⟨c,qn,rfl,by omega,HST,HW3,by omega⟩
   case measure=>show c.size<d.size;omega
  ·have dl:decide ((65535:Int)<(d.size:Int))=false:=by simp;omega
   have hst:=IW (l:=d.data.toList) (by omega) q;rw[hld,HG.out]at hst;have hlz:=Eo 1 (by omega) q d.data.toList;rw[hld]at hlz;obtain⟨qb,hqb⟩:=E1 (layB (layB q 1 1) 0 2);have hqb2:qb.2≤20000000:=by
    rw[hqb,bX (v:=0) (n:=2) (by omega) (by omega),bX (v:=1) (n:=1) (by omega) (by omega)];show q.2+1+2≤_;omega
   have hz:X=layY qb (eJ d.size++d.data.toList):=by rw[hst];unfold layZ;rw[hqb,hld]
   have hX2:X.2≤20000000:=by rw[hst];omega
   have HQB:=qhz hqb;have HZ:=qhz hz;clear hst hqb hz hld
   go_wp2_with fail
   refine(mg HW.out (by have:=HZ1.out;omega) (by omega) (last:=1) (kind:=0) (by omega) (by omega)).mono ?_;rintro e w2 ⟨rfl,hW2⟩;rw[←HQB.out]at hW2;have HW2:=qhz hW2;clear hW2
   go_wp2_with fail
   refine(mG HW2.out (by have:=HZ1.out;omega) (by omega) (s:=d) (by omega)).mono ?_;rintro e w3 ⟨rfl,hW3⟩;rw[←HZ.out]at hW3;have HW3:=qhz hW3;clear hW3
   go_wp2_with fail
   refine(HW3.out.text (by omega)).mono ?_;rintro e w4 ⟨rfl,hB4⟩;have HBe:=qhz ((but0 w HB1.out (fun i hi=>by simp at hi;omega) HW3.out).trans hB4);clear hB4;go_wp2;go_ret;exact⟨rfl,HBe.out⟩
end
end
end Go.Proofs.YtbanopnofpjnbaaGreatDoor
