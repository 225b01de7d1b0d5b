/- Own texts in one: SmT, Rpt, RdL, DyT. -/
import Derived.Test.YtbanopnofpjnbaaGreatDoorU13
import Derived.Test.YtbanopnofpjnbaaGreatDoorU37
set_option maxRecDepth 1000000
set_option linter.unusedVariables false
set_option maxHeartbeats 4000000
namespace Go.Proofs.YtbanopnofpjnbaaGreatDoor
open Go Go.RowKit Tryz
section
section
variable {w w':World} {b rb db:Nat} {og:Option Nat} {s:ByteArray} {p:Nat} {M:Int} {L:List UInt8} {fs fd:Option Nat}
theorem tI(h:SS w b rb db og s p M L fs fd):w.heap.size∉Foot b rb og:=fun hk=>by
 have h1:=h.lt;have h2:=h.hr;unfold Foot at hk;rcases List.mem_cons.1 hk with e|hk
 ·omega
 rcases List.mem_cons.1 hk with e|hk
 ·omega
 have:=(h.out w.heap.size (by simpa using hk)).2;omega
def kW(told:Nat):Rd (List Int):=am (dI (ordS.take told) (List.replicate 19 0)) fun small=>bq (chk small≠0) (chk small) (aR small)
def GotS(w:World)(b rb db:Nat)(og:Option Nat)(s:ByteArray)(M:Int)(L:List UInt8)(fs fd:Option Nat)(r:Except Int (List Int×Nat))(e:Ending)(w':World):Prop:=
 ∃(pv:Value) (er:Int) (q:Nat) (small:List Int),e=.returned (.tuple #[pv,er])∧Mv b rb w w' og og∧(er≠0→r=.error er)∧
  (er=0→r=.ok (small,q)∧SS w' b rb db og s q M L fs fd∧chk small=0∧∃bt,pv=.pointer (some ⟨bt,0,none⟩)∧NewT w.heap.size w' bt small)
theorem Kx{told k:Nat}(h:k<told)(ht:told≤19):(ordS.take told).drop k=ordS.getD k 0::(ordS.take told).drop (k+1):=by
 have hl:(ordS.take told).length=told:=by rw[List.length_take];show min told 19=told;omega
 rw[List.drop_eq_getElem_cons (by omega),List.getElem_take,List.getD_eq_getElem?_getD,List.getElem?_eq_getElem (show k<ordS.length by show k<19;omega)];rfl
theorem Fn{k v q q2:Nat}{ks:List Nat}{acc:List Int}(h:aY 3 s q=.ok (v,q2)):dI (k::ks) acc s q=dI ks (acc.set k (v:Nat)) s q2:=ae h
theorem Fm{k q:Nat}{er:Int}{ks:List Nat}{acc:List Int}(h:aY 3 s q=.error er):dI (k::ks) acc s q=.error er:=aB h
theorem ut(h:SS w b rb db og s p M L fs fd)(hG:Keep (Foot b rb og) w GL)(told:Nat)(ht:told≤19):
 Calls prog 231 #[.pointer b,told] w (GotS w b rb db og s M L fs fd (kW told s p)):=by
 have hwb:=h.lt;have hb1:=dZ w (.cells (List.replicate 19 (Value.int .i64 0)).toArray 259);have h1:=h.alloc (.cells (List.replicate 19 (Value.int .i64 0)).toArray 259);have m1:=Mv.alloc (b:=b) (rb:=rb) (w:=w) (og:=og) (.cells (List.replicate 19 (Value.int .i64 0)).toArray 259);have hI:=Is.fresh w 259 (List.replicate 19 (Value.int .i64 0)).toArray;have hfl:=tI h;have hdb:=h.hd;have HS:=qhz h1;have HM:=qhz m1;have HI:=qhz hI;have HG:=qhz hG;have HFL:=qhz hfl;clear h hG hb1 h1 m1 hI hfl
 go_enter func231,ntmps231
 go_wp2
 go_loopw [11] (fun iv wr=>∃(k q:Nat) (acc:List Int),k≤told∧iv=.int .i64 k∧acc.length=19∧Hid (dI ((ordS.take told).drop k) acc s q=dI (ordS.take told) (List.replicate 19 0) s p)∧SS wr b rb db og s q M L fs fd∧Mv b rb w wr og og∧Row wr w.heap.size 259 acc) (fun iv _=>told-(intOf iv).toNat)
 case atStart=>exact⟨0,p,List.replicate 19 0,Nat.zero_le _,rfl,by decide,by rfl,HS.out,HM.out,HI.out⟩
 case round=>
  obtain⟨k,q,acc,hk,rfl,hal,HR,hS,hMv,hRow⟩:=hrel;have HMV:=qhz hMv;have HROW:=qhz hRow;have HAL:=qhz hal;have hin:=hS.inCell
  by_cases hlt:k<told
  ·have hbt:=hS.bits 3;have hds:=Kx hlt ht;have hol:=Ch (i:=k) (by omega);obtain⟨oi,hoi⟩:=E1 (ordS.getD k 0);rw[←hoi]at hds hol;have HBT:=qhz hbt;have HDS:=qhz hds;have HOI:=qhz hoi;clear hbt hds hoi hS hMv hRow hal HS HM HI
   go_wp2_with fail
   refine HBT.out.mono ?_;rintro e w2 ⟨v,er,q2,rfl,hMv2,he1,he2⟩;have hRow2:=HROW.out.but hMv2.but HFL.out;have HE1:=qhz he1;have HE2:=qhz he2;have hMW:=HMV.out.trans hMv2;have HMW:=qhz hMW
   by_cases her:er=0
   ·obtain⟨hr,hS2⟩:=HE2.out her;have hgl:=HG.out w2 HMW.out.but;have c0:=hgl.order k (by omega);rw[←HOI.out]at c0;have c1:w2.cell? ⟨w.heap.size,oi,none⟩=some (.int .i64 (acc.getD oi 0)):=hRow2.at (by have:=HAL.out;omega);have f1:w2.frozen? ⟨w.heap.size,oi,none⟩=false:=Is.free hRow2 oi;have b0:(0:Int)≤(oi:Int):=by omega
    have b1:(oi:Int)<19:=by omega
    have b2:(0:Int)≤(k:Int):=by omega
    have b3:(k:Int)<19:=by omega
    have HRR:=qhz hr;have HS2:=qhz hS2;have HRW:=qhz hRow2;clear hr hS2 hRow2 HE1 HE2 he1 he2 hgl hMW hMv2;subst her;go_wp2
    go_roundw
    case rel=>
     refine⟨k+1,q2,acc.set oi (v:Int),by omega,by go_num,by rw[List.length_set];exact HAL.out,?_,HS2.out.away ((But.refl [w.heap.size] w2).setCell (.inl (by simp)) _) (fun x hx=>?_),⟨HMW.out.but.setCell (.inr (Nat.le_refl _)) _,HMW.out.own⟩,HRW.out.set oi (v:Int)⟩
     ·show _=_;rw[←HR.out,HDS.out];exact(Fn HRR.out).symm
     ·obtain rfl:x=w.heap.size:=by simpa using hx
      exact⟨HFL.out,by omega⟩
    case measure=>simp[intOf];omega
   ·have d2:(er !=0)=true:=by simpa using her
    have HER:=qhz her;clear her he1 he2 hMv2 hMW hRow2;go_wp2
    go_ret2
    refine⟨.pointer none,er,0,[],rfl,HMW.out,fun _=>?_,fun e=>absurd e HER.out⟩;unfold kW;refine aB ?_;rw[←HR.out,HDS.out];exact Fm (HE1.out HER.out)
  ·obtain rfl:k=told:=by omega
   have hok:dI (ordS.take k) (List.replicate 19 0) s p=.ok (acc,q):=by
    rw[←HR.out,List.drop_of_length_le (by rw[List.length_take];omega)];rfl
   have hrs:kW k s p=bq (chk acc≠0) (chk acc) (aR acc) s q:=ae hok;have hI:=hRow.ints;rw[hal]at hI;have HRS:=qhz hrs;have HS2:=qhz hS;have hlt2:=HMV.out.but.size;clear hok hrs hS hMv hRow hal HS HM HI HR hin
   by_cases hc:chk acc=0
   ·have hmk:=lW (cap:=19) hI (by omega) (fun e=>by cases e) hc;have HMK:=qhz hmk;have HC:=qhz hc;clear hmk hc hI
    go_wp2_with fail
    refine HMK.out.mono ?_;rintro e w3 ⟨bt,rfl,hT,hB⟩;have hM3:Mv b rb wr w3 og og:=Mv.of hB (by simp);have HT:=qhz hT;have HM3:=qhz (HMV.out.trans hM3);have HS3:=qhz (HS2.out.but hB (by simp));clear hT hB hM3;go_wp2
    go_ret2
    refine⟨_,0,q,acc,rfl,HM3.out,fun e=>absurd rfl e,fun _=>⟨by rw[HRS.out,aD (by simpa using HC.out)];rfl,HS3.out,HC.out,bt,rfl,HT.out.lower hlt2⟩⟩
   ·have hmk:=xD (cap:=19) hI (by unfold maxLen;omega) hc;obtain⟨x,hx⟩:∃x,chk acc=x:=⟨_,rfl⟩
    rw[hx]at hmk hc;have HMK:=qhz hmk;have HC:=qhz hc;have HX:=qhz hx;clear hmk hc hI hx
    go_wp2_with fail
    refine HMK.out.mono ?_;rintro e w3 ⟨rfl,rfl⟩;go_wp2
    go_ret2
    refine⟨.pointer none,x,0,[],rfl,HMV.out,fun _=>?_,fun e=>absurd e HC.out⟩;rw[HRS.out,cU (by rw[HX.out];exact HC.out),HX.out]
end
end
section
section
variable {w0 w w':World} {b rb db:Nat} {og:Option Nat} {s:ByteArray} {p:Nat} {M:Int} {L:List UInt8} {fs fd:Option Nat}
def jU(t:Nat):Nat:=if t=16 then 2 else if t=17 then 3 else 7
def d7(t:Nat):Nat:=if t=16 then 3 else if t=17 then 3 else 11
def rRep(t:Nat)(acc:List Int):Rd (List Int):=bq (t=16∧acc.length=0) 12 (am (aY (jU t)) fun x=>aR (acc++List.replicate (d7 t+x) (if t=16 then acc.getD (acc.length-1) 0 else 0)))
def GotL(w0:World)(b rb db:Nat)(og:Option Nat)(s:ByteArray)(M:Int)(L:List UInt8)(fs fd:Option Nat)(r:Except Int (List Int×Nat))(e:Ending)(w':World):Prop:=
 ∃(v:Value) (er:Int) (q:Nat) (acc:List Int),e=.returned (.tuple #[v,er])∧Mv b rb w0 w' og og∧(er≠0→r=.error er)∧
  (er=0→r=.ok (acc,q)∧SS w' b rb db og s q M L fs fd∧OwnI w' w0.heap.size v acc)
theorem zi(x:Int){n:Nat}{i:Int}(hi:i=n)(w:World)(hn0:0<n)(hn:n≤100000):
 Calls prog 229 #[x,i] w fun e w'=>∃gg cc,e=.returned (.slice (some ⟨gg,0,none⟩) n cc)∧OwnI w' w.heap.size (.slice (some ⟨gg,0,none⟩) n cc) (List.replicate n x)∧But [] w w':=by
 subst hi;exact e9 x w hn0 hn
theorem xq{base:Nat}{v:Value}{l:List Int}{S:List Nat}(h:OwnI w base v l)(hS:∀k∈S,k<base):∀k∈S,v.ownBlock≠some k:=fun k hk e=>by
 have:=(World.ownsRow.lt h k e).1;have:=hS k hk;omega
theorem Qi{t:Nat}{v:Value}{acc:List Int}(ht:t=17∨t=18)(h:SS w b rb db og s p M L fs fd)(hG:Keep (Foot b rb og) w0 GL)(hM:Mv b rb w0 w og og)(hO:OwnI w w0.heap.size v acc)(ha:acc.length≤400)(hfl:∀k∈Foot b rb og,k<w0.heap.size):
 Calls prog 244 #[.pointer (some ⟨b,0,none⟩),t,v] w (GotL w0 b rb db og s M L fs fd (rRep t acc s p)):=by
 have hr:rRep t acc s p=am (aY (jU t)) (fun x=>aR (acc++List.replicate (d7 t+x) 0)) s p:=by
  unfold rRep;rw[aD (by omega)];simp only[if_neg (show ¬t=16 by omega)]
 have hin:=h.inCell;have hbt:=h.drew.bits (jU t);have hg:=hG w hM.but;have hrb:jU t≤7:=by unfold jU;split<;>(try split)<;>omega
 have hrl:3≤d7 t∧d7 t≤11:=by unfold d7;split<;>(try split)<;>omega
 have k1:=hg.bits;have hk:∀x:World,GL x→x.cell? ⟨3,t-16,none⟩=some (.int .i64 (jU t:Nat))∧x.cell? ⟨4,t-16,none⟩=some (.int .i64 (d7 t:Nat)):=fun x hx=>by
  rcases ht with rfl|rfl
  ·exact⟨hx.bits.2.1,hx.least.2.1⟩
  ·exact⟨hx.bits.2.2,hx.least.2.2⟩
 have hcell:=(hk w hg).1;obtain⟨kd,hkd⟩:=E1 (t-16);rw[←hkd]at hcell hk;have hkt:(t:Int)-16=(kd:Int):=by omega
 have hkw:IntKind.i64.wrap (kd:Int)=(kd:Int):=IntWalk.i64_in _ (by omega);have b0:(0:Int)≤(kd:Int):=by omega
 have b1:(kd:Int)<3:=by omega
 have d16:((t:Int)==16)=false:=by simp;omega
 obtain⟨nb,hnb⟩:=E1 (jU t);obtain⟨nl,hnl⟩:=E1 (d7 t);rw[←hnb]at hr hbt hrb hk hcell;rw[←hnl]at hr hrl hk;have HR:=qhz hr;have HBT:=qhz hbt;have HG:=qhz hG;have HK:=qhz hk;have HM:=qhz hM;have HO:=qhz hO;have HA:=qhz ha;have hbw:=hM.but.size;have HC:=qhz hcell;have HIN:=qhz hin;have HKD:=qhz hkd;have HFL:=qhz hfl;obtain⟨i0,hi0,hz0,hz1,hz2⟩:=info_parts cG;clear h hG hM hO hr hbt hg k1 hk ha hnb hnl hkd hcell hin hfl ht
 go_enter func244,ntmps244
 go_upto_region 7 with(fail)
 go_cut [10,11] (fun v10 v11 wc=>∃(x:Nat) (er:Int) (q:Nat),v10=.int .i64 x∧v11=.int .i64 er∧Hid (Mv b rb w wc og og)∧Hid (er≠0→aY nb s p=.error er)∧Hid (er=0→aY nb s p=.ok (x,q)∧SS wc b rb db og s q M L fs fd))
 case first=>
  have hin:w.drew.cell? ⟨b,0,none⟩=some (.pointer (some ⟨rb,0,none⟩)):=HIN.out;have hcell:w.drew.cell? ⟨3,kd,none⟩=some (.int .i64 (nb:Nat)):=HC.out
  go_region_with (go_at_call 208;refine HBT.out.mono ?_;rintro e w1 ⟨x,er,q,rfl,hMv,he1,he2⟩;have HMV:=qhz hMv;have HE1:=qhz he1;have HE2:=qhz he2;clear hMv he1 he2)
  all_goals
   (try go_wp2)
   go_meet
   exact⟨_,_,_,rfl,rfl,Mv.drew.trans HMV.out,HE1.out,HE2.out⟩
 case rest=>
  obtain⟨x,er,q,rfl,rfl,HMV,HE1,HE2⟩:=hcut;obtain⟨w1,rfl⟩:=E1 (wc:World);clear HBT HIN HC
  by_cases her:er=0
  ·obtain⟨hrb1,hS⟩:=HE2.out her;have hx:=gq hrb1;have hx2:x<2^7:=Nat.lt_of_lt_of_le hx (Nat.pow_le_pow_right (by decide) hrb);have HRB:=qhz hrb1;have HS:=qhz hS;have hMW:=HM.out.trans HMV.out;have hl1:=(HK.out w1 (HG.out w1 hMW.but)).2;have hw1:=HMV.out.but.size;have hrep:=zi 0 (n:=nl+x) (i:=(nl:Int)+(x:Int)) (by omega) w1 (by omega) (by omega);have hO1:OwnI w1 w0.heap.size v acc:=HO.out.but HMV.out.but (xq HO.out HFL.out);have HREP:=qhz hrep;have HO1:=qhz hO1;have HMW:=qhz hMW;clear hrb1 hS hMW hrep hO1 HE1 HE2 hx;subst her
   go_wp2_with fail
   refine HREP.out.mono ?_;rintro e w2 ⟨gg,cc,rfl,hOr,hB2⟩;have hO2:=HO1.out.but hB2 (by simp);have hnw:=hOr.ints.news (by omega);have hsz:=hB2.size;have hm2:Mv b rb w1 w2 og og:=Mv.of hB2 (by simp);obtain⟨nn,hnn⟩:=E1 (nl+x);obtain⟨la,hla⟩:=E1 acc.length;have hnb:nn≤200:=by omega
   have hlb:la≤400:=by have:=HA.out;omega
   rw[←hnn]at hnw⊢;have ho:=hO2;unfold OwnI at ho;rw[←hla]at ho;have HOX:=qhz ho;have HNW:=qhz hnw;have HNN:=qhz hnn;have HLA:=qhz hla;have HM2:=qhz (HMW.out.trans hm2);have HS2:=qhz (HS.out.but hB2 (by simp));have hbs:w0.heap.size≤w2.heap.size:=by omega
   have hre:(List.replicate nn (0:Int)).length=nn:=List.length_replicate;clear hOr hB2 hO2 hnw hm2 hnn hla ho HREP HO1 HS HMW hx2 hl1
   go_wp2_with (at_builtin;go_loud (refine wpList_append_own _ rfl _ _ 36 rfl w0.heap.size 3 i0 (.int .i64 0) 1 8 underlying36 hi0 hz0 hz1 hz2 rfl (by decide) v la (acc.map (.int .i64)) rfl HOX.out ⟨gg,0,none⟩ nn cc ((List.replicate nn (0:Int)).map (.int .i64)) rfl (by simp) HNW.out ?c2 ?c3 ?c4 hbs ?_))
   case c2=>intro u hu;obtain⟨x,_,rfl⟩:=List.mem_map.1 hu;rfl
   case c3=>unfold maxLen;omega
   case c4=>omega
   intro v' w3 hown hgrow _;have hO3:OwnI w3 w0.heap.size v' (acc++List.replicate nn 0):=by
    unfold OwnI;rw[List.length_append,←HLA.out,List.length_replicate,List.map_append,List.map_replicate];exact hown
   have hb3:=HM2.out.but.grown hgrow (fun g e=>.inr (World.ownsRow.lt HOX.out g e).1);have hs3:=HS2.out.away (S:=v.ownBlock.toList) ((But.refl _ w2).grown hgrow (fun g e=>.inl (by simp[e]))) (fun k hk=>by
    have h1:=(World.ownsRow.lt HOX.out k (by simpa using hk)).1;have h2:=HS2.out.hd;have h3:=HFL.out b (by simp[Foot]);exact⟨fun h=>by have:=HFL.out k h;omega,by omega⟩)
   have HO3:=qhz hO3;have HB3:=qhz hb3;have HS3:=qhz hs3;clear hown hgrow hO3 hb3 hs3;go_wp2
   go_ret2
   refine⟨_,0,q,_,rfl,⟨HB3.out,fun g e=>.inl e⟩,fun e=>absurd rfl e,fun _=>⟨?_,HS3.out,HO3.out⟩⟩;rw[HR.out,ae HRB.out,HNN.out];rfl
  ·have d2:(er !=0)=true:=by simpa using her
   have HER:=qhz her;clear her;go_wp2
   go_ret2
   exact⟨.slice none 0 0,er,0,[],rfl,HM.out.trans HMV.out,fun _=>by rw[HR.out,aB (HE1.out HER.out)],fun e=>absurd e HER.out⟩
theorem Nw{v:Value}{acc:List Int}(h0:0<acc.length)(h:SS w b rb db og s p M L fs fd)(hG:Keep (Foot b rb og) w0 GL)(hM:Mv b rb w0 w og og)(hO:OwnI w w0.heap.size v acc)(ha:acc.length≤400)(hfl:∀k∈Foot b rb og,k<w0.heap.size):
 Calls prog 244 #[.pointer (some ⟨b,0,none⟩),(16:Int),v] w (GotL w0 b rb db og s M L fs fd (rRep 16 acc s p)):=by
 obtain⟨lv,hlv⟩:=E1 (acc.getD (acc.length-1) 0);have hr:rRep 16 acc s p=am (aY 2) (fun x=>aR (acc++List.replicate (3+x) lv)) s p:=by
  unfold rRep;rw[aD (by omega),hlv];rfl
 obtain⟨A,cA,rfl,hIA⟩:=xp hO h0;obtain⟨li,hli⟩:=E1 (acc.length-1);obtain⟨gA,oA,eA,_,hlc⟩:=hIA.at (i:=li) (by omega);obtain rfl:A=⟨gA,oA,none⟩:=by injection eA
 have hlv2:acc[li]'(by omega)=lv:=by rw[hlv,←hli,List.getD_eq_getElem?_getD,List.getElem?_eq_getElem (by omega)];rfl
 rw[hlv2]at hlc;have hin:=h.inCell;have hbt:=h.drew.bits 2;have hg:=hG w hM.but;have hcell:=hg.bits.1;have hgl:∀x:World,GL x→x.cell? ⟨4,0,none⟩=some (.int .i64 3):=fun x hx=>hx.least.1;have HR:=qhz hr;have HBT:=qhz hbt;have HG:=qhz hG;have HK:=qhz hgl;have HM:=qhz hM;have HO:=qhz hO;have HA:=qhz ha;have hbw:=hM.but.size;have HC:=qhz hcell;have HIN:=qhz hin;have HFL:=qhz hfl;obtain⟨i0,hi0,hz0,hz1,hz2⟩:=info_parts cG;obtain⟨la0,hla0⟩:=E1 acc.length;have HLA0:=qhz hla0.symm;rw[←hla0]at HO;have hl1:1≤la0:=by omega
 have hl2:la0≤400:=by omega
 have hli2:(la0:Int)-1=(li:Int):=by omega
 have hliw:IntKind.i64.wrap (li:Int)=(li:Int):=IntWalk.i64_in _ (by omega);have c0:(0:Int)≤(li:Int):=by omega
 have c1:(li:Int)<(la0:Int):=by omega
 have hz:((la0:Int)==0)=false:=by simp;omega
 have HH0:=qhz h0;rw[←hla0];clear h hG hM hO hr hbt hg hgl ha hcell hin hfl hIA eA hlv2 hlv hla0 hli h0
 go_enter func244,ntmps244
 go_upto_region 7 with(fail)
 go_cut [10,11] (fun v10 v11 wc=>∃(x:Nat) (er:Int) (q:Nat),v10=.int .i64 x∧v11=.int .i64 er∧Hid (Mv b rb w wc og og)∧Hid (er≠0→aY 2 s p=.error er)∧Hid (er=0→aY 2 s p=.ok (x,q)∧SS wc b rb db og s q M L fs fd))
 case first=>
  have hin:w.drew.cell? ⟨b,0,none⟩=some (.pointer (some ⟨rb,0,none⟩)):=HIN.out;have hcell:w.drew.cell? ⟨3,0,none⟩=some (.int .i64 2):=HC.out
  go_region_with (go_at_call 208;refine HBT.out.mono ?_;rintro e w1 ⟨x,er,q,rfl,hMv,he1,he2⟩;have HMV:=qhz hMv;have HE1:=qhz he1;have HE2:=qhz he2;clear hMv he1 he2)
  all_goals
   (try go_wp2)
   go_meet
   exact⟨_,_,_,rfl,rfl,Mv.drew.trans HMV.out,HE1.out,HE2.out⟩
 case rest=>
  obtain⟨x,er,q,rfl,rfl,HMV,HE1,HE2⟩:=hcut;obtain⟨w1,rfl⟩:=E1 (wc:World);clear HBT HIN HC
  by_cases her:er=0
  ·obtain⟨hrb1,hS⟩:=HE2.out her;have hx:=gq hrb1;have hx2:x<2^7:=Nat.lt_of_lt_of_le hx (Nat.pow_le_pow_right (by decide) (by omega));have HRB:=qhz hrb1;have HS:=qhz hS;have hMW:=HM.out.trans HMV.out;have hlt3:=HK.out w1 (HG.out w1 hMW.but);have hw1:=HMV.out.but.size;have hrep:=zi lv (n:=3+x) (i:=3+(x:Int)) (by omega) w1 (by omega) (by omega);have hO1:OwnI w1 w0.heap.size (.slice (some ⟨gA,oA,none⟩) la0 cA) acc:=HO.out.but HMV.out.but (xq HO.out HFL.out);have HREP:=qhz hrep;have HO1:=qhz hO1;have HMW:=qhz hMW;clear hrb1 hS hMW hrep hO1 HE1 HE2 hx;subst her
   go_wp2_with fail
   refine HREP.out.mono ?_;rintro e w2 ⟨gg,cc,rfl,hOr,hB2⟩;have hO2:=HO1.out.but hB2 (by simp);have hnw:=hOr.ints.news (by omega);have hsz:=hB2.size;have hm2:Mv b rb w1 w2 og og:=Mv.of hB2 (by simp);obtain⟨nn,hnn⟩:∃nn,nn=3+x:=⟨_,rfl⟩
   obtain⟨la,hla⟩:=E1 acc.length;have hnb:nn≤200:=by omega
   have hlb:la≤400:=by have:=HA.out;omega
   rw[←hnn]at hnw⊢;have ho:=hO2;unfold OwnI at ho;rw[←hla]at ho;have HOX:=qhz ho;have HNW:=qhz hnw;have HNN:=qhz hnn;have HLA:=qhz hla;have HM2:=qhz (HMW.out.trans hm2);have HS2:=qhz (HS.out.but hB2 (by simp));have hbs:w0.heap.size≤w2.heap.size:=by omega
   have hre:(List.replicate nn lv).length=nn:=List.length_replicate;clear hOr hB2 hO2 hnw hm2 hnn hla ho HREP HO1 HS HMW hx2 hlt3
   go_wp2_with (at_builtin;go_loud (refine wpList_append_own _ rfl _ _ 36 rfl w0.heap.size 3 i0 (.int .i64 0) 1 8 underlying36 hi0 hz0 hz1 hz2 rfl (by decide) (.slice (some ⟨gA,oA,none⟩) la0 cA) la (acc.map (.int .i64)) rfl HOX.out ⟨gg,0,none⟩ nn cc ((List.replicate nn lv).map (.int .i64)) rfl (by simp) HNW.out ?c2 ?c3 ?c4 hbs ?_))
   case c2=>intro u hu;obtain⟨x,_,rfl⟩:=List.mem_map.1 hu;rfl
   case c3=>unfold maxLen;omega
   case c4=>omega
   intro v' w3 hown hgrow _;have hO3:OwnI w3 w0.heap.size v' (acc++List.replicate nn lv):=by
    unfold OwnI;rw[List.length_append,←HLA.out,List.length_replicate,List.map_append,List.map_replicate];exact hown
   have hb3:=HM2.out.but.grown hgrow (fun g e=>.inr (World.ownsRow.lt HOX.out g e).1);have hs3:=HS2.out.away (S:=(Value.slice (some ⟨gA,oA,none⟩) la0 cA).ownBlock.toList) ((But.refl _ w2).grown hgrow (fun g e=>.inl (by simp[e]))) (fun k hk=>by
    have h1:=(World.ownsRow.lt HOX.out k (by simpa using hk)).1;have h2:=HS2.out.hd;have h3:=HFL.out b (by simp[Foot]);exact⟨fun h=>by have:=HFL.out k h;omega,by omega⟩)
   have HO3:=qhz hO3;have HB3:=qhz hb3;have HS3:=qhz hs3;clear hown hgrow hO3 hb3 hs3;go_wp2
   go_ret2
   refine⟨_,0,q,_,rfl,⟨HB3.out,fun g e=>.inl e⟩,fun e=>absurd rfl e,fun _=>⟨?_,HS3.out,HO3.out⟩⟩;rw[HR.out,ae HRB.out,HNN.out];rfl
  ·have d2:(er !=0)=true:=by simpa using her
   have HER:=qhz her;clear her;go_wp2
   go_ret2
   exact⟨.slice none 0 0,er,0,[],rfl,HM.out.trans HMV.out,fun _=>by rw[HR.out,aB (HE1.out HER.out)],fun e=>absurd e HER.out⟩
end
end
section
theorem Eh(l:List Int)(s:ByteArray):∀f n c p,(kE l s f n c p).2.1=0→(kE l s f n c p).1<l.length
 |0,_,_,_,h=>by rw[pP]at h;simp at h
 |f+1,n,c,p,h=>by
  rw[jo]at h⊢
  by_cases h0:au s p 1=0
  ·rw[if_neg (by simpa using h0)]at h⊢;cases e:tM l n (2*c+ax s p 1) with
   |some i=>
    unfold tM at e;exact List.mem_range.1 (List.mem_of_find?_eq_some e)
   |none=>
    rw[e]at h;exact Eh l s f (n+1) _ _ h
  ·rw[if_pos h0]at h;exact absurd h h0
theorem NA{l:List Int}{s:ByteArray}{p t q:Nat}(h:fm l s p=.ok (t,q)):t<l.length:=by
 unfold fm at h
 by_cases h0:(gK l s p).2.1=0
 ·rw[if_neg (by simpa using h0)]at h;injection h with h;injection h with h1 h2
  subst h1;exact Eh l s _ _ _ _ h0
 ·rw[if_pos h0]at h;cases h
section
variable {small:List Int} {total f p p1 t q:Nat} {acc acc2:List Int} {s:ByteArray} {e:Int}
theorem Nz:Adv (rRep t acc):=by
 unfold rRep;exact Adv.when (Adv.bind (bV _) fun x=>Adv.pure _)
theorem Ny(h:acc.length<total)(hn:fm small s p=.ok (t,p1))(h1:16≤t)(h2:t≤18)(hr:rRep t acc s p1=.error e):lenG small total (f+1) acc s p=.error e:=by
 rw[gM h,ae hn,if_neg (by omega)];unfold rRep at hr
 by_cases h0:t=16∧acc.length=0
 ·rw[cU h0]at hr;rw[if_pos h0.1,cU h0.2];exact hr
 ·rw[aD h0]at hr;have hb:aY (jU t) s p1=.error e:=by
   unfold am at hr;cases hx:aY (jU t) s p1 with
   |error y=>rw[hx]at hr;injection hr with hr;rw[hr]
   |ok y=>rw[hx]at hr;cases hr
  by_cases h16:t=16
  ·subst h16;rw[if_pos rfl,aD (by omega)];exact aB hb
  ·by_cases h17:t=17
   ·subst h17;rw[if_neg (by omega),if_pos rfl];exact aB hb
   ·obtain rfl:t=18:=by omega
    rw[if_neg (by omega),if_neg (by omega)];exact aB hb
theorem Qm(h:acc.length<total)(hn:fm small s p=.ok (t,p1))(h1:16≤t)(h2:t≤18)(hr:rRep t acc s p1=.ok (acc2,q)):
 acc2.length≤acc.length+200∧lenG small total (f+1) acc s p=if total<acc2.length then .error 12 else lenG small total f acc2 s q:=by
 rw[gM h,ae hn,if_neg (by omega)];unfold rRep at hr;obtain⟨h0,hr⟩:=lj hr;obtain⟨⟨x,q1⟩,hb,hr2⟩:=fY hr;have hx:=gq hb;unfold aR at hr2;injection hr2 with hr2;injection hr2 with hr2 hq;subst hq;dsimp only at hr2 hb hx⊢
 by_cases h16:t=16
 ·subst h16;rw[if_pos rfl]at hr2;subst hr2;rw[if_pos rfl,aD (by omega)];have hx:x<4:=hx;refine⟨by rw[List.length_append,List.length_replicate];show _≤_;have:d7 16=3:=rfl;omega,(ae hb).trans ?_⟩;have hl:(acc++List.replicate (d7 16+x) (acc.getD (acc.length-1) 0)).length=acc.length+(3+x):=by rw[List.length_append,List.length_replicate];rfl
  rw[hl]
  by_cases hc:total<acc.length+(3+x)
  ·rw[cU hc,if_pos hc]
  ·rw[aD hc,if_neg hc];rfl
 ·rw[if_neg h16]at hr2;subst hr2
  by_cases h17:t=17
  ·subst h17;rw[if_neg (by omega),if_pos rfl];have hx:x<8:=hx;refine⟨by rw[List.length_append,List.length_replicate];have:d7 17=3:=rfl;omega,(ae hb).trans ?_⟩;have hl:(acc++List.replicate (d7 17+x) (0:Int)).length=acc.length+(3+x):=by rw[List.length_append,List.length_replicate];rfl
   rw[hl]
   by_cases hc:total<acc.length+(3+x)
   ·rw[cU hc,if_pos hc]
   ·rw[aD hc,if_neg hc];rfl
  ·obtain rfl:t=18:=by omega
   rw[if_neg (by omega),if_neg (by omega)];have hx:x<128:=hx;refine⟨by rw[List.length_append,List.length_replicate];have:d7 18=11:=rfl;omega,(ae hb).trans ?_⟩;have hl:(acc++List.replicate (d7 18+x) (0:Int)).length=acc.length+(11+x):=by rw[List.length_append,List.length_replicate];rfl
   rw[hl]
   by_cases hc:total<acc.length+(11+x)
   ·rw[cU hc,if_pos hc]
   ·rw[aD hc,if_neg hc];rfl
theorem Oh(h:acc.length<total)(hn:fm small s p=.ok (t,p1))(ht:t<16):lenG small total (f+1) acc s p=lenG small total f (acc++[(t:Int)]) s p1:=by
 rw[gM h,ae hn,if_pos ht]
theorem Oj(h:acc.length<total)(hn:fm small s p=.error e):lenG small total (f+1) acc s p=.error e:=(gM h).trans (aB hn)
end
section
variable {w0 w w':World} {b rb db:Nat} {og:Option Nat} {s:ByteArray} {p:Nat} {M:Int} {L:List UInt8} {fs fd:Option Nat}
theorem BH{v:Value}(hM:Mv b rb w0 w og og)(hO:OwnI w w0.heap.size v []):
 Calls prog 244 #[.pointer b,(16:Int),v] w (GotL w0 b rb db og s M L fs fd (rRep 16 [] s p)):=by
 obtain⟨A,c,rfl,hI,_⟩:=hO.open;have HM:=qhz hM;clear hM hO hI
 go_enter func244,ntmps244
 go_wp2
 go_ret2
 exact⟨.slice none 0 0,12,0,[],rfl,HM.out,fun _=>rfl,fun e=>absurd e (by decide)⟩
theorem Qh{t:Nat}{v:Value}{acc:List Int}(h1:16≤t)(h2:t≤18)(h:SS w b rb db og s p M L fs fd)(hG:Keep (Foot b rb og) w0 GL)(hM:Mv b rb w0 w og og)(hO:OwnI w w0.heap.size v acc)(ha:acc.length≤400)(hfl:∀k∈Foot b rb og,k<w0.heap.size):
 Calls prog 244 #[.pointer (some ⟨b,0,none⟩),t,v] w (GotL w0 b rb db og s M L fs fd (rRep t acc s p)):=by
 by_cases h16:t=16
 ·subst h16
  by_cases h0:0<acc.length
  ·exact Nw h0 h hG hM hO ha hfl
  ·obtain rfl:acc=[]:=List.eq_nil_of_length_eq_zero (by omega);exact BH hM hO
 ·exact Qi (by omega) h hG hM hO ha hfl
def ML(small:List Int)(total f:Nat)(s:ByteArray)(R:Except Int (List Int×Nat))(acc:List Int)(q:Nat):Prop:=
 (acc.length≤total∧lenG small total f acc s q=R∧8*s.size-q<f)∨(total<acc.length∧R=.error 12∧acc.length≤600)
theorem KS{small:List Int}{total f:Nat}{R:Except Int (List Int×Nat)}{acc:List Int}{q:Nat}(h:ML small total f s R acc q)(ht:total≤400):acc.length≤600:=by
 rcases h with⟨h,_⟩|⟨_,_,h⟩<;>omega
theorem sI{bt F:Nat}{small:List Int}(h:SS w b rb db og s p M L fs fd)(hG:Keep (Foot b rb og) w GL)(hT:Keep (Foot b rb og) w fun w'=>TT w' bt small)(hc:chk small=0)(h19:small.length=19)
 (total:Nat) (ht:total≤400) (hF:8*s.size-p<F):
 Calls prog 232 #[.pointer b,.pointer bt,total] w (GotL w b rb db og s M L fs fd (lenG small total F [] s p)):=by
 obtain⟨i0,hi0,hz0,hz1,hz2⟩:=info_parts cG;have hfl:=tJ h;obtain⟨R,hR⟩:=E1 (lenG small total F [] s p);rw[←hR];have H0:Hid (ML small total F s R [] p):=.inl ⟨Nat.zero_le _,hR.symm,hF⟩;have HS:=qhz h;have HG:=qhz hG;have HT:=qhz hT;have HC:=qhz hc;have HFL:=qhz hfl;have H19:=qhz h19;clear h hG hT hc hR hF hfl h19
 go_enter func232,ntmps232
 go_wp2
 go_loopg [8] F (fun f v wr=>∃(acc:List Int) (q:Nat),OwnI wr w.heap.size v acc∧SS wr b rb db og s q M L fs fd∧Mv b rb w wr og og∧ML small total f s R acc q)
 case atStart=>exact⟨[],p,OwnI.nil _ _,HS.out,Mv.refl _ _ _ _,H0.out⟩
 case round=>
  obtain⟨acc,q,hO,hS,hMv,hL⟩:=hrel;have hl6:=KS hL ht;obtain⟨A,cA,rfl,hI,_⟩:=hO.open;have HO:=qhz hO;have HMV:=qhz hMv;have HL:=qhz hL;have hin:=hS.inCell;obtain⟨la,hla⟩:=E1 acc.length;rw[←hla]at HO hl6;have HLA:=qhz hla;clear hO hMv hL hI HS H0;rw[←hla];clear hla
  by_cases hlt:la<total
  ·have d1:decide (la<total)=true:=by simpa using hlt
   obtain⟨hle,hR,hf⟩:acc.length≤total∧lenG small total gk acc s q=R∧8*s.size-q<gk:=by
    rcases HL.out with h|h
    ·exact h
    ·have:=HLA.out;omega
   obtain⟨f,rfl⟩:∃f,gk=f+1:=⟨gk-1,by omega⟩
   have hac:acc.length<total:=by have:=HLA.out;omega
   have hnx:=hS.next HC.out (HMV.out.keep HT.out);have hq8:=hS.rs.1;have HR:=qhz hR;have HNX:=qhz hnx;have HAC:=qhz hac;have HF:=qhz hf;have HQ8:=qhz hq8;clear hR hnx hS hle hac hf hq8 HL
   go_wp2_with fail
   refine HNX.out.mono ?_;rintro e w2 ⟨t,er,q2,rfl,hMv2,he1,he2⟩;have HM2:=qhz (HMV.out.trans hMv2);have hO2:=HO.out.but hMv2.but (xq HO.out HFL.out);have HO2:=qhz hO2;have HE1:=qhz he1;have HE2:=qhz he2;clear hMv2 he1 he2 hO2
   by_cases her:er=0
   ·obtain⟨hr,hS2⟩:=HE2.out her;have htl:=NA hr;have hadv:=pK small HQ8.out hr;have ht18:t≤18:=by have:=H19.out;omega
    have HRN:=qhz hr;have HS2:=qhz hS2;have HADV:=qhz hadv;clear hr hS2 htl hadv HE1 HE2;subst her
    by_cases ht16:t<16
    ·have d16:decide ((t:Int)<16)=true:=by simp;omega
     have hstep:=Oh (f:=f) HAC.out HRN.out ht16;have HST:=qhz hstep;have hsz:=HM2.out.but.size;have ho:=HO2.out;unfold OwnI at ho;rw[←HLA.out]at ho;have HOX:=qhz ho;clear hstep ho
     go_wp2_with (at_builtin;go_loud (refine wpList_append_own _ rfl _ _ 36 rfl w.heap.size 3 i0 (.int .i64 0) 1 8 underlying36 hi0 hz0 hz1 hz2 rfl (by decide) (.slice A la cA) la (acc.map (.int .i64)) rfl (HOX.out.alloc _) ⟨w2.heap.size,0,none⟩ 1 1 [.int .i64 (t:Int)] rfl rfl ?c1 ?c2 ?c3 ?c4 ?c5 ?_))
     case c1=>exact World.news_of_block (cs:=#[.int .i64 (t:Int)]) (t:=3) (fr:=(0,0)) (heap_alloc_new w2 _)
     case c2=>simp[Value.oneCell']
     case c3=>unfold maxLen;omega
     case c4=>omega
     case c5=>simp;omega
     intro v' w3 hown hgrow _;have hO3:OwnI w3 w.heap.size v' (acc++[(t:Int)]):=by
      unfold OwnI;rw[List.length_append,←HLA.out,List.map_append];exact hown
     have hb3:=(HM2.out.but.alloc (.cells #[t] 3)).grown hgrow (fun g e=>.inr (World.ownsRow.lt HOX.out g e).1);have hs3:=HS2.out.away (S:=(Value.slice A la cA).ownBlock.toList) (((But.refl _ w2).alloc _).grown hgrow (fun g e=>.inl (by simp[e]))) (fun k hk=>by
      have h1:=(World.ownsRow.lt HOX.out k (by simpa using hk)).1;have h2:=HS2.out.hd;have h3:=HFL.out b (by simp[Foot]);exact⟨fun h=>by have:=HFL.out k h;omega,by omega⟩)
     have HO3:=qhz hO3;have HB3:=qhz hb3;have HS3:=qhz hs3;clear hown hgrow hO3 hb3 hs3;go_wp2
     go_roundg f
     case measure=>omega
     case rel=>
      refine⟨acc++[(t:Int)],q2,HO3.out,HS3.out,⟨HB3.out,fun g e=>.inl e⟩,.inl ⟨?_,HST.out.symm.trans HR.out,?_⟩⟩
      ·have:=HAC.out;simp;omega
      ·have:=HADV.out;have:=HF.out;omega
    ·have d16:decide ((t:Int)<16)=false:=by simp;omega
     have hrp:=Qh (t:=t) (by omega) ht18 HS2.out HG.out HM2.out HO2.out (by have:=HAC.out;omega) HFL.out;have HRP:=qhz hrp;clear hrp
     go_wp2_with fail
     refine HRP.out.mono ?_;rintro e w3 ⟨v3,er,q3,acc3,rfl,hMv3,he1,he2⟩;have HM3:=qhz hMv3;have HE1:=qhz he1;have HE2:=qhz he2;clear hMv3 he1 he2
     by_cases her:er=0
     ·obtain⟨hr3,hS3,hO3⟩:=HE2.out her;have hok:=Qm (f:=f) HAC.out HRN.out (by omega) ht18 hr3;have hadv3:=Nz s q2 acc3 q3 HADV.out.2 hr3;have HOK:=qhz hok;have HADV3:=qhz hadv3;have HS3:=qhz hS3;have HO3:=qhz hO3;clear hr3 hS3 hO3 hok hadv3 HE1 HE2;subst her;go_wp2
      go_roundg f
      case measure=>omega
      case rel=>
       refine⟨acc3,q3,HO3.out,HS3.out,HM3.out,?_⟩;obtain⟨h1,h2⟩:=HOK.out;have h3:=HLA.out;rw[HR.out]at h2
       by_cases hc:total<acc3.length
       ·rw[if_pos hc]at h2;exact .inr ⟨hc,h2,by omega⟩
       ·rw[if_neg hc]at h2;exact .inl ⟨by omega,h2.symm,by have:=HADV.out;have:=HADV3.out;have:=HF.out;omega⟩
     ·have d2:(er !=0)=true:=by simpa using her
      have HER:=qhz her;clear her;go_wp2
      go_ret2
      exact⟨.slice none 0 0,er,0,[],rfl,HM3.out,fun _=>by rw[←HR.out];exact Ny HAC.out HRN.out (by omega) ht18 (HE1.out HER.out),fun e=>absurd e HER.out⟩
   ·have d2:(er !=0)=true:=by simpa using her
    have HER:=qhz her;clear her;go_wp2
    go_ret2
    exact⟨.slice none 0 0,er,0,[],rfl,HM2.out,fun _=>by rw[←HR.out];exact Oj HAC.out (HE1.out HER.out),fun e=>absurd e HER.out⟩
  ·have d1:decide (la<total)=false:=by simpa using hlt
   have HS:=qhz hS;clear hS
   by_cases hgt:total<la
   ·have d2:decide (total<la)=true:=by simpa using hgt
    have hR:R=.error 12:=by
     rcases HL.out with h|h
     ·have:=HLA.out;omega
     ·exact h.2.1
    have HR:=qhz hR;clear hR hgt hlt;go_wp2
    go_ret2
    exact⟨.slice none 0 0,12,0,[],rfl,HMV.out,fun _=>HR.out,fun e=>absurd e (by decide)⟩
   ·have d2:decide (total<la)=false:=by simpa using hgt
    have hR:R=.ok (acc,q):=by
     rcases HL.out with⟨h1,h2,h3⟩|h
     ·obtain⟨f,rfl⟩:∃f,gk=f+1:=⟨gk-1,by omega⟩
      rw[←h2];exact rp (by have:=HLA.out;omega)
     ·have:=HLA.out;omega
    have HR:=qhz hR;clear hR hgt hlt;go_wp2
    go_ret2
    exact⟨_,0,q,acc,rfl,HMV.out,fun e=>absurd rfl e,fun _=>⟨HR.out,HS.out,HO.out⟩⟩
end
end
section
def dW(F:Nat):Rd (List Int×List Int):=am (aY 14) fun v=>am (kW (4+v/1024)) fun small=>
 am (lenG small (v%32+257+(v/32%32+1)) F []) fun ls=>dD (ls.take (v%32+257)) (ls.drop (v%32+257)) (aR (ls.take (v%32+257),ls.drop (v%32+257)))
theorem Dc{α β:Type}(l d:List Int)(m:Rd α)(f:α→Rd β):am (dD l d m) f=dD l d (am m f):=by
 unfold dD;rw[lF,lF]
theorem OQ(most:Int)(F:Nat)(out:List UInt8):dynR most F out=am (dW F) fun x=>symG x.1 x.2 most F out:=by
 rw[OT];unfold dW kW;simp only[gD,lF,jI,Dc];rfl
theorem xJ(small:List Int)(total:Nat)(s:ByteArray):∀f acc p ls q,acc.length≤total→lenG small total f acc s p=.ok (ls,q)→ls.length=total
 |0,_,_,_,_,_,h=>by cases h
 |f+1,acc,p,ls,q,ha,h=>by
  by_cases hd:total≤acc.length
  ·rw[rp hd]at h;injection h with h;injection h with h _;subst h;omega
  ·rw[gM (by omega)]at h;obtain⟨⟨t,q1⟩,_,h2⟩:=fY h;dsimp only at h2
   by_cases h16:t<16
   ·rw[if_pos h16]at h2;exact xJ small total s f _ _ _ _ (by simp;omega) h2
   ·rw[if_neg h16]at h2;have key:∀(k:Nat) (x:Int) (bs:Nat),am (aY bs) (fun y=>bq (total<acc.length+(k+y)) 12 (lenG small total f (acc++List.replicate (k+y) x))) s q1=.ok (ls,q)→ls.length=total:=fun k x bs h3=>by
     obtain⟨⟨y,q2⟩,_,h4⟩:=fY h3;obtain⟨hc,h5⟩:=lj h4;exact xJ small total s f _ _ _ _ (by simp;dsimp only at hc;omega) h5
    by_cases e16:t=16
    ·rw[if_pos e16]at h2;obtain⟨_,h3⟩:=lj h2;exact key _ _ _ h3
    ·rw[if_neg e16]at h2
     by_cases e17:t=17
     ·rw[if_pos e17]at h2;exact key _ _ _ h2
     ·rw[if_neg e17]at h2;exact key _ _ _ h2
theorem uQ(s:ByteArray):∀(ks:List Nat) (a:List Int) p ls q,dI ks a s p=.ok (ls,q)→ls.length=a.length
 |[],a,p,ls,q,h=>by
  have h:Except.ok (a,p)=.ok (ls,q):=h;injection h with h;injection h with h _;rw[h]
 |k::ks,a,p,ls,q,h=>by
  have h:am (aY 3) (fun v=>dI ks (a.set k (v:Nat))) s p=.ok (ls,q):=h;obtain⟨⟨v,q1⟩,_,h2⟩:=fY h;have:=uQ s ks _ _ _ _ h2;rw[List.length_set]at this;exact this
theorem FG{told p q:Nat}{small:List Int}{s:ByteArray}(h:kW told s p=.ok (small,q)):small.length=19:=by
 unfold kW at h;obtain⟨⟨a,q1⟩,h1,h2⟩:=fY h;obtain⟨_,h3⟩:=lj h2;injection h3 with h3;injection h3 with h3 _;rw[←h3];exact uQ s _ _ _ _ _ h1
theorem uZ(told:Nat):Adv (kW told):=by
 unfold kW;exact Adv.bind (pA _ _) fun x=>Adv.when (Adv.pure _)
section
variable {w w':World} {b rb db:Nat} {og:Option Nat} {s:ByteArray} {p:Nat} {M:Int} {L:List UInt8} {fs fd:Option Nat}
theorem Ints.drop{g n k:Nat}{l:List Int}(h:Ints w (some ⟨g,0,none⟩) n l)(hk:k≤n):Ints w (some ⟨g,k,none⟩) (n-k) (l.drop k):=by
 have hl:=h.1;refine⟨by rw[List.length_drop];omega,fun hp=>?_⟩;obtain⟨g',o,e,hg,hc⟩:=h.2 (by omega);injection e with e;injection e with e1 e2;subst e1 e2;refine⟨g,k,rfl,hg,fun i hi=>?_⟩;rw[List.length_drop]at hi;have:=hc (k+i) (by omega);rw[Nat.zero_add]at this;rw[List.getElem_drop];exact this
theorem NW{base:Nat}{v:Value}{l:List Int}(h:OwnI w base v l)(hl:0<l.length):∃g c,v=.slice (some ⟨g,0,none⟩) l.length c∧l.length≤c∧c≤9223372036854775807∧Ints w (some ⟨g,0,none⟩) l.length l:=by
 have h':=h;unfold OwnI at h';rcases h'.2 with⟨rfl,e⟩|⟨g,cap,cur,rfl,_,_,h1,h2,_⟩
 ·simp at e;subst e;simp at hl
 ·obtain⟨A,c,e,hI,_⟩:=h.open;injection e with e1 e2 e3;subst e1 e3;exact⟨g,cap,rfl,h1,by unfold maxLen at h2;omega,hI⟩
theorem Rr(h:SS w b rb db og s p M L fs fd)(hG:Keep (Foot b rb og) w GL){i:Int}(told:Nat)(hi:i=told)(ht:told≤19):
 Calls prog 231 #[.pointer b,i] w (GotS w b rb db og s M L fs fd (kW told s p)):=by
 subst hi;exact ut h hG told ht
theorem Sf{bt F:Nat}{small:List Int}(h:SS w b rb db og s p M L fs fd)(hG:Keep (Foot b rb og) w GL)(hT:Keep (Foot b rb og) w fun w'=>TT w' bt small)(hc:chk small=0)(h19:small.length=19){i:Int}
 (total:Nat) (hi:i=total) (ht:total≤400) (hF:8*s.size-p<F):
 Calls prog 232 #[.pointer b,.pointer bt,i] w (GotL w b rb db og s M L fs fd (lenG small total F [] s p)):=by
 subst hi;exact sI h hG hT hc h19 total ht hF
def GotD(w:World)(b rb db:Nat)(og:Option Nat)(s:ByteArray)(M:Int)(L:List UInt8)(fs fd:Option Nat)(r:Except Int ((List Int×List Int)×Nat))(e:Ending)(w':World):Prop:=
 ∃(p1 p2:Value) (er:Int) (q:Nat) (l d:List Int),e=.returned (.tuple #[.agg #[p1,p2],er])∧Mv b rb w w' og og∧(er≠0→r=.error er∧p1=.pointer none∧p2=.pointer none)∧
  (er=0→r=.ok ((l,d),q)∧SS w' b rb db og s q M L fs fd∧chk l=0∧chk d=0∧∃b1 b2,p1=.pointer (some ⟨b1,0,none⟩)∧p2=.pointer (some ⟨b2,0,none⟩)∧(∀F,(∀k∈F,k<w.heap.size)→Keep F w' (fun x=>TT x b1 l))∧(∀F,(∀k∈F,k<w.heap.size)→Keep F w' (fun x=>TT x b2 d)))
theorem GotD.err{w1:World}{r:Except Int ((List Int×List Int)×Nat)}{er:Int}{x y:Value}(hM:Mv b rb w w1 og og)(hr:r=.error er)(her:er≠0):
 GotD w b rb db og s M L fs fd r (.returned (.tuple #[.agg #[.pointer none,.pointer none],er])) ((w1.setCell ⟨w.heap.size,0,none⟩ x).setCell ⟨w.heap.size,1,none⟩ y):=
 ⟨_,_,er,0,[],[],rfl,⟨(hM.but.setCell (.inr (Nat.le_refl _)) _).setCell (.inr (Nat.le_refl _)) _,hM.own⟩,fun _=>⟨hr,rfl,rfl⟩,fun e=>absurd e her⟩
def GotP(w:World)(l d:List Int)(x1 x2:Option Addr)(er:Int)(w':World):Prop:=
 (er≠0→x1=none∧x2=none∧(chk l=er∨(chk l=0∧chk d=er)))∧
  (er=0→chk l=0∧chk d=0∧∃b1 b2,x1=some ⟨b1,0,none⟩∧x2=some ⟨b2,0,none⟩∧NewT w.heap.size w' b1 l∧NewT w.heap.size w' b2 d)
theorem xE{A B:Option Addr}{n m cA cB:Nat}{l d:List Int}(hl:Ints w A n l)(hd:Ints w B m d)(hn:n*8≤140737488351232)(hm:m*8≤140737488351232)
 (hA:A=none→cA=0) (hB:B=none→cB=0):
 Calls prog 230 #[.slice A n cA,.slice B m cB] w fun e w'=>∃x1 x2 er,e=.returned (.tuple #[.agg #[.pointer x1,.pointer x2],.int .i64 er])∧But [] w w'∧GotP w l d x1 x2 er w':=by
 refine(mE hl hd hn hm hA hB).mono ?_;rintro e w' ⟨p1,p2,er,rfl,hB,h1,h2⟩
 by_cases her:er=0
 ·obtain⟨c1,c2,b1,b2,e1,e2,t1,t2⟩:=h2 her;obtain rfl:p1=.pointer b1:=e1;obtain rfl:p2=.pointer b2:=e2;exact⟨_,_,er,rfl,hB,fun e=>absurd her e,fun _=>⟨c1,c2,b1,b2,rfl,rfl,t1,t2⟩⟩
 ·obtain⟨rfl,rfl,h⟩:=h1 her;exact⟨none,none,er,rfl,hB,fun _=>⟨rfl,rfl,h⟩,fun e=>absurd e her⟩
theorem OU{F q:Nat}{l d:List Int}{w3 w4:World}{x1 x2:Option Addr}{er:Int}(hdt:dW F s p=dD l d (aR (l,d)) s q)(hM:Mv b rb w w3 og og)(hS:SS w3 b rb db og s q M L fs fd)
 (hfl:∀k∈Foot b rb og,k<w.heap.size) (hft:w.heap.size∉Foot b rb og) (hr:w.heap.size<w3.heap.size) (hB:But [] w3.drew w4) (hP:GotP w3.drew l d x1 x2 er w4):
 GotD w b rb db og s M L fs fd (dW F s p) (.returned (.tuple #[.agg #[.pointer x1,.pointer x2],er])) ((w4.setCell ⟨w.heap.size,0,none⟩ (.pointer x1)).setCell ⟨w.heap.size,1,none⟩ (.pointer x2)):=by
 have hB3:But [] w3 w4:=((But.refl [] w3).drew).trans hB;have hdb:=hS.hd;have hbl:=hfl b (by simp[Foot]);have hM4:Mv b rb w w4 og og:=hM.trans (Mv.of hB3 (by simp));have hMf:Mv b rb w ((w4.setCell ⟨w.heap.size,0,none⟩ (.pointer x1)).setCell ⟨w.heap.size,1,none⟩ (.pointer x2)) og og:=⟨(hM4.but.setCell (.inr (Nat.le_refl _)) _).setCell (.inr (Nat.le_refl _)) _,hM4.own⟩
 have hbf:But [w.heap.size] w4 ((w4.setCell ⟨w.heap.size,0,none⟩ (.pointer x1)).setCell ⟨w.heap.size,1,none⟩ (.pointer x2)):=((But.refl [w.heap.size] w4).setCell (.inl (by simp)) _).setCell (.inl (by simp)) _;have hSf:=(hS.but hB3 (by simp)).away hbf (fun k hk=>by
  obtain rfl:k=w.heap.size:=by simpa using hk
  exact⟨hft,by omega⟩)
 by_cases her:er=0
 ·obtain⟨c1,c2,b1,b2,rfl,rfl,t1,t2⟩:=hP.2 her;have kk:=fun(bt:Nat) (l:List Int) (t:NewT w3.drew.heap.size w4 bt l) (F:List Nat) (hF:∀k∈F,k<w.heap.size)=>(t.but hbf (fun k hk=>by
   obtain rfl:k=w.heap.size:=by simpa using hk
   exact hr)).keep (F:=F) (fun k hk=>by have:=hF k hk;show k<w3.heap.size;omega)
  exact⟨_,_,er,q,l,d,rfl,hMf,fun e=>absurd her e,fun _=>⟨by rw[hdt,mO c1 c2];rfl,hSf,c1,c2,b1,b2,rfl,rfl,kk _ _ t1,kk _ _ t2⟩⟩
 ·obtain⟨rfl,rfl,h⟩:=hP.1 her;refine⟨_,_,er,q,l,d,rfl,hMf,fun _=>⟨?_,rfl,rfl⟩,fun e=>absurd e her⟩;rw[hdt];rcases h with h|⟨h1,h⟩
  ·rw[Bn (by rw[h];exact her),h]
  ·rw[Bm h1 (by rw[h];exact her),h]
theorem R5(v:Nat):Go.bits .and .i64 (v:Int) 31=((v%32:Nat):Int):=by
 have:=iO (v:Int) 5 (by omega);simpa using this
theorem qd(h:SS w b rb db og s p M L fs fd)(hG:Keep (Foot b rb og) w GL){F:Nat}(hF:8*s.size-p<F):
 Calls prog 211 #[.pointer b] w (GotD w b rb db og s M L fs fd (dW F s p)):=by
 have h1:=h.alloc (.cells #[.pointer none,.pointer none] 167);have m1:=Mv.alloc (b:=b) (rb:=rb) (w:=w) (og:=og) (.cells #[.pointer none,.pointer none] 167);have hI:=Is.fresh w 167 #[.pointer none,.pointer none];have hin:=h1.inCell;have hbt:=h1.bits 14;have hfl:=tJ h;have hft:=tI h;have hdb:=h.hd;have hp8:=h.rs.1;have HBT:=qhz hbt;have HM:=qhz m1;have HI:=qhz hI;have HG:=qhz hG;have HFL:=qhz hfl;have HFT:=qhz hft;have HP8:=qhz hp8;have HF:=qhz hF;clear h h1 m1 hI hbt hfl hft hG hp8 hF
 go_enter func211,ntmps211
 go_wp2_with fail
 refine HBT.out.mono ?_;rintro e w1 ⟨v,er,q,rfl,hMv,he1,he2⟩;have hI1:=HI.out.but hMv.but HFT.out;have hMW:=HM.out.trans hMv;have g0:w1.cell? ⟨w.heap.size,0,none⟩=some (.pointer none):=hI1.cell 0;have g1:w1.cell? ⟨w.heap.size,1,none⟩=some (.pointer none):=hI1.cell 1;have f0:w1.frozen? ⟨w.heap.size,0,none⟩=false:=hI1.free 0;have f1:w1.frozen? ⟨w.heap.size,1,none⟩=false:=hI1.free 1;have HE1:=qhz he1;have HE2:=qhz he2;have HI1:=qhz hI1;have HMW:=qhz hMW;clear hMv he1 he2 hI1 hMW HBT HM HI
 by_cases her:er=0
 ·obtain⟨hr,hS⟩:=HE2.out her;have hv:=gq hr;have hadv:=bV 14 s p v q HP8.out hr;obtain⟨a,ha⟩:=E1 (v%32);obtain⟨bb,hbb⟩:=E1 (v/32%32);obtain⟨cc,hcc⟩:=E1 (v/1024);have hdt:dW F s p=am (kW (4+cc)) (fun small=>am (lenG small (a+257+(bb+1)) F []) fun ls=>dD (ls.take (a+257)) (ls.drop (a+257)) (aR (ls.take (a+257),ls.drop (a+257)))) s q:=by
   rw[ha,hbb,hcc];exact ae hr
  have a1:=R5 v;rw[←ha]at a1;have a2:=R5 (v/32);rw[←hbb,show(((v/32:Nat):Int))=(v:Int)/32 by omega]at a2;have a3:(v:Int)/1024=(cc:Int):=by omega
  have ha31:a≤31:=by omega
  have hb31:bb≤31:=by omega
  have hc15:cc≤15:=by have:v<16384:=hv;omega
  have hsm:=Rr hS (HMW.out.keep HG.out) (i:=4+(cc:Int)) (4+cc) (by omega) (by omega);have HSM:=qhz hsm;have HDT:=qhz hdt;have HADV:=qhz hadv;clear hr hS hv hadv ha hbb hcc hdt hsm HE1 HE2;subst her
  go_wp2_with fail
  refine HSM.out.mono ?_;rintro e w2 ⟨pv,er,q2,small,rfl,hMv,he1,he2⟩;have hI2:=HI1.out.but hMv.but HFT.out;have hMW:=HMW.out.trans hMv;have g0:w2.cell? ⟨w.heap.size,0,none⟩=some (.pointer none):=hI2.cell 0;have g1:w2.cell? ⟨w.heap.size,1,none⟩=some (.pointer none):=hI2.cell 1;have f0:w2.frozen? ⟨w.heap.size,0,none⟩=false:=hI2.free 0;have f1:w2.frozen? ⟨w.heap.size,1,none⟩=false:=hI2.free 1;have HE1:=qhz he1;have HE2:=qhz he2;have HI2:=qhz hI2;have HMW2:=qhz hMW;have hsz1:=HMW.out.but.size;have hrl:=HI1.out.lt;clear hMv he1 he2 hI2 hMW HSM HI1 HMW
  by_cases her:er=0
  ·obtain⟨hr,hS,hcs,bt,rfl,hT⟩:=HE2.out her;have h19:=FG hr;have hadv:=uZ (4+cc) s q small q2 HADV.out.2 hr;have hdt:dW F s p=am (lenG small (a+257+(bb+1)) F []) (fun ls=>dD (ls.take (a+257)) (ls.drop (a+257)) (aR (ls.take (a+257),ls.drop (a+257)))) s q2:=by
    rw[HDT.out];exact ae hr
   have hKT:=hT.keep (F:=Foot b rb og) (fun k hk=>by have:=HFL.out k hk;omega);have hrd:=Sf hS (HMW2.out.keep HG.out) hKT hcs h19 (i:=257+(a:Int)+(1+(bb:Int))) (a+257+(bb+1)) (by omega) (by omega) (F:=F) (by have:=HADV.out;have:=HF.out;omega);have hfl2:w.heap.size≤w2.heap.size:=HMW2.out.but.size;have HRD:=qhz hrd;have HDT2:=qhz hdt;clear hr hS hcs hT h19 hadv hdt hKT hrd HE1 HE2 HDT;subst her
   go_wp2_with fail
   refine HRD.out.mono ?_;rintro e w3 ⟨lv,er,q3,ls,rfl,hMv,he1,he2⟩;have hI3:=HI2.out.but hMv.but HFT.out;have hMW:=HMW2.out.trans hMv;have g0:w3.cell? ⟨w.heap.size,0,none⟩=some (.pointer none):=hI3.cell 0;have g1:w3.cell? ⟨w.heap.size,1,none⟩=some (.pointer none):=hI3.cell 1;have f0:w3.frozen? ⟨w.heap.size,0,none⟩=false:=hI3.free 0;have f1:w3.frozen? ⟨w.heap.size,1,none⟩=false:=hI3.free 1;have HE1:=qhz he1;have HE2:=qhz he2;have HI3:=qhz hI3;have HMW3:=qhz hMW;clear hMv he1 he2 hI3 hMW HRD HI2
   by_cases her:er=0
   ·obtain⟨hr,hS,hO⟩:=HE2.out her;have hll:=xJ small _ s _ _ _ _ _ (Nat.zero_le _) hr;obtain⟨gl,cl,rfl,hcl1,hcl2,hIl⟩:=NW hO (by omega);rw[hll]at hcl1 hIl;obtain⟨sy,hsy⟩:=E1 (a+257);obtain⟨tt,htt⟩:=E1 (a+257+(bb+1));rw[hll];rw[←htt]at hcl1 hIl⊢;have hIa:=hIl.take (k:=sy) (by omega);have hIb:=hIl.drop (k:=sy) (by omega);have hdt:dW F s p=dD (ls.take sy) (ls.drop sy) (aR (ls.take sy,ls.drop sy)) s q3:=by
     rw[HDT2.out,hsy];exact ae hr
    have HDT3:=qhz hdt;have HS3:=qhz hS;have hmk:=xE (w:=w3.drew) (cA:=cl) (cB:=cl-sy) (A:=some ⟨gl,0,none⟩) (B:=some ⟨gl,sy,none⟩) hIa hIb (by omega) (by omega) (fun e=>by cases e) (fun e=>by cases e);have HMK:=qhz hmk;have e257:(257:Int)+(a:Int)=(sy:Int):=by omega
    have hst:sy<tt:=by omega
    have hsc:sy<cl:=by omega
    have hb0:(0:Int)≤(sy:Int):=by omega
    have n1:¬cl=sy:=by omega
    have hcl3:tt≤cl:=hcl1;clear hr hS hO hll hIl hIa hIb hdt hmk HE1 HE2 HDT2 hsy htt;subst her;have hrl3:=HI3.out.lt
    go_upto_region 12 with(fail)
    go_region_with (go_at_call 230;refine HMK.out.mono ?_;rintro e w4 ⟨x1,x2,er,rfl,hB,hP⟩;have hI4:=HI3.out.but (((But.refl [] w3).drew).trans hB) (by simp);have q0:w4.cell? ⟨w.heap.size,0,none⟩=some (.pointer none):=hI4.cell 0;have q1:w4.cell? ⟨w.heap.size,1,none⟩=some (.pointer none):=hI4.cell 1;have q2:w4.frozen? ⟨w.heap.size,0,none⟩=false:=hI4.free 0;have q3:w4.frozen? ⟨w.heap.size,1,none⟩=false:=hI4.free 1;have HB:=qhz hB;have HP:=qhz hP;have HI4:=qhz hI4;clear hB hP hI4)
    all_goals
     go_wp2;have hend:=OU HDT3.out HMW3.out HS3.out HFL.out HFT.out hrl3 HB.out HP.out;have c:=ij (p1:=.pointer x1) (p2:=.pointer x2) HI4.out;generalize((w4.setCell ⟨w.heap.size,0,none⟩ (.pointer x1)).setCell ⟨w.heap.size,1,none⟩ (.pointer x2))=wf at*;have c0:wf.cell? ⟨w.heap.size,0,none⟩=some (.pointer x1):=c.1.cell 0;have c1:wf.cell? ⟨w.heap.size,1,none⟩=some (.pointer x2):=c.1.cell 1;exact bodyPost_ret (v:=.tuple #[.agg #[.pointer x1,.pointer x2],er]) (by simp[results,results211,go_sem,c0,c1]) rfl hend
   ·have d2:(er !=0)=true:=by simpa using her
    have HER:=qhz her;clear her;go_wp2;have hend:=GotD.err (r:=dW F s p) (db:=db) (s:=s) (M:=M) (L:=L) (fs:=fs) (fd:=fd) (x:=.pointer none) (y:=.pointer none) HMW3.out (er:=er) (by rw[HDT2.out];exact aB (HE1.out HER.out)) HER.out;have c:=ij (p1:=.pointer none) (p2:=.pointer none) HI3.out;generalize((w3.setCell ⟨w.heap.size,0,none⟩ (.pointer none)).setCell ⟨w.heap.size,1,none⟩ (.pointer none))=wf at*;have c0:wf.cell? ⟨w.heap.size,0,none⟩=some (.pointer none):=c.1.cell 0;have c1:wf.cell? ⟨w.heap.size,1,none⟩=some (.pointer none):=c.1.cell 1;exact bodyPost_ret (v:=.tuple #[.agg #[.pointer none,.pointer none],er]) (by simp[results,results211,go_sem,c0,c1]) rfl hend
  ·have d2:(er !=0)=true:=by simpa using her
   have HER:=qhz her;clear her;go_wp2;have hend:=GotD.err (r:=dW F s p) (db:=db) (s:=s) (M:=M) (L:=L) (fs:=fs) (fd:=fd) (x:=.pointer none) (y:=.pointer none) HMW2.out (er:=er) (by rw[HDT.out];exact aB (HE1.out HER.out)) HER.out;have c:=ij (p1:=.pointer none) (p2:=.pointer none) HI2.out;generalize((w2.setCell ⟨w.heap.size,0,none⟩ (.pointer none)).setCell ⟨w.heap.size,1,none⟩ (.pointer none))=wf at*;have c0:wf.cell? ⟨w.heap.size,0,none⟩=some (.pointer none):=c.1.cell 0;have c1:wf.cell? ⟨w.heap.size,1,none⟩=some (.pointer none):=c.1.cell 1;exact bodyPost_ret (v:=.tuple #[.agg #[.pointer none,.pointer none],er]) (by simp[results,results211,go_sem,c0,c1]) rfl hend
 ·have d2:(er !=0)=true:=by simpa using her
  have HER:=qhz her;clear her;go_wp2;have hend:=GotD.err (r:=dW F s p) (db:=db) (s:=s) (M:=M) (L:=L) (fs:=fs) (fd:=fd) (x:=.pointer none) (y:=.pointer none) HMW.out (er:=er) (aB (HE1.out HER.out)) HER.out;have c:=ij (p1:=.pointer none) (p2:=.pointer none) HI1.out;generalize((w1.setCell ⟨w.heap.size,0,none⟩ (.pointer none)).setCell ⟨w.heap.size,1,none⟩ (.pointer none))=wf at*;have c0:wf.cell? ⟨w.heap.size,0,none⟩=some (.pointer none):=c.1.cell 0;have c1:wf.cell? ⟨w.heap.size,1,none⟩=some (.pointer none):=c.1.cell 1;exact bodyPost_ret (v:=.tuple #[.agg #[.pointer none,.pointer none],er]) (by simp[results,results211,go_sem,c0,c1]) rfl hend
end
end
end Go.Proofs.YtbanopnofpjnbaaGreatDoor
