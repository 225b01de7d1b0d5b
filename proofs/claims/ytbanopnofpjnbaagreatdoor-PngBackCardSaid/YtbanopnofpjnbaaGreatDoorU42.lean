/- Own texts in one: PnW. -/
import Derived.Test.YtbanopnofpjnbaaGreatDoorU23
import Derived.Test.YtbanopnofpjnbaaGreatDoorU41
set_option maxRecDepth 1000000
set_option linter.unusedVariables false
set_option maxHeartbeats 4000000
namespace Go.Proofs.YtbanopnofpjnbaaGreatDoor
open Go Go.RowKit Tryz
theorem FL(w:World)(hL:GL w)(hG:GP w){na nb nd nc nl:Int}{dat:ByteArray}(hd:dat.size≤200000)(hz:cJ na nb nd nc nl≤300000):
 Calls prog 23 #[.agg #[na,nb,nd,nc,nl],dat] w (R1z (.tuple #[(strL (unzT dat (cJ na nb nd nc nl:Nat)).1),.int .i64 (if(unzT dat (cJ na nb nd nc nl:Nat)).2=5 then 31 else(unzT dat (cJ na nb nd nc nl:Nat)).2)]) w):=by
 obtain⟨g,hg⟩:=E1 w.heap.size;have hB1:=(But.refl [] w).alloc (.cells #[na,nb,nd,nc,nl] 33);obtain⟨w1,hw1⟩:=E1 (w.alloc (.cells #[na,nb,nd,nc,nl] 33));have HI1:Hid (Is w1 g 33 #[na,nb,nd,nc,nl]):=qhz (by rw[hw1,hg];exact Is.fresh _ _ _);rw[←hw1]at hB1;have HB1:=qhz hB1;clear hB1;have HSz:Hid (∀W,But [] w W→Calls prog 52 #[.agg #[na,nb,nd,nc,nl]] W (R1z (.int .i64 (cJ na nb nd nc nl:Nat)) W)):=qhz fun W hBW=>zQ W (hG.but hBW) na nb nd nc nl;obtain⟨sz,hsz⟩:=E1 (cJ na nb nd nc nl);rw[←hsz]at hz HSz⊢;have HUn:Hid (∀W,But [] w W→Calls prog 51 #[dat,sz] W (R1z (.tuple #[(strL (unzT dat (sz:Nat)).1),.int .i64 (unzT dat (sz:Nat)).2]) W)):=qhz fun W hBW=>BK W (hL.but hBW) (by omega) (by omega);obtain⟨u,hu⟩:=E1 (strL (unzT dat (sz:Nat)).1);obtain⟨ue,hue⟩:=E1 ((unzT dat (sz:Nat)).2);rw[←hu,←hue]at HUn⊢;obtain⟨ez,hez⟩:∃z:Int,z=if ue=5 then 31 else ue:=⟨_,rfl⟩
 rw[←hez];have HEZ:=qhz hez;clear hsz hu hue hz hez
 go_enter func23,ntmps23
 go_upto_region 1 with(fail)
 rw[←hw1,←hg];clear hw1 hg;obtain⟨c0,c1,c2,c3,c4,hgl⟩:=HI1.out.c5
 go_wp2_with fail
 refine(HSz.out _ HB1.out).mono ?_;rintro e w2 ⟨rfl,hB2⟩;have HB2:=qt HB1 hB2;clear hB2 HI1 HB1 c0 c1 c2 c3 c4 hgl
 go_wp2_with fail
 refine(HUn.out _ HB2.out).mono ?_;rintro e w3 ⟨rfl,hB3⟩;have HB3:=qt HB2 hB3;clear hB3 HB2
 by_cases h0:ue=5
 ·have q0:(ue==5)=true:=by simpa using h0
  have H0:=qhz h0;clear h0;go_wp2;refine bodyPost_ret (v:=.tuple #[u,(31:Int)]) ?_ rfl ⟨by rw[HEZ.out,if_pos H0.out],HB3.out⟩;simp[results,results23,go_sem]
 ·have q0:(ue==5)=false:=by simpa using h0
  have H0:=qhz h0;clear h0;go_wp2;refine bodyPost_ret (v:=.tuple #[u,ue]) ?_ rfl ⟨by rw[HEZ.out,if_neg H0.out],HB3.out⟩;simp[results,results23,go_sem]
theorem B7(w:World)(hL:GL w)(hG:GP w){f:ByteArray}(hf:f.size≤140737488351232):
 Calls prog 9 #[f] w (Bd w (decA f)):=by
 obtain⟨g,hg⟩:=E1 w.heap.size;have hB1:=(But.refl [] w).alloc (.cells #[(0:Int),(0:Int),.string ⟨#[]⟩] 23);obtain⟨w1,hw1⟩:=E1 (w.alloc (.cells #[(0:Int),(0:Int),.string ⟨#[]⟩] 23));have HI1:Hid (Is w1 g 23 #[(0:Int),(0:Int),.string ⟨#[]⟩]):=qhz (by rw[hw1,hg];exact Is.fresh _ _ _);rw[←hw1]at hB1;have HB1:=qhz hB1;have HW:Hid (w.heap.size≤g):=qhz (by rw[hg];exact Nat.le_refl _);clear hB1;obtain⟨sp,hsp⟩:=E1 (splT f.data.toList);have HD:Hid (decA f=if 65536<f.size then(r30,5)else decS sp):=qhz (by rw[hsp];rfl);obtain⟨r,hr⟩:=E1 (decA f);rw[←hr]at HD⊢;clear hr
 by_cases h0:65536<f.size
 ·have d:decide ((65536:Int)<(f.size:Int))=true:=by simp;omega
  have HR2:=qhz (show r=(r30,5)by rw[HD.out,if_pos h0]);clear HD hsp
  go_enter func9,ntmps9
  go_upto_region 1 with(fail)
  rw[←hw1,←hg];clear hw1 hg;obtain⟨c0,c1,c2,_⟩:=HI1.out.c3;obtain⟨f0,f1,f2⟩:=HI1.out.f3;have hgl:=HI1.out.lt;go_wp2;exact iL HI1.out HB1.out HW.out (by rfl) (by rfl) 0 0 ⟨#[]⟩ HR2.out
 ·have d:decide ((65536:Int)<(f.size:Int))=false:=by simp;omega
  have HD1:=qhz (show r=decS sp by rw[HD.out,if_neg h0]);have HH:=qhz (show Ic f.data.toList.length sp.1 by rw[hsp];exact yR _);have hfl:f.data.toList.length=f.size:=Array.length_toList;have HS:Hid (∀W,Calls prog 21 #[f] W (GotC W sp)):=qhz fun W=>by
   have h:=va W (F:=f.data.toList) (by omega);rw[jO,←hsp]at h;exact h
  clear HD hsp;obtain⟨L,e1⟩:=sp
  go_enter func9,ntmps9
  go_upto_region 1 with(fail)
  rw[←hw1,←hg];clear hw1 hg
  go_wp2_with fail
  refine(HS.out _).mono ?_;rintro e w2 ⟨v,rfl,hO,hB2⟩;have HI2:=qhz (HI1.out.but hB2 (by simp));have HB2:=qt HB1 hB2;obtain⟨A,c,rfl,hK⟩:=hO.open;have HK:=qhz hK;have HCP:=qhz hO.cap;clear hB2 HI1 HB1 HS hO hK;dsimp only at HH HK⊢
  by_cases h1:e1=0
  ·have q1:(e1 !=0)=false:=by simpa using h1
   have HD2:=qhz (show r=decR (eR L)by rw[HD1.out];unfold decS;rw[if_neg (fun k=>k h1)]);clear HD1;have HRd:Hid (∀W,But [] w2 W→Calls prog 22 #[.slice A L.length c] W (GotH W (eR L))):=qhz fun W hBW=>zo W (HK.out.but hBW) HCP.out (by have:=HH.out.2;omega) (by have:=HH.out.2;omega) (fun i k hk=>by have:=HH.out.1 k (List.mem_of_getElem? hk);omega);have HQR:Hid ((eR L).2.2=0→iI (eR L).1=0):=qhz BI;have HQS:Hid (Bb (ir L) (eR L).2.1):=qhz (FE L);obtain⟨q,hq⟩:=E1 (eR L);rw[←hq]at HD2 HQR HQS HRd;clear hq HK;obtain⟨n,s,e2⟩:=q;have hPl:(strL s.P).size≤140737488351232∧(strL s.T).size≤140737488351232∧(strL s.D).size≤200000:=by
    obtain⟨k1,k2,k3⟩:=HQS.out;have:=HH.out.2;dsimp only at k1 k2 k3;rw[ac,ac,ac];omega
   have HSz0:Hid (e2=0→cJ (n.getD 0 0) (n.getD 1 0) (n.getD 2 0) (n.getD 3 0) (n.getD 4 0)≤300000):=qhz fun k=>Nq (HQR.out k);have HDf:Hid (e2=0→r=decU n s (unzT (strL s.D) (cJ (n.getD 0 0) (n.getD 1 0) (n.getD 2 0) (n.getD 3 0) (n.getD 4 0):Nat))):=qhz fun k=>by rw[HD2.out];unfold decR;rw[if_neg (fun k2=>k2 k)];rfl
   unfold decU at HDf;have HDe:Hid (e2≠0→r=(r30,e2)):=qhz fun k=>by rw[HD2.out];unfold decR;rw[if_pos k]
   replace HRd:Hid (∀W,But [] w2 W→Calls prog 22 #[.slice A L.length c] W (R1z (.tuple #[.agg #[.int .i64 (n.getD 0 0),.int .i64 (n.getD 1 0),.int .i64 (n.getD 2 0),.int .i64 (n.getD 3 0),.int .i64 (n.getD 4 0),strL s.P,strL s.T,s.trans],strL s.D,e2]) W)):=HRd;clear HD2 HQR HQS;generalize n.getD 0 0=na at*;generalize n.getD 1 0=nb at*;generalize n.getD 2 0=nd at*;generalize n.getD 3 0=nc at*;generalize n.getD 4 0=nl at*;generalize strL s.P=pal at*;generalize strL s.T=tr at*;generalize strL s.D=dat at*;generalize s.trans=has at *
   go_wp2_with fail
   refine(HRd.out _ (But.refl _ _)).mono ?_;rintro e w3 ⟨rfl,hB3⟩;have HI3:=qhz (HI2.out.but hB3 (by simp));have HB3:=qt HB2 hB3;clear hB3 HI2 HB2 HRd
   go_upto_region 7 with(fail)
   obtain⟨w4,hw4⟩:=E1 (w3.alloc (.cells #[na,nb,nd,nc,nl,pal,tr,has] 35));obtain⟨b,hb⟩:=E1 w3.heap.size;have HI4:Hid (Is w4 g 23 #[(0:Int),(0:Int),.string ⟨#[]⟩]):=qhz (by rw[hw4];exact HI3.out.alloc _);have HJ4:Hid (Is w4 b 35 #[na,nb,nd,nc,nl,pal,tr,has]):=qhz (by rw[hw4,hb];exact Is.fresh _ _ _);have HB4:Hid (But [] w w4):=qhz (by rw[hw4];exact HB3.out.alloc _);rw[←hw4,←hb];clear hw4 hb HI3 HB3
   by_cases h2:e2=0
   ·have q2:(e2 !=0)=false:=by simpa using h2
    have hsz:=HSz0.out h2;have HDg:=qhz (HDf.out h2);have HUn:Hid (∀W,But [] w W→Calls prog 23 #[.agg #[na,nb,nd,nc,nl],dat] W (R1z (.tuple #[(strL (unzT dat (cJ na nb nd nc nl:Nat)).1),.int .i64 (if(unzT dat (cJ na nb nd nc nl:Nat)).2=5 then 31 else(unzT dat (cJ na nb nd nc nl:Nat)).2)]) W)):=qhz fun W hBW=>FL W (hL.but hBW) (hG.but hBW) hPl.2.2 hsz;have hul:=PQ dat (cJ na nb nd nc nl:Nat);obtain⟨u,hu⟩:=E1 (unzT dat (cJ na nb nd nc nl:Nat));rw[←hu]at HDg HUn hul;clear hu HDf HDe HSz0;obtain⟨ul,ue⟩:=u;dsimp only at HDg HUn hul;have hrl:(strL ul).size≤140737488351232:=by rw[ac];omega
    obtain⟨raw,hraw⟩:=E1 (strL ul);rw[←hraw]at HUn HDg hrl;clear hraw hul hsz;have HIm:Hid (∀W,But [] w W→Calls prog 24 #[.agg #[na,nb,nd,nc,nl,pal,tr,has],raw] W (R1z (.tuple #[.agg #[.int .i64 (aG na nb nd nc nl pal tr has raw).1.1,.int .i64 (aG na nb nd nc nl pal tr has raw).1.2.1,.string (aG na nb nd nc nl pal tr has raw).1.2.2],.int .i64 (aG na nb nd nc nl pal tr has raw).2]) W)):=qhz fun W=>fun hBW=>FZ W (hG.but hBW) hPl.1 hPl.2.1 hrl;obtain⟨im,him⟩:=E1 (aG na nb nd nc nl pal tr has raw);rw[←him]at HIm HDg;clear him;obtain⟨⟨ix,iy,ip⟩,ie⟩:=im;dsimp only at HIm;obtain⟨ez,hez⟩:∃z:Int,z=if ue=5 then 31 else ue:=⟨_,rfl⟩
    rw[←hez]at HUn;have HDh:Hid (r=if ez≠0 then(r30,ez)else((ix,iy,ip),ie)):=qhz (by
     rw[HDg.out,hez]
     by_cases k:ue=5
     ·rw[if_pos k,if_pos k,if_pos (by decide)]
     ·rw[if_neg k,if_neg k])
    clear hez HDg;obtain⟨c0,c1,c2,c3,c4,c5,c6,c7,hgl⟩:=HJ4.out.c8
    go_wp2_with fail
    refine(HUn.out _ HB4.out).mono ?_;rintro e w6 ⟨rfl,hB6⟩;have HI6:=qhz (HI4.out.but hB6 (by simp));have HJ6:=qhz (HJ4.out.but hB6 (by simp));have HB6:=qt HB4 hB6;clear hB6 HI4 HJ4 HB4 c0 c1 c2 c3 c4 c5 c6 c7 hgl
    by_cases h4:ez=0
    ·have q4:(ez !=0)=false:=by simpa using h4
     have HR2:=qhz (show r=((ix,iy,ip),ie)by rw[HDh.out,if_neg (fun k=>k h4)]);obtain⟨c0,c1,c2,c3,c4,c5,c6,c7,hgl⟩:=HJ6.out.c8
     go_wp2_with fail
     refine(HIm.out _ HB6.out).mono ?_;rintro e w7 ⟨rfl,hB7⟩;have HI7:=qhz (HI6.out.but hB7 (by simp));have HB7:=qt HB6 hB7;clear hB7 HI6 HJ6 HB6 c0 c1 c2 c3 c4 c5 c6 c7 hgl;obtain⟨c0,c1,c2,_⟩:=HI7.out.c3;obtain⟨f0,f1,f2⟩:=HI7.out.f3;have hgl:=HI7.out.lt;go_wp2;exact iL HI7.out HB7.out HW.out (by rfl) (by rfl) ix iy ip HR2.out
    ·have q4:(ez !=0)=true:=by simpa using h4
     have HR2:=qhz (show r=(r30,ez)by rw[HDh.out,if_pos h4]);clear h4;obtain⟨c0,c1,c2,_⟩:=HI6.out.c3;obtain⟨f0,f1,f2⟩:=HI6.out.f3;have hgl:=HI6.out.lt;go_wp2;exact iL HI6.out HB6.out HW.out (by rfl) (by rfl) 0 0 ⟨#[]⟩ HR2.out
   ·have q2:(e2 !=0)=true:=by simpa using h2
    have HR2:=qhz (HDe.out h2);obtain⟨c0,c1,c2,_⟩:=HI4.out.c3;obtain⟨f0,f1,f2⟩:=HI4.out.f3;have hgl:=HI4.out.lt;go_wp2;exact iL HI4.out HB4.out HW.out (by rfl) (by rfl) 0 0 ⟨#[]⟩ HR2.out
  ·have q1:(e1 !=0)=true:=by simpa using h1
   have HR2:=qhz (show r=(r30,e1)by rw[HD1.out];unfold decS;rw[if_pos h1]);obtain⟨c0,c1,c2,_⟩:=HI2.out.c3;obtain⟨f0,f1,f2⟩:=HI2.out.f3;have hgl:=HI2.out.lt;go_wp2;exact iL HI2.out HB2.out HW.out (by rfl) (by rfl) 0 0 ⟨#[]⟩ HR2.out
end Go.Proofs.YtbanopnofpjnbaaGreatDoor
