/- Own texts in one: PyF, PnP, HpJ, PnV. -/
import Derived.Test.YtbanopnofpjnbaaGreatDoorU15
import Derived.Test.YtbanopnofpjnbaaGreatDoorU20
import Derived.Test.YtbanopnofpjnbaaGreatDoorU22
set_option maxRecDepth 1000000
set_option linter.unusedVariables false
set_option maxHeartbeats 4000000
namespace Go.Proofs.YtbanopnofpjnbaaGreatDoor
open Go Go.RowKit Tryz
def p0L:bj:=⟨0,0,1,1⟩
theorem Gu{W H:Nat}(hW:1≤W):bS W H bM=eC W H p0L 0:=by
 have h0:ay W 0 1=W:=by unfold ay;simp
 rw[vC (w:=W) (h:=H) (p:=p0L) (by show 0<ay W 0 1;omega)];show mo W H p0L++[]=_;rw[List.append_nil]
theorem KM(n:Nat):ay n 0 1=n:=by unfold ay;simp
theorem Sh(W y:Nat):jobP W p0L y=⟨0,1,y,W,decide (y=0)⟩:=by
 unfold jobP p0L;dsimp only;rw[KM,Nat.zero_add,Nat.mul_one]
theorem NV{W H y k:Nat}{pix ab:List UInt8}{js:List RowJ}(hp:pix.length=8*(W*H))(hy:y<H)(hab:y=0→ab=[]):
 dF (fU W H) (ck pix) (fun _=> -1) (jobP W p0L y::js) k ab=UInt8.ofNat (kC 8 ((pix.drop (8*(y*W))).take (8*W)) ab)::(doF (kC 8 ((pix.drop (8*(y*W))).take (8*W)) ab:Nat) 8 ((pix.drop (8*(y*W))).take (8*W)) ab++dF (fU W H) (ck pix) (fun _=> -1) js (k+1) ((pix.drop (8*(y*W))).take (8*W))):=by
 rw[Sh,dF];have e1:dR (fU W H).d (rowV (fU W H) (ck pix) ⟨0,1,y,W,decide (y=0)⟩)=(pix.drop (8*(y*W))).take (8*W):=Fz hp hy _;have e2:(if(⟨0,1,y,W,decide (y=0)⟩:RowJ).first=true then []else ab)=ab:=by
  show(if decide (y=0)=true then []else ab)=ab
  by_cases h:y=0
  ·rw[if_pos (decide_eq_true h),hab h]
  ·rw[if_neg (by rw[decide_eq_false h];decide)]
 rw[e1,e2];have e8:bppN (fU W H)=8:=by show max 1 (16*ai 6/8)=8;decide
 have e3:ni (fU W H) (fun _=> -1) k ((pix.drop (8*(y*W))).take (8*W)) ab=kC 8 ((pix.drop (8*(y*W))).take (8*W)) ab:=by
  unfold ni;rw[if_pos (show(-1:Int)<0 by decide),e8]
 rw[e3,e8]
theorem vW{a b:Int}{pix:ByteArray}(h:aA a b pix=0):∃W H:Nat,a=(W:Int)∧b=(H:Int)∧1≤W∧W≤1024∧1≤H∧H≤1024∧W*H≤4096∧pix.size=8*(W*H):=by
 have h0:ak a b 16 6 0=0:=by
  unfold aA at h
  by_cases k:ak a b 16 6 0≠0
  ·rw[if_pos k]at h;exact absurd h k
  ·exact Classical.not_not.1 k
 obtain⟨W,H,D,C,R⟩:=dA h0;refine⟨W,H,R.wa,R.hb,R.w1,R.w2,R.h1,R.h2,R.area,?_⟩;unfold aA at h;rw[if_neg (fun k=>k h0)]at h
 by_cases k:(pix.size:Int)≠8*a*b
 ·rw[if_pos k]at h;exact absurd h (by decide)
 ·have k2:=Classical.not_not.1 k;rw[R.wa,R.hb,Int.mul_assoc,←Int.natCast_mul]at k2;omega
theorem JY(w:World){a b:Int}{pix:ByteArray}(hp:pix.size≤140737488351232):
 Calls prog 30 #[.agg #[a,b,pix]] w (R1z (.tuple #[.string (aX a b pix).1,.int .i64 (aX a b pix).2]) w):=by
 obtain⟨b1,hb1⟩:=E1 w.heap.size;obtain⟨w1,hw1⟩:=E1 (w.alloc (.cells #[a,b,pix] 23));have hI:Is w1 b1 23 #[a,b,pix]:=by rw[hw1,hb1];exact Is.fresh _ _ _
 have hB:But [] w w1:=by rw[hw1];exact(But.refl [] w).alloc _
 have HB:=qhz hB;have HC:Hid (∀v,But [] w1 v→v.cell? ⟨b1,0,none⟩=some (.int .i64 a)∧v.cell? ⟨b1,1,none⟩=some (.int .i64 b)∧v.cell? ⟨b1,2,none⟩=some (.string pix)∧b1<v.heap.size):=qhz fun v hv=>by
  have hh:=hI.but hv (by simp);exact⟨hh.cell 0,hh.cell 1,hh.cell 2,hh.lt⟩
 obtain⟨r,hr⟩:=E1 (aA a b pix);have HCK:Hid (∀v,Calls prog 62 #[.agg #[a,b,pix]] v (R1z (.int .i64 r) v)):=qhz fun v=>by rw[hr];exact zA v hp
 clear hI hB
 by_cases h0:r=0
 ·subst h0;obtain⟨W,H,rfl,rfl,hW1,hW2,hH1,hH2,harea,hps⟩:=vW hr.symm;have hpl:pix.data.toList.length=8*(W*H):=by rw[Array.length_toList];exact hps
  obtain⟨TT,hTT⟩:=E1 (pE W H pix.data.toList);have HR:Hid (aX W H pix=(strL TT,0)):=qhz (by unfold aX;rw[if_neg (fun h=>h hr.symm),hTT];rfl);have HR1:Hid ((aX W H pix).1=strL TT):=qhz (by rw[HR.out]);have HR2:Hid ((aX W H pix).2=0):=qhz (by rw[HR.out]);obtain⟨R1,hR1⟩:=E1 (aX W H pix);rw[←hR1]at HR1 HR2⊢;obtain⟨PK,hPK⟩:∃f:Nat→List UInt8→List UInt8,f=fun y ab=>dF (fU W H) (ck pix.data.toList) (fun _=> -1) (eC W H p0L y) y ab:=⟨_,rfl⟩
  obtain⟨LN,hLN⟩:∃f:Nat→List UInt8,f=fun y=>(pix.data.toList.drop (8*(y*W))).take (8*W):=⟨_,rfl⟩
  have HT0:Hid (TT=[]++PK 0 []):=qhz (by rw[hTT,hPK];show pE W H _=dF _ _ _ _ _ _;unfold pE;rw[Gu hW1]);have HTN:Hid (∀y ab,y<H→(y=0→ab=[])→PK y ab=UInt8.ofNat (kC 8 (LN y) ab)::(doF (kC 8 (LN y) ab:Nat) 8 (LN y) ab++PK (y+1) (LN y))):=qhz fun y ab hy hab=>by
   rw[hPK,hLN];dsimp only;rw[lY (p:=p0L) (show y<ay H 0 1 by rw[KM];exact hy)];exact NV hpl hy hab
  have HTE:Hid (∀ab,PK H ab=[]):=qhz fun ab=>by
   rw[hPK];dsimp only;rw[tw (p:=p0L) (show ay H 0 1≤H by rw[KM];exact Nat.le_refl _)];rfl
  obtain⟨w8,hw8⟩:∃z,z=8*W:=⟨_,rfl⟩
  have HLL:Hid (∀y,y<H→(LN y).length=w8∧8*(y*W)+w8≤pix.size):=qhz fun y hy=>by
   have:(y+1)*W≤H*W:=Nat.mul_le_mul_right _ hy;rw[Nat.add_mul,Nat.one_mul,Nat.mul_comm H]at this;rw[hLN];dsimp only;rw[List.length_take,List.length_drop,hpl];omega
  have HCUT:Hid (∀y lo hi,lo=8*(y*W)→hi=lo+w8→hi≤pix.size→∀v,(Instr.slice 9 (.string pix) (some (.int .i64 (lo:Int))) (some (.int .i64 (hi:Int))) none).run prog v=.ok (.string (strL (LN y))) v):=qhz fun y lo hi h1 h2 h3 v=>by
   have h:=vQ pix (i:=lo) (j:=hi) (by omega) v h3;rw[show hi-lo=w8 by omega,h1,hw8]at h;rw[hLN];rw[h1];exact h
  have e8:(8:Int)*(W:Int)=(w8:Int):=by omega
  have v8:=af (show w8<1000000000000000 by omega);have hw8l:w8≤8192:=by omega
  have HW8:=qhz hw8;have HPS:=qhz hps;have HHl:Hid (H≤1024):=qhz hH2;clear hr hR1 hTT hPK hLN hw8 hps hpl
  go_enter func30,ntmps30
  go_upto_region 1 with(fail)
  rw[←hw1,←hb1];clear hw1 hb1;obtain⟨c0,c1,c2,hgl⟩:=HC.out _ (But.refl _ _)
  go_wp2_with fail
  refine(HCK.out _).mono ?_;rintro e w2 ⟨rfl,hB2⟩;have HB12:=qhz hB2;have HB2:=qt HB hB2;clear hB2 c0 c1 c2 hgl;obtain⟨bb,hbb⟩:=E1 w2.heap.size;obtain⟨w3,hw3⟩:=E1 (w2.alloc (.cells #[.pointer none,.slice none 0 0] 77));have HBL:Hid (Bld w3 w1.heap.size bb []):=qhz (by rw[hw3,hbb];exact Bld.fresh w2 HB12.out.size);have hB3:But [] w2 w3:=by rw[hw3];exact(But.refl [] w2).alloc _
  have HB13:=qt HB12 hB3;have HB3:=qt HB2 hB3;clear hB3
  go_upto_region 5 with(fail)
  rw[←hw3,←hbb];clear hw3 hbb;obtain⟨c0,c1,c2,hgl⟩:=HC.out _ HB13.out
  go_wp2_with fail
  go_loopw [6,19] (fun av yv wx=>∃(y:Nat) (ab:ByteArray) (DN:List UInt8),y≤H∧yv=.int .i64 y∧av=.string ab∧Hid (TT=DN++PK y ab.data.toList)∧Hid (y=0→ab.data.toList=[])∧Hid (ab.size=0∨ab.size=w8)∧Hid (DN.length≤y*8200)∧Hid (Bld wx w1.heap.size bb DN)∧Hid (But [] w1 wx)) (fun _ yv _=>H-(intOf yv).toNat)
  case atStart=>exact⟨0,⟨#[]⟩,[],Nat.zero_le _,rfl,rfl,HT0,qhz fun _=>rfl,qhz (.inl rfl),qhz (Nat.zero_le _),HBL,HB13⟩
  case round=>
   clear HT0 HBL c0 c1 c2 hgl HB13 HB3;obtain⟨y,ab,DN,hy,rfl,rfl,HTT,HA0,HAS,HDN,HBL,HBx⟩:=hrel;obtain⟨c0,c1,c2,hgl⟩:=HC.out _ HBx.out
   by_cases hyl:y<H
   ·obtain⟨hll,hfit⟩:=HLL.out y hyl;obtain⟨lo,hlo⟩:=E1 (w8*y);have elo:(w8:Int)*(y:Int)=(lo:Int):=by rw[hlo,Int.natCast_mul]
    have hlo8:lo=8*(y*W):=by rw[hlo,HW8.out,Nat.mul_assoc,Nat.mul_comm W]
    obtain⟨y1,hy1⟩:=E1 (y+1);have ey1:(y:Int)+1=(y1:Int):=by omega
    obtain⟨hi,hhi⟩:=E1 (w8*y1);have ehi:(w8:Int)*(y1:Int)=(hi:Int):=by rw[hhi,Int.natCast_mul]
    have hhi2:hi=lo+w8:=by rw[hhi,hlo,hy1,Nat.mul_add,Nat.mul_one]
    have hpz:pix.size≤32768:=by rw[HPS.out];omega
    have hhil:hi≤pix.size:=by omega
    have vlo:=af (show lo<1000000000000000 by omega);have vhi:=af (show hi<1000000000000000 by omega);have vy1:=af (show y1<1000000000000000 by omega);have ks:=HCUT.out y lo hi hlo8 hhi2 hhil;obtain⟨ln,hln⟩:=E1 (strL (LN y));rw[←hln]at ks;have hlns:ln.size=w8:=by rw[hln,ac,hll]
    have hlnl:ln.data.toList=LN y:=by rw[hln,aj]
    have hw0:bO ((8:Nat):Int) ln ab=0:=by
     unfold bO;refine if_neg ?_;rintro(h|h|⟨h,h'⟩)
     ·omega
     ·omega
     ·rcases HAS.out with h2|h2
      ·exact h h2
      ·exact h' (by rw[h2,hlns])
    obtain⟨kp,hkp⟩:=E1 (kC 8 (LN y) ab.data.toList);have hkp4:kp≤4:=by rw[hkp];exact xo _ _ _
    have hpa:zw ((8:Nat):Int) ln ab=kp:=by rw[rd hw0,hlnl,hkp]
    have hwf:aL ((8:Nat):Int) (kp:Int) ln ab=0:=by rw[fM (by omega) (by omega)];exact hw0
    obtain⟨fd,hfd⟩:=E1 (doF (kp:Nat) 8 (LN y) ab.data.toList);have hda:doA ((8:Nat):Int) (kp:Int) ln ab=fd:=by rw[vN hwf,hlnl,hfd]
    have hfl:fd.length=w8:=by rw[hfd,cq,hll]
    have has:ab.size≤8192:=by rcases HAS.out with h|h<;>omega
    have HPI:Hid (∀v,Calls prog 63 #[(8:Int),ln,.string ab] v (R1z (.tuple #[kp,(0:Int)]) v)):=qhz fun v=>by
     have h:=Ka v ((8:Nat):Int) ln ab (by omega) (by omega);rw[hpa,hw0]at h;exact h
    have HDO:Hid (∀v,Calls prog 64 #[(8:Int),kp,ln,.string ab] v (R1z (.tuple #[strL fd,(0:Int)]) v)):=qhz fun v=>by
     have h:=Qv v ((8:Nat):Int) (kp:Int) ln ab (by omega) (by omega);rw[hda,hwf]at h;exact h
    have hku:(UInt8.ofNat kp).toNat=kp:=by rw[UInt8.toNat_ofNat'];omega
    have HDNl:Hid (DN.length+1+fd.length≤(y+1)*8200∧DN.length+1+fd.length≤8396800):=qhz (by have h1:=HDN.out;have h2:=HHl.out;omega);have HWB:Hid (∀v,Bld v w1.heap.size bb DN→But [] w1 v→Calls prog 65 #[.pointer bb,.int .u8 (kp:Nat)] v fun e w'=>e=.returned .nilIface∧Bld w' w1.heap.size bb (DN++[UInt8.ofNat kp])∧But [] w1 w'):=qhz fun v k1 k2=>by
     have h:=Pg (UInt8.ofNat kp) k1 k2 (by have:=HDNl.out;omega);rw[hku]at h;exact h
    obtain⟨fs,hfs⟩:=E1 (strL fd);have HWS:Hid (∀v,Bld v w1.heap.size bb (DN++[UInt8.ofNat kp])→But [] w1 v→Calls prog 66 #[.pointer bb,fs] v fun e w'=>e=.returned (.tuple #[fd.length,.nilIface])∧Bld w' w1.heap.size bb (DN++[UInt8.ofNat kp]++fd)∧But [] w1 w'):=qhz fun v k1 k2=>by
     rw[hfs];exact uk fd k1 k2 (by rw[List.length_append,List.length_singleton];have:=HDNl.out;omega)
    rw[←hfs]at HDO;have HTT2:Hid (TT=(DN++[UInt8.ofNat kp]++fd)++PK (y+1) ln.data.toList):=qhz (by rw[HTT.out,HTN.out y _ hyl HA0.out,←hkp,←hfd,hlnl];simp);have HA2:Hid (y+1=0→ln.data.toList=[]):=qhz fun h=>absurd h (by omega);have HAS2:Hid (ln.size=0∨ln.size=w8):=qhz (.inr hlns);have HDN2:Hid ((DN++[UInt8.ofNat kp]++fd).length≤(y+1)*8200):=qhz (by rw[List.length_append,List.length_append,List.length_singleton];exact HDNl.out.1);have hk256:kp<256:=by omega
    have i0:(0:Int)≤(y:Int):=by omega
    have i1:(y:Int)<(H:Int):=by omega
    have HY1:=qhz hy1;clear hll hfit hlo hlo8 hhi hhi2 hpz hln hlns hlnl hw0 hkp hpa hwf hfd hda hfl has hku hfs;clear hy1
    go_wp2_with fail
    refine(HPI.out _).mono ?_;rintro e w4 ⟨rfl,hB4⟩;have HL4:=qhz (HBL.out.but hB4);have HB4:=qt HBx hB4;clear hB4 c0 c1 c2 hgl ks
    go_wp2_with fail
    refine(HDO.out _).mono ?_;rintro e w5 ⟨rfl,hB5⟩;have HL5:=qhz (HL4.out.but hB5);have HB5:=qt HB4 hB5;clear hB5
    go_wp2_with fail
    refine(HWB.out _ HL5.out HB5.out).mono ?_;rintro e w6 ⟨rfl,hL6,hX6⟩;have HL6:=qhz hL6;have HX6:=qhz hX6;clear hL6 hX6
    go_wp2_with fail
    refine(HWS.out _ HL6.out HX6.out).mono ?_;rintro e w7 ⟨rfl,hL7,hX7⟩;have HL7:=qhz hL7;have HX7:=qhz hX7;clear hL7 hX7;go_wp2
    go_roundw
    case rel=>exact⟨y+1,ln,DN++[UInt8.ofNat kp]++fd,by omega,by go_num,rfl,HTT2,HA2,HAS2,HDN2,HL7,HX7⟩
    case measure=>simp[intOf]<;>omega
   ·obtain rfl:H=y:=by omega
    have HTe:Hid (DN=TT):=qhz (by rw[HTT.out,HTE.out,List.append_nil]);have HTX:=qhz (EZ HBL.out HBx.out);rw[HTe.out]at HTX
    go_wp2_with fail
    refine HTX.out.mono ?_;rintro e w4 ⟨rfl,hB4⟩;have HB4:=qhz hB4;clear hB4;go_wp2
    go_ret2
    exact⟨by rw[HR1.out,HR2.out];rfl,HB.out.trans HB4.out⟩
 ·have HR:Hid (aX a b pix=(⟨#[]⟩,r)):=qhz (by unfold aX;rw[if_pos (by rw[←hr];exact h0),hr]);have HR1:Hid ((aX a b pix).1=⟨#[]⟩):=qhz (by rw[HR.out]);have HR2:Hid ((aX a b pix).2=r):=qhz (by rw[HR.out]);obtain⟨R1,hR1⟩:=E1 (aX a b pix);rw[←hR1]at HR1 HR2⊢;have q1:(r !=0)=true:=by simpa using h0
  clear hr hR1 HR
  go_enter func30,ntmps30
  go_upto_region 1 with(fail)
  rw[←hw1,←hb1];clear hw1 hb1;obtain⟨c0,c1,c2,hgl⟩:=HC.out _ (But.refl _ _)
  go_wp2_with fail
  refine(HCK.out _).mono ?_;rintro e w2 ⟨rfl,hB2⟩;have HB2:=qt HB hB2;clear hB2 c0 c1 c2 hgl;go_wp2
  go_ret2
  exact⟨by rw[HR1.out,HR2.out];rfl,HB2.out⟩
theorem B5(w:World)(hG:GD w){a b:Int}{pix:ByteArray}(hp:pix.size≤4096):
 Calls prog 13 #[.agg #[a,b,pix]] w (R1z (.tuple #[.string (encA a b pix).1,.int .i64 (encA a b pix).2]) w):=by
 obtain⟨g,hg⟩:=E1 w.heap.size;have hB1:=(But.refl [] w).alloc (.cells #[a,b,pix] 23);obtain⟨w1,hw1⟩:=E1 (w.alloc (.cells #[a,b,pix] 23));have HI1:Hid (Is w1 g 23 #[a,b,pix]):=qhz (by rw[hw1,hg];exact Is.fresh _ _ _);rw[←hw1]at hB1;have HB1:=qhz hB1;clear hB1;have hsz:=lP a b pix;have HA:Hid (encA a b pix=if(aX a b pix).2≠0 then(⟨#[]⟩,(aX a b pix).2)else(strL (gj (encK a b (aX a b pix).1)).1,(gj (encK a b (aX a b pix).1)).2)):=qhz rfl;have HR:Hid (∀W,Calls prog 30 #[.agg #[a,b,pix]] W (R1z (.tuple #[.string (aX a b pix).1,.int .i64 (aX a b pix).2]) W)):=qhz fun W=>JY W (by omega);obtain⟨raw,hraw⟩:=E1 ((aX a b pix).1);obtain⟨er,her⟩:=E1 ((aX a b pix).2);obtain⟨res,hres⟩:=E1 (encA a b pix);rw[←hraw]at hsz;rw[←hraw,←her,←hres]at HA;rw[←hraw,←her]at HR;rw[←hres];clear hres hraw her;have hws:(dK raw.data.toList).size≤raw.size+11:=by
  have h:=nt (l:=raw.data.toList) (by rw[Array.length_toList];show raw.size≤_;omega);rw[Array.length_toList]at h;exact h
 by_cases h0:er=0
 ·have q0:(er !=0)=false:=by simpa using h0
  have HA2:Hid (res=(strL (gj (encK a b raw)).1,(gj (encK a b raw)).2)):=qhz (by rw[HA.out,if_neg (fun k=>k h0)]);have HL:Hid (∀W,Calls prog 32 #[.agg #[a,b,(16:Int),(6:Int),(0:Int)]] W (R1z (uc (layI a b 16 6 0)) W)):=qhz fun W=>Kd W a b 16 6 0;have HW:Hid (∀W,But [] w W→Calls prog 33 #[raw] W (R1z (.string (dK raw.data.toList)) W)):=qhz fun W hBW=>JT W (hG.but hBW) (by omega);obtain⟨z,hz⟩:=E1 (dK raw.data.toList);obtain⟨k1,hk1⟩:=E1 (layI a b 16 6 0);have HK:Hid (encK a b raw=[k1,(bo,z.data.toList),(cf,[])]):=qhz (by rw[hz,hk1];rfl);have HJ:Hid (∀W A cap,Cks W A 3 [k1,(bo,z.data.toList),(cf,[])]→Calls prog 31 #[.slice A 3 cap] W (R1z (.tuple #[(strL (gj [k1,(bo,z.data.toList),(cf,[])]).1),.int .i64 (gj [k1,(bo,z.data.toList),(cf,[])]).2]) W)):=qhz fun W A cap hK=>Kg W hK (by
   have e1:k1.2.length=13:=by rw[hk1];exact iq _ _ _ _ _
   have e2:z.data.toList.length=z.size:=Array.length_toList;rw[←hz]at hws;unfold ml;show(if aJ k1.1=true then 16+k1.2.length else 0)+((if aJ bo=true then 16+z.data.toList.length else 0)+((if aJ cf=true then 16+0 else 0)+0))≤_;rw[e1,e2,pI,pH];split<;>simp<;>omega) (by omega)
  have HCV:Hid (uc k1=.agg #[strL k1.1,strL k1.2]):=qhz rfl;obtain⟨t1,ht1⟩:=E1 (strL k1.1);obtain⟨d1,hd1⟩:=E1 (strL k1.2);have HC3:Hid (∀W:World,Cks (W.alloc (.cells #[t1,d1,.string ⟨#[73,68,65,84]⟩,z,.string ⟨#[73,69,78,68]⟩,.string ⟨#[]⟩] 42)) (some ⟨W.heap.size,0,none⟩) 3 [k1,(bo,z.data.toList),(cf,[])]):=qhz fun W=>by
   have h:=AK W k1 (bo,z.data.toList) (cf,[]);rw[←ht1,←hd1]at h;have e1:strL (bo,z.data.toList).2=z:=jO z;rw[e1]at h;exact h
  rw[←hz]at HW;rw[←hk1]at HL;rw[HCV.out,←ht1,←hd1]at HL;rw[HK.out]at HA2;obtain⟨jr,hjr⟩:=E1 (gj [k1,(bo,z.data.toList),(cf,[])]);rw[←hjr]at HA2 HJ;clear hz hk1 HK HCV ht1 hd1 HA hws hjr
  go_enter func13,ntmps13
  go_upto_region 1 with(fail)
  rw[←hw1,←hg];clear hw1 hg;obtain⟨c0,c1,c2,hgl⟩:=HI1.out.c3
  go_wp2_with fail
  refine(HR.out _).mono ?_;rintro e w2 ⟨rfl,hB2⟩;have HI2:=qhz (HI1.out.but hB2 (by simp));have HB2:=qt HB1 hB2;clear hB2 c0 c1 c2 hgl HI1 HB1;obtain⟨c0,c1,c2,hgl⟩:=HI2.out.c3
  go_wp2_with fail
  refine(HL.out _).mono ?_;rintro e w3 ⟨rfl,hB3⟩;have HB3:=qhz ((HB2.out.alloc _).trans hB3);clear hB3 c0 c1 c2 hgl HI2 HB2
  go_wp2_with fail
  refine(HW.out _ HB3.out).mono ?_;rintro e w4 ⟨rfl,hB4⟩;have HB4:=qt HB3 hB4;clear hB4 HB3
  go_wp2_with fail
  refine(HJ.out _ _ _ (HC3.out _)).mono ?_;rintro e w5 ⟨rfl,hB5⟩;have HB5:=qhz ((HB4.out.alloc _).trans hB5);clear hB5 HB4;go_wp2;refine bodyPost_ret (v:=.tuple #[strL jr.1,jr.2]) ?_ rfl ⟨by rw[HA2.out],HB5.out⟩;simp[results,results13,go_sem]
 ·have q0:(er !=0)=true:=by simpa using h0
  have HA2:Hid (res=(⟨#[]⟩,er)):=qhz (by rw[HA.out,if_pos h0]);clear HA hws
  go_enter func13,ntmps13
  go_upto_region 1 with(fail)
  rw[←hw1,←hg];clear hw1 hg;obtain⟨c0,c1,c2,hgl⟩:=HI1.out.c3
  go_wp2_with fail
  refine(HR.out _).mono ?_;rintro e w2 ⟨rfl,hB2⟩;have HB2:=qt HB1 hB2;clear hB2 c0 c1 c2 hgl HI1 HB1;go_wp2;refine bodyPost_ret (v:=.tuple #[.string ⟨#[]⟩,er]) ?_ rfl ⟨by rw[HA2.out],HB2.out⟩;simp[results,results13,go_sem]
section
theorem Cks.cut1{w:World}{g o n:Nat}{L:List Ck}(h:Cks w (some ⟨g,o,none⟩) n L):Cks w (some ⟨g,o+2,none⟩) (n-1) (L.drop 1):=by
 refine⟨by rw[List.length_drop,h.1],fun hn=>?_⟩;obtain⟨g',o',e,hg,hc⟩:=h.2 (by omega);injection e with e;injection e with e1 e2;subst e1 e2;refine⟨g,o+2,rfl,hg,fun i hi=>?_⟩;have hl:=h.1;rw[List.length_drop]at hi;have:=hc (1+i) (by omega);rw[List.getElem_drop];rw[show o+2+i*2=o+(1+i)*2 by omega];exact this
theorem Cks.cut1n{w:World}{A:Option Addr}{L:List Ck}(h:L.length=1):Cks w A 0 (L.drop 1):=by
 refine⟨by rw[List.length_drop,h],fun hn=>absurd hn (by omega)⟩
theorem QN(er:Int):Ending.returned (.tuple #[si [] hs0,strL hs0.D,er])=.returned (.tuple #[.agg #[(0:Int),(0:Int),(0:Int),(0:Int),(0:Int),.string ⟨#[]⟩,.string ⟨#[]⟩,false],.string ⟨#[]⟩,er]):=rfl
theorem Aw(w:World)(a h d c l:Int){w0:World}(hb:w0.heap.size≤w.heap.size)(hB:But [] w0 w):FlS w0 (w.alloc (.cells #[a,h,d,c,l,.string ⟨#[]⟩,.string ⟨#[]⟩,false,.pointer none,.slice none 0 0,false,.string ⟨#[]⟩] 79)) w.heap.size a h d c l [] [] [] false false []:=
 ⟨.pointer none,.slice none 0 0,hb,hB.alloc _,.inl rfl,Is.fresh _ _ _,OwnY.nil _ _,by simp[Value.ownBlock]⟩
theorem put8{w W:World}{b0:Nat}(hI:Is W b0 35 zerC)(hB:But [] w W)(hb:w.heap.size≤b0)(v0 v1 v2 v3 v4 v5 v6 v7:Value):
 Is ((((((((W.setCell ⟨b0,0,none⟩ v0).setCell ⟨b0,1,none⟩ v1).setCell ⟨b0,2,none⟩ v2).setCell ⟨b0,3,none⟩ v3).setCell ⟨b0,4,none⟩ v4).setCell ⟨b0,5,none⟩ v5).setCell ⟨b0,6,none⟩ v6).setCell ⟨b0,7,none⟩ v7) b0 35 #[v0,v1,v2,v3,v4,v5,v6,v7]∧
 But [] w ((((((((W.setCell ⟨b0,0,none⟩ v0).setCell ⟨b0,1,none⟩ v1).setCell ⟨b0,2,none⟩ v2).setCell ⟨b0,3,none⟩ v3).setCell ⟨b0,4,none⟩ v4).setCell ⟨b0,5,none⟩ v5).setCell ⟨b0,6,none⟩ v6).setCell ⟨b0,7,none⟩ v7):=by
 have a0:=hI.put 0 v0;have a1:=a0.put 1 v1;have a2:=a1.put 2 v2;have a3:=a2.put 3 v3;have a4:=a3.put 4 v4;have a5:=a4.put 5 v5;have a6:=a5.put 6 v6;have a7:=a6.put 7 v7;have e:(((((((zerC.setIfInBounds 0 v0).setIfInBounds 1 v1).setIfInBounds 2 v2).setIfInBounds 3 v3).setIfInBounds 4 v4).setIfInBounds 5 v5).setIfInBounds 6 v6).setIfInBounds 7 v7=#[v0,v1,v2,v3,v4,v5,v6,v7]:=by
  unfold zerC;simp
 rw[e]at a7;exact⟨a7,(((((((hB.setCell (p:=⟨b0,0,none⟩) (.inr hb) v0).setCell (p:=⟨b0,1,none⟩) (.inr hb) v1).setCell (p:=⟨b0,2,none⟩) (.inr hb) v2).setCell (p:=⟨b0,3,none⟩) (.inr hb) v3).setCell (p:=⟨b0,4,none⟩) (.inr hb) v4).setCell (p:=⟨b0,5,none⟩) (.inr hb) v5).setCell (p:=⟨b0,6,none⟩) (.inr hb) v6).setCell (p:=⟨b0,7,none⟩) (.inr hb) v7⟩
attribute [local irreducible] strL
theorem kX{w W:World}{b0:Nat}{tmps:Array Value}{er:Int}{r:List Int×HS×Int}(hI:Is W b0 35 zerC)(hB:But [] w W)
 (h2:tmps[2]? =some (.pointer b0)) (h3:tmps[3]? =some (.string ⟨#[]⟩)) (h4:tmps[4]? =some (.int .i64 er)) (hr:r=([],hs0,er)):
 bodyPost prog Tryz.f22 (GotH w r) Exit.ret {tmps:=tmps,defers:=[]} W:=by
 obtain⟨e0,e1,e2,e3,e4,e5,e6,e7,_⟩:=hI.c8;unfold zerC at e0 e1 e2 e3 e4 e5 e6 e7;refine bodyPost_ret (v:=.tuple #[.agg #[(0:Int),(0:Int),(0:Int),(0:Int),(0:Int),.string ⟨#[]⟩,.string ⟨#[]⟩,false],.string ⟨#[]⟩,er]) ?_ rfl ?_
 ·simp[results,results22,go_sem,e0,e1,e2,e3,e4,e5,e6,e7,h2,h3,h4]
 ·rw[hr];exact⟨(QN er).symm,hB⟩
theorem D0{w W:World}{b0:Nat}{tmps:Array Value}{a h d c l:Int}{P T D:List UInt8}{tr:Bool}{r:List Int×HS×Int}(hI:Is W b0 35 (shpC a h d c l P T tr))(hB:But [] w W)
 (h2:tmps[2]? =some (.pointer b0)) (h3:tmps[3]? =some (.string (strL D))) (h4:tmps[4]? =some (.int .i64 0))
 (hv:.tuple #[si r.1 r.2.1,strL r.2.1.D,r.2.2]=Value.tuple #[.agg (shpC a h d c l P T tr),strL D,(0:Int)]):
 bodyPost prog Tryz.f22 (GotH w r) Exit.ret {tmps:=tmps,defers:=[]} W:=by
 obtain⟨e0,e1,e2,e3,e4,e5,e6,e7,_⟩:=hI.c8;unfold shpC at e0 e1 e2 e3 e4 e5 e6 e7;refine bodyPost_ret (v:=.tuple #[.agg #[a,h,d,c,l,strL P,strL T,tr],strL D,(0:Int)]) ?_ rfl ?_
 ·simp[results,results22,go_sem,e0,e1,e2,e3,e4,e5,e6,e7,h2,h3,h4]
 ·unfold GotH;rw[hv];exact⟨rfl,hB⟩
theorem zo(w:World){A:Option Addr}{n cap:Nat}{L:List Ck}(hK:Cks w A n L)(hcap:n≤cap)(hL:ir L≤100000000)(hn:n≤8796093022208)(hs:∀(i:Nat) (k:Ck),L[i]? =some k→k.1.length≤140737488351232):
 Calls prog 22 #[.slice A n cap] w (GotH w (eR L)):=by
 obtain⟨R,hR⟩:=E1 (eR L);rw[←hR];have HR:=qhz hR;have hI0:=Is.fresh w 35 zerC;have hB0:=(But.refl [] w).alloc (.cells zerC 35);have HI0:=qhz hI0;have HB0:=qhz hB0;have HK:=qhz hK;have HL:=qhz hL;have HTL:=qhz hs;obtain⟨k0,k1,k2,k3,k4,k5,k6,k7,_⟩:=hI0.c8;unfold zerC at k0 k1 k2 k3 k4 k5 k6 k7;clear hR hI0 hB0 hK hL hs;cases L with
 |nil=>
  obtain rfl:n=0:=HK.out.1.symm;have HE:=qhz (show R=([],hs0,23)from HR.out);clear HR HK HL HTL
  go_enter func22,ntmps22
  go_wp2;exact kX (b0:=w.heap.size) (W:=_) HI0.out HB0.out rfl rfl rfl HE.out
 |cons k L=>
  obtain⟨t,data⟩:=k;have hnl:L.length+1=n:=by have:=HK.out.1;simpa using this
  obtain⟨g,o,k,hA,hg,hc0,hc1,hat⟩:=HK.out.at (i:=0) (by omega);subst hA;have hk:(t,data)=k:=by simpa using hat
  subst hk;rw[show o+0*2=o by omega]at hc0 hc1;dsimp only at hc0 hc1;have c0:=HB0.out.cell hc0 (by simp);have c1:=HB0.out.cell hc1 (by simp);have dn:((n:Int)==0)=false:=by simp;omega
  have dn2:decide ((n:Int)=0)=false:=by simp;omega
  have dn3:¬((n:Int)=0):=by omega
  have kk:(0:Int)<(n:Int):=by omega
  unfold zerC at c0 c1
  by_cases ht:t=fp
  rotate_left
  ·have HE:=qhz (show R=([],hs0,23)from HR.out.trans (FD (k:=(t,data)) ht));have e0:=r7 ht;obtain⟨S,hS⟩:=E1 (strL t);rw[←hS]at e0 c0;obtain⟨e1,e2⟩:¬S.toList=[73,72,68,82]∧(S.toList==[73,72,68,82])=false:=e0;have e4:(!(S.toList==[73,72,68,82]))=true:=by rw[e2];rfl
   clear hS ht HR HK HL HTL hc0 hc1 hat hg hnl
   go_enter func22,ntmps22
   go_wp2;exact kX (b0:=w.heap.size) (W:=_) HI0.out HB0.out rfl rfl rfl HE.out
  ·have e1:(strL t).toList=[73,72,68,82]:=r9 ht;have e2:((strL t).toList==[73,72,68,82])=true:=by rw[e1];rfl
   have e4:(!((strL t).toList==[73,72,68,82]))=false:=by rw[e2];rfl
   have hR2:R=if(fF data).2≠0 then([],hs0,(fF data).2)else if(runH ((fF data).1.getD 2 0) ((fF data).1.getD 3 0) L hs0).2=0 then((fF data).1,runH ((fF data).1.getD 2 0) ((fF data).1.getD 3 0) L hs0)else([],hs0,(runH ((fF data).1.getD 2 0) ((fF data).1.getD 3 0) L hs0).2):=by
    rw[HR.out,ht];exact Gz data L
   have hdl:ir ((t,data)::L)=data.length+ir L:=by unfold ir;simp
   have hLL:=HL.out;rw[hdl]at hLL;have hh:∀W,Calls prog 48 #[strL data] W (Pn W (fF data)):=fun W=>B1 W (by omega);unfold Pn RU at hh;obtain⟨x,hx⟩:=E1 (fF data);rw[←hx]at hR2;simp only[←hx]at hh;obtain⟨a,ha⟩:=E1 (x.1.getD 0 0);obtain⟨h,hh'⟩:=E1 (x.1.getD 1 0);obtain⟨d,hd⟩:=E1 (x.1.getD 2 0);obtain⟨c,hc⟩:=E1 (x.1.getD 3 0);obtain⟨l,hl⟩:=E1 (x.1.getD 4 0);obtain⟨er,her⟩:=E1 x.2;rw[←hd,←hc,←her]at hR2;simp only[←ha,←hh',←hd,←hc,←hl,←her]at hh;have HH:=qhz hh;obtain⟨S,hS⟩:=E1 (strL t);rw[←hS]at e1 e2 e4 c0;obtain⟨X,hX⟩:=E1 (strL data);rw[←hX]at HH c1;have HNL:=qhz hnl
   by_cases he0:er=0
   rotate_left
   ·have HE:=qhz (show R=([],hs0,er)by rw[hR2,if_pos he0]);have p0:(er !=0)=true:=by simpa using he0
    clear he0 hS hX ha hh' hd hc hl her hx hh hLL hdl hR2 ht HR HK HL HTL hc0 hc1 hat hg hnl
    go_enter func22,ntmps22
    go_wp2_with fail
    refine(HH.out _).mono ?_;rintro e w1 ⟨rfl,hB⟩;have hI1:=(HI0.out.but hB (by simp)).alloc (.cells #[a,.int .i64 h,d,c,l] 33);unfold zerC at hI1;obtain⟨k0,k1,k2,k3,k4,k5,k6,k7,_⟩:=hI1.c8;obtain⟨f0,f1,f2,f3,f4,f5,f6,f7⟩:=hI1.f8;have HI1:=qhz hI1;have HB1:=qhz ((HB0.out.trans hB).alloc (.cells #[a,.int .i64 h,d,c,l] 33));clear hB hI1;go_wp2;obtain⟨z1,z2⟩:=wg HI1.out HB1.out (Nat.le_refl _);exact kX (b0:=w.heap.size) (W:=_) z1 z2 rfl rfl rfl HE.out
   ·have p0:(er !=0)=false:=by simp[he0]
    have hrr:iI x.1=0∧x.1=dt data:=by
     have h1:(fF data).2=0:=by rw[←hx,←her];exact he0
     unfold fF at h1
     by_cases hb:data.length≠13∨data.getD 10 0≠0∨data.getD 11 0≠0
     ·rw[if_pos hb]at h1;exact absurd h1 (by decide)
     ·rw[if_neg hb]at h1;have e:x.1=dt data:=by rw[hx];unfold fF;rw[if_neg hb]
      exact⟨by rw[e];exact h1,e⟩
    have hri:ak a h d c l=0:=by rw[ha,hh',hd,hc,hl];exact hrr.1
    obtain⟨_,_,_,_,_,hdo,_⟩:=mV hri;have hdo:=of_decide_eq_true hdo;have HC:Hid (c=0∨c=2∨c=3∨c=4∨c=6):=qhz (by omega);have HDE:Hid (c=3→d=1∨d=2∨d=4∨d=8):=qhz (by omega);have HR3:=qhz (show R=if(runH d c L hs0).2=0 then(x.1,runH d c L hs0)else([],hs0,(runH d c L hs0).2)by rw[hR2,if_neg (fun h=>h he0)]);have HX5:=qhz (show x.1.getD 0 0=a∧x.1.getD 1 0=h∧x.1.getD 2 0=d∧x.1.getD 3 0=c∧x.1.getD 4 0=l from⟨ha.symm,hh'.symm,hd.symm,hc.symm,hl.symm⟩);have HDL:=qhz (show hs0.D.length+ir L≤100000000 by show 0+ir L≤100000000;omega);have HTL2:=qhz (show ∀(i:Nat) (k:Ck),L[i]? =some k→k.1.length≤140737488351232 from fun i k h=>HTL.out (i+1) k (by simpa using h));have HCA:=qhz (show Cks w (if cap=1 then some ⟨g,o,none⟩else some ⟨g,o+2,none⟩) (n-1) L by
     split
     ·have h1:n=1:=by omega
      have:=Cks.cut1n (w:=w) (A:=some ⟨g,o,none⟩) (L:=(t,data)::L) (by show L.length+1=1;omega);rw[h1];simpa using this
     ·have:=HK.out.cut1;simpa using this)
    clear hh hS hX ha hh' hd hc hl her hx hLL hdl hR2 ht HR HK HL HTL hc0 hc1 hat hg hnl hrr hri hdo;subst he0;have dc1:decide ((cap:Int)<1)=false:=by simp;omega
    have dc2:decide (cap<1)=false:=by simp;omega
    have dn1:decide ((n:Int)<1)=false:=by simp;omega
    have dn4:decide (n<1)=false:=by simp;omega
    have one:(1:Int)≤(n:Int):=by omega
    have hncap:(n:Int)≤(cap:Int):=by omega
    have s1:(n:Int)-1=((n-1:Nat):Int):=by omega
    have s2:(cap:Int)-1=((cap-1:Nat):Int):=by omega
    by_cases hc1':cap=1
    ·have hn1':n=1:=by omega
     subst hc1';subst hn1';have HCA2:Hid (Cks w (some ⟨g,o,none⟩) 0 L):=qhz (by simpa using HCA.out)
     go_enter func22,ntmps22
     go_wp2_with fail
     refine(HH.out _).mono ?_;rintro e w1 ⟨rfl,hB⟩;have hI1:=(HI0.out.but hB (by simp)).alloc (.cells #[a,.int .i64 h,d,c,l] 33);have hJ1:=Is.fresh w1 33 #[a,.int .i64 h,d,c,l];have hB1:=(HB0.out.trans hB).alloc (.cells #[a,.int .i64 h,d,c,l] 33);obtain⟨q0,q1,q2,q3,q4,_⟩:=hJ1.c5;have hF:=Aw (w1.alloc (.cells #[a,.int .i64 h,d,c,l] 33)) a h d c l hB1.size hB1;rw[show(w1.alloc (.cells #[a,.int .i64 h,d,c,l] 33)).heap.size=w1.heap.size+1 by simp]at hF;have hlt1:w.heap.size<w1.heap.size:=(HI0.out.but hB (by simp)).lt;have HI1:=qhz hI1;have HF1:=qhz hF;clear hI1 hB1 hF hB hJ1
     go_wp2_with fail
     refine(sT (s:=hs0) (last:=[]) HCA2.out HF1.out zI HC.out HDE.out HDL.out (by omega) HTL2.out).mono ?_;rintro e w2 ⟨rfl,⟨lst,p,v,hf2⟩,hk2⟩;have hI2:Is w2 w.heap.size 35 zerC:=hk2 _ _ _ (by omega) (by decide) (HI1.out.alloc _);have hbb:w1.heap.size+1≠w.heap.size:=by omega
     obtain⟨b,hb⟩:=E1 (w1.heap.size+1);rw[←hb]at hf2 hk2 hbb⊢;obtain⟨rr,hrr⟩:=E1 (runH d c L hs0);rw[←hrr]at hf2 HR3⊢;have HI2:=qhz hI2;unfold zerC at hI2;obtain⟨k0,k1,k2,k3,k4,k5,k6,k7,_⟩:=hI2.c8;obtain⟨f0,f1,f2,f3,f4,f5,f6,f7⟩:=hI2.f8;have HF2:=qhz hf2;clear hI2 hk2 hf2 hb hrr HI1 HF1 q0 q1 q2 q3 q4 hlt1
     by_cases hr0:rr.2=0
     rotate_left
     ·have HE:=qhz (show R=([],hs0,rr.2)by rw[HR3.out,if_neg hr0]);have p1:(rr.2 !=0)=true:=by simpa using hr0
      obtain⟨er,her⟩:=E1 rr.2;rw[←her]at p1 HE⊢;have HB2:=qhz HF2.out.2.1;clear hr0 her HR3 HF2;go_wp2;obtain⟨z1,z2⟩:=wg HI2.out HB2.out (Nat.le_refl _);exact kX (b0:=w.heap.size) (W:=_) z1 z2 rfl rfl rfl HE.out
     ·have HE:=qhz (show R=(x.1,rr)by rw[HR3.out,if_pos hr0]);have hv:Value.tuple #[si R.1 R.2.1,strL R.2.1.D,R.2.2]=Value.tuple #[.agg (shpC a h d c l rr.1.P rr.1.T rr.1.trans),strL rr.1.D,(0:Int)]:=by
       rw[HE.out];unfold si shpC;dsimp only;rw[HX5.out.1,HX5.out.2.1,HX5.out.2.2.1,HX5.out.2.2.2.1,HX5.out.2.2.2.2,hr0]
      have HV:=qhz hv;have HST:Hid (∀W,But [] w2 W→Calls prog 50 #[.pointer (some ⟨b,8,none⟩)] W fun e w'=>e=.returned (.string (strL rr.1.D))∧But [] w w'∧Is w' b 79 #[a,.int .i64 h,d,c,l,strL rr.1.P,strL rr.1.T,rr.1.trans,p,v,rr.1.idat,strL lst]∧Is w' w.heap.size 35 zerC):=
       qhz fun W hW=>(Ax (w0:=w) (w:=W) (b:=b) (v:=v) (D:=rr.1.D) (by rw[((HF2.out.2.2.2.1).but hW (by simp)).cell];rfl) (HF2.out.2.2.2.2.1.but hW) (HF2.out.2.1.trans hW)).mono fun e w' ⟨h1,h2,h3⟩=>⟨h1,h2,h3 _ _ _ (by decide) (HF2.out.2.2.2.1.but hW (by simp)),h3 _ _ _ (by decide) (HI2.out.but hW (by simp))⟩
      have p1:(rr.2 !=0)=false:=by rw[hr0];rfl
      have hf2:=HF2.out.2.2.2.1;obtain⟨U1,hU1⟩:=E1 (strL rr.1.P);obtain⟨U2,hU2⟩:=E1 (strL rr.1.T);obtain⟨U3,hU3⟩:=E1 (strL rr.1.D);obtain⟨U4,hU4⟩:=E1 rr.1.trans;have HU:=qhz (And.intro hU1 (And.intro hU2 (And.intro hU3 hU4)));rw[←hU1,←hU2,←hU4]at hf2;rw[←hU1,←hU2,←hU3,←hU4]at HST;obtain⟨x0,x1,x2,x3,x4,x5,x6,x7,_⟩:=hf2.c8;have h0:rr.2=0:=hr0;rw[h0]at p1⊢;clear hv hr0 HR3 hU1 hU2 hU3 hU4 hf2 HF2 HI2 h0
      go_upto_region 10 with(fail)
      go_region_with (go_at_call 50;refine(HST.out _ ((But.refl [] _).drew)).mono ?_;rintro e w3 ⟨rfl,hB3,hf3,hz3⟩;have HB3:=qhz hB3;have HZ3:=qhz hz3;unfold zerC at hz3;have x0:=hf3.cell 0;have x1:=hf3.cell 1;have x2:=hf3.cell 2;have x3:=hf3.cell 3;have x4:=hf3.cell 4;have x5:=hf3.cell 5;have x6:=hf3.cell 6;have x7:=hf3.cell 7;have k0:=hz3.cell 0;have k1:=hz3.cell 1;have k2:=hz3.cell 2;have k3:=hz3.cell 3;have k4:=hz3.cell 4;have k5:=hz3.cell 5;have k6:=hz3.cell 6;have k7:=hz3.cell 7;have f0:=hz3.free 0;have f1:=hz3.free 1;have f2:=hz3.free 2;have f3:=hz3.free 3;have f4:=hz3.free 4;have f5:=hz3.free 5;have f6:=hz3.free 6;have f7:=hz3.free 7;clear hf3 hz3 hB3)
      all_goals
       go_wp2;obtain⟨z1,z2⟩:=put8 HZ3.out HB3.out (Nat.le_refl _) (.int .i64 a) (.int .i64 h) (.int .i64 d) (.int .i64 c) (.int .i64 l) (.string U1) (.string U2) (.bool U4);rw[HU.out.1,HU.out.2.1,HU.out.2.2.2]at z1;rw[HU.out.1,HU.out.2.1,HU.out.2.2.1,HU.out.2.2.2]at*;exact D0 (b0:=w.heap.size) (W:=_) z1 z2 rfl rfl rfl HV.out
    ·have HCA2:Hid (Cks w (some ⟨g,o+2,none⟩) (n-1) L):=qhz (by have:=HCA.out;rw[if_neg hc1']at this;exact this);have dcc:decide ((cap:Int)=1)=false:=by simp;omega
     go_enter func22,ntmps22
     go_wp2_with fail
     refine(HH.out _).mono ?_;rintro e w1 ⟨rfl,hB⟩;have hI1:=(HI0.out.but hB (by simp)).alloc (.cells #[a,.int .i64 h,d,c,l] 33);have hJ1:=Is.fresh w1 33 #[a,.int .i64 h,d,c,l];have hB1:=(HB0.out.trans hB).alloc (.cells #[a,.int .i64 h,d,c,l] 33);obtain⟨q0,q1,q2,q3,q4,_⟩:=hJ1.c5;have hF:=Aw (w1.alloc (.cells #[a,.int .i64 h,d,c,l] 33)) a h d c l hB1.size hB1;rw[show(w1.alloc (.cells #[a,.int .i64 h,d,c,l] 33)).heap.size=w1.heap.size+1 by simp]at hF;have hlt1:w.heap.size<w1.heap.size:=(HI0.out.but hB (by simp)).lt;have HI1:=qhz hI1;have HF1:=qhz hF;clear hI1 hB1 hF hB hJ1
     go_wp2_with fail
     refine(sT (s:=hs0) (last:=[]) HCA2.out HF1.out zI HC.out HDE.out HDL.out (by omega) HTL2.out).mono ?_;rintro e w2 ⟨rfl,⟨lst,p,v,hf2⟩,hk2⟩;have hI2:Is w2 w.heap.size 35 zerC:=hk2 _ _ _ (by omega) (by decide) (HI1.out.alloc _);have hbb:w1.heap.size+1≠w.heap.size:=by omega
     obtain⟨b,hb⟩:=E1 (w1.heap.size+1);rw[←hb]at hf2 hk2 hbb⊢;obtain⟨rr,hrr⟩:=E1 (runH d c L hs0);rw[←hrr]at hf2 HR3⊢;have HI2:=qhz hI2;unfold zerC at hI2;obtain⟨k0,k1,k2,k3,k4,k5,k6,k7,_⟩:=hI2.c8;obtain⟨f0,f1,f2,f3,f4,f5,f6,f7⟩:=hI2.f8;have HF2:=qhz hf2;clear hI2 hk2 hf2 hb hrr HI1 HF1 q0 q1 q2 q3 q4 hlt1
     by_cases hr0:rr.2=0
     rotate_left
     ·have HE:=qhz (show R=([],hs0,rr.2)by rw[HR3.out,if_neg hr0]);have p1:(rr.2 !=0)=true:=by simpa using hr0
      obtain⟨er,her⟩:=E1 rr.2;rw[←her]at p1 HE⊢;have HB2:=qhz HF2.out.2.1;clear hr0 her HR3 HF2;go_wp2;obtain⟨z1,z2⟩:=wg HI2.out HB2.out (Nat.le_refl _);exact kX (b0:=w.heap.size) (W:=_) z1 z2 rfl rfl rfl HE.out
     ·have HE:=qhz (show R=(x.1,rr)by rw[HR3.out,if_pos hr0]);have hv:Value.tuple #[si R.1 R.2.1,strL R.2.1.D,R.2.2]=Value.tuple #[.agg (shpC a h d c l rr.1.P rr.1.T rr.1.trans),strL rr.1.D,(0:Int)]:=by
       rw[HE.out];unfold si shpC;dsimp only;rw[HX5.out.1,HX5.out.2.1,HX5.out.2.2.1,HX5.out.2.2.2.1,HX5.out.2.2.2.2,hr0]
      have HV:=qhz hv;have HST:Hid (∀W,But [] w2 W→Calls prog 50 #[.pointer (some ⟨b,8,none⟩)] W fun e w'=>e=.returned (.string (strL rr.1.D))∧But [] w w'∧Is w' b 79 #[a,.int .i64 h,d,c,l,strL rr.1.P,strL rr.1.T,rr.1.trans,p,v,rr.1.idat,strL lst]∧Is w' w.heap.size 35 zerC):=
       qhz fun W hW=>(Ax (w0:=w) (w:=W) (b:=b) (v:=v) (D:=rr.1.D) (by rw[((HF2.out.2.2.2.1).but hW (by simp)).cell];rfl) (HF2.out.2.2.2.2.1.but hW) (HF2.out.2.1.trans hW)).mono fun e w' ⟨h1,h2,h3⟩=>⟨h1,h2,h3 _ _ _ (by decide) (HF2.out.2.2.2.1.but hW (by simp)),h3 _ _ _ (by decide) (HI2.out.but hW (by simp))⟩
      have p1:(rr.2 !=0)=false:=by rw[hr0];rfl
      have hf2:=HF2.out.2.2.2.1;obtain⟨U1,hU1⟩:=E1 (strL rr.1.P);obtain⟨U2,hU2⟩:=E1 (strL rr.1.T);obtain⟨U3,hU3⟩:=E1 (strL rr.1.D);obtain⟨U4,hU4⟩:=E1 rr.1.trans;have HU:=qhz (And.intro hU1 (And.intro hU2 (And.intro hU3 hU4)));rw[←hU1,←hU2,←hU4]at hf2;rw[←hU1,←hU2,←hU3,←hU4]at HST;obtain⟨x0,x1,x2,x3,x4,x5,x6,x7,_⟩:=hf2.c8;have h0:rr.2=0:=hr0;rw[h0]at p1⊢;clear hv hr0 HR3 hU1 hU2 hU3 hU4 hf2 HF2 HI2 h0
      go_upto_region 10 with(fail)
      go_region_with (go_at_call 50;refine(HST.out _ ((But.refl [] _).drew)).mono ?_;rintro e w3 ⟨rfl,hB3,hf3,hz3⟩;have HB3:=qhz hB3;have HZ3:=qhz hz3;unfold zerC at hz3;have x0:=hf3.cell 0;have x1:=hf3.cell 1;have x2:=hf3.cell 2;have x3:=hf3.cell 3;have x4:=hf3.cell 4;have x5:=hf3.cell 5;have x6:=hf3.cell 6;have x7:=hf3.cell 7;have k0:=hz3.cell 0;have k1:=hz3.cell 1;have k2:=hz3.cell 2;have k3:=hz3.cell 3;have k4:=hz3.cell 4;have k5:=hz3.cell 5;have k6:=hz3.cell 6;have k7:=hz3.cell 7;have f0:=hz3.free 0;have f1:=hz3.free 1;have f2:=hz3.free 2;have f3:=hz3.free 3;have f4:=hz3.free 4;have f5:=hz3.free 5;have f6:=hz3.free 6;have f7:=hz3.free 7;clear hf3 hz3 hB3)
      all_goals
       go_wp2;obtain⟨z1,z2⟩:=put8 HZ3.out HB3.out (Nat.le_refl _) (.int .i64 a) (.int .i64 h) (.int .i64 d) (.int .i64 c) (.int .i64 l) (.string U1) (.string U2) (.bool U4);rw[HU.out.1,HU.out.2.1,HU.out.2.2.2]at z1;rw[HU.out.1,HU.out.2.1,HU.out.2.2.1,HU.out.2.2.2]at*;exact D0 (b0:=w.heap.size) (W:=_) z1 z2 rfl rfl rfl HV.out
end
theorem iL{w W:World}{g:Nat}{tmps:Array Value}{er:Int}(hI:Is W g 23 #[(0:Int),(0:Int),.string ⟨#[]⟩])(hB:But [] w W)(hb:w.heap.size≤g)(ht:tmps[2]? =some (.pointer g))(h3:tmps[3]? =some (.int .i64 er))(x y:Int)(s:ByteArray){r:R3×Int}(hr:r=((x,y,s),er)):
 bodyPost prog Tryz.f9 (Bd w r) Exit.ret {tmps:=tmps,defers:=[]}
  (((W.setCell ⟨g,0,none⟩ (.int .i64 x)).setCell ⟨g,1,none⟩ (.int .i64 y)).setCell ⟨g,2,none⟩ (.string s)):=by
 subst hr;have h0:=hI.put 0 (.int .i64 x);have h1:=h0.put 1 (.int .i64 y);have h2:=h1.put 2 (.string s);have k0:=hB.setCell (p:=⟨g,0,none⟩) (.inr hb) (.int .i64 x);have k1:=k0.setCell (p:=⟨g,1,none⟩) (.inr hb) (.int .i64 y);have k2:=k1.setCell (p:=⟨g,2,none⟩) (.inr hb) (.string s);obtain⟨V,hV⟩:=E1 ((((W.setCell ⟨g,0,none⟩ (.int .i64 x)).setCell ⟨g,1,none⟩ (.int .i64 y)).setCell ⟨g,2,none⟩ (.string s)));rw[←hV]at h2 k2⊢;clear h0 h1 k0 k1 hV;obtain⟨e0,e1,e2,_⟩:=h2.c3;refine bodyPost_ret (v:=.tuple #[.agg #[x,y,s],er]) ?_ rfl ⟨rfl,k2⟩;simp[results,results9,go_sem,e0,e1,e2,ht,h3]
theorem NL(w:World){f:ByteArray}(hf:f.size≤140737488351232)(hst:Ba f):
 Calls prog 9 #[f] w (Bd w (decA f)):=by
 obtain⟨g,hg⟩:=E1 w.heap.size;have hB1:=(But.refl [] w).alloc (.cells #[(0:Int),(0:Int),.string ⟨#[]⟩] 23);obtain⟨w1,hw1⟩:=E1 (w.alloc (.cells #[(0:Int),(0:Int),.string ⟨#[]⟩] 23));have HI1:Hid (Is w1 g 23 #[(0:Int),(0:Int),.string ⟨#[]⟩]):=qhz (by rw[hw1,hg];exact Is.fresh _ _ _);rw[←hw1]at hB1;have HB1:=qhz hB1;have HW:Hid (w.heap.size≤g):=qhz (by rw[hg];exact Nat.le_refl _);clear hB1;obtain⟨sp,hsp⟩:=E1 (splT f.data.toList);have HD:Hid (decA f=if 65536<f.size then(r30,5)else decS sp):=qhz (by rw[hsp];rfl);have HST:Hid (65536<f.size∨sp.2≠0∨(eR sp.1).2.2≠0):=qhz (by rw[hsp];exact hst);clear hst;obtain⟨r,hr⟩:=E1 (decA f);rw[←hr]at HD⊢;clear hr
 by_cases h0:65536<f.size
 ·have d:decide ((65536:Int)<(f.size:Int))=true:=by simp;omega
  have HR2:=qhz (show r=(r30,5)by rw[HD.out,if_pos h0]);clear HD hsp
  go_enter func9,ntmps9
  go_upto_region 1 with(fail)
  rw[←hw1,←hg];clear hw1 hg;obtain⟨c0,c1,c2,_⟩:=HI1.out.c3;obtain⟨f0,f1,f2⟩:=HI1.out.f3;have hgl:=HI1.out.lt;go_wp2;exact iL HI1.out HB1.out HW.out (by rfl) (by rfl) 0 0 ⟨#[]⟩ HR2.out
 ·have d:decide ((65536:Int)<(f.size:Int))=false:=by simp;omega
  have HD1:=qhz (show r=decS sp by rw[HD.out,if_neg h0]);have HH:=qhz (show Ic f.data.toList.length sp.1 by rw[hsp];exact yR _);have hfl:f.data.toList.length=f.size:=Array.length_toList;have HS:Hid (∀W,Calls prog 21 #[f] W (GotC W sp)):=qhz fun W=>by
   have h:=va W (F:=f.data.toList) (by omega);rw[jO,←hsp]at h;exact h
  clear HD hsp;obtain⟨L,e1⟩:=sp
  go_enter func9,ntmps9
  go_upto_region 1 with(fail)
  rw[←hw1,←hg];clear hw1 hg
  go_wp2_with fail
  refine(HS.out _).mono ?_;rintro e w2 ⟨v,rfl,hO,hB2⟩;have HI2:=qhz (HI1.out.but hB2 (by simp));have HB2:=qt HB1 hB2;obtain⟨A,c,rfl,hK⟩:=hO.open;have HK:=qhz hK;have HCP:=qhz hO.cap;clear hB2 HI1 HB1 HS hO hK;dsimp only at HH HK HST⊢
  by_cases h1:e1=0
  ·have q1:(e1 !=0)=false:=by simpa using h1
   have HD2:=qhz (show r=decR (eR L)by rw[HD1.out];unfold decS;rw[if_neg (fun k=>k h1)]);clear HD1;have HRd:Hid (∀W,But [] w2 W→Calls prog 22 #[.slice A L.length c] W (GotH W (eR L))):=qhz fun W hBW=>zo W (HK.out.but hBW) HCP.out (by have:=HH.out.2;omega) (by have:=HH.out.2;omega) (fun i k hk=>by have:=HH.out.1 k (List.mem_of_getElem? hk);omega);have hne:(eR L).2.2≠0:=by
    rcases HST.out with k|k|k
    ·exact absurd k h0
    ·exact absurd h1 k
    ·exact k
   clear HST;obtain⟨q,hq⟩:=E1 (eR L);rw[←hq]at HD2 hne HRd;clear hq HK;obtain⟨n,s,e2⟩:=q;have HDe:Hid (e2≠0→r=(r30,e2)):=qhz fun k=>by rw[HD2.out];unfold decR;rw[if_pos k]
   replace HRd:Hid (∀W,But [] w2 W→Calls prog 22 #[.slice A L.length c] W (R1z (.tuple #[.agg #[.int .i64 (n.getD 0 0),.int .i64 (n.getD 1 0),.int .i64 (n.getD 2 0),.int .i64 (n.getD 3 0),.int .i64 (n.getD 4 0),strL s.P,strL s.T,s.trans],strL s.D,e2]) W)):=HRd;clear HD2;generalize n.getD 0 0=na at*;generalize n.getD 1 0=nb at*;generalize n.getD 2 0=nd at*;generalize n.getD 3 0=nc at*;generalize n.getD 4 0=nl at*;generalize strL s.P=pal at*;generalize strL s.T=tr at*;generalize strL s.D=dat at*;generalize s.trans=has at *
   go_wp2_with fail
   refine(HRd.out _ (But.refl _ _)).mono ?_;rintro e w3 ⟨rfl,hB3⟩;have HI3:=qhz (HI2.out.but hB3 (by simp));have HB3:=qt HB2 hB3;clear hB3 HI2 HB2 HRd
   go_upto_region 7 with(fail)
   obtain⟨w4,hw4⟩:=E1 (w3.alloc (.cells #[na,nb,nd,nc,nl,pal,tr,has] 35));obtain⟨b,hb⟩:=E1 w3.heap.size;have HI4:Hid (Is w4 g 23 #[(0:Int),(0:Int),.string ⟨#[]⟩]):=qhz (by rw[hw4];exact HI3.out.alloc _);have HJ4:Hid (Is w4 b 35 #[na,nb,nd,nc,nl,pal,tr,has]):=qhz (by rw[hw4,hb];exact Is.fresh _ _ _);have HB4:Hid (But [] w w4):=qhz (by rw[hw4];exact HB3.out.alloc _);rw[←hw4,←hb];clear hw4 hb HI3 HB3;have h2:=hne;have q2:(e2 !=0)=true:=by simpa using h2
   have HR2:=qhz (HDe.out h2);obtain⟨c0,c1,c2,_⟩:=HI4.out.c3;obtain⟨f0,f1,f2⟩:=HI4.out.f3;have hgl:=HI4.out.lt;go_wp2;exact iL HI4.out HB4.out HW.out (by rfl) (by rfl) 0 0 ⟨#[]⟩ HR2.out
  ·have q1:(e1 !=0)=true:=by simpa using h1
   have HR2:=qhz (show r=(r30,e1)by rw[HD1.out];unfold decS;rw[if_pos h1]);obtain⟨c0,c1,c2,_⟩:=HI2.out.c3;obtain⟨f0,f1,f2⟩:=HI2.out.f3;have hgl:=HI2.out.lt;go_wp2;exact iL HI2.out HB2.out HW.out (by rfl) (by rfl) 0 0 ⟨#[]⟩ HR2.out
end Go.Proofs.YtbanopnofpjnbaaGreatDoor
