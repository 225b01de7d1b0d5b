/- Own texts in one: PxR, PnD. -/
import Derived.Test.YtbanopnofpjnbaaGreatDoorU23
import Derived.Test.YtbanopnofpjnbaaGreatDoorU56
import Derived.Test.YtbanopnofpjnbaaGreatDoorU60
set_option maxRecDepth 1000000
set_option linter.unusedVariables false
set_option maxHeartbeats 4000000
namespace Go.Proofs.YtbanopnofpjnbaaGreatDoor
open Go Go.RowKit Tryz
theorem wH{w0:World}(w:World){ops:Array Oper}{o:Oper}{a:Act}{K:Act→World→Prop}{Q:Exit→Act→World→Prop}{E:Prop}(hgd:o.guard=none)(sl x:Operand)
 (ho:o.op=.call {callee:=.builtin .append,args:=#[sl,x],argTypes:=#[36,36]})
 (v:Value) (L:List Nat) (hs:a.eval sl=v) (hO:OwnN w w0.heap.size v L) (hB:But [] w0 w) (y:Nat) {g:Nat}
 (hx:a.eval x=.slice g 1 1) (hI:Is w g 3 #[y]) (hbound:L.length<1000000)
 (h:∀A c w',Hid (OwnN w' w0.heap.size (.slice A (L.length+1) c) (L++[y]))→Hid (But [] w0 w')→K (a.put o.dst (.slice A (L.length+1) c)) w'):if Region.wanted o (yielded ops a.tmps)=true then Oper.wp prog o a w K Q else E:=by
 obtain⟨i0,hi0,hz0,hz1,hz2⟩:=info_parts tG;refine step_append_lies w hgd sl x 36 ho w0.heap.size 3 i0 (.int .i64 0) 1 8 underlying36 hi0 hz0 hz1 hz2 rfl (by omega) v L.length (fK L) hs hO ⟨g,0,none⟩ 1 1 [.int .i64 (y:Nat)] hx rfl (RH hI) (by simp[Value.oneCell']) (by omega) (by unfold maxLen;omega) (by omega) hB.size w.heap.size rfl ?_;intro g' cap w' hown hgrow _ _;have hO2:OwnN w' w0.heap.size (.slice g' (L.length+1) cap) (L++[y]):=by
  unfold OwnN;rw[List.length_append,fA];exact hown
 exact h (some ⟨g',0,none⟩) cap w' (qhz hO2) (qhz (hB.grown hgrow (fun k e=>.inr (hO.lt k e))))
theorem Hz{W H:Nat}(hW:1≤W)(hH:1≤H):(gn 0).filter (cj W H)=bM:=by
 have hs:cj W H ⟨0,0,1,1⟩=true:=by
  unfold cj ay;exact decide_eq_true ⟨by show 0<(W-0+1-1)/1;omega,by show 0<(H-0+1-1)/1;omega⟩
 show(bM).filter (cj W H)=bM;unfold bM;rw[List.filter_cons_of_pos hs];rfl
theorem Gt:fE [-1]=fun _=> -1:=by
 funext k
 unfold fE;rw[show k% [(-1:Int)].length=0 from Nat.mod_one k];rfl
theorem E8{pix:List UInt8}{m:Nat}(h:m<pix.length/2):(ck pix).take (m+1)=(ck pix).take m++[256*(pix.getD (2*m) 0).toNat+(pix.getD (2*m+1) 0).toNat]:=by
 have hl:=ny pix;have hm:m<(ck pix).length:=by rw[hl];exact h
 have e:=nz pix h;rw[List.getD_eq_getElem?_getD,List.getElem?_eq_getElem hm]at e;rw[List.take_add_one,List.getElem?_eq_getElem hm];exact congrArg (fun x=>(ck pix).take m++[x]) e
theorem CF{a b:Int}{pix:ByteArray}(h:aA a b pix=0):ak a b 16 6 0=0:=by
 unfold aA at h
 by_cases k:ak a b 16 6 0≠0
 ·rw[if_pos k]at h;exact absurd h k
 ·exact Classical.not_not.1 k
theorem Ly(w:World){a b:Int}{pix:ByteArray}(hp:pix.size≤140737488351232):
 Calls prog 34 #[.agg #[a,b,pix]] w (R1z (.tuple #[.string (aX a b pix).1,.int .i64 (aX a b pix).2]) w):=by
 obtain⟨b1,hb1⟩:=E1 w.heap.size;obtain⟨w1,hw1⟩:=E1 (w.alloc (.cells #[a,b,pix] 23));have hI:Is w1 b1 23 #[a,b,pix]:=by rw[hw1,hb1];exact Is.fresh _ _ _
 have hB:But [] w w1:=by rw[hw1];exact(But.refl [] w).alloc _
 have HB:=qhz hB;have HC:Hid (∀v,But [] w1 v→v.cell? ⟨b1,0,none⟩=some (.int .i64 a)∧v.cell? ⟨b1,1,none⟩=some (.int .i64 b)∧v.cell? ⟨b1,2,none⟩=some (.string pix)∧b1<v.heap.size):=qhz fun v hv=>by
  have hh:=hI.but hv (by simp);exact⟨hh.cell 0,hh.cell 1,hh.cell 2,hh.lt⟩
 obtain⟨r,hr⟩:=E1 (aA a b pix);have HCK:Hid (∀v,Calls prog 73 #[.agg #[a,b,pix]] v (R1z (.int .i64 r) v)):=qhz fun v=>by rw[hr];exact GV v hp
 clear hI hB
 by_cases h0:r=0
 ·subst h0;have h0:=CF hr.symm;obtain⟨W,H,rfl,rfl,hW1,hW2,hH1,hH2,harea,hps⟩:=vW hr.symm;obtain⟨W',H',D',C',R⟩:=dA h0;obtain rfl:W=W':=by have:=R.wa;omega
  obtain rfl:H=H':=by have:=R.hb;omega
  obtain rfl:16=D':=by have:=R.dd;omega
  obtain rfl:6=C':=by have:=R.cc;omega
  have hpl:pix.data.toList.length=8*(W*H):=by rw[Array.length_toList];exact hps
  obtain⟨TT,hTT⟩:=E1 (strL (pE W H pix.data.toList));have HR:Hid (aX W H pix=(TT,0)):=qhz (by unfold aX;rw[if_neg (fun h=>h hr.symm),hTT];rfl);have HR1:Hid ((aX W H pix).1=TT):=qhz (by rw[HR.out]);have HR2:Hid ((aX W H pix).2=0):=qhz (by rw[HR.out]);obtain⟨R1,hR1⟩:=E1 (aX W H pix);rw[←hR1]at HR1 HR2⊢;obtain⟨VW,hVW⟩:=E1 (ck pix.data.toList);have hvl:VW.length=4*(W*H):=by rw[hVW,ny,hpl];omega
  have HPK:Hid (∀(v:World) (A1 A2:Option Addr) (cV:Nat),Nums v A1 (4*(W*H)) VW→4*(W*H)≤cV→Zs v A2 1 [-1]→Calls prog 18 #[.agg #[W,H,(16:Int),(6:Int),(0:Int)],.slice A1 (4*(W*H)) cV,.slice A2 1 1] v (R1z (.string TT) v)):=qhz fun v A1 A2 cV k1 k2 k3=>by
   have h:=CO v (C:=6) (D:=16) (cK:=1) [] [] false h0 R k1 (by rw[qy]) k2 (fun q=>by rw[hVW];exact yz _ q) k3 (by decide) (by decide) (fun z hz=>by have hz:=List.mem_singleton.1 hz;omega);rw[Hz hW1 hH1,Gt,hVW]at h;rw[hTT];exact h
  obtain⟨M,hM⟩:∃M,M=4*(W*H):=⟨_,rfl⟩
  rw[←hM]at HPK hvl;have hMl:M≤16384:=by omega
  have hpM:pix.size=2*M:=by omega
  have HNX:Hid (∀m,m<M→VW.take (m+1)=VW.take m++[256*(pix.data.toList.getD (2*m) 0).toNat+(pix.data.toList.getD (2*m+1) 0).toNat]):=qhz fun m hm=>by rw[hVW];exact E8 (by rw[hpl];omega)
  have HVA:Hid (VW.take M=VW):=qhz (List.take_of_length_le (by omega));have HVT:Hid (∀m,m≤M→(VW.take m).length=m):=qhz fun m hm=>by rw[List.length_take];omega
  have HBY:Hid (∀k,k<2*M→∃x:Nat,x=(pix.data.toList.getD k 0).toNat∧x<256∧∀w,(Instr.index 9 (.string pix) (.int .i64 (k:Int))).run prog w=.ok (.int .u8 (x:Nat)) w):=qhz fun k hk=>by
   have hk2:k<pix.size:=by omega
   refine⟨_,rfl,UInt8.toNat_lt _,fun w=>?_⟩;rw[bN pix hk2];exact iw hk2 w
  have HM:=qhz hM;clear hr hR1 hTT hVW hps hpl hvl R h0 harea hM
  go_enter func34,ntmps34
  go_upto_region 1 with(fail)
  rw[←hw1,←hb1];clear hw1 hb1;obtain⟨c0,c1,c2,hgl⟩:=HC.out _ (But.refl _ _)
  go_wp2_with fail
  refine(HCK.out _).mono ?_;rintro e w2 ⟨rfl,hB2⟩;have HB12:=qhz hB2;clear hB2 c0 c1 c2 hgl;obtain⟨c0,c1,c2,hgl⟩:=HC.out _ HB12.out
  go_wp2_with fail
  go_loopw [5,6] (fun vv iv wx=>∃(m i:Nat) (A:Option Addr) (ln c:Nat),Hid (m≤M)∧iv=.int .i64 (i:Nat)∧vv=.slice A ln c∧Hid (i=2*m)∧Hid (ln=m)∧Hid (OwnN wx w1.heap.size (.slice A ln c) (VW.take m))∧Hid (But [] w1 wx)) (fun _ iv _=>2*M-(intOf iv).toNat)
  case atStart=>exact⟨0,0,none,0,0,qhz (Nat.zero_le _),rfl,rfl,qhz rfl,qhz rfl,qhz (OwnN.nil _ _),HB12⟩
  case round=>
   clear c0 c1 c2 hgl;obtain⟨m,i,A,ln,c,HMM,rfl,rfl,HII,HLN,HOW,HBx⟩:=hrel;obtain⟨c0,c1,c2,hgl⟩:=HC.out _ HBx.out;have hm:=HMM.out;have hi:=HII.out
   by_cases hml:m<M
   ·obtain⟨x,hx,hx8,kx⟩:=HBY.out i (by omega);obtain⟨i1,hi1⟩:=E1 (i+1);have ei1:(i:Int)+1=(i1:Int):=by omega
    obtain⟨y,hy,hy8,ky⟩:=HBY.out i1 (by omega);obtain⟨x2,hx2⟩:∃z,z=256*x:=⟨_,rfl⟩
    have ex2:(256:Int)*(x:Int)=(x2:Int):=by omega
    obtain⟨z,hz⟩:=E1 (x2+y);have ez:(x2:Int)+(y:Int)=(z:Int):=by omega
    have vi:=af (show i<1000000000000000 by omega);have vi1:=af (show i1<1000000000000000 by omega);have vx:=af (show x<1000000000000000 by omega);have vy:=af (show y<1000000000000000 by omega);have vx2:=af (show x2<1000000000000000 by omega);have vz:=af (show z<1000000000000000 by omega);have HN2:Hid (VW.take (m+1)=VW.take m++[z]):=qhz (by rw[HNX.out m hml,←hi,←hi1,←hx,←hy,hz,hx2]);have HL2:Hid ((VW.take m).length=m):=qhz (HVT.out m hm);have l1:decide ((i:Int)<(pix.size:Int))=true:=by simp;omega
    have l2:decide (i<pix.size)=true:=by simp;omega
    have l3:i<pix.size:=by omega
    have hml2:=hml;have HI1:Hid (i1=i+1):=qhz hi1;clear hx hy hx2 hz hi1 hi hm;rw[HLN.out]at HOW;obtain rfl:=HLN.out
    go_upto_region 8 with(fail)
    clear c0 c1 c2 hgl;refine bw (S:=fun v=>But [] w1 v) (R:=fun v v'=>But [] v v') (fun w=>But.refl [] w) (by kernel_rfl) (HBx.out.drew) ?_;refine rdk 0 (.slice A ln c) ?_;refine rdk 1 (.pointer (some ⟨b1,2,none⟩)) ?_;refine rdq 2 (.string pix) (fun w hS=>?_) ?_
    ·obtain⟨c0,c1,c2,hgl⟩:=HC.out w hS;go_simp
    refine rdk 3 (.int .i64 (i:Nat)) ?_;refine rdk 4 (.int .u8 (x:Nat)) ?_;refine rdk 5 (.int .i64 (x:Nat)) ?_;refine rdk 6 (.int .i64 (x2:Nat)) ?_;refine rdk 7 (.pointer (some ⟨b1,2,none⟩)) ?_;refine rdq 8 (.string pix) (fun w hS=>?_) ?_
    ·obtain⟨c0,c1,c2,hgl⟩:=HC.out w hS;go_simp
    refine rdk 9 (.int .i64 (i:Nat)) ?_;refine rdk 10 (.int .i64 (i1:Nat)) ?_;refine rdk 11 (.int .u8 (y:Nat)) ?_;refine rdk 12 (.int .i64 (y:Nat)) ?_;refine rdk 13 (.int .i64 (z:Nat)) ?_;refine cI (i:=14) rfl (by kernel_rfl) fun w6 hR6 hS6 K' hK=>?_;have HO6:=qhz ((HOW.out.but (((But.refl [] _).drew).trans hR6)).but ((But.refl [] _).alloc (.cells #[.int .i64 (z:Nat)] 3)));go_simp;refine hK _ _ ⟨hS6.alloc _,?_⟩;clear hK K';refine cI (i:=15) rfl (by kernel_rfl) fun w7 hR7 hS7 K' hK=>?_;refine wH (w0:=w1) w7 rfl _ _ rfl (.slice A (VW.take ln).length c) (VW.take ln) (by rw[HL2.out];rfl) (by rw[HL2.out];exact HO6.out.but hR7) hS7 z (by rfl) ((Is.fresh w6 3 #[.int .i64 (z:Nat)]).but hR7 (by simp)) (by rw[HL2.out];omega) ?_;intro A9 c9 w9 HO9 HB9;refine hK _ _ ⟨HB9.out,?_⟩;clear hK K' hR7 hS7 hR6 hS6;rw[←HN2.out,HL2.out]at HO9;rw[HL2.out];refine rdk 16 (.slice A9 (ln+1) c9) ?_;refine⟨by kernel_rfl,fun w8 hR8 hS8=>?_⟩;have HO8:=qhz (HO9.out.but hR8);have HB8:=qhz hS8;clear hR8 hS8 HO9 HB9 HO6 kx ky;go_simp;obtain⟨i2,hi2⟩:=E1 (i+2);have ei2:(i:Int)+2=(i2:Int):=by omega
    have vi2:=af (show i2<1000000000000000 by omega);have HI2:Hid (i2=2*(ln+1)):=qhz (by have:=HII.out;omega);have HI3:Hid (i<2*M∧i2=i+2):=qhz (by have:=HII.out;omega);clear hi2;go_wp2
    go_roundw
    case rel=>exact⟨ln+1,i2,A9,ln+1,c9,qhz (by omega),by go_num,rfl,HI2,qhz rfl,HO8,HB8⟩
    case measure=>have:=HI3.out;simp[intOf];omega
   ·obtain rfl:m=M:=by omega
    have l1:decide ((i:Int)<(pix.size:Int))=false:=by simp;omega
    have l2:decide (i<pix.size)=false:=by simp;omega
    have l3:¬i<pix.size:=by omega
    obtain rfl:=HLN.out;have HNN:Hid (Nums wr A ln VW∧ln≤c):=qhz (by
     have h:=HOW.out;rw[HVA.out]at h;have hl:=HVT.out ln (Nat.le_refl _);rw[HVA.out]at hl;have h1:=h.nums;rw[hl]at h1;obtain⟨A',c',e,hc⟩:=h.shape;rw[hl]at e hc;injection e with e1 e2 e3;exact⟨h1,by omega⟩)
    have HKr:=qhz (HPK.out (wr.alloc (.cells #[.int .i64 (-1)] 3)) A (some ⟨wr.heap.size,0,none⟩) c (HNN.out.1.but ((But.refl [] wr).alloc _)) HNN.out.2 (Zs.is (l:=[-1]) (Is.fresh wr 3 #[.int .i64 (-1)])));have HBr:=qhz (HBx.out.alloc (.cells #[.int .i64 (-1)] 3));clear hi hm
    go_wp2_with fail
    refine HKr.out.mono ?_;rintro e w4 ⟨rfl,hB4⟩;have HB4:=qt HBr hB4;clear hB4;go_wp2
    go_ret2
    exact⟨by rw[HR1.out,HR2.out];rfl,HB.out.trans HB4.out⟩
 ·have HR:Hid (aX a b pix=(⟨#[]⟩,r)):=qhz (by unfold aX;rw[if_pos (by rw[←hr];exact h0),hr]);have HR1:Hid ((aX a b pix).1=⟨#[]⟩):=qhz (by rw[HR.out]);have HR2:Hid ((aX a b pix).2=r):=qhz (by rw[HR.out]);obtain⟨R1,hR1⟩:=E1 (aX a b pix);rw[←hR1]at HR1 HR2⊢;have q1:(r !=0)=true:=by simpa using h0
  clear hr hR1 HR
  go_enter func34,ntmps34
  go_upto_region 1 with(fail)
  rw[←hw1,←hb1];clear hw1 hb1;obtain⟨c0,c1,c2,hgl⟩:=HC.out _ (But.refl _ _)
  go_wp2_with fail
  refine(HCK.out _).mono ?_;rintro e w2 ⟨rfl,hB2⟩;have HB12:=qhz hB2;clear hB2 c0 c1 c2 hgl;go_wp2
  go_ret2
  exact⟨by rw[HR1.out,HR2.out];rfl,HB.out.trans HB12.out⟩
theorem CQ(w:World){a b:Int}{pix:ByteArray}(hp:pix.size≤4096):
 Calls prog 14 #[.agg #[a,b,pix]] w (R1z (.tuple #[.string (encA a b pix).1,.int .i64 (encA a b pix).2]) w):=by
 obtain⟨g,hg⟩:=E1 w.heap.size;have hB1:=(But.refl [] w).alloc (.cells #[a,b,pix] 23);obtain⟨w1,hw1⟩:=E1 (w.alloc (.cells #[a,b,pix] 23));have HI1:Hid (Is w1 g 23 #[a,b,pix]):=qhz (by rw[hw1,hg];exact Is.fresh _ _ _);rw[←hw1]at hB1;have HB1:=qhz hB1;clear hB1;have hsz:=lP a b pix;have HA:Hid (encA a b pix=if(aX a b pix).2≠0 then(⟨#[]⟩,(aX a b pix).2)else(strL (gj (encK a b (aX a b pix).1)).1,(gj (encK a b (aX a b pix).1)).2)):=qhz rfl;have HR:Hid (∀W,Calls prog 34 #[.agg #[a,b,pix]] W (R1z (.tuple #[.string (aX a b pix).1,.int .i64 (aX a b pix).2]) W)):=qhz fun W=>Ly W (by omega);obtain⟨raw,hraw⟩:=E1 ((aX a b pix).1);obtain⟨er,her⟩:=E1 ((aX a b pix).2);obtain⟨res,hres⟩:=E1 (encA a b pix);rw[←hraw]at hsz;rw[←hraw,←her,←hres]at HA;rw[←hraw,←her]at HR;rw[←hres];clear hres hraw her;have hws:(dK raw.data.toList).size≤raw.size+11:=by
  have h:=nt (l:=raw.data.toList) (by rw[Array.length_toList];show raw.size≤_;omega);rw[Array.length_toList]at h;exact h
 by_cases h0:er=0
 ·have q0:(er !=0)=false:=by simpa using h0
  have HA2:Hid (res=(strL (gj (encK a b raw)).1,(gj (encK a b raw)).2)):=qhz (by rw[HA.out,if_neg (fun k=>k h0)]);have HL:Hid (∀W,Calls prog 19 #[.agg #[a,b,(16:Int),(6:Int),(0:Int)]] W (R1z (uc (layI a b 16 6 0)) W)):=qhz fun W=>LJ W a b 16 6 0;have HW:Hid (∀W,Calls prog 17 #[raw] W (R1z (.string (dK raw.data.toList)) W)):=qhz fun W=>Lw W (by omega);obtain⟨z,hz⟩:=E1 (dK raw.data.toList);obtain⟨k1,hk1⟩:=E1 (layI a b 16 6 0);have HK:Hid (encK a b raw=[k1,(bo,z.data.toList),(cf,[])]):=qhz (by rw[hz,hk1];rfl);have HJ:Hid (∀W A cap,Cks W A 3 [k1,(bo,z.data.toList),(cf,[])]→Calls prog 20 #[.slice A 3 cap] W (R1z (.tuple #[(strL (gj [k1,(bo,z.data.toList),(cf,[])]).1),.int .i64 (gj [k1,(bo,z.data.toList),(cf,[])]).2]) W)):=qhz fun W A cap hK=>LI W hK (by
   have e1:k1.2.length=13:=by rw[hk1];exact iq _ _ _ _ _
   have e2:z.data.toList.length=z.size:=Array.length_toList;rw[←hz]at hws;unfold ml;show(if aJ k1.1=true then 16+k1.2.length else 0)+((if aJ bo=true then 16+z.data.toList.length else 0)+((if aJ cf=true then 16+0 else 0)+0))≤_;rw[e1,e2,pI,pH];split<;>simp<;>omega) (by omega)
  have HCV:Hid (uc k1=.agg #[strL k1.1,strL k1.2]):=qhz rfl;obtain⟨t1,ht1⟩:=E1 (strL k1.1);obtain⟨d1,hd1⟩:=E1 (strL k1.2);have HC3:Hid (∀W:World,Cks (W.alloc (.cells #[t1,d1,.string ⟨#[73,68,65,84]⟩,z,.string ⟨#[73,69,78,68]⟩,.string ⟨#[]⟩] 42)) (some ⟨W.heap.size,0,none⟩) 3 [k1,(bo,z.data.toList),(cf,[])]):=qhz fun W=>by
   have h:=AK W k1 (bo,z.data.toList) (cf,[]);rw[←ht1,←hd1]at h;have e1:strL (bo,z.data.toList).2=z:=jO z;rw[e1]at h;exact h
  rw[←hz]at HW;rw[←hk1]at HL;rw[HCV.out,←ht1,←hd1]at HL;rw[HK.out]at HA2;obtain⟨jr,hjr⟩:=E1 (gj [k1,(bo,z.data.toList),(cf,[])]);rw[←hjr]at HA2 HJ;clear hz hk1 HK HCV ht1 hd1 HA hws hjr
  go_enter func14,ntmps14
  go_upto_region 1 with(fail)
  rw[←hw1,←hg];clear hw1 hg;obtain⟨c0,c1,c2,hgl⟩:=HI1.out.c3
  go_wp2_with fail
  refine(HR.out _).mono ?_;rintro e w2 ⟨rfl,hB2⟩;have HI2:=qhz (HI1.out.but hB2 (by simp));have HB2:=qt HB1 hB2;clear hB2 c0 c1 c2 hgl HI1 HB1;obtain⟨c0,c1,c2,hgl⟩:=HI2.out.c3
  go_wp2_with fail
  refine(HL.out _).mono ?_;rintro e w3 ⟨rfl,hB3⟩;have HB3:=qt HB2 hB3;clear hB3 c0 c1 c2 hgl HI2 HB2
  go_wp2_with fail
  refine(HW.out _).mono ?_;rintro e w4 ⟨rfl,hB4⟩;have HB4:=qt HB3 hB4;clear hB4 HB3
  go_wp2_with fail
  refine(HJ.out _ _ _ (HC3.out _)).mono ?_;rintro e w5 ⟨rfl,hB5⟩;have HB5:=qhz ((HB4.out.alloc _).trans hB5);clear hB5 HB4;go_wp2;refine bodyPost_ret (v:=.tuple #[strL jr.1,jr.2]) ?_ rfl ⟨by rw[HA2.out],HB5.out⟩;simp[results,results14,go_sem]
 ·have q0:(er !=0)=true:=by simpa using h0
  have HA2:Hid (res=(⟨#[]⟩,er)):=qhz (by rw[HA.out,if_pos h0]);clear HA hws
  go_enter func14,ntmps14
  go_upto_region 1 with(fail)
  rw[←hw1,←hg];clear hw1 hg;obtain⟨c0,c1,c2,hgl⟩:=HI1.out.c3
  go_wp2_with fail
  refine(HR.out _).mono ?_;rintro e w2 ⟨rfl,hB2⟩;have HB2:=qt HB1 hB2;clear hB2 c0 c1 c2 hgl HI1 HB1;go_wp2;refine bodyPost_ret (v:=.tuple #[.string ⟨#[]⟩,er]) ?_ rfl ⟨by rw[HA2.out],HB2.out⟩;simp[results,results14,go_sem]
end Go.Proofs.YtbanopnofpjnbaaGreatDoor
