/- Own texts in one: EfF, EfG, EfI, EfH, ZlF. -/
import Derived.Test.YtbanopnofpjnbaaGreatDoorU20
import Derived.Test.YtbanopnofpjnbaaGreatDoorU55
import Derived.Test.YtbanopnofpjnbaaGreatDoorU58
import Derived.Test.YtbanopnofpjnbaaGreatDoorU59
set_option maxRecDepth 1000000
set_option linter.unusedVariables false
set_option maxHeartbeats 4000000
namespace Go.Proofs.YtbanopnofpjnbaaGreatDoor
open Go Go.RowKit Tryz
section
theorem L8(W:World){n:Nat}{r1 n1 r2 n2:Nat}(h1:r1=n%256)(h2:n1=n/256)(h3:r2=255-n%256)(h4:n2=255-n/256)(hn:n≤65535):
 (convert 47 9 (.slice W.heap.size 4 4)).run prog ((W.alloc (.cells #[.int .u8 r1,.int .u8 n1,.int .u8 r2,.int .u8 n2] 5)).drew)=.ok (.string ⟨(eJ n).toArray⟩) ((W.alloc (.cells #[.int .u8 r1,.int .u8 n1,.int .u8 r2,.int .u8 n2] 5)).drew):=by
 refine Ma (L:=eJ n) (cap:=4) fun j hj=>?_;have a1:=UInt8.toNat_ofNat' (n:=n);have a2:=u8n (n/256) (by omega);have a3:=u8n (255-n%256) (by omega);have a4:=u8n (255-n/256) (by omega);show(W.alloc (.cells #[.int .u8 r1,.int .u8 n1,.int .u8 r2,.int .u8 n2] 5)).cell? ⟨W.heap.size,j,none⟩=_;rw[World.cell?_alloc_mark];rw[kh]at hj;unfold eJ
 match j,hj with
 |0,_=>show some (Value.int .u8 (r1:Int))=some (Value.int .u8 ((UInt8.ofNat n).toNat:Int));rw[a1,h1]
 |1,_=>show some (Value.int .u8 (n1:Int))=some (Value.int .u8 ((UInt8.ofNat (n/256)).toNat:Int));rw[a2,h2]
 |2,_=>show some (Value.int .u8 (r2:Int))=some (Value.int .u8 ((UInt8.ofNat (255-n%256)).toNat:Int));rw[a3,h3]
 |3,_=>show some (Value.int .u8 (n2:Int))=some (Value.int .u8 ((UInt8.ofNat (255-n/256)).toNat:Int));rw[a4,h4]
theorem IT{s:ByteArray}(h:s.size≤65535){q:Nat×Nat}(hq:q=layB (layB (0,0) 1 1) 0 2):
 (lC q.1 q.2 (⟨(eJ s.size).toArray⟩++s),iu q.2 (⟨(eJ s.size).toArray⟩++s))=dE s.data.toList:=by
 have hl:=bP s;rw[nQ (by omega)];unfold layZ;rw[hl,←hq];have e:(⟨(eJ s.size).toArray⟩:ByteArray)++s=⟨(eJ s.size++s.data.toList).toArray⟩:=by
  apply ByteArray.ext;simp
 rw[e];rfl
attribute [local irreducible] layB layY dE aI eJ
theorem WroteF.other{w w1 w2:World}{lo b:Nat}{og:Option Nat}{r:Nat×Nat}(h:WroteF w w1 lo b og r)(hB:But [] w1 w2):WroteF w w2 lo b og r:=by
 obtain⟨og',hF,hg,hB1⟩:=h;exact WroteF.step hg hB1 (hF.but hB (by simp) (by simp)) (fun g e=>.inl e) (hB.more (by simp))
theorem PM{a:Int}(h0:0≤a)(h1:a<256):IntKind.u8.wrap a=a:=by simp[IntKind.wrap_u8];omega
theorem CM(w:World){s:ByteArray}(hs:s.size≤10000):
 Calls prog 74 #[s] w (R1z (.string (aI (dE s.data.toList))) w):=by
 obtain⟨q1,hq1,hl1⟩:∃q,q=layB (0,0) 1 1∧q.2≤0+1:=⟨_,rfl,fewB (by omega) (by omega) (Nat.le_refl _)⟩
 obtain⟨q2,hq2,hl2⟩:∃q,q=layB q1 0 2∧q.2≤0+1+2:=⟨_,rfl,fewB (by omega) (by omega) hl1⟩
 have HQ1:=qhz hq1;have HQ2:=qhz hq2;clear hq1 hq2;have hW0:=WroteF.refl (QR w);have HW0:=qhz hW0;have HB0:Hid (But [] w (w.alloc (.cells #[.slice none 0 0,(0:Int)] 141))):=qhz ((But.refl [] w).alloc _);have hsa:(w.alloc (.cells #[.slice none 0 0,(0:Int)] 141)).heap.size=w.heap.size+1:=by simp
 have HSA:=qhz hsa;clear hsa hW0
 go_enter func74,ntmps74
 go_wp2
 go_loopw [0] (fun sv wr=>sv=.string s∧wr=w.alloc (.cells #[.slice none 0 0,(0:Int)] 141)) (fun _ _=>0)
 case atStart=>exact⟨rfl,rfl⟩
 case round=>
  obtain⟨rfl,rfl⟩:=hrel;have hmin:min (s.size:Int) 65535=(s.size:Nat):=by omega
  obtain⟨r1,hr1⟩:=E1 (s.size%256:Nat);obtain⟨n1,hn1⟩:=E1 (s.size/256:Nat);obtain⟨r2,hr2⟩:∃m:Nat,m=255-s.size%256:=⟨_,rfl⟩
  obtain⟨n2,hn2⟩:∃m:Nat,m=255-s.size/256:=⟨_,rfl⟩
  have b1:IntKind.u8.wrap (s.size:Int)=(r1:Int):=by simp[IntKind.wrap_u8];omega
  have b2:IntKind.i64.wrap ((s.size:Int)/256)=(n1:Int):=by rw[Be (by omega) (by omega)];omega
  have b3:IntKind.u8.wrap (n1:Int)=(n1:Int):=PM (by omega) (by omega);have b4:(s.size:Int).tmod 256=(r1:Int):=by rw[Int.tmod_eq_emod_of_nonneg (by omega)];omega
  have b5:IntKind.i64.wrap (255-(r1:Int))=(r2:Int):=by rw[Be (by omega) (by omega)];omega
  have b6:IntKind.u8.wrap (r2:Int)=(r2:Int):=PM (by omega) (by omega);have b7:IntKind.i64.wrap (255-(n1:Int))=(n2:Int):=by rw[Be (by omega) (by omega)];omega
  have b8:IntKind.u8.wrap (n2:Int)=(n2:Int):=PM (by omega) (by omega);have kc:=fun W:World=>L8 W hr1 hn1 hr2 hn2 (by omega);have hsz:((⟨(eJ s.size).toArray⟩:ByteArray)++s).size≤70368744177664:=by rw[ByteArray.size_append];show(eJ s.size).toArray.size+s.size≤_;rw[List.size_toArray,kh];omega
  have HSZ:=qhz hsz;clear hsz;have kd:(9223372036854775807<(eJ s.size).length+s.size)=False:=by rw[kh];simp;omega
  clear hr1 hn1 hr2 hn2
  go_wp2_with fail
  refine(HW0.out.bits (by rw[HSA.out];exact Nat.le_refl _) (Nat.zero_le _) 1 1).mono ?_;rintro e w1 ⟨rfl,hW1⟩;rw[←HQ1.out]at hW1;have HW1:=qhz hW1;clear hW1
  go_wp2_with fail
  refine(HW1.out.bits (by rw[HSA.out];exact Nat.le_refl _) (by omega) 0 2).mono ?_;rintro e w2 ⟨rfl,hW2⟩;rw[←HQ2.out]at hW2;have HW2:=qhz hW2;clear hW2
  go_upto_region 8 with(fail)
  go_region_with (first|(go_at_call 118;go_loud (refine(WroteF.bytes (HW2.out.other ((((But.refl [] w2).alloc (.cells #[.int .u8 r1,.int .u8 n1,.int .u8 r2,.int .u8 n2] 5))).drew)) (by rw[HSA.out];exact Nat.le_refl _) (by omega) _ HSZ.out).mono ?_;rintro e w3 ⟨rfl,hW3⟩;have HW3:=qhz hW3;clear hW3)))
  rw[IT (by omega) (by rw[←HQ1.out];exact HQ2.out)]at HW3;clear b1 b2 b3 b4 b5 b6 b7 b8 kc kd HW2 HW1;go_simp
  go_wp2_with fail
  refine HW3.out.text.mono ?_;rintro e w4 ⟨rfl,rfl⟩;go_wp2;go_ret;exact⟨rfl,HB0.out.fresh HW3.out.but (fun i hi=>by simp at hi;omega)⟩
end
section
theorem Mh(ts:List Tk)(t:Tk):cntA (ts++[t])=inc (cntA ts) (symA t):=by unfold cntA;rw[jb]
attribute [local irreducible] bC layC layB fixL fixD toks aI cntA cntB ap
end
section
theorem O5:cntA []=(List.replicate 286 (0:Int)).set 256 1:=by unfold cntA;rfl
attribute [local irreducible] bC layC layB fixL fixD toks aI cntA cntB ap dynL inc lsym dsym
attribute [local irreducible] cntR runs
theorem Kv{w:World}{k:Nat}(hk:k<19):(w.alloc (.cells ct 3)).cell? ⟨w.heap.size,k,none⟩=some (.int .i64 (ordS.getD k 0:Nat)):=by
 have h:=(Is.fresh w 3 ct).cell k;rw[h];have e:ct=(ordS.map fun k=>Value.int .i64 ((k:Nat):Int)).toArray:=rfl;have hl:k<ordS.length:=hk;rw[e,List.getElem?_toArray,List.getElem?_map,List.getD_eq_getElem?_getD,List.getElem?_eq_getElem hl];rfl
theorem AD(w:World){s:ByteArray}(hs:s.size≤10000):
 Calls prog 76 #[s] w (R1z (.string (aI (dynL s.data.toList))) w):=by
 have hal:=wE s.data.toList;have hln:=bP s;have hsh:=fP s.data.toList s.data.toList.length 0;obtain⟨P,hP⟩:=E1 (toks s.data.toList);have hTk:=sq w (s:=s) (by omega);have hsh2:∀t∈P,(t.1=0∧t.2.2≤255)∨(t.1≠0∧3≤t.1∧t.1≤258∧1≤t.2.1∧t.2.1≤512):=by rw[hP];unfold toks;exact hsh
 rw[←hP]at hal hTk;have HP:=qhz hP;have HTK:=qhz hTk;have HSH:=qhz hsh2;have hPn:P.length≤10000:=by omega
 clear hP hTk hsh hsh2 hal hln;have hmkA:∀W:World,(Instr.makeSlice 36 (.int .i64 286) (.int .i64 286)).run prog W=.ok (.slice (some ⟨W.heap.size,0,none⟩) 286 286) (W.alloc (.cells (ap 286) 3)):=fun W=>eF 286 (by omega) W;have hmkB:∀W:World,(Instr.makeSlice 36 (.int .i64 30) (.int .i64 30)).run prog W=.ok (.slice (some ⟨W.heap.size,0,none⟩) 30 30) (W.alloc (.cells (ap 30) 3)):=fun W=>eF 30 (by omega) W
 go_enter func76,ntmps76
 go_wp2_with fail
 refine HTK.out.mono ?_;rintro e w1 ⟨v,rfl,hO1,hB1⟩;obtain⟨A1,c1,rfl,hT1⟩:=hO1.open;have hr0:=(ig w1 286).alloc (.cells (ap 30) 3);have hr1:=ig (w1.alloc (.cells (ap 286) 3)) 30;have hsA:(w1.alloc (.cells (ap 286) 3)).heap.size=w1.heap.size+1:=by simp
 rw[hsA]at hr1;have hBW:=((But.refl [] w1).alloc (.cells (ap 286) 3)).alloc (.cells (ap 30) 3)
 go_upto_region 4 with(fail)
 obtain⟨w2,hw2⟩:=E1 ((w1.alloc (.cells (ap 286) 3)).alloc (.cells (ap 30) 3));rw[←hw2]at hr0 hr1 hBW⊢;clear hw2;have q0:w2.cell? ⟨w1.heap.size,256,none⟩=some (.int .i64 0):=hr0.at (i:=256) (by simp);have q1:=hr0.free 256;have hR0:=hr0.set 256 1;have hR1:=hr1.far (p:=⟨w1.heap.size,256,none⟩) (by simp) (.int .i64 1);have hBW:=hBW.setCell (p:=⟨w1.heap.size,256,none⟩) (.inr (Nat.le_refl _)) (.int .i64 1);rw[←O5]at hR0;rw[←EM]at hR1;have HR0:=qhz hR0;have HR1:=qhz hR1;have HO1:=qhz hO1;have HB1:=qhz hB1;have HBW:=qhz hBW;clear hR0 hR1 hr0 hr1 hO1 hB1 hT1 hsA hBW HTK;go_wp2;clear q0 q1
 go_loopw [6] (fun iv wr=>∃k:Nat,k≤P.length∧iv=.int .i64 k∧Hid (Row wr w1.heap.size 3 (cntA (P.take k)))∧Hid (Row wr (w1.heap.size+1) 3 (cntB (P.take k)))∧Hid (But [] w1 wr)) (fun iv _=>P.length-(intOf iv).toNat)
 case atStart=>exact⟨0,Nat.zero_le _,rfl,HR0,HR1,HBW⟩
 case round=>
  obtain⟨k,hk,rfl,HA,HB,HBW2⟩:=hrel;clear HR0 HR1 HBW
  by_cases hlt:k<P.length
  ·have hmem:=HSH.out _ (List.getElem_mem hlt);have hts:P.take (k+1)=P.take k++[P[k]]:=List.take_succ_eq_append_getElem hlt;have hTk:=(HO1.out.but HBW2.out)
   obtain⟨A2,c2,e2,hTk⟩:=hTk.open;injection e2 with e2 e3 e4;subst e2;obtain⟨g,o,bb,x1,z1,rfl,hg,c00,c01,c02,h1⟩:=hTk.at (by rw[List.length_map];exact hlt);rw[List.getElem?_map,List.getElem?_eq_getElem hlt]at h1;injection h1 with h1;unfold tkI at h1;injection h1 with h2 h3;injection h3 with h3 h4;subst h2 h3 h4;obtain⟨t,ht⟩:=E1 (P[k]);rw[←ht]at hmem hts c00 c01 c02;obtain⟨x,z,y⟩:=t;have hna:=Mh (P.take k) (x,z,y);rw[←hts]at hna;have hlk:(P.take k).length≤10000:=by rw[List.length_take];omega
   have HTS:=qhz hts;have HNA:=qhz hna;have HLA:Hid ((cntA (P.take k)).length=286):=qhz (cC _);have HLB:Hid ((cntB (P.take k)).length=30):=qhz (bW _);clear hts hna ht e3 e4 hTk;dsimp only at hmem c00 c01 c02
   by_cases hx:x=0
   ·subst hx;have hy:y≤255:=by rcases hmem with h|h<;>omega
    obtain⟨vv,hvv⟩:=E1 ((cntA (P.take k)).getD y 0);have hfew:=rE (P.take k) y;have d0:=HA.out.at (i:=y) (by rw[HLA.out];omega);have d1:=HA.out.free y;rw[←hvv]at d0 hfew;have wv:=wh (a:=vv) (by omega) (by omega);have b0:(0:Int)≤(y:Int):=by omega
    have b1:(y:Int)<286:=by omega
    have hnx:=HA.out.inc hvv;rw[show Go.Proofs.YtbanopnofpjnbaaGreatDoor.inc (cntA (P.take k)) y=cntA (P.take (k+1))by rw[HNA.out,DC rfl]]at hnx;have hnb:=HB.out.far (p:=⟨w1.heap.size,y,none⟩) (by simp) (.int .i64 (vv+1));rw[show cntB (P.take k)=cntB (P.take (k+1))by rw[HTS.out,EO _ _ rfl]]at hnb;have hbw:=HBW2.out.setCell (p:=⟨w1.heap.size,y,none⟩) (.inr (Nat.le_refl _)) (.int .i64 (vv+1));have HNX:=qhz hnx;have HNB:=qhz hnb;have HBW3:=qhz hbw;clear hvv hnx hnb hbw hmem;go_wp2
    go_roundw
    case rel=>exact⟨k+1,by omega,by go_num,HNX,HNB,HBW3⟩
    case measure=>simp[intOf];omega
   ·have hgl:g<w1.heap.size:=(HO1.out.lt g rfl).2;obtain⟨x3,x258,z1,z512⟩:3≤x∧x≤258∧1≤z∧z≤512:=by rcases hmem with h|h<;>omega
    obtain⟨a1,a2,_,_⟩:=eK x (by omega) x3;obtain⟨b1,_,_⟩:=eL z (by omega) z1;have hEL:=tN (w:=wr) x x3 x258;have hED:=fun v=>oP (w:=v) z z1 z512;rw[DB hx]at HNA;have hnb0:=EN (P.take k) (x,z,y) hx;rw[←HTS.out]at hnb0;dsimp only at HNA hnb0;obtain⟨sx,hsx⟩:=E1 (lsym x);obtain⟨dz,hdz⟩:=E1 (dsym z);rw[←hsx]at hEL HNA a1 a2;simp only[←hdz]at hED hnb0 b1;have HEL:=qhz hEL;have HED:=qhz hED;obtain⟨vv,hvv⟩:=E1 ((cntA (P.take k)).getD sx 0);have hfew:=rE (P.take k) sx;have d0:=HA.out.at (i:=sx) (by rw[HLA.out];omega);have d1:=HA.out.free sx;rw[←hvv]at d0 hfew;have wv:=wh (a:=vv) (by omega) (by omega);have hnx:=HA.out.inc hvv;rw[←HNA.out]at hnx;have hnb:=HB.out.far (p:=⟨w1.heap.size,sx,none⟩) (by simp) (.int .i64 (vv+1));have hbw:=HBW2.out.setCell (p:=⟨w1.heap.size,sx,none⟩) (.inr (Nat.le_refl _)) (.int .i64 (vv+1));have f02:=((But.refl [w1.heap.size] wr).setCell (p:=⟨w1.heap.size,sx,none⟩) (.inl (by simp)) (.int .i64 (vv+1))).cell c02 (by simp;omega);obtain⟨uu,huu⟩:=E1 ((cntB (P.take k)).getD dz 0);have hfew2:=rD (P.take k) dz;have e0:=hnb.at (i:=dz) (by rw[HLB.out];omega);have e1:=hnb.free dz;rw[←huu]at e0 hfew2;have wu:=wh (a:=uu) (by omega) (by omega);have hnb2:=hnb.inc huu;rw[←hnb0]at hnb2;have hnx2:=hnx.far (p:=⟨w1.heap.size+1,dz,none⟩) (by simp) (.int .i64 (uu+1));have hbw2:=hbw.setCell (p:=⟨w1.heap.size+1,dz,none⟩) (.inr (Nat.le_succ _)) (.int .i64 (uu+1));have HNX:=qhz hnx2;have HNB:=qhz hnb2;have HBW3:=qhz hbw2;have dx:((x:Int)==0)=false:=by simp;omega
    have r0:(0:Int)≤(sx:Int):=by omega
    have r1:(sx:Int)<286:=by omega
    have r2:(0:Int)≤(dz:Int):=by omega
    have r3:(dz:Int)<30:=by omega
    clear hvv huu hnx hnb hbw hnb2 hnx2 hbw2 hmem hEL hED hsx hdz hnb0 hTk
    go_wp2_with fail
    refine HEL.out.mono ?_;rintro e w3 ⟨rfl,rfl⟩
    go_wp2_with fail
    refine(HED.out _).mono ?_;rintro e w3 ⟨rfl,rfl⟩;go_wp2
    go_roundw
    case rel=>exact⟨k+1,by omega,by go_num,HNX,HNB,HBW3⟩
    case measure=>simp[intOf];omega
  ·obtain rfl:k=P.length:=by omega
   rw[List.take_length]at HA HB;have hIA:=HA.out.ints;rw[cC]at hIA;have hLA:Calls prog 125 #[(15:Int),.slice w1.heap.size 286 286] wr (qo wr 286 (lims 15 (cntA P))):=
    pF (M:=15) hIA (by omega) (by omega) (by omega) (okCe fun j=>by have:=rE P j;omega) (csA (cC P) (by decide))
   have HLA:=qhz hLA;clear hIA hLA HA
   go_wp2_with fail
   refine HLA.out.mono ?_;rintro e w3 ⟨gA,rfl,hOA,hB3⟩;have hIB:=(HB.out.but hB3 (by simp)).ints;rw[bW]at hIB;have hLB:Calls prog 125 #[(15:Int),.slice (some ⟨w1.heap.size+1,0,none⟩) 30 30] w3 (qo w3 30 (lims 15 (cntB P))):=
    pF (M:=15) hIB (by omega) (by omega) (by omega) (okCe fun j=>by have:=rD P j;omega) (csA (bW P) (by decide))
   have HLB:=qhz hLB;have HOA:=qhz hOA;have HB3:=qt HBW2 hB3;clear hIB hLB HB hOA hB3 HLA HBW2
   go_wp2_with fail
   refine HLB.out.mono ?_;rintro e w4 ⟨gB,rfl,hOB,hB4⟩;have hOA4:=HOA.out.but hB4 (by simp);have hUA:=wC (w:=w4) (c:=286) (least:=257) (hOA4.ints (n:=286)) (by omega) (by omega) (by omega) (by omega);have hUB:=wC (w:=w4) (c:=30) (least:=1) (hOB.ints (n:=30)) (by omega) (by omega) (by omega) (by omega);have hnA:cE (lims 15 (cntA P)) 257 286=(lenA P).length:=by unfold lenA;rw[dr,aV,cC]
   have hnB:cE (lims 15 (cntB P)) 1 30=(lenB P).length:=by unfold lenB;rw[dr,aV,bW]
   rw[hnA]at hUA;rw[hnB]at hUB;have HUA:=qhz hUA;have HUB:=qhz hUB;have HOA4:=qhz hOA4;have HOB4:=qhz hOB;have HB4:=qt HB3 hB4;clear hOA4 hOB hUA hUB hnA hnB hB4 HLB HOA HB3
   go_wp2_with fail
   refine HUA.out.mono ?_;rintro e w5 ⟨rfl,rfl⟩
   go_wp2_with fail
   refine HUB.out.mono ?_;rintro e w5 ⟨rfl,rfl⟩;clear HUA HUB;have hd:=EE s.data.toList;rw[←HP.out]at hd;have HD:=qhz hd;have ha1:=hd.a1;have hb1:=hd.b1;have ha2:=xK P;have hb2:=Cw P;have hIA:=(HOA4.out.ints (n:=286)).take (k:=(lenA P).length) ha2;have hIB:=(HOB4.out.ints (n:=30)).take (k:=(lenB P).length) hb2;rw[tu]at hIA;rw[tq]at hIB;obtain⟨XA,hXA⟩:=E1 (lenA P);obtain⟨XB,hXB⟩:=E1 (lenB P);rw[←hXA]at hIA ha1 ha2⊢;rw[←hXB]at hIB hb1 hb2⊢;have HXA:=qhz hXA;have HXB:=qhz hXB;have HIA:=qhz hIA;have HIB:=qhz hIB;have HNA:=qhz (hIA.news (by omega));obtain⟨nA,hnA⟩:=E1 XA.length;obtain⟨nB,hnB⟩:=E1 XB.length;rw[←hnA]at ha1 ha2⊢;rw[←hnB]at hb1 hb2⊢;have HLA:=qhz hnA.symm;have HLB:=qhz hnB.symm;have HNIL:Hid (w4.ownsRow w4.heap.size 3 1 (.slice none 0 0) 0 (([]:List Int).map (.int .i64))):=qhz (World.ownsRow_nil _ _ _ _);obtain⟨i0,hi0,hz0,hz1,hz2⟩:=info_parts cG;have HSZ4:w4.heap.size≤w4.heap.size:=Nat.le_refl _;clear hd hIA hIB hXA hXB hnA hnB hlt hk
   go_wp2_with (at_builtin;go_loud (refine wpList_append_own _ rfl _ _ 36 rfl w4.heap.size 3 i0 (.int .i64 0) 1 8 underlying36 hi0 hz0 hz1 hz2 rfl (by decide) _ 0 (([]:List Int).map (.int .i64)) rfl HNIL.out ⟨gA,0,none⟩ nA 286 (XA.map (.int .i64)) rfl (by simp;exact HLA.out) HNA.out ?c2 ?c3 ?c4 HSZ4 ?_))
   case c2=>intro u hu;obtain⟨x,_,rfl⟩:=List.mem_map.1 hu;rfl
   case c3=>unfold maxLen;omega
   case c4=>omega
   intro v5 w5 hown hgrow _;have hB5:But [] w4 w5:=(But.refl [] w4).grown hgrow (fun g e=>by cases e);have hO5:w5.ownsRow w4.heap.size 3 1 v5 nA (XA.map (.int .i64)):=by simpa using hown
   have HNB:=qhz ((HIB.out.but hB5 (by simp)).news (by have:=HLB.out;omega));have HO5:=qhz hO5;have HSZ5:=hB5.size;have HB5:=qhz hB5;clear hown hgrow hO5 hB5 HNIL HSZ4
   go_wp2_with (at_builtin;go_loud (refine wpList_append_own _ rfl _ _ 36 rfl w4.heap.size 3 i0 (.int .i64 0) 1 8 underlying36 hi0 hz0 hz1 hz2 rfl (by decide) _ nA (XA.map (.int .i64)) rfl HO5.out ⟨gB,0,none⟩ nB 30 (XB.map (.int .i64)) rfl (by simp;exact HLB.out) HNB.out ?c2 ?c3 ?c4 HSZ5 ?_))
   case c2=>intro u hu;obtain⟨x,_,rfl⟩:=List.mem_map.1 hu;rfl
   case c3=>unfold maxLen;omega
   case c4=>omega
   intro v6 w6 hown hgrow _;obtain⟨Y,hY⟩:=E1 (XA++XB);obtain⟨N,hN⟩:=E1 Y.length;have hNN:N=nA+nB:=by rw[hN,hY,List.length_append,HLA.out,HLB.out]
   have hO6:OwnI w6 w4.heap.size v6 Y:=by
    unfold OwnI;rw[←hN,hNN,hY,List.map_append];exact hown
   have hB6:But [] w4 w6:=HB5.out.grown hgrow (fun g e=>.inr (World.ownsRow.lt HO5.out g e).1);obtain⟨A6,c6,rfl,hI6,_⟩:=hO6.open;rw[←hN]at hI6⊢;have hQ:=Lx (w:=w6) (c:=c6) hI6 (by omega);have HQ:=qhz hQ;have HY:=qhz hY;have HNN:=qhz hN;have hN300:N≤316:=by omega
   have HB6:=qt HB4 hB6;have HOA6:=qhz (HOA4.out.but hB6 (by simp));have HOB6:=qhz (HOB4.out.but hB6 (by simp));clear hown hgrow hO6 hB6 hI6 hQ hY hN hNN HO5 HB5 HOA4 HOB4 HNA HNB HB4 HSZ5 HIA HIB
   go_wp2_with fail
   refine HQ.out.mono ?_;rintro e w7 ⟨v7,rfl,hQ7,hB7⟩;have hcd:∀c∈runs Y,0≤c.1∧c.1≤18:=by
    have h:=HD.out.ab;rw[←HXA.out,←HXB.out,←HY.out]at h;exact uT h
   have hRN:(runs Y).length≤N:=by rw[HNN.out];exact wO _
   obtain⟨R,hR⟩:=E1 (runs Y);rw[←hR]at hQ7 hcd hRN;obtain⟨A7,c7,rfl,hQs⟩:=hQ7.open;obtain⟨nR,hnR⟩:=E1 R.length;rw[←hnR]at hQs hRN⊢;have hmkS:∀W:World,(Instr.makeSlice 36 (.int .i64 19) (.int .i64 19)).run prog W=.ok (.slice (some ⟨W.heap.size,0,none⟩) 19 19) (W.alloc (.cells (ap 19) 3)):=fun W=>eF 19 (by omega) W;have hr0:=ig w7 19;rw[←EL]at hr0;have HR:=qhz hR;have HNR:=qhz hnR;have HCD:=qhz hcd;have HQS:=qhz hQs;have HROW:=qhz hr0;have HBW:=qhz ((But.refl [] w7).alloc (.cells (ap 19) 3));have HB7:=qt HB6 hB7;have HOA7:=qhz (HOA6.out.but hB7 (by simp));have HOB7:=qhz (HOB6.out.but hB7 (by simp));clear hR hnR hcd hQs hr0 hQ7 hB7 HQ HB6 HOA6 HOB6;go_wp2
   go_loopw [17] (fun iv wr=>∃k:Nat,k≤nR∧iv=.int .i64 k∧Hid (Row wr w7.heap.size 3 (cntR (R.take k)))∧Hid (But [] w7 wr)) (fun iv _=>nR-(intOf iv).toNat)
   case atStart=>exact⟨0,Nat.zero_le _,rfl,HROW,HBW⟩
   case round=>
    obtain⟨k,hk,rfl,HA,HBW2⟩:=hrel;clear HROW HBW
    by_cases hlt:k<nR
    ·have hltR:k<R.length:=by rw[←HNR.out];exact hlt
     have hmem:=HCD.out _ (List.getElem_mem hltR);have hts:R.take (k+1)=R.take k++[R[k]]:=List.take_succ_eq_append_getElem hltR;obtain⟨g,o,cc,mm,rfl,hg,c00,c01,h1⟩:=(HQS.out.but HBW2.out).at hlt;have hg7:g<w7.heap.size:=by
      obtain⟨g',o',e',hg',_⟩:=HQS.out.2 (by omega);injection e' with e';injection e' with e1 e2;omega
     rw[List.getElem?_eq_getElem hltR]at h1;injection h1 with h1;rw[h1]at hmem hts;have hna:=AJ (R.take k) (cc,mm);rw[←hts]at hna;have hlk:(R.take k).length≤316:=by rw[List.length_take];omega
     dsimp only at hmem hna;obtain⟨y,rfl⟩:∃y:Nat,cc=(y:Int):=⟨cc.toNat,by omega⟩
     rw[Int.toNat_natCast]at hna;have HNA:=qhz hna;have HLA:Hid ((cntR (R.take k)).length=19):=qhz (ka _);obtain⟨vv,hvv⟩:=E1 ((cntR (R.take k)).getD y 0);have hfew:=rC (R.take k) y;have d0:=HA.out.at (i:=y) (by rw[HLA.out];omega);have d1:=HA.out.free y;rw[←hvv]at d0 hfew;have wv:=wh (a:=vv) (by omega) (by omega);have b0:(0:Int)≤(y:Int):=by omega
     have b1:(y:Int)<19:=by omega
     have hnx:=HA.out.inc hvv;rw[←HNA.out]at hnx;have hbw:=HBW2.out.setCell (p:=⟨w7.heap.size,y,none⟩) (.inr (Nat.le_refl _)) (.int .i64 (vv+1));have HNX:=qhz hnx;have HBW3:=qhz hbw;clear hvv hnx hbw hna hts h1 c01;go_wp2
     go_roundw
     case rel=>exact⟨k+1,by omega,by go_num,HNX,HBW3⟩
     case measure=>simp[intOf];omega
    ·obtain rfl:k=nR:=by omega
     have hA:=HA.out;rw[HNR.out,List.take_length,HR.out,←Mg]at hA;have hIS:=hA.ints;rw[j8]at hIS;have hLS:Calls prog 125 #[(7:Int),.slice w7.heap.size 19 19] _ (qo _ 19 (lims 7 (cntS Y))):=
      pF (M:=7) hIS (by omega) (by omega) (by omega) (okCe fun j=>by have h:=rC R j;rw[←HNR.out,HR.out,←Mg]at h;omega) (csA (j8 Y) (by decide))
     have HLS:=qhz hLS;have HB8:=qhz (HB7.out.trans HBW2.out);have HOA8:=qhz (HOA7.out.but HBW2.out (by simp));have HOB8:=qhz (HOB7.out.but HBW2.out (by simp));have HQ8:=qhz (HQS.out.but HBW2.out);clear hA hIS hLS HA HBW2 HB7 HOA7 HOB7 HQS
     go_wp2_with fail
     refine HLS.out.mono ?_;rintro e w8 ⟨gS,rfl,hOS,hB8⟩;obtain⟨SM,hSM⟩:=E1 (lims 7 (cntS Y));rw[←hSM]at hOS;have hlS:SM.length=19:=by rw[hSM,aV,j8]
     have HSM:=qhz hSM;have HLS2:=qhz hlS;have HOS:=qhz hOS;have HB9:=qt HB8 hB8;have HOA9:=qhz (HOA8.out.but hB8 (by simp));have HOB9:=qhz (HOB8.out.but hB8 (by simp));have HQ9:=qhz (HQ8.out.but hB8);have HNIL:Hid (w8.ownsRow w8.heap.size 3 1 (.slice none 0 0) 0 (([]:List Int).map (.int .i64))):=qhz (World.ownsRow_nil _ _ _ _);have HREF:=qhz (But.refl [] w8);clear hSM hlS hOS hB8 HB8 HOA8 HOB8 HQ8 HLS hlt hk;go_wp2
     go_loopw [20,21] (fun tv iv wr=>∃j:Nat,j≤19∧iv=.int .i64 j∧Hid (wr.ownsRow w8.heap.size 3 1 tv j (((ordS.take j).map (fun i=>SM.getD i 0)).map (.int .i64)))∧Hid (But [] w8 wr)) (fun _ iv _=>19-(intOf iv).toNat)
     case atStart=>exact⟨0,by omega,rfl,HNIL,HREF⟩
     case round=>
      obtain⟨j,hj,rfl,HOT,HBT⟩:=hrel;clear HNIL HREF
      by_cases hlt:j<19
      ·obtain⟨oi,hoi⟩:=E1 (ordS.getD j 0);have hol:=Ch (i:=j) hlt;have hsn:=uJ SM hlt;rw[←hoi]at hol hsn;have HSN:=qhz hsn;have HOI:=qhz hoi;have hoc:∀v,v=wr.alloc (.cells ct 3)→v.cell? ⟨wr.heap.size,j,none⟩=some (.int .i64 (oi:Nat))∧But [] wr v:=fun v h=>by
        rw[h,HOI.out];exact⟨Kv hlt,(But.refl [] wr).alloc _⟩
       have HOC:=qhz hoc;have HDJ:(0:Int)≤(j:Int)∧(j:Int)<19:=by omega
       obtain⟨j0,j1⟩:=HDJ;clear hoi hsn hoc
       go_wp2_with fail
       refine(Kw _).mono ?_;rintro e w9 ⟨rfl,hw9⟩;obtain⟨o0,hbv⟩:=HOC.out w9 hw9;have hB9:=HBT.out.trans hbv;have hS9:=HOS.out.but hB9 (by simp);have c0:=hS9.cell (j:=oi) (by rw[HLS2.out];exact hol);obtain⟨x,hx⟩:=E1 (SM.getD oi 0);have hx2:SM[oi]'(by rw[HLS2.out];exact hol)=x:=by rw[hx,List.getD_eq_getElem?_getD,List.getElem?_eq_getElem (by rw[HLS2.out];exact hol)];rfl
       rw[hx2]at c0;have i0':(0:Int)≤(oi:Int):=by omega
       have i1':(oi:Int)<19:=by omega
       have hO9:=aU HOT.out hbv (by simp);obtain⟨TL,hTL⟩:=E1 ((ordS.take j).map (fun i=>SM.getD i 0));rw[←hTL]at hO9;have hsn2:=HSN.out;rw[←hTL,←hx]at hsn2;have HSN2:=qhz hsn2;have HO9:=qhz hO9;have HB10:=qhz hB9;have HSZ9:=hB9.size;clear hw9 hbv hB9 hS9 hx hx2 hO9 hTL hsn2 HOT HSN HOI HOC
       go_wp2_with (at_builtin;go_loud (refine wpList_append_own _ rfl _ _ 36 rfl w8.heap.size 3 i0 (.int .i64 0) 1 8 underlying36 hi0 hz0 hz1 hz2 rfl (by decide) _ j (TL.map (.int .i64)) rfl (World.ownsRow.alloc HO9.out _) ⟨w9.heap.size,0,none⟩ 1 1 [.int .i64 x] rfl rfl ?c1 ?c2 ?c3 ?c4 ?c5 ?_))
       case c1=>exact World.news_of_block (cs:=#[.int .i64 x]) (t:=3) (fr:=(0,0)) (heap_alloc_new w9 _)
       case c2=>simp[Value.oneCell']
       case c3=>unfold maxLen;omega
       case c4=>omega
       case c5=>simp;omega
       intro v' w10 hown hgrow _;have hO10:w10.ownsRow w8.heap.size 3 1 v' (j+1) (((ordS.take (j+1)).map (fun i=>SM.getD i 0)).map (.int .i64)):=by
        rw[HSN2.out,List.map_append];exact hown
       have hb10:=(HB10.out.alloc (.cells #[x] 3)).grown hgrow (fun g e=>.inr (World.ownsRow.lt HO9.out g e).1);have HO10:=qhz hO10;have HB11:=qhz hb10;clear hown hgrow hO10 hb10;go_wp2
       go_roundw
       case rel=>exact⟨j+1,by omega,by go_num,HO10,HB11⟩
       case measure=>simp[intOf];omega
      ·obtain rfl:j=19:=by omega
       have hO:=HOT.out;rcases hO.2 with⟨_,e⟩|⟨gT,cT,cur,rfl,hgT,_,hcT,_⟩
       ·omega
       have hlo:(ordS.take 19).map (fun i=>SM.getD i 0)=ordS.map (fun i=>SM.getD i 0):=rfl;rw[hlo]at hO;obtain⟨SO,hSO⟩:=E1 (ordS.map (fun i=>SM.getD i 0));have hlSO:SO.length=19:=by rw[hSO,List.length_map];rfl
       rw[←hSO]at hO;have hOT2:OwnI wr w8.heap.size (.slice gT 19 cT) SO:=by unfold OwnI;rw[hlSO];exact hO
       have hUT:=wC (w:=wr) (c:=cT) (least:=4) (hOT2.ints (n:=19)) (by omega) hcT (by omega) (by omega);have hnT:cE SO 4 19=(told SM).length:=by unfold told;rw[←hSO,dr,hlSO]
       rw[hnT]at hUT;have ht4:=HD.out.n1;have ht19:=HD.out.n2;have hse:lenS (lenA P++lenB P)=SM:=by rw[←HXA.out,←HXB.out,←HY.out,HSM.out];rfl
       rw[hse]at ht4 ht19;obtain⟨nT,hnT2⟩:=E1 ((told SM).length);rw[←hnT2]at hUT ht4 ht19;have HUT:=qhz hUT;have HNT:=qhz hnT2;have HSO:=qhz hSO;have HSE:=qhz hse;have HOT2:=qhz hOT2;have HB12:=qhz (HB9.out.trans HBT.out);have HOA12:=qhz (HOA9.out.but HBT.out (by simp));have HOB12:=qhz (HOB9.out.but HBT.out (by simp));have HOS12:=qhz (HOS.out.but HBT.out (by simp));have HQ12:=qhz (HQ9.out.but HBT.out);obtain⟨mA,hmA⟩:∃m,nA=m+257:=⟨nA-257,by omega⟩
       obtain⟨mB,hmB⟩:∃m,nB=m+1:=⟨nB-1,by omega⟩
       obtain⟨mT,hmT⟩:∃m,nT=m+4:=⟨nT-4,by omega⟩
       have wA:IntKind.i64.wrap ((nA:Int)-257)=(mA:Int):=by rw[Be (by omega) (by omega)];omega
       have wB:IntKind.i64.wrap ((nB:Int)-1)=(mB:Int):=by rw[Be (by omega) (by omega)];omega
       have wT:IntKind.i64.wrap ((nT:Int)-4)=(mT:Int):=by rw[Be (by omega) (by omega)];omega
       have HMA:=qhz hmA;have HMB:=qhz hmB;have HMT:=qhz hmT;have hW0:=WroteF.refl (QR wr);have HW0:=qhz hW0;have hsa:(wr.alloc (.cells #[.slice none 0 0,(0:Int)] 141)).heap.size=wr.heap.size+1:=by simp
       have HSA:=qhz hsa;clear hO hgT hlo hSO hlSO hOT2 hUT hnT hse hnT2 HB9 HOA9 HOB9 HOS HQ9 HBT HOT hmA hmB hmT hW0 hsa hlt hj
       go_wp2_with fail
       refine HUT.out.mono ?_;rintro e w9 ⟨rfl,rfl⟩
       go_wp2_with fail
       refine(HW0.out.bits (by rw[HSA.out];exact Nat.le_refl _) (Nat.zero_le _) 1 1).mono ?_;rintro e w9 ⟨rfl,hW1⟩;obtain⟨q1,hq1⟩:=E1 (layB (0,0) 1 1);have hf1:q1.2≤0+1:=by rw[hq1];exact fewB (by omega) (by omega) (Nat.le_refl _)
       rw[←hq1]at hW1;have HQ1:=qhz hq1;have HW1:=qhz hW1;clear hW1 hq1 HW0 HUT;have hmA2:mA<32:=by have:=HMA.out;omega
       have hmB2:mB<32:=by have:=HMB.out;omega
       have hmT2:mT<16:=by have:=HMT.out;omega
       go_wp2_with fail
       refine(HW1.out.bits (by rw[HSA.out];exact Nat.le_refl _) (by omega) 2 2).mono ?_;rintro e w9 ⟨rfl,hW2⟩;obtain⟨q2,hq2⟩:=E1 (layB q1 2 2);have hf2:q2.2≤0+1+2:=by rw[hq2];exact fewB (by omega) (by omega) hf1
       rw[←hq2]at hW2;have HQ2:=qhz hq2;have HW2:=qhz hW2;clear hW2 hq2 HW1 hf1
       go_wp2_with fail
       refine(HW2.out.bits (by rw[HSA.out];exact Nat.le_refl _) (by omega) mA 5).mono ?_;rintro e w9 ⟨rfl,hW3⟩;obtain⟨q3,hq3⟩:=E1 (layB q2 mA 5);have hf3:q3.2≤0+1+2+5:=by rw[hq3];exact fewB (by omega) (by omega) hf2
       rw[←hq3]at hW3;have HQ3:=qhz hq3;have HW3:=qhz hW3;clear hW3 hq3 HW2 hf2
       go_wp2_with fail
       refine(HW3.out.bits (by rw[HSA.out];exact Nat.le_refl _) (by omega) mB 5).mono ?_;rintro e w9 ⟨rfl,hW4⟩;obtain⟨q4,hq4⟩:=E1 (layB q3 mB 5);have hf4:q4.2≤0+1+2+5+5:=by rw[hq4];exact fewB (by omega) (by omega) hf3
       rw[←hq4]at hW4;have HQ4:=qhz hq4;have HW4:=qhz hW4;clear hW4 hq4 HW3 hf3
       go_wp2_with fail
       refine(HW4.out.bits (by rw[HSA.out];exact Nat.le_refl _) (by omega) mT 4).mono ?_;rintro e w9 ⟨rfl,hW5⟩;obtain⟨q5,hq5⟩:=E1 (layB q4 mT 4);have hf5:q5.2≤0+1+2+5+5+4:=by rw[hq5];exact fewB (by omega) (by omega) hf4
       rw[←hq5]at hW5;have HQ5:=qhz hq5;have HW5:=qhz hW5;clear hW5 hq5 HW4 hf4;go_wp2;have h7:=HD.out.s7;rw[HSE.out]at h7;have H7:=qhz h7;have hS0:=HW5.out;rw[←tB SM q5]at hS0;have HS0:=qhz hS0;have hf6:(fo SM q5 (ordS.take 0)).2≤17+3*0:=hf5;clear h7 hS0 HW5 wA wB wT hmkA hmkB hmkS;obtain⟨wv,rfl⟩:∃W,W=wr:=⟨wr,rfl⟩
       go_loopw [23] (fun iv wx=>∃j:Nat,j≤nT∧iv=.int .i64 j∧Hid (WroteF (wv.alloc (.cells #[.slice none 0 0,(0:Int)] 141)) wx (wv.heap.size+1) wv.heap.size none (fo SM q5 (ordS.take j)))∧(fo SM q5 (ordS.take j)).2≤17+3*j) (fun iv _=>nT-(intOf iv).toNat)
       case atStart=>exact⟨0,Nat.zero_le _,rfl,HS0,hf6⟩
       case round=>
        obtain⟨j,hj,rfl,HWJ,hfj⟩:=hrel;clear HS0 hf6
        by_cases hlt:j<nT
        ·have hj19:j<19:=by omega
         have hsn:=vF SM q5 hj19;have h7j:=H7.out (ordS.getD j 0);obtain⟨x,hx⟩:∃x:Nat,SM.getD (ordS.getD j 0) 0=(x:Int):=⟨(SM.getD (ordS.getD j 0) 0).toNat,by omega⟩
         rw[hx]at hsn h7j;rw[Int.toNat_natCast]at hsn;have hx7:x≤7:=by omega
         have hBw:=((But.refl [] wv).alloc (.cells #[.slice none 0 0,(0:Int)] 141)).fresh HWJ.out.but (fun i hi=>by simp at hi;omega);have hlS:SO.length=19:=by rw[HSO.out,List.length_map];rfl
         have hc:=(HOT2.out.but hBw (by simp)).cell (j:=j) (by rw[hlS];exact hj19);have he:SO[j]'(by rw[hlS];exact hj19)=(x:Int):=by
          have hl:j<ordS.length:=hj19;rw[←hx,List.getD_eq_getElem?_getD (l:=ordS),List.getElem?_eq_getElem hl];have h2:∀(l:List Int) (h:j<l.length),l=ordS.map (fun i=>SM.getD i 0)→l[j]=SM.getD (ordS[j]) 0:=fun l h e=>by subst e;rw[List.getElem_map]
          exact h2 SO _ HSO.out
         rw[he]at hc;obtain⟨qj,hqj⟩:=E1 (fo SM q5 (ordS.take j));rw[←hqj]at hsn hfj HWJ;have hf9:(layB qj x 3).2≤17+3*(j+1):=fewB (by omega) (by omega) hfj;rw[←hsn]at hf9;have HSN:=qhz hsn;have j0:(0:Int)≤(j:Int):=by omega
         have j1:(j:Int)<(nT:Int):=by omega
         clear hx he hqj hsn hlS hBw
         go_wp2_with fail
         refine(HWJ.out.bits (by rw[HSA.out];exact Nat.le_refl _) (by omega) x 3).mono ?_;rintro e w10 ⟨rfl,hW10⟩;rw[←HSN.out]at hW10;have HW10:=qhz hW10;clear hW10;go_wp2
         go_roundw
         case rel=>exact⟨j+1,by omega,by go_num,HW10,hf9⟩
         case measure=>simp[intOf];omega
        ·obtain rfl:j=nT:=by omega
         obtain⟨q6,hq6⟩:=E1 (fo SM q5 (ordS.take j));rw[←hq6]at hfj HWJ;have HQ6:=qhz hq6;obtain⟨og6,hF6,hlt6⟩:=HWJ.out.out (by rw[HSA.out];omega);have hBw:=((But.refl [] wv).alloc (.cells #[.slice none 0 0,(0:Int)] 141)).fresh HWJ.out.but (fun i hi=>by simp at hi;omega);have hcs:=HD.out.cs;rw[HSE.out]at hcs;have hmk:=kU (cap:=19) ((HOS12.out.but hBw (by simp)).ints (n:=19)) (by omega) (fun e=>by cases e) hcs;have HMK:=qhz hmk;have HF6:=qhz hF6;have HL6:=qhz hlt6;have HBV:=qhz hBw;have hvs:=hBw.size;have HOKS:=qhz (okl hcs);clear hq6 hF6 hlt6 hBw hcs hmk HWJ hlt hj
         go_wp2_with fail
         refine HMK.out.mono ?_;rintro e w10 ⟨bt,rfl,hN10,hB10⟩;have hF10:=HF6.out.but hB10 (by simp) (by simp);have hKT:=hN10.keep (S:=wv.heap.size::og6.toList) HL6.out;have hW10:=WroteF.refl hF10;have HNW:=qhz (hF10.new (Nat.le_refl _));have hs10:=hB10.size;have hlv:=HL6.out wv.heap.size (by simp);have HBX:=qt HBV hB10;have HQX:=qhz (HQ12.out.but HBX.out);have HLAY:=qhz (fun(sy:Nat) (hsy:has SM (sy:Nat)) (w2:World) (r2:Nat×Nat) (hW2:WroteF w10 w2 (wv.heap.size+1) wv.heap.size og6 r2) (h2:r2.2≤1000000000)=>x9 hKT HOKS.out hW2 (by omega) h2 hsy);have HWA:=qhz (show WroteF w10 w10 (wv.heap.size+1) wv.heap.size og6 (dU SM q6 (R.take 0))from hW10);have hfa:(dU SM q6 (R.take 0)).2≤100+40*0:=by show q6.2≤_;omega
         clear hN10 hB10 hF10 hW10 HMK HF6 HBV hKT;go_wp2;obtain⟨wm,rfl⟩:∃W,W=w10:=⟨w10,rfl⟩
         go_loopw [26] (fun iv wx=>∃j:Nat,j≤k∧iv=.int .i64 j∧Hid (WroteF wm wx (wv.heap.size+1) wv.heap.size og6 (dU SM q6 (R.take j)))∧(dU SM q6 (R.take j)).2≤100+40*j) (fun iv _=>k-(intOf iv).toNat)
         case atStart=>exact⟨0,Nat.zero_le _,rfl,HWA,hfa⟩
         case round=>
          obtain⟨n,hn,rfl,HWN,hfn⟩:=hrel;clear HWA hfa
          by_cases hlt:n<k
          ·have hltR:n<R.length:=by rw[←HNR.out];exact hlt
           have hmem:=HCD.out _ (List.getElem_mem hltR);have hhas:=HD.out.rs;rw[HSE.out,←HXA.out,←HXB.out,←HY.out,←HR.out]at hhas;have hh:=hhas _ (List.getElem_mem hltR);have hts:R.take (n+1)=R.take n++[R[n]]:=List.take_succ_eq_append_getElem hltR;have hsn:=vG SM q6 (R.take n) R[n];rw[←hts]at hsn;obtain⟨g,o,cc,mm,rfl,hg,c00,c01,h1⟩:=(HQX.out).at hlt;rw[List.getElem?_eq_getElem hltR]at h1;injection h1 with h1;rw[h1]at hmem hsn hh;dsimp only at hmem hsn hh;obtain⟨y,rfl⟩:∃y:Nat,cc=(y:Int):=⟨cc.toNat,by omega⟩
           have hg0:g<wv.heap.size:=by
            obtain⟨g',o',e',hg',_⟩:=HQ12.out.2 (by omega);injection e' with e';injection e' with e1 e2;omega
           have hgn:g∉wv.heap.size::og6.toList:=fun h=>by have:=HNW.out g h;omega
           have HGN:=qhz hgn;obtain⟨q,hq⟩:=E1 (dU SM q6 (R.take n));rw[←hq]at hsn HWN hfn;have hf1:=dg HOKS.out q y;have hcall:=HLAY.out y hh wr q HWN.out (by omega);obtain⟨qc,hqc⟩:=E1 (layC SM q y);rw[←hqc]at hcall hf1;have HQC:=qhz hqc;have HCALL:=qhz hcall;have HC0:=qhz c00;have HC1:=qhz c01;have e00:=HWN.out.but.cell c00 hgn;have i0':(0:Int)≤(n:Int):=by omega
           have i1':(n:Int)<(k:Int):=by omega
           have HN1:Hid (100+40*n+40≤100+40*(n+1)):=qhz (by omega);have hn1:n+1≤k:=by omega
           have hnk:n≤316:=by omega
           clear hhas hts hq hqc hgn h1 hg hcall c00 c01 hh hltR
           go_wp2_with fail
           refine HCALL.out.mono ?_;rintro e w11 ⟨rfl,hW11⟩;have d00:=hW11.but.cell HC0.out HGN.out;have d01:=hW11.but.cell HC1.out HGN.out;have HW11:=qhz hW11;clear hW11 e00 HCALL;have hlo11:wv.heap.size+1≤wm.heap.size:=by omega
           by_cases h16:y=16
           ·have b16:((y:Int)==16)=true:=by simp[h16];try omega
            have hb:=dh qc mm 2;have HN:=qhz (show dU SM q6 (R.take (n+1))=layB qc mm 2 by rw[hsn,Et h16,HQC.out]);clear h16 hsn
            go_wp2_with fail
            refine(HW11.out.bits hlo11 (by omega) mm 2).mono ?_;rintro e w12 ⟨rfl,hW12⟩;have HW12:=qhz hW12;clear hW12 d00 d01;go_wp2
            go_roundw
            case rel=>exact⟨n+1,hn1,by go_num,qhz (by rw[HN.out];exact HW12.out),by rw[HN.out];have:=HN1.out;omega⟩
            case measure=>simp[intOf];omega
           ·have b16:((y:Int)==16)=false:=by simp;omega
            by_cases h17:y=17
            ·have b17:((y:Int)==17)=true:=by simp[h17];try omega
             have hb:=dh qc mm 3;have HN:=qhz (show dU SM q6 (R.take (n+1))=layB qc mm 3 by rw[hsn,Es h17,HQC.out]);clear h16 h17 hsn
             go_wp2_with fail
             refine(HW11.out.bits hlo11 (by omega) mm 3).mono ?_;rintro e w12 ⟨rfl,hW12⟩;have HW12:=qhz hW12;clear hW12 d00 d01;go_wp2
             go_roundw
             case rel=>exact⟨n+1,hn1,by go_num,qhz (by rw[HN.out];exact HW12.out),by rw[HN.out];have:=HN1.out;omega⟩
             case measure=>simp[intOf];omega
            ·have b17:((y:Int)==17)=false:=by simp;omega
             by_cases h18:y=18
             ·have b18:((y:Int)==18)=true:=by simp[h18];try omega
              have hb:=dh qc mm 7;have HN:=qhz (show dU SM q6 (R.take (n+1))=layB qc mm 7 by rw[hsn,Er h18,HQC.out]);clear h16 h17 h18 hsn
              go_wp2_with fail
              refine(HW11.out.bits hlo11 (by omega) mm 7).mono ?_;rintro e w12 ⟨rfl,hW12⟩;have HW12:=qhz hW12;clear hW12 d00 d01;go_wp2
              go_roundw
              case rel=>exact⟨n+1,hn1,by go_num,qhz (by rw[HN.out];exact HW12.out),by rw[HN.out];have:=HN1.out;omega⟩
              case measure=>simp[intOf];omega
             ·have b18:((y:Int)==18)=false:=by simp;omega
              have HN:=qhz (show dU SM q6 (R.take (n+1))=qc by rw[hsn,vH (by omega),HQC.out]);clear h16 h17 h18 hsn;go_wp2
              go_roundw
              case rel=>exact⟨n+1,hn1,by go_num,qhz (by rw[HN.out];exact HW11.out),by rw[HN.out];have:=HN1.out;omega⟩
              case measure=>simp[intOf];omega
          ·obtain rfl:n=k:=by omega
           have hRR:R.take n=R:=List.take_of_length_le (by have:=HNR.out;omega);rw[hRR]at HWN hfn;obtain⟨q,hq⟩:=E1 (dU SM q6 R);rw[←hq]at HWN hfn;have hBR:But [] wv wr:=HBX.out.fresh HWN.out.but HNW.out;obtain⟨og7,hF7,hlt7⟩:=HWN.out.out (by omega);have hfin:dynL s.data.toList=layC XA (bC XA XB q P) 256:=by
            have a1:nA-257=mA:=by have:=HMA.out;omega
            have a2:nB-1=mB:=by have:=HMB.out;omega
            have a3:j-4=mT:=by have:=HMT.out;omega
            rw[LR,←HP.out,HSE.out,←HNT.out,←HXA.out,←HXB.out,HLA.out,HLB.out,a1,a2,a3,←HQ1.out,←HQ2.out,←HQ3.out,←HQ4.out,←HQ5.out,←HQ6.out,←HY.out,←HR.out,←hq]
           have hIA:=((HOA12.out.but hBR (by simp)).ints (n:=286)).take (k:=(lenA P).length) (xK P);have hIB:=((HOB12.out.but hBR (by simp)).ints (n:=30)).take (k:=(lenB P).length) (Cw P);rw[tu,←HXA.out,HLA.out]at hIA;rw[tq,←HXB.out,HLB.out]at hIB;have hca:=HD.out.ca;have hcb:=HD.out.cb;rw[←HXA.out]at hca;rw[←HXB.out]at hcb;have hmA:=kU (cap:=286) hIA (by omega) (fun e=>by cases e) hca;have HMKA:=qhz hmA;have HIB2:=qhz hIB;have HFIN:=qhz hfin;have HBR:=qhz hBR;have HF7:=qhz hF7;have HL7:=qhz hlt7;have HCA:=qhz hca;have HCB:=qhz hcb;have hvr:=HWN.out.but.size;clear hRR hq hBR hF7 hlt7 hfin hIA hIB hca hcb hmA HLAY HOA12 HOB12 HOS12 HWN
           go_wp2_with fail
           refine HMKA.out.mono ?_;rintro e w11 ⟨ba,rfl,hN11,hB11⟩;have hmB:=kU (cap:=30) (HIB2.out.but hB11 (by simp)) (by omega) (fun e=>by cases e) HCB.out;have HMKB:=qhz hmB;have HN11:=qhz hN11;have HB11:=qhz hB11;clear hmB hN11 hB11 HMKA HIB2
           go_wp2_with fail
           refine HMKB.out.mono ?_;rintro e w12 ⟨bb,rfl,hN12,hB12⟩;have hBr2:=HB11.out.trans hB12;have hF12:=HF7.out.but hBr2 (by simp) (by simp);have hW12:=WroteF.refl hF12;have hs11:=HB11.out.size;have hk1:=(HN11.out.but hB12 (by simp)).keep (S:=wv.heap.size::og7.toList) HL7.out;have hk2:=hN12.keep (S:=wv.heap.size::og7.toList) (fun k hk=>Nat.lt_of_lt_of_le (HL7.out k hk) hs11);have hNW7:=hF12.new (Nat.le_refl _);have hO12:=HO1.out.but (HB12.out.trans (HBR.out.trans hBr2));have hw1v:=HB12.out.size;have hk3:Keep (wv.heap.size::og7.toList) w12 fun w'=>Tks w' A1 P.length (P.map tkI):=fun w' hB=>by
            have h2:OwnK w' w.heap.size (.slice A1 (P.map tkI).length c1) (P.map tkI):=aU hO12 hB fun g e hg=>by have:=(HO1.out.lt g e).2;have:=hNW7 g hg;omega
            obtain⟨A2,c2,e,hT⟩:=h2.open;injection e with e1 e2 e3;subst e1;rw[List.length_map]at hT;exact hT
           have hhe:=HD.out.he;have htk:=HD.out.tk;rw[←HXA.out]at hhe htk;rw[←HXB.out]at htk;have hsz12:=hBr2.size;have hly:=ED (c:=c1) hk1 hk2 hk3 (okl HCA.out) (okl HCB.out) htk hhe (by omega) hW12 (by omega) (by omega);have HLY:=qhz hly;have HNW7:=qhz hNW7;have HBf:=qhz (HB1.out.trans (HB12.out.trans (HBR.out.trans hBr2)));have hws:=(HB1.out.trans HB12.out).size;clear hBr2 hF12 hW12 hk1 hk2 hk3 hO12 hhe htk hly hNW7 hN12 hB12 HMKB HN11 HB11
           go_wp2_with fail
           refine HLY.out.mono ?_;rintro e w13 ⟨rfl,hW13⟩;have hBe:But [] w w13:=HBf.out.fresh hW13.but (fun k hk=>by have:=HNW7.out k hk;omega);rw[←HFIN.out]at hW13;have HW13:=qhz hW13;have HBe:=qhz hBe;clear hW13 hBe
           go_wp2_with fail
           refine HW13.out.text.mono ?_;rintro e w14 ⟨rfl,rfl⟩;go_wp2;go_ret;exact⟨rfl,HBe.out⟩
end
section
attribute [local irreducible] layB dE aI cm dynL dH
theorem CS(w:World){s:ByteArray}(hs:s.size≤10000)
 (hD:∀v:World,Calls prog 76 #[s] v (R1z (.string (aI (dynL s.data.toList))) v)):
 Calls prog 35 #[s] w (R1z (.string (dH s.data.toList)) w):=by
 have hB:=MB s.data.toList;obtain⟨a,ha⟩:=E1 (aI (dE s.data.toList));obtain⟨b,hb⟩:=E1 (aI (cm s.data.toList));obtain⟨c,hc⟩:=E1 (aI (dynL s.data.toList));have hS:=CM w hs;have hF:=fun v=>GT v hs;rw[←ha]at hS hB;rw[←hb]at hB;simp only[←hb]at hF;simp only[←hc]at hD hB;have HS:=qhz hS;have HF:=qhz hF;have HD:=qhz hD;have HB:=qhz hB;clear hS hF hD hB ha hb hc
 go_enter func35,ntmps35
 go_wp2_with fail
 refine HS.out.mono ?_;rintro e w1 ⟨rfl,hB1⟩;have HB1:=qhz hB1;clear hB1
 go_wp2_with fail
 refine(HF.out w1).mono ?_;rintro e w2 ⟨rfl,hB2⟩;have HB2:=qt HB1 hB2;clear hB2
 by_cases h1:b.size<a.size
 ·have d1:((b.size:Int)<(a.size:Int))=True:=by simp;omega
  go_wp2_with fail
  refine(HD.out w2).mono ?_;rintro e w3 ⟨rfl,hB3⟩;have HB3:=qt HB2 hB3;clear hB3
  by_cases h2:c.size<b.size
  ·go_wp2;go_ret;exact⟨by rw[HB.out,if_pos h1,if_pos h2];rfl,HB3.out⟩
  ·go_wp2;go_ret;exact⟨by rw[HB.out,if_pos h1,if_neg h2];rfl,HB3.out⟩
 ·go_wp2_with fail
  refine(HD.out w2).mono ?_;rintro e w3 ⟨rfl,hB3⟩;have HB3:=qt HB2 hB3;clear hB3
  by_cases h2:c.size<a.size
  ·go_wp2;go_ret;exact⟨by rw[HB.out,if_neg h1,if_pos h2];rfl,HB3.out⟩
  ·go_wp2;go_ret;exact⟨by rw[HB.out,if_neg h1,if_neg h2];rfl,HB3.out⟩
end
section
attribute [local irreducible] dH dK unzT strL br eD aI dE cm dynL
theorem Lw(w:World){s:ByteArray}(hs:s.size≤10000):
 Calls prog 17 #[s] w (R1z (.string (dK s.data.toList)) w):=by
 have HD:=qhz (CS w (s:=s) hs (fun v=>AD v hs));have HA:=qhz (fun v=>JK s v (by unfold maxLen;omega));have hlt:=pc s.data.toList;have HF:=qhz (fun v=>tP v (n:=eD s.data.toList) (by omega));have hl:=bP s;have hb:=qm (l:=s.data.toList) (by omega);have hx:=p9 (eD s.data.toList);have hw:=rI s.data.toList;obtain⟨b,hb2⟩:=E1 (dH s.data.toList);obtain⟨n,hn⟩:=E1 (eD s.data.toList);rw[←hn]at HA HF hlt hx hw;obtain⟨x,hx2⟩:=E1 (strL (br n));rw[←hb2,←hx2]at hw;rw[←hb2]at HD hb;rw[←hx2]at HF hx;have HW:=qhz hw;have kd:(9223372036854775807<2+b.size)=False:=by simp;omega
 have ke:(9223372036854775807<2+b.size+4)=False:=by simp;omega
 clear hl hw hb2 hx2 hn
 go_enter func17,ntmps17
 go_wp2_with fail
 refine HD.out.mono ?_;rintro e w1 ⟨rfl,hB1⟩;have HB1:=qhz hB1;clear hB1
 go_wp2_with fail
 refine(HA.out w1).mono ?_;rintro e w2 ⟨rfl,rfl⟩
 go_wp2_with fail
 refine(HF.out w1).mono ?_;rintro e w2 ⟨rfl,hB2⟩;have HB2:=qt HB1 hB2;clear hB2;go_wp2;go_ret;exact⟨by rw[HW.out];rfl,HB2.out⟩
end
end Go.Proofs.YtbanopnofpjnbaaGreatDoor
