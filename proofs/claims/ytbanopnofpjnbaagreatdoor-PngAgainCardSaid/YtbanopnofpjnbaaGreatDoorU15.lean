/- Own texts in one: PnA, PnB, PnH, PnF, PnK, PnT. -/
import Derived.Test.YtbanopnofpjnbaaGreatDoorU14
set_option maxRecDepth 1000000
set_option linter.unusedVariables false
set_option maxHeartbeats 4000000
namespace Go.Proofs.YtbanopnofpjnbaaGreatDoor
open Go Go.RowKit Tryz
abbrev R3:=Int×Int×ByteArray
def r30:R3:=(0,0,⟨#[]⟩)
def decU(n:List Int)(s:HS)(u:List UInt8×Int):R3×Int:=
 if u.2=5 then(r30,31)else if u.2≠0 then(r30,u.2) else
 aG (n.getD 0 0) (n.getD 1 0) (n.getD 2 0) (n.getD 3 0) (n.getD 4 0) (strL s.P) (strL s.T) s.trans (strL u.1)
def Se(n:List Int):Nat:=cJ (n.getD 0 0) (n.getD 1 0) (n.getD 2 0) (n.getD 3 0) (n.getD 4 0)
def decR(r:List Int×HS×Int):R3×Int:=
 if r.2.2≠0 then(r30,r.2.2)else decU r.1 r.2.1 (unzT (strL r.2.1.D) (Se r.1:Nat))
def decS(c:List Ck×Int):R3×Int:=if c.2≠0 then(r30,c.2)else decR (eR c.1)
def decA(f:ByteArray):R3×Int:=if 65536<f.size then(r30,5)else decS (splT f.data.toList)
def encK(a b:Int)(rows:ByteArray):List Ck:=[layI a b 16 6 0,(bo,(dK rows.data.toList).data.toList),(cf,[])]
def encA(a b:Int)(pix:ByteArray):ByteArray×Int:=
 if(aX a b pix).2≠0 then(⟨#[]⟩,(aX a b pix).2)else(strL (gj (encK a b (aX a b pix).1)).1,(gj (encK a b (aX a b pix).1)).2)
theorem pI:aJ bo=true:=by decide
theorem pH:aJ cf=true:=by decide
theorem FC:aJ fp=true:=by decide
theorem iq(a b d c l:Int):(layI a b d c l).2.length=13:=by
 unfold layI;rw[List.length_append,List.length_append,fg,fg];rfl
theorem LG{a b:Int}{rows:ByteArray}(h:(dK rows.data.toList).size≤2147483647):(encK a b rows).all okC=true:=by
 have e1:okC (layI a b 16 6 0)=true:=(m8 _).2 ⟨FC,by rw[iq];decide⟩;have e2:okC (bo,(dK rows.data.toList).data.toList)=true:=(m8 _).2 ⟨pI,by show(dK rows.data.toList).data.toList.length≤_;rw[Array.length_toList];exact h⟩;have e3:okC (cf,[])=true:=(m8 _).2 ⟨pH,by decide⟩;unfold encK;rw[List.all_cons,List.all_cons,List.all_cons,e1,e2,e3];rfl
theorem jD(c:Ck):(encC c).length=4+(c.1.length+(c.2.length+4)):=by
 unfold encC;rw[List.length_append,List.length_append,List.length_append,az,az]
theorem nt{l:List UInt8}(h:l.length≤65535):(dK l).size≤l.length+11:=by
 have hb:=qm h;have hx:=p9 (eD l);rw[rI l,ByteArray.size_append,ByteArray.size_append];have h2:(⟨#[120,1]⟩:ByteArray).size=2:=rfl;omega
theorem un{W H:Nat}(hW:1≤W)(hH:1≤H):(gn 0).filter (cj W H)=bM:=by
 have hs:cj W H ⟨0,0,1,1⟩=true:=by
  unfold cj ay;exact decide_eq_true ⟨by show 0<(W-0+1-1)/1;omega,by show 0<(H-0+1-1)/1;omega⟩
 show(bM).filter (cj W H)=bM;unfold bM;rw[List.filter_cons_of_pos hs];rfl
theorem kV{a b:Int}{pix:ByteArray}(h:aA a b pix=0):ak a b 16 6 0=0:=by
 unfold aA at h
 by_cases k:ak a b 16 6 0≠0
 ·rw[if_pos k]at h;exact absurd h k
 ·exact Classical.not_not.1 k
theorem Je{a b:Int}{W H:Nat}(h0:ak a b 16 6 0=0)(R:fl a b 16 6 0 W H 16 6):cJ a b 16 6 0=H*(1+8*W):=by
 have hz:=jP [] [] false h0 R;rw[un R.w1 R.h1]at hz;rw[hz];have hm:ay W 0 1=W:=by unfold ay;simp
 have hm2:ay H 0 1=H:=by unfold ay;simp
 have e:bS W H bM=mo W H ⟨0,0,1,1⟩:=by
  show mo W H ⟨0,0,1,1⟩++[]=_;rw[List.append_nil]
 rw[e,pB _ _ _ _ (by show 0<ay W 0 1;rw[hm];exact R.w1)];show ay H 0 1*(1+bA _ (ay W 0 1))=_;rw[hm,hm2];have e2:bA ⟨W,H,16,6,[],[],false⟩ W=8*W:=by
  show(16*ai 6*W+7)/8=8*W;rw[qy];omega
 rw[e2]
theorem pG{a b:Int}(h0:ak a b 16 6 0=0):∃W H:Nat,fl a b 16 6 0 W H 16 6:=by
 obtain⟨W,H,D,C,R⟩:=dA h0;have hD:D=16:=by have:=R.dd;omega
 have hC:C=6:=by have:=R.cc;omega
 subst hD hC;exact⟨W,H,R⟩
theorem sr{a b:Int}{pix:ByteArray}(h:aA a b pix=0):(aX a b pix).1.size=cJ a b 16 6 0:=by
 have h0:=kV h;obtain⟨W,H,R⟩:=pG h0;have hwa:a.toNat=W:=by rw[R.wa];rfl
 have hhb:b.toNat=H:=by rw[R.hb];rfl
 have hz:=jP [] [] false h0 R;rw[un R.w1 R.h1]at hz;unfold aX;rw[if_neg (fun k=>k h)];show(strL (pE a.toNat b.toNat pix.data.toList)).size=_;rw[ac,hwa,hhb];unfold pE;rw[iM,hz];rfl
theorem lP(a b:Int)(pix:ByteArray):(aX a b pix).1.size≤2*pix.size:=by
 by_cases h:aA a b pix=0
 ·have h0:=kV h;obtain⟨W,H,R⟩:=pG h0;rw[sr h,Je h0 R];have hp:(pix.size:Int)=8*a*b:=by
   unfold aA at h;rw[if_neg (fun k=>k h0)]at h
   by_cases k:(pix.size:Int)≠8*a*b
   ·rw[if_pos k]at h;exact absurd h (by decide)
   ·exact Classical.not_not.1 k
  have hp2:pix.size=8*W*H:=by
   rw[R.wa,R.hb]at hp
   exact_mod_cast hp
  have e:H*(8*W)=8*W*H:=Nat.mul_comm _ _;have h1:H≤W*H:=Nat.le_mul_of_pos_left H R.w1;have e2:8*W*H=8*(W*H):=Nat.mul_assoc _ _ _;rw[hp2,Nat.mul_add,Nat.mul_one,e];omega
 ·unfold aX;rw[if_pos h];exact Nat.zero_le _
theorem GZ(l:List Ck)(k:Ck):ir (l++[k])=ir l+k.2.length:=by
 unfold ir;rw[List.map_append,List.sum_append];simp
def Ic(R:Nat)(l:List Ck):Prop:=(∀k∈l,k.1.length=4)∧ir l+12*l.length≤R
theorem l9(R:Nat):Ic R []:=⟨fun k hk=>(by cases hk),Nat.zero_le _⟩
theorem yT(R:Nat):∀(f:Nat) (s:List UInt8) (out:List Ck),Ic (R-s.length) out→s.length≤R→Ic R (splK f s out).1
 |0,s,out,h,_=>⟨h.1,Nat.le_trans h.2 (Nat.sub_le _ _)⟩
 |f+1,s,out,h,hs=>by
  unfold splK
  by_cases h1:s.length=0
  ·rw[if_pos h1];exact⟨h.1,Nat.le_trans h.2 (Nat.sub_le _ _)⟩
  rw[if_neg h1]
  by_cases h2:s.length<8
  ·rw[if_pos h2];exact l9 R
  rw[if_neg h2]
  by_cases h3:2147483647<ofL (s.take 4)∨aJ ((s.drop 4).take 4)=false
  ·rw[if_pos h3];exact l9 R
  rw[if_neg h3]
  by_cases h4:s.length<12+ofL (s.take 4)
  ·rw[if_pos h4];exact l9 R
  rw[if_neg h4]
  by_cases h5:ofL ((s.drop (8+ofL (s.take 4))).take 4)≠cR ((s.drop 4).take (4+ofL (s.take 4)))
  ·rw[if_pos h5];exact l9 R
  rw[if_neg h5];obtain⟨n,hn⟩:=E1 (ofL (s.take 4));rw[←hn]at h4⊢;have hd:(s.drop (12+n)).length=s.length-(12+n):=List.length_drop;refine yT R f _ _ ⟨fun k hk=>?_,?_⟩ (by rw[hd];omega)
  ·rcases List.mem_append.1 hk with h6|h6
   ·exact h.1 k h6
   ·have e:k=((s.drop 4).take 4,(s.drop 8).take n):=by simpa using h6
    rw[e];show((s.drop 4).take 4).length=4;rw[List.length_take,List.length_drop];omega
  ·rw[GZ,List.length_append,hd];have ht:((s.drop 8).take n).length≤n:=List.length_take_le _ _;have h7:=h.2;show ir out+((s.drop 8).take n).length+12*(out.length+1)≤_;omega
theorem yR(F:List UInt8):Ic F.length (splT F).1:=by
 unfold splT
 by_cases h:F.take 8≠bH
 ·rw[if_pos h];exact l9 _
 ·rw[if_neg h];have hd:(F.drop 8).length=F.length-8:=List.length_drop;exact yT _ _ _ _ (l9 _) (by rw[hd];omega)
def Bd(w:World)(r:R3×Int)(e:Ending)(w':World):Prop:=e=.returned (.tuple #[.agg #[r.1.1,r.1.2.1,r.1.2.2],r.2])∧But [] w w'
def Ba(f:ByteArray):Prop:=65536<f.size∨(splT f.data.toList).2≠0∨(eR (splT f.data.toList).1).2.2≠0
theorem OwnCk.cap{w:World}{base:Nat}{A:Option Addr}{n c:Nat}{L:List Ck}(h:OwnCk w base (.slice A n c) L):n≤c:=by
 unfold OwnCk at h;rcases h.2 with⟨e,e2⟩|⟨g,cap,cur,e,_,_,h4,_⟩
 ·injection e with e1 e3 e4;omega
 ·injection e with e1 e3 e4;omega
theorem DH:splT (⟨#[]⟩:ByteArray).data.toList=([],20):=by decide+kernel
theorem IX:Ba ⟨#[]⟩:=.inr (.inl (by rw[DH];show(20:Int)≠0;decide))
theorem OX:decA ⟨#[]⟩=(r30,20):=by
 have h:=DH;unfold decA;rw[if_neg (by show ¬65536<0;omega),h];unfold decS;rw[if_pos (by show(20:Int)≠0;decide)]
def z8:ByteArray:=⟨#[0,0,0,0,0,0,0,0]⟩
theorem ER:aA 1 1 z8=0:=by decide+kernel
theorem DW(x:List UInt8):eR [layI 1 1 16 6 0,(bo,x)]=([],hs0,3):=by kernel_rfl
theorem Q3:(encA 1 1 z8).2=0∧12≤(encA 1 1 z8).1.size∧(encA 1 1 z8).1.size≤1000∧decA (strL ((encA 1 1 z8).1.data.toList.take ((encA 1 1 z8).1.size-12)))=(r30,3)∧Ba (strL ((encA 1 1 z8).1.data.toList.take ((encA 1 1 z8).1.size-12))):=by
 have h0:=kV ER;have hsz:=lP 1 1 z8;have hz:z8.size=8:=rfl;obtain⟨hb1,hb2,_⟩:=ze ER;obtain⟨rows,hrows⟩:=E1 ((aX 1 1 z8).1);rw[←hrows]at hsz;have hrl:rows.data.toList.length=rows.size:=Array.length_toList;have hws:=nt (l:=rows.data.toList) (by omega);obtain⟨x,hx⟩:=E1 ((dK rows.data.toList).data.toList);have hok:(encK 1 1 rows).all okC=true:=LG (by omega);have he:encA 1 1 z8=(strL (bH++encs (encK 1 1 rows)),0):=by
  unfold encA;rw[if_neg (fun k=>k hb2),←hrows];unfold gj;rw[if_pos hok]
 have hK:encK 1 1 rows=[layI 1 1 16 6 0,(bo,x),(cf,[])]:=by rw[hx];rfl
 rw[hK]at he hok;have hok2: [layI 1 1 16 6 0,(bo,x)].all okC=true:=by
  rw[List.all_cons,List.all_cons]at hok⊢;simp only[Bool.and_eq_true]at hok⊢;exact⟨hok.1,hok.2.1,rfl⟩
 have hE:bH++encs [layI 1 1 16 6 0,(bo,x),(cf,[])]=(bH++encs [layI 1 1 16 6 0,(bo,x)])++encC (cf,[]):=by
  show bH++(encC _++(encC _++(encC _++[])))=(bH++(encC _++(encC _++[])))++encC _;simp only[List.append_assoc,List.append_nil]
 have h12:(encC (cf,[])).length=12:=by rw[jD];rfl
 rw[he];have hs2:(strL (bH++encs [layI 1 1 16 6 0,(bo,x),(cf,[])])).size=(bH++encs [layI 1 1 16 6 0,(bo,x)]).length+12:=by
  rw[ac,hE,List.length_append,h12]
 have hxl:x.length≤40:=by rw[hx,Array.length_toList];show(dK rows.data.toList).size≤_;omega
 have hS:(bH++encs [layI 1 1 16 6 0,(bo,x)]).length≤200:=by
  show(bH++(encC _++(encC _++[]))).length≤_;rw[List.length_append,List.length_append,List.length_append,jD,jD,iq];show 8+(4+(4+(13+4))+(4+(4+(x.length+4))+0))≤_;omega
 refine⟨rfl,by show 12≤(strL _).size;rw[hs2];omega,by show(strL _).size≤_;rw[hs2];omega,?_⟩;show decA (strL ((strL _).data.toList.take ((strL _).size-12)))=_∧Ba (strL ((strL _).data.toList.take ((strL _).size-12)));rw[hs2,aj,hE,Nat.add_sub_cancel,List.take_left];have hsp:splT (strL (bH++encs [layI 1 1 16 6 0,(bo,x)])).data.toList=([layI 1 1 16 6 0,(bo,x)],0):=by rw[aj,uO hok2]
 refine⟨?_,.inr (.inr (by rw[hsp];show(eR [layI 1 1 16 6 0,(bo,x)]).2.2≠0;rw[DW];show(3:Int)≠0;decide))⟩;unfold decA;rw[if_neg (by rw[ac];omega),hsp];unfold decS;rw[if_neg (by show ¬(0:Int)≠0;decide)];show decR (eR [layI 1 1 16 6 0,(bo,x)])=_;rw[DW];unfold decR;rw[if_pos (by show(3:Int)≠0;decide)]
theorem AK(w:World)(x y z:Ck):Cks (w.alloc (.cells #[strL x.1,strL x.2,strL y.1,strL y.2,strL z.1,strL z.2] 42)) (some ⟨w.heap.size,0,none⟩) 3 [x,y,z]:=
 ⟨rfl,fun _=>⟨w.heap.size,0,rfl,by simp,fun i hi=>by
  have h0:i<3:=hi;have h3:i=0∨i=1∨i=2:=by omega
  rcases h3 with rfl|rfl|rfl<;>exact⟨by rw[World.cell?_alloc_mark];rfl,by rw[World.cell?_alloc_mark];rfl⟩⟩⟩
section
def EnC(G:World→Prop):Prop:=∀(v:World) (a b:Int) (pix:ByteArray),G v→pix.size≤4096→Calls prog 13 #[.agg #[a,b,pix]] v (R1z (.tuple #[.string (encA a b pix).1,.int .i64 (encA a b pix).2]) v)
def DeS(G:World→Prop):Prop:=∀(v:World) (f:ByteArray),G v→f.size≤140737488351232→Ba f→Calls prog 9 #[f] v (Bd v (decA f))
def Ie(G:World→Prop):Prop:=∀v:World,G v→Calls prog 11 #[] v (R1z (.bool true) v)
theorem Q7(s:ByteArray){j:Nat}(W:World)(hj:j≤s.size):(Instr.slice 9 (.string s) none (some (.int .i64 (j:Int))) none).run prog W=.ok (.string (strL (s.data.toList.take j))) W:=by
 have h:=PH s.data.toList (j:=j) W (by rw[Array.length_toList];exact hj);rw[jO]at h;exact h
theorem yt(w:World)(n:Nat)(hn:n≤1000000):(Instr.makeSlice 47 (.int .i64 (n:Int)) (.int .i64 (n:Int))).run prog w=.ok (.slice w.heap.size n n) (cF w n)∧(convert 47 9 (.slice w.heap.size n n)).run prog (cF w n)=.ok (.string (strL (List.replicate n 0))) (cF w n):=by
 refine⟨fT w (by omega),?_⟩;have h:=(xw w n).text n;rw[List.length_replicate]at h;exact h
attribute [local irreducible] aA aG aX encA decA
theorem Ia{G:World→Prop}(hL:Ib G)(he:EnC G)(hd:DeS G):Ie G:=by
 intro w hG;have HG:Hid (∀v,But [] w v→G v):=qhz fun v hv=>hL _ _ hG hv;obtain⟨k1,k2,k3,k4,k5⟩:=Q3;obtain⟨s,hs⟩:=E1 ((encA 1 1 z8).1);have H1:Hid (∀v,But [] w v→Calls prog 13 #[.agg #[(1:Int),(1:Int),.string ⟨#[0,0,0,0,0,0,0,0]⟩]] v (R1z (.tuple #[s,(0:Int)]) v)):=qhz fun v hv=>by
  have h:=he v 1 1 z8 (HG.out v hv) (by decide);rw[k1,←hs]at h;exact h
 rw[←hs]at k2 k3 k4 k5;clear hs k1;obtain⟨m,hm⟩:=E1 (s.size-12);have hsm:s.size=m+12:=by omega
 rw[←hm]at k4 k5;obtain⟨f,hf⟩:=E1 (strL (s.data.toList.take m));have hfs:f.size≤1000:=by rw[hf,ac];have:=List.length_take_le m s.data.toList;omega
 have H2:Hid (∀v,But [] w v→Calls prog 9 #[.string ⟨#[]⟩] v (R1z (.tuple #[.agg #[(0:Int),(0:Int),.string ⟨#[]⟩],(20:Int)]) v)):=qhz fun v hv=>by
  have h:=hd v ⟨#[]⟩ (HG.out v hv) (by decide) IX;rw[OX]at h;exact h
 have H3:Hid (∀v,But [] w v→Calls prog 9 #[f] v (R1z (.tuple #[.agg #[(0:Int),(0:Int),.string ⟨#[]⟩],(3:Int)]) v)):=qhz fun v hv=>by
  have h:=hd v f (HG.out v hv) (by omega) (by rw[hf];exact k5);rw[hf,k4,←hf]at h;exact h
 have kc:∀W,(Instr.slice 9 (.string s) none (some (.int .i64 (m:Int))) none).run prog W=.ok (.string f) W:=fun W=>by rw[hf];exact Q7 s W (by omega)
 have d1:decide ((s.size:Int)<12)=false:=by simp;omega
 have e1:(s.size:Int)-12=(m:Int):=by omega
 have e2:IntKind.i64.wrap (m:Int)=(m:Int):=IntWalk.i64_in _ (by omega);obtain⟨km,kt⟩:=yt w 8 (by decide);have hB1:=dS w 8;obtain⟨w1,hw1⟩:=E1 (cF w 8);rw[←hw1]at km kt hB1;have km:(Instr.makeSlice 47 (.int .i64 8) (.int .i64 8)).run prog w=.ok (.slice w.heap.size 8 8) w1:=km;rw[show strL (List.replicate 8 0)=⟨#[0,0,0,0,0,0,0,0]⟩from rfl]at kt;have HB1:=qhz hB1;clear hw1 hB1 k2 k3 k4 k5 hsm hm hf hfs he hd hL hG
 go_enter func11,ntmps11
 go_wp2_with fail
 refine(H1.out _ HB1.out).mono ?_;rintro e w2 ⟨rfl,hB2⟩;have HB2:=qt HB1 hB2;clear hB2 km kt
 go_wp2_with fail
 refine(H2.out _ HB2.out).mono ?_;rintro e w3 ⟨rfl,hB3⟩;have HB3:=qhz ((HB2.out.trans hB3).alloc (.cells #[(0:Int),(0:Int),.string ⟨#[]⟩] 23));clear hB3
 go_upto_region 5 with(fail)
 obtain⟨w4,hw4⟩:=E1 (w3.alloc (.cells #[(0:Int),(0:Int),.string ⟨#[]⟩] 23));rw[←hw4]at HB3⊢;clear hw4
 go_wp2_with fail
 refine(H3.out _ HB3.out).mono ?_;rintro e w5 ⟨rfl,hB5⟩;have HB5:=qhz ((HB3.out.trans hB5).alloc (.cells #[(0:Int),(0:Int),.string ⟨#[]⟩] 23));clear hB5;go_wp2;go_ret;exact⟨rfl,HB5.out⟩
end
end Go.Proofs.YtbanopnofpjnbaaGreatDoor
