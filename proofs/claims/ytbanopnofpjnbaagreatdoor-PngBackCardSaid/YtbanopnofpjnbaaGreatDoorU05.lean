/- Own texts in one: LzM, HpA, HpD, LzA, LzC. -/
import Derived.Test.YtbanopnofpjnbaaGreatDoorU04
set_option maxRecDepth 1000000
set_option linter.unusedVariables false
set_option maxHeartbeats 4000000
namespace Go.Proofs.YtbanopnofpjnbaaGreatDoor
open Go Go.RowKit Tryz
def runG(l:List UInt8)(i d:Nat):Nat→Nat→Nat
 |0,n=>n
 |f+1,n=>if i+n<l.length∧l.getD (i+n) 0=l.getD (i+n-d) 0 then runG l i d f (n+1)else n
def dN(l:List UInt8)(i d:Nat):Nat:=runG l i d 258 0
theorem Qd(l:List UInt8)(i d:Nat):∀f n,n≤runG l i d f n
 |0,_=>Nat.le_refl _
 |f+1,n=>by
  rw[runG];split
  ·have:=Qd l i d f (n+1);omega
  ·exact Nat.le_refl _
theorem Jv(l:List UInt8)(i d:Nat):∀f n,runG l i d f n≤n+f
 |0,_=>Nat.le_refl _
 |f+1,n=>by
  rw[runG];split
  ·have:=Jv l i d f (n+1);omega
  ·omega
theorem BD(l:List UInt8)(i d:Nat):∀f n,i+n≤l.length→i+runG l i d f n≤l.length
 |0,_,h=>h
 |f+1,n,h=>by
  rw[runG];split
  ·rename_i hc;exact BD l i d f (n+1) (by omega)
  ·exact h
theorem so(l:List UInt8)(i d:Nat):∀f n k,n≤k→k<runG l i d f n→l.getD (i+k) 0=l.getD (i+k-d) 0
 |0,_,_,h1,h2=>by simp only[runG]at h2;omega
 |f+1,n,k,h1,h2=>by
  rw[runG]at h2;split at h2
  ·rename_i hc
   by_cases e:k=n
   ·subst e;exact hc.2
   ·exact so l i d f (n+1) k (by omega) h2
  ·omega
theorem zb(l:List UInt8)(i d:Nat):dN l i d≤258:=by have:=Jv l i d 258 0;unfold dN;omega
def cN(l:List UInt8)(i:Nat):Nat→Nat×Nat
 |0=>(0,0)
 |d+1=>if(cN l i d).1<dN l i (d+1)then(dN l i (d+1),d+1)else cN l i d
def be(l:List UInt8)(i:Nat):Nat×Nat:=cN l i (min 512 i)
theorem mf(l:List UInt8)(i:Nat):∀D,(cN l i D=(0,0))∨(1≤(cN l i D).2∧(cN l i D).2≤D∧(cN l i D).1=dN l i (cN l i D).2∧0<(cN l i D).1)
 |0=>.inl rfl
 |d+1=>by
  rw[cN];split
  ·rename_i h;right;exact⟨by dsimp only;omega,Nat.le_refl _,rfl,by dsimp only;omega⟩
  ·rcases mf l i d with h|h
   ·exact .inl h
   ·right;exact⟨h.1,by omega,h.2.2⟩
abbrev Tk:=Nat×Nat×Nat
def eE(l:List UInt8):Nat→Nat→List Tk
 |0,_=>[]
 |f+1,i=>if i<l.length then(if 3≤(be l i).1 then((be l i).1,(be l i).2,0)::eE l f (i+(be l i).1)else(0,0,(l.getD i 0).toNat)::eE l f (i+1))else []
def toks(l:List UInt8):List Tk:=eE l l.length 0
theorem g7{l:List UInt8}{i:Nat}(hi:i<l.length)(h:3≤(be l i).1):1≤(be l i).2∧(be l i).2≤512∧(be l i).2≤i∧(be l i).1≤258∧i+(be l i).1≤l.length∧
 ∀k,k<(be l i).1→l.getD (i+k) 0=l.getD (i+k-(be l i).2) 0:=by
 rcases mf l i (min 512 i)with h1|⟨h1,h2,h3,h4⟩
 ·have e:be l i=(0,0):=h1;rw[e]at h;simp at h
 ·refine⟨h1,by show(cN l i (min 512 i)).2≤512;omega,by show(cN l i (min 512 i)).2≤i;omega,?_,?_,?_⟩
  ·show(cN l i (min 512 i)).1≤258;rw[h3];exact zb _ _ _
  ·show i+(cN l i (min 512 i)).1≤l.length;rw[h3];exact BD l i _ 258 0 (by omega)
  ·intro k hk;show l.getD (i+k) 0=l.getD (i+k-(cN l i (min 512 i)).2) 0;exact so l i _ 258 0 k (Nat.zero_le _) (by
    have:k<(cN l i (min 512 i)).1:=hk;rw[h3]at this;exact this)
theorem lJ(l:List UInt8):∀f g i,l.length≤i+f→f≤g→eE l g i=eE l f i
 |0,0,_,_,_=>rfl
 |0,g+1,i,h,_=>by
  have e:eE l 0 i=[]:=rfl;rw[e,eE,if_neg (by omega)]
 |f+1,g+1,i,h,hg=>by
  rw[eE,eE]
  by_cases hi:i<l.length
  ·rw[if_pos hi,if_pos hi]
   by_cases hb:3≤(be l i).1
   ·rw[if_pos hb,if_pos hb,lJ l f g _ (by omega) (by omega)]
   ·rw[if_neg hb,if_neg hb,lJ l f g _ (by omega) (by omega)]
  ·rw[if_neg hi,if_neg hi]
def sG(t:Int×Int×Int):Bool:=if t.1=0 then decide (t.2.1=0∧0≤t.2.2∧t.2.2≤255)else decide (t.2.2=0∧3≤t.1∧t.1≤258∧1≤t.2.1∧t.2.1≤32768)
def qB(far:Nat):Nat→List UInt8→List UInt8
 |0,out=>out
 |n+1,out=>qB far n (out++[out.getD (out.length-far) 0])
def exG:List (Int×Int×Int)→List UInt8→Except Int (List UInt8)
 |[],out=>.ok out
 |t::ts,out=>if sG t=false then .error 1 else
  if t.1=0 then exG ts (out++[UInt8.ofNat t.2.2.toNat]) else
  if(out.length:Int)<t.2.1 then .error 15 else exG ts (qB t.2.1.toNat t.1.toNat out)
def tkI(t:Tk):Int×Int×Int:=(t.1,t.2.1,t.2.2)
theorem rY{l:List UInt8}{i:Nat}(h:i<l.length):l.take i++[l.getD i 0]=l.take (i+1):=by
 rw[List.take_succ_eq_append_getElem h,List.getD_eq_getElem?_getD,List.getElem?_eq_getElem h];rfl
theorem tX(l:List UInt8)(d:Nat)(hd:1≤d):∀n i,d≤i→i+n≤l.length→(∀k,k<n→l.getD (i+k) 0=l.getD (i+k-d) 0)→qB d n (l.take i)=l.take (i+n)
 |0,i,_,_,_=>rfl
 |n+1,i,h1,h2,h3=>by
  have hl:(l.take i).length=i:=by simp;omega
  have e:(l.take i).getD ((l.take i).length-d) 0=l.getD i 0:=by
   have h4:=h3 0 (by omega);rw[Nat.add_zero]at h4;rw[hl,h4,List.getD_eq_getElem?_getD,List.getD_eq_getElem?_getD,List.getElem?_take_of_lt (by omega)]
  rw[qB,e,rY (by omega),tX l d hd n (i+1) (by omega) (by omega) (fun k hk=>by
   have:=h3 (k+1) (by omega);rw[show i+1+k=i+(k+1)from by omega];exact this)]
  congr 1;omega
theorem JG(b:UInt8):sG (tkI (0,0,b.toNat))=true:=by
 have h:=b.toNat_lt;show(if((0:Nat):Int)=0 then decide (((0:Nat):Int)=0∧0≤((b.toNat:Nat):Int)∧((b.toNat:Nat):Int)≤255)else _)=true;rw[if_pos (by omega),decide_eq_true_eq];omega
theorem BG{n d:Nat}(h1:3≤n)(h2:n≤258)(h3:1≤d)(h4:d≤32768):sG (tkI (n,d,0))=true:=by
 show(if(n:Int)=0 then _ else decide (((0:Nat):Int)=0∧3≤(n:Int)∧(n:Int)≤258∧1≤(d:Int)∧(d:Int)≤32768))=true;rw[if_neg (by omega),decide_eq_true_eq];omega
theorem RY(b:UInt8)(ts:List (Int×Int×Int))(out:List UInt8):exG (tkI (0,0,b.toNat)::ts) out=exG ts (out++[b]):=by
 show(if sG (tkI (0,0,b.toNat))=false then _ else if(tkI (0,0,b.toNat)).1=0 then exG ts (out++[UInt8.ofNat ((b.toNat:Nat):Int).toNat])else _)=_;rw[if_neg (by rw[JG];simp),if_pos (show(tkI (0,0,b.toNat)).1=0 from rfl),Int.toNat_natCast,UInt8.ofNat_toNat]
theorem OP{n d:Nat}(h1:3≤n)(h2:n≤258)(h3:1≤d)(h4:d≤32768)(ts:List (Int×Int×Int))(out:List UInt8)(h5:d≤out.length):exG (tkI (n,d,0)::ts) out=exG ts (qB d n out):=by
 show(if sG (tkI (n,d,0))=false then _ else if(tkI (n,d,0)).1=0 then _ else if(out.length:Int)<(d:Int)then _ else exG ts (qB (d:Int).toNat (n:Int).toNat out))=_;rw[if_neg (by rw[BG h1 h2 h3 h4];simp),if_neg (show ¬(tkI (n,d,0)).1=0 by show ¬(n:Int)=0;omega),if_neg (by omega),Int.toNat_natCast,Int.toNat_natCast]
theorem Lv(l:List UInt8):∀f i,l.length≤i+f→i≤l.length→exG ((eE l f i).map tkI) (l.take i)=.ok l
 |0,i,h,hi=>by
  have:i=l.length:=by omega
  subst this;simp[eE,exG]
 |f+1,i,h,hi=>by
  rw[eE]
  by_cases hlt:i<l.length
  ·rw[if_pos hlt]
   by_cases hb:3≤(be l i).1
   ·obtain⟨b1,b2,b3,b4,b5,b6⟩:=g7 hlt hb;have hl:(l.take i).length=i:=by simp;omega
    rw[if_pos hb,List.map_cons,OP hb b4 b1 (by omega) _ _ (by omega),tX l _ b1 _ _ b3 b5 b6];exact Lv l f _ (by omega) b5
   ·rw[if_neg hb,List.map_cons,RY,rY hlt];exact Lv l f _ (by omega) (by omega)
  ·have:i=l.length:=by omega
   rw[if_neg hlt,this];simp[exG]
def kQ(t:Tk):Nat:=max t.1 1
theorem rS(l:List UInt8):∀f i,l.length≤i+f→i≤l.length→((eE l f i).map kQ).sum=l.length-i
 |0,i,h,hi=>by simp[eE];omega
 |f+1,i,h,hi=>by
  rw[eE]
  by_cases hlt:i<l.length
  ·rw[if_pos hlt]
   by_cases hb:3≤(be l i).1
   ·obtain⟨b1,b2,b3,b4,b5,b6⟩:=g7 hlt hb;rw[if_pos hb,List.map_cons,List.sum_cons,rS l f _ (by omega) b5];unfold kQ;dsimp only;omega
   ·rw[if_neg hb,List.map_cons,List.sum_cons,rS l f _ (by omega) (by omega)];unfold kQ;dsimp only;omega
  ·rw[if_neg hlt];simp;omega
theorem wE(l:List UInt8):(toks l).length≤l.length:=by
 have h:=rS l l.length 0 (by omega) (Nat.zero_le _);have:∀ts:List Tk,ts.length≤(ts.map kQ).sum:=by
  intro ts
  induction ts with
  |nil=>exact Nat.le_refl _
  |cons t ts ih=>rw[List.map_cons,List.sum_cons,List.length_cons];unfold kQ at*;omega
 have:=this (eE l l.length 0);unfold toks;omega
theorem JX(w:World)(n:Int):Calls prog 133 #[n] w fun e w'=>e=.returned (.bool (decide (1≤n∧n≤2147483647)))∧w=w':=by
 obtain⟨s,hs⟩:=E1 (decide (1≤n∧n≤2147483647));rw[←hs]
 by_cases h1:1≤n
 ·by_cases h2:n≤2147483647
  ·have HN:=qhz (show s=true by rw[hs];exact decide_eq_true ⟨h1,h2⟩);clear hs
   go_enter func133,ntmps133
   go_wp2;go_ret;exact⟨by rw[HN.out];rfl,rfl⟩
  ·have HN:=qhz (show s=false by rw[hs];exact decide_eq_false fun h=>h2 h.2);clear hs
   go_enter func133,ntmps133
   go_wp2;go_ret;exact⟨by rw[HN.out];rfl,rfl⟩
 ·have HN:=qhz (show s=false by rw[hs];exact decide_eq_false fun h=>h1 h.1);clear hs
  go_enter func133,ntmps133
  go_wp2;go_ret;exact⟨by rw[HN.out];rfl,rfl⟩
theorem PY{l:List Int}{i:Nat}{x:Int}(h:i<l.length)(h1:¬x∈l.take i)(h2:¬x=l[i]):¬x∈l.take (i+1):=by
 rw[List.take_add_one,List.getElem?_eq_getElem h];simp only[Option.toList_some,List.mem_append,List.mem_singleton];rintro(h|h)
 ·exact h1 h
 ·exact h2 h
theorem FV(w:World){g n cap:Nat}{l:List Int}{x:Int}(hn:l.length=n)(hb:n≤16)(hc:∀(j:Nat) (h:j<l.length),w.cell? ⟨g,j,none⟩=some (.int .i64 l[j])):
 Calls prog 207 #[.slice g n cap,x] w fun e w'=>∃r:Int,e=.returned (.int .i64 r)∧(0≤r↔x∈l)∧w=w':=by
 have HN:=qhz hn;have HC:=qhz hc;clear hn hc
 go_enter func207,ntmps207
 go_wp2
 go_loop [8] (fun iv=>∃i:Nat,i≤n∧iv=.int .i64 i∧Hid (¬x∈l.take i)) (fun iv=>n-(intOf iv).toNat)
 case atStart=>exact⟨0,Nat.zero_le _,rfl,qhz (by simp)⟩
 case round=>
  obtain⟨i,hi,rfl,HT⟩:=hrel
  by_cases hlt:i<n
  ·have hil:i<l.length:=by rw[HN.out];exact hlt
   have c:=HC.out i hil;have ht:=PY (x:=x) hil HT.out;have hm:l[i]∈l:=List.getElem_mem hil;obtain⟨y,hy⟩:=E1 (l[i]);rw[←hy]at c ht hm;have HM:=qhz hm;have HTT:=qhz ht;have k0:(0:Int)≤(i:Int):=by omega
   have k1:(i:Int)<(n:Int):=by omega
   clear hy hil hm ht
   by_cases he:x=y
   ·subst he;have HM:=qhz (show 0≤(i:Int)↔x∈l from⟨fun _=>HM.out,fun _=>k0⟩);go_wp2;go_ret;exact⟨(i:Int),rfl,HM.out,rfl⟩
   ·have HZ:=qhz (HTT.out he);go_wp2
    go_round
    case rel=>exact⟨i+1,by omega,by go_num,HZ⟩
    case measure=>simp[intOf];omega
  ·obtain rfl:i=n:=by omega
   have HM:=qhz (show 0≤(-1:Int)↔x∈l by
    have e:l.take i=l:=List.take_of_length_le (by rw[HN.out];exact Nat.le_refl _);have h:=HT.out;rw[e]at h;exact⟨fun h1=>absurd h1 (by decide),fun h1=>absurd h1 h⟩)
   go_wp2;go_ret;exact⟨-1,rfl,HM.out,rfl⟩
theorem jY(w:World){g n cap:Nat}{l:List Int}{x:Int}(hI:Is w g 3 (l.map (Value.int .i64)).toArray)(hn:l.length=n)(hb:n≤16):
 Calls prog 170 #[.slice g n cap,x] w fun e w'=>e=.returned (.bool (decide (x∈l)))∧w=w':=by
 have H:=qhz (FV w (cap:=cap) (x:=x) hn hb (fun j h=>by rw[hI.cell];simp[h]));obtain⟨m,hm⟩:=E1 (decide (x∈l));rw[←hm];have HM:=qhz hm;clear hI hm
 go_enter func170,ntmps170
 go_wp2_with (go_at_call 207;refine H.out.mono ?_;rintro e w1 ⟨r,rfl,hr,hw⟩;have hd:decide (0≤r)=m:=(by rw[HM.out];exact decide_eq_decide.mpr hr);clear hr;subst hw)
 go_ret;exact⟨rfl,rfl⟩
theorem F1(w:World)(c d:Int):
 Calls prog 134 #[c,d] w (R1z (.bool (bD d c)) w):=by
 have P:∀x y:Int,((x=y)=True∧(x==y)=true)∨((x=y)=False∧(x==y)=false):=fun x y=>by by_cases h:x=y<;>simp[h]
 have PP:=qhz P;have H5:Hid (∀W:World,Calls prog 170 #[.slice (some ⟨W.heap.size,0,none⟩) 5 5,d] (W.alloc (.cells #[(1:Int),(2:Int),(4:Int),(8:Int),(16:Int)] 3)) fun e w'=>e=.returned (.bool (decide (d∈[1,2,4,8,16])))∧(W.alloc (.cells #[(1:Int),(2:Int),(4:Int),(8:Int),(16:Int)] 3))=w'):=qhz fun W=>jY _ (l:=[1,2,4,8,16]) (Is.fresh _ _ _) rfl (by decide);have H4:Hid (∀W:World,Calls prog 170 #[.slice (some ⟨W.heap.size,0,none⟩) 4 4,d] (W.alloc (.cells #[(1:Int),(2:Int),(4:Int),(8:Int)] 3)) fun e w'=>e=.returned (.bool (decide (d∈[1,2,4,8])))∧(W.alloc (.cells #[(1:Int),(2:Int),(4:Int),(8:Int)] 3))=w'):=qhz fun W=>jY _ (l:=[1,2,4,8]) (Is.fresh _ _ _) rfl (by decide);have H2:Hid (∀W:World,Calls prog 170 #[.slice (some ⟨W.heap.size,0,none⟩) 2 2,d] (W.alloc (.cells #[(8:Int),(16:Int)] 3)) fun e w'=>e=.returned (.bool (decide (d∈[8,16])))∧(W.alloc (.cells #[(8:Int),(16:Int)] 3))=w'):=qhz fun W=>jY _ (l:=[8,16]) (Is.fresh _ _ _) rfl (by decide);have HB:=qhz (But.refl [] w);obtain⟨m5,hm5⟩:=E1 (decide (d∈[1,2,4,8,16]));obtain⟨m4,hm4⟩:=E1 (decide (d∈[1,2,4,8]));obtain⟨m2,hm2⟩:=E1 (decide (d∈[8,16]));rw[←hm5]at H5;rw[←hm4]at H4;rw[←hm2]at H2;have HM5:=qhz hm5;have HM4:=qhz hm4;have HM2:=qhz hm2;clear P hm5 hm4 hm2;rcases PP.out c 0 with⟨p0,r0⟩|⟨p0,r0⟩
 ·have HG:=qhz (show m5=bD d c by rw[HM5.out,of_eq_true p0];unfold bD;simp)
  go_enter func134,ntmps134
  go_wp2_with (go_at_call 170;refine(H5.out _).mono ?_;rintro e w1 ⟨rfl,hw⟩;subst hw)
  go_ret;exact⟨by rw[←HG.out];rfl,HB.out.alloc _⟩
 rcases PP.out c 2 with⟨p2,r2⟩|⟨p2,r2⟩
 ·have HG:=qhz (show m2=bD d c by rw[HM2.out,of_eq_true p2];unfold bD;simp)
  go_enter func134,ntmps134
  go_wp2_with (go_at_call 170;refine(H2.out _).mono ?_;rintro e w1 ⟨rfl,hw⟩;subst hw)
  go_ret;exact⟨by rw[←HG.out];rfl,HB.out.alloc _⟩
 rcases PP.out c 4 with⟨p4,r4⟩|⟨p4,r4⟩
 ·have HG:=qhz (show m2=bD d c by rw[HM2.out,of_eq_true p4];unfold bD;simp)
  go_enter func134,ntmps134
  go_wp2_with (go_at_call 170;refine(H2.out _).mono ?_;rintro e w1 ⟨rfl,hw⟩;subst hw)
  go_ret;exact⟨by rw[←HG.out];rfl,HB.out.alloc _⟩
 rcases PP.out c 6 with⟨p6,r6⟩|⟨p6,r6⟩
 ·have HG:=qhz (show m2=bD d c by rw[HM2.out,of_eq_true p6];unfold bD;simp)
  go_enter func134,ntmps134
  go_wp2_with (go_at_call 170;refine(H2.out _).mono ?_;rintro e w1 ⟨rfl,hw⟩;subst hw)
  go_ret;exact⟨by rw[←HG.out];rfl,HB.out.alloc _⟩
 rcases PP.out c 3 with⟨p3,r3⟩|⟨p3,r3⟩
 ·have HG:=qhz (show m4=bD d c by rw[HM4.out,of_eq_true p3];unfold bD;simp)
  go_enter func134,ntmps134
  go_wp2_with (go_at_call 170;refine(H4.out _).mono ?_;rintro e w1 ⟨rfl,hw⟩;subst hw)
  go_ret;exact⟨by rw[←HG.out];rfl,HB.out.alloc _⟩
 ·have HG:=qhz (show bD d c=false by
   have e0:=of_eq_false p0;have e2:=of_eq_false p2;have e3:=of_eq_false p3;have e4:=of_eq_false p4;have e6:=of_eq_false p6
   exact decide_eq_false (by omega))
  go_enter func134,ntmps134
  go_wp2;go_ret;exact⟨by rw[HG.out];rfl,HB.out⟩
theorem oq(w:World)(a b d c l:Int):Calls prog 86 #[.agg #[a,b,d,c,l]] w (R1z (.int .i64 (ak a b d c l)) w):=by
 obtain⟨r,hr⟩:=E1 (ak a b d c l);rw[←hr];have HR:=qhz hr;have hI:=Is.fresh w 33 #[a,b,d,c,l];have HB:=qhz ((But.refl [] w).alloc (.cells #[a,b,d,c,l] 33));obtain⟨F,hF⟩:∃F:Int→Bool,∀n,F n=decide (1≤n∧n≤2147483647):=⟨fun n=>decide (1≤n∧n≤2147483647),fun _=>rfl⟩
 have HS:Hid (∀(W:World) n,Calls prog 133 #[.int .i64 n] W fun e w'=>e=.returned (.bool (F n))∧W=w'):=qhz fun W n=>by rw[hF];exact JX W n
 have HF:=qhz hF;clear hF;have HD:=qhz fun W=>F1 W c d;obtain⟨g,hg⟩:=E1 (bD d c);rw[←hg]at HD;have HG:=qhz hg;have HI:=qhz hI;clear hr hI hg;have hbad:a<1∨2147483647<a∨b<1∨2147483647<b∨g=false∨(l≠0∧l≠1)→r=24:=fun h=>by
  rw[HR.out];unfold ak;rw[if_pos (by rw[←HG.out];exact h)]
 have HBAD:=qhz hbad;clear hbad
 by_cases h1:1≤a∧a≤2147483647
 rotate_left
 ·have HE:=qhz (HBAD.out (by omega));have fa:F a=false:=by rw[HF.out];exact decide_eq_false h1
  clear h1;have c0:=HI.out.cell 0
  go_enter func86,ntmps86
  go_wp2_with (go_at_call 133;refine(HS.out _ _).mono ?_;rintro e w1 ⟨rfl,hw⟩;subst hw)
  go_ret;exact⟨by rw[HE.out];rfl,HB.out⟩
 have fa:F a=true:=by rw[HF.out];exact decide_eq_true h1
 by_cases h2:1≤b∧b≤2147483647
 rotate_left
 ·have HE:=qhz (HBAD.out (by omega));have fb:F b=false:=by rw[HF.out];exact decide_eq_false h2
  clear h1 h2;obtain⟨c0,c1,_⟩:=HI.out.c2
  go_enter func86,ntmps86
  go_wp2_with (go_at_call 133;refine(HS.out _ _).mono ?_;rintro e w1 ⟨rfl,hw⟩;subst hw)
  go_ret;exact⟨by rw[HE.out];rfl,HB.out⟩
 have fb:F b=true:=by rw[HF.out];exact decide_eq_true h2
 have H12:=qhz (And.intro h1 h2);clear h1 h2;cases g
 ·have HE:=qhz (HBAD.out (by simp));obtain⟨c0,c1,c2,c3,_⟩:=HI.out.c4
  go_enter func86,ntmps86
  go_wp2_with (first|(go_at_call 133;refine(HS.out _ _).mono ?_;rintro e w1 ⟨rfl,hw⟩;subst hw)|(go_at_call 134;refine(HD.out _).mono ?_;rintro e w2 ⟨rfl,hB⟩;have HB2:=qhz hB;clear hB))
  go_ret;exact⟨by rw[HE.out];rfl,HB.out.trans HB2.out⟩
 obtain⟨c0,c1,c2,c3,_⟩:=HI.out.c4
 go_enter func86,ntmps86
 go_upto_region 4 with(first|(go_at_call 133;refine(HS.out _ _).mono ?_;rintro e w1 ⟨rfl,hw⟩;subst hw)|(go_at_call 134;refine(HD.out _).mono ?_;rintro e w2 ⟨rfl,hB⟩;have HB2:=qhz hB;clear hB))
 have HI2:=qhz (HI.out.but HB2.out (by simp));have HB3:=qhz (HB.out.trans HB2.out);obtain⟨w3,hw3⟩:=E1 w2;rw[←hw3]at HI2 HB3;rw[←hw3];clear HB2 hw3 HI HB c0 c1 c2 c3;obtain⟨q0,q1,_⟩:=HI2.out.c2;have q4:=HI2.out.cell 4;have p0:((l=0)=True∧(l !=0)=false)∨((l=0)=False∧(l !=0)=true):=by by_cases h:l=0<;>simp[h]
 have p1:((l=1)=True∧(l !=1)=false)∨((l=1)=False∧(l !=1)=true):=by by_cases h:l=1<;>simp[h]
 by_cases hl:l≠0∧l≠1
 ·have HE:=qhz (HBAD.out (by omega));rcases p0 with⟨p0,r0⟩|⟨p0,r0⟩
  ·exact absurd (of_eq_true p0) hl.1
  rcases p1 with⟨p1,r1⟩|⟨p1,r1⟩
  ·exact absurd (of_eq_true p1) hl.2
  clear hl;go_wp2;go_ret;exact⟨by rw[HE.out];rfl,HB3.out⟩
 have HRE:Hid (r=if 1024<a∨1024<b∨4096<a*b then 5 else 0):=qhz (by
  rw[HR.out];unfold ak;have:=H12.out;rw[←HG.out,if_neg (by rintro(h|h|h|h|h|h)<;>first|omega|cases h|exact hl h)])
 have e0:((l=0)=True∧(l !=0)=false)∨((l=1)=True∧(l !=1)=false)∧(l=0)=False∧(l !=0)=true:=by
  rcases p0 with p0|p0
  ·exact .inl p0
  rcases p1 with p1|p1
  ·exact .inr ⟨p1,p0⟩
  ·exact absurd ⟨of_eq_false p0.1,of_eq_false p1.1⟩ hl
 clear p0 p1 hl HR;have hab:=H12.out;obtain⟨⟨a1,a2⟩,b1,b2⟩:=hab
 by_cases h1:1024<a
 ·have HE:=qhz (show r=5 by rw[HRE.out,if_pos (Or.inl h1)]);rcases e0 with⟨p0,r0⟩|⟨⟨p1,r1⟩,p0,r0⟩
  all_goals
   go_wp2;go_ret;exact⟨by rw[HE.out];rfl,HB3.out⟩
 by_cases h2:1024<b
 ·have HE:=qhz (show r=5 by rw[HRE.out,if_pos (Or.inr (Or.inl h2))]);rcases e0 with⟨p0,r0⟩|⟨⟨p1,r1⟩,p0,r0⟩
  all_goals
   go_wp2;go_ret;exact⟨by rw[HE.out];rfl,HB3.out⟩
 obtain⟨m,hm⟩:=E1 (a*b);have m1:0≤m:=by rw[hm];exact Int.mul_nonneg (by omega) (by omega)
 have m2:m≤1048576:=by rw[hm];exact Int.le_trans (Int.mul_le_mul (by omega:a≤1024) (by omega:b≤1024) (by omega) (by omega)) (by omega)
 have hm':=hm.symm;have HM:=qhz hm;clear hm
 by_cases h3:4096<m
 ·have HE:=qhz (show r=5 by rw[HRE.out,if_pos (Or.inr (Or.inr (by rw[←HM.out];exact h3)))]);rcases e0 with⟨p0,r0⟩|⟨⟨p1,r1⟩,p0,r0⟩
  all_goals
   go_wp2;go_ret;exact⟨by rw[HE.out];rfl,HB3.out⟩
 ·have HE:=qhz (show r=0 by rw[HRE.out,if_neg (by rw[←HM.out];omega)]);rcases e0 with⟨p0,r0⟩|⟨⟨p1,r1⟩,p0,r0⟩
  all_goals
   go_wp2;go_ret;exact⟨by rw[HE.out];rfl,HB3.out⟩
section
open Go.ChangeShapes Go.WideShapes
theorem But.freshZ{w w1 w2:World}{S:List Nat}(h:But [] w w1)(k:But S w1 w2)(hS:∀i∈S,w.heap.size≤i):But [] w w2:=
 ⟨k.os.trans h.os,k.tape.trans h.tape,k.output.trans h.output,Nat.le_trans h.size k.size,fun i hi _=>
  (k.block i (Nat.lt_of_lt_of_le hi h.size) (fun e=>by have:=hS i e;omega)).trans (h.block i hi (by simp))⟩
abbrev T3:=Int×Int×Int
def qQ(t:T3):Value:=.agg #[t.2.2,t.1,t.2.1]
theorem PW(w:World)(a b c d e f:Int):(binOp .eql 149 (.agg #[a,b,c]) (.agg #[d,e,f])).run prog w=.ok (.bool (decide (a=d∧b=e∧c=f))) w:=by
 rw[run_eql_struct,show(10000:Nat)=9998+1+1 from rfl,run_equalIn_agg w _ _ _ _ (by kernel_rfl) (by kernel_rfl)];have hf:(prog.fieldsOf 149).toList=[⟨ "Byte",3,0,false, "", "",0⟩,⟨ "Len",3,1,false, "", "",8⟩,⟨ "Dist",3,2,false, "", "",16⟩]:=by kernel_rfl
 rw[hf]
 by_cases h1:a=d<;>by_cases h2:b=e<;>by_cases h3:c=f<;>simp[go_sem,Op.eqFields,h1,h2,h3]
def dC(L:List T3):List Value:=L.flatMap fun t=>[.int .i64 t.2.2,.int .i64 t.1,.int .i64 t.2.1]
theorem ur(L M:List T3):dC (L++M)=dC L++dC M:=by simp[dC]
theorem uI:∀(L:List T3) (i:Nat) (h:i<L.length),(dC L)[i*3]? =some (.int .i64 L[i].2.2)∧(dC L)[i*3+1]? =some (.int .i64 L[i].1)∧(dC L)[i*3+2]? =some (.int .i64 L[i].2.1)
 |x::L,0,_=>by simp[dC]
 |x::L,i+1,h=>by
  have:=uI L i (by simpa using h);have e:dC (x::L)=.int .i64 x.2.2:: .int .i64 x.1:: .int .i64 x.2.1::dC L:=by simp[dC]
  rw[e,show(i+1)*3=i*3+1+1+1 from by omega,show i*3+1+1+1+1=i*3+1+1+1+1 from rfl];simpa using this
def Tks(w:World)(A:Option Addr)(n:Nat)(L:List T3):Prop:=
 L.length=n∧(0<n→∃g o,A=some ⟨g,o,none⟩∧g<w.heap.size∧∀(i:Nat) (h:i<L.length),w.cell? ⟨g,o+i*3,none⟩=some (.int .i64 L[i].2.2)∧w.cell? ⟨g,o+i*3+1,none⟩=some (.int .i64 L[i].1)∧w.cell? ⟨g,o+i*3+2,none⟩=some (.int .i64 L[i].2.1))
theorem Tks.but{w w':World}{A:Option Addr}{n:Nat}{L:List T3}(h:Tks w A n L)(hw:But [] w w'):Tks w' A n L:=
 ⟨h.1,fun hn=>by
  obtain⟨g,o,e,hg,hc⟩:=h.2 hn;exact⟨g,o,e,Nat.lt_of_lt_of_le hg hw.size,fun i hi=>⟨hw.cell (hc i hi).1 (by simp),hw.cell (hc i hi).2.1 (by simp),hw.cell (hc i hi).2.2 (by simp)⟩⟩⟩
theorem Tks.at{w:World}{A:Option Addr}{n:Nat}{L:List T3}(h:Tks w A n L){i:Nat}(hi:i<n):
 ∃g o b x d,A=some ⟨g,o,none⟩∧g<w.heap.size∧w.cell? ⟨g,o+i*3,none⟩=some (.int .i64 b)∧w.cell? ⟨g,o+i*3+1,none⟩=some (.int .i64 x)∧w.cell? ⟨g,o+i*3+2,none⟩=some (.int .i64 d)∧L[i]? =some (x,d,b):=by
 obtain⟨g,o,e,hg,hc⟩:=h.2 (by omega);have hl:i<L.length:=by have:=h.1;omega
 exact⟨g,o,_,_,_,e,hg,(hc i hl).1,(hc i hl).2.1,(hc i hl).2.2,List.getElem?_eq_getElem hl⟩
theorem Tks.nil(w:World)(A:Option Addr):Tks w A 0 []:=⟨rfl,fun h=>absurd h (by omega)⟩
def OwnK(w:World)(base:Nat)(v:Value)(L:List T3):Prop:=w.ownsRow base 149 3 v L.length (dC L)
theorem Ey:(prog.info? 149).map (fun i=>(i.zero,i.size,i.bytes))=some (some (.agg #[(0:Int),(0:Int),(0:Int)]),3,24):=by kernel_rfl
theorem OwnK.nil(w:World)(base:Nat):OwnK w base (.slice none 0 0) []:=World.ownsRow_nil _ _ _ _
theorem OwnK.but{w w':World}{base:Nat}{v:Value}{L:List T3}(h:OwnK w base v L)(hw:But [] w w'):OwnK w' base v L:=by
 unfold OwnK at h⊢;refine⟨h.1,?_⟩;rcases h.2 with h2|⟨g,cap,cur,hv,hg,hh,r⟩
 ·exact .inl h2
 ·refine .inr ⟨g,cap,cur,hv,hg,?_,r⟩;have hlt:g<w.heap.size:=(h.lt g (by rw[hv];rfl)).2;rw[hw.block g hlt (by simp)];exact hh
theorem OwnK.open{w:World}{base:Nat}{v:Value}{L:List T3}(h:OwnK w base v L):∃A c,v=.slice A L.length c∧Tks w A L.length L:=by
 unfold OwnK at h;rcases h.2 with⟨rfl,e⟩|⟨g,cap,cur,rfl,hg,hh,r⟩
 ·have:L=[]:=List.eq_nil_of_length_eq_zero e;subst this;exact⟨none,0,rfl,Tks.nil _ _⟩
 ·refine⟨some ⟨g,0,none⟩,cap,rfl,rfl,fun hn=>⟨g,0,rfl,(h.lt g rfl).2,fun i hi=>?_⟩⟩;obtain⟨h0,h1,h2⟩:=uI L i hi;have c0:=h.cells (g:=g) rfl (i*3) _ h0;have c1:=h.cells (g:=g) rfl (i*3+1) _ h1;have c2:=h.cells (g:=g) rfl (i*3+2) _ h2;rw[Go.WideShapes.add_plain]at c0 c1 c2;exact⟨c0,c1,c2⟩
end
section
theorem gw(s:ByteArray){i:Nat}(h:i<s.size):s.data.toList.getD i 0=s[i]:=by
 rw[List.getD_eq_getElem?_getD,Array.getElem?_toList,Array.getElem?_eq_getElem (by simpa using h)];rfl
theorem bP(s:ByteArray):s.data.toList.length=s.size:=by simp
theorem Nu(l:List UInt8)(i d f n:Nat)(h:l.length≤i+n):runG l i d f n=n:=by
 cases f with
 |zero=>rfl
 |succ f=>rw[runG,if_neg (by omega)]
theorem PU{x y:UInt8}(h:¬x=y):¬(x.toNat:Int)=(y.toNat:Int):=fun e=>h (UInt8.toNat_inj.1 (by omega))
structure Cuts(s a b:ByteArray)(at' d m:Nat):Prop where
 la:a.size=s.size-(at'-d)
 lb:b.size=m
 ga:∀i (h:i<a.size),s.data.toList.getD (at'+i-d) 0=a[i]
 gb:∀i (h:i<b.size),s.data.toList.getD (at'+i) 0=b[i]
theorem Hh(w:World){s a b:ByteArray}{at' d m:Nat}(hc:Cuts s a b at' d m)(hd:1≤d)(hda:d≤at')(hat:at'<s.size)(hm:m=min 258 (s.size-at'))(hs:s.size≤1000000):
 Calls prog 191 #[a,b] w fun e w'=>e=.returned (.int .i64 (dN s.data.toList at' d))∧∃n,w'=w.drewN n:=by
 obtain⟨la,lb,ga,gb⟩:=hc;have GA:=qhz ga;have GB:=qhz gb;have HM:=qhz hm;have hl:=bP s;have HL:=qhz hl;clear ga gb hl;have hml:m≤258:=by omega
 have hma:m≤a.size:=by omega
 have hmm:m≤s.size-at':=by omega
 have LA:=qhz la;have LB:=qhz lb;clear hm la
 go_enter func191,ntmps191
 go_wp2
 go_loopw [5,8] (fun _ iv wr=>∃(i:Nat) (n:Nat),i≤m∧iv=.int .i64 i∧runG s.data.toList at' d (258-i) i=dN s.data.toList at' d∧wr=w.drewN n) (fun _ iv _=>m-(intOf iv).toNat)
 case atStart=>exact⟨0,0,Nat.zero_le _,rfl,rfl,rfl⟩
 case round=>
  obtain⟨i,n,hi,rfl,hr,rfl⟩:=hrel;have HR:=qhz hr;clear hr
  by_cases hlt:i<m
  ·have h1:i<a.size:=by omega
   have h2:i<b.size:=by omega
   have HX:=qhz (GA.out i h1);have HY:=qhz (GB.out i h2)
   by_cases he:a[i]=b[i]
   ·have HN:=qhz (show runG s.data.toList at' d (258-(i+1)) (i+1)=dN s.data.toList at' d by
     rw[←HR.out,show 258-i=258-(i+1)+1 from by omega,runG,if_pos ⟨by rw[HL.out];omega,by rw[HX.out,HY.out];exact he.symm⟩])
    have hn2:((a[i].toNat:Int) !=(b[i].toNat:Int))=false:=by rw[he];simp
    clear he;go_wp2
    go_quiet (fail)
    go_wp2
    go_roundw
    case rel=>exact⟨i+1,n+nq,by omega,by go_num,HN.out,rfl⟩
    case measure=>simp[intOf];omega
   ·have HN:=qhz (show dN s.data.toList at' d=i by
     rw[←HR.out,show 258-i=258-(i+1)+1 from by omega,runG,if_neg (by rw[HX.out,HY.out];intro h;exact he h.2.symm)])
    have hne:=PU he;have hn2:((a[i].toNat:Int) !=(b[i].toNat:Int))=true:=by simpa using hne
    clear he hne;go_wp2
    go_quiet (fail)
    go_wp2;go_ret;exact⟨by rw[HN.out];rfl,(by first|exact⟨n+nq,(w.drewN_drewN n nq)⟩|exact⟨n,rfl⟩)⟩
  ·obtain rfl:i=m:=by omega
   have HN:=qhz (show dN s.data.toList at' d=i by
    rw[←HR.out]
    by_cases h:i=258
    ·subst h;rfl
    ·exact Nu _ _ _ _ _ (by rw[HL.out];have:=HM.out;omega))
   go_wp2;go_ret;exact⟨by rw[HN.out];rfl,_,rfl⟩
def bst(l:List UInt8)(i D:Nat):Nat×Nat:=if 3≤(cN l i D).1 then cN l i D else(2,0)
section
variable {l:List UInt8} {i D:Nat}
theorem Re:2≤(bst l i D).1:=by
 unfold bst;split
 ·omega
 ·exact Nat.le_refl 2
theorem ym(h:dN l i (D+1)≤(bst l i D).1):bst l i (D+1)=bst l i D:=by
 unfold bst at*;rw[cN]
 by_cases h1:3≤(cN l i D).1
 ·rw[if_pos h1]at h⊢;rw[if_neg (show ¬(cN l i D).1<dN l i (D+1)by omega),if_pos h1]
 ·rw[if_neg h1]at h⊢;dsimp only at h
  by_cases h2:(cN l i D).1<dN l i (D+1)
  ·rw[if_pos h2,if_neg (by dsimp only;omega)]
  ·rw[if_neg h2,if_neg h1]
theorem O9(h:(bst l i D).1<dN l i (D+1)):bst l i (D+1)=(dN l i (D+1),D+1):=by
 unfold bst at*;rw[cN]
 by_cases h1:3≤(cN l i D).1
 ·rw[if_pos h1]at h;rw[if_pos h,if_pos (by dsimp only;omega)]
 ·rw[if_neg h1]at h;dsimp only at h;rw[if_pos (show(cN l i D).1<dN l i (D+1)by omega),if_pos (by dsimp only;omega)]
theorem wP(d:Nat)(hi:i≤l.length):dN l i d≤min 258 (l.length-i):=by
 have h1:=zb l i d;have h2:=BD l i d 258 0 (by omega);unfold dN at*;omega
theorem Dd(hi:i≤l.length):(cN l i D).1≤min 258 (l.length-i):=by
 rcases mf l i D with h|⟨_,_,h,_⟩
 ·rw[h];exact Nat.zero_le _
 ·rw[h];exact wP _ hi
theorem EX(hi:i≤l.length)(h:min 258 (l.length-i)≤(bst l i D).1):∀k,bst l i (D+k)=bst l i D
 |0=>rfl
 |k+1=>by
  have e:=EX hi h k;rw[←Nat.add_assoc,ym (by rw[e];exact Nat.le_trans (wP _ hi) h),e]
theorem Hq(hi:i≤l.length):(bst l i D).1≤258∧(bst l i D).2≤D:=by
 unfold bst;split
 ·have h1:=Dd (D:=D) hi;refine⟨by omega,?_⟩;rcases mf l i D with h|⟨_,h,_,_⟩
  ·rw[h];exact Nat.zero_le _
  ·exact h
 ·exact⟨by dsimp only;omega,Nat.zero_le _⟩
end
def lgAt(l:List UInt8)(i:Nat):T3:=if 3≤(be l i).1 then((be l i).1,(be l i).2,0)else(0,0,0)
theorem QE{l:List UInt8}{i:Nat}:lgAt l i=if(bst l i (min 512 i)).2=0 then(0,0,0)else(((bst l i (min 512 i)).1:Int),((bst l i (min 512 i)).2:Int),0):=by
 unfold lgAt be bst
 by_cases h:3≤(cN l i (min 512 i)).1
 ·have h2:¬(cN l i (min 512 i)).2=0:=by
   rcases mf l i (min 512 i)with e|⟨e,_⟩
   ·rw[e]at h;simp at h
   ·omega
  rw[if_pos h,if_pos h,if_neg h2]
 ·rw[if_neg h,if_neg h,if_pos rfl]
theorem Q6(s:ByteArray){i d m:Nat}(hd:d≤i)(hm:i+m≤s.size):Cuts s (s.extract (i-d) s.size) (s.extract i (i+m)) i d m:=by
 refine⟨by rw[ByteArray.size_extract];omega,by rw[ByteArray.size_extract];omega,fun j h=>?_,fun j h=>?_⟩
 ·rw[ByteArray.size_extract]at h;rw[gw s (by omega),ByteArray.getElem_extract]
  congr 1;omega
 ·rw[ByteArray.size_extract]at h;rw[gw s (by omega),ByteArray.getElem_extract]
end
end Go.Proofs.YtbanopnofpjnbaaGreatDoor
