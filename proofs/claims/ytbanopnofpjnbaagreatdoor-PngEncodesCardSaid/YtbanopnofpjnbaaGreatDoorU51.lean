/- Own texts in one: Codes, CheckB, CodesW, CoinsM, AwakeH, LayW. -/
import Derived.Test.YtbanopnofpjnbaaGreatDoorU26
set_option maxRecDepth 1000000
set_option linter.unusedVariables false
set_option maxHeartbeats 4000000
namespace Go.Proofs.YtbanopnofpjnbaaGreatDoor
open Go Go.RowKit Tryz
theorem M7(l:List Int)(x:Int):top (l++[x])=if 0<x then max (top l) x else top l:=by
 unfold top;rw[List.foldl_append];rfl
theorem Rc(l:List Int):chk l=(if 288<l.length then 1 else if cL l=false then 1 else if 32768<ksum l then 10 else
 if ksum l<32768∧0<many l∧¬(many l=1∧top l=1)then 11 else 0):=by
 unfold chk
 by_cases h1:288<l.length
 ·rw[if_pos h1,if_pos h1]
 ·rw[if_neg h1,if_neg h1]
  by_cases h2:cL l=false
  ·rw[if_pos h2,if_pos h2]
  ·rw[if_neg h2,if_neg h2];simp only[pD l (by simpa using h2)]
theorem RL{m:Nat}(h0:0<(m:Int)):(2:Int)^(15-m)=(kr m:Nat):=by
 unfold kr;rw[if_pos h0];simp
theorem Qj{w:World}{A:Option Addr}{len cap:Nat}{l:List Int}(hl:Ints w A len l)(h288:len≤288)(hok:cL l=true):
 Calls prog 218 #[.slice A len cap] w fun e w'=>e=.returned (.tuple #[.int .i64 (ksum l),.int .i64 (many l),.int .i64 (top l)])∧w=w':=by
 have hlen:=hl.1
 go_enter func218,ntmps218
 go_wp2
 go_loop [5,6,7,8] (fun sm wd tp i=>∃k:Nat,k≤len∧i=.int .i64 k∧sm=.int .i64 (ksum (l.take k))∧wd=.int .i64 (many (l.take k))∧tp=.int .i64 (top (l.take k))) (fun _ _ _ i=>len-(intOf i).toNat)
 case atStart=>exact⟨0,Nat.zero_le _,rfl,rfl,rfl,rfl⟩
 case round=>
  obtain⟨k,hk,rfl,rfl,rfl,rfl⟩:=hrel;have hks:=KX (l.take k);have hms:=KL (l.take k);rw[List.length_take]at hks hms
  by_cases hlt:k<len
  ·obtain⟨g,o,rfl,hg,hc⟩:=hl.at hlt;have hts:=oF (l:=l) (k:=k) (by omega);have HS:=qhz hts;have hx:=List.all_eq_true.1 hok _ (List.getElem_mem (show k<l.length by omega));generalize l[k]'(by omega)=x at*;clear hl hts hok;simp only[sZ,decide_eq_true_eq]at hx;obtain⟨m,rfl⟩:=Int.eq_ofNat_of_zero_le hx.1;have hm15:m≤15:=by omega
   have HK:=qhz (show ksum (l.take (k+1))=ksum (l.take k)+kr m by rw[HS.out,Af]);have HM:=qhz (show many (l.take (k+1))=many (l.take k)+(if 0<(m:Int)then 1 else 0)by rw[HS.out,zP]);have HT:=qhz (show top (l.take (k+1))=if 0<(m:Int)then max (top (l.take k)) m else top (l.take k)by rw[HS.out,M7]);clear HS hx;generalize ksum (l.take k)=S at*;generalize many (l.take k)=M at*;generalize top (l.take k)=T at *
   by_cases h0:0<(m:Int)
   ·have HP:=qhz (RL h0);have hkl:=QJ m;have e15:IntKind.i64.wrap (15-(m:Int))=((15-m:Nat):Int):=by rw[IntKind.wrap_i64];omega
    go_wp2
    all_goals
     go_round
     case rel=>exact⟨k+1,by omega,by go_num,by rw[HK.out,HP.out,IntWalk.wrap64_in ((kr (m:Int):Nat):Int) ⟨by omega,by omega⟩,IntWalk.wrap64_in _ ⟨by omega,by omega⟩];go_num,by rw[HM.out,if_pos h0];go_num,by rw[HT.out,if_pos h0];congr 1;split<;>omega⟩
     case measure=>simp[intOf];omega
   ·go_wp2
    go_round
    case rel=>exact⟨k+1,by omega,by go_num,by rw[HK.out];unfold kr;rw[if_neg h0];rfl,by rw[HM.out,if_neg h0];rfl,by rw[HT.out,if_neg h0]⟩
    case measure=>simp[intOf];omega
  ·obtain rfl:k=len:=by omega
   rw[List.take_of_length_le (by omega)]at hks hms⊢;clear hl hok hlen;go_wp2
   go_ret3
   exact⟨rfl,rfl⟩
theorem JJ{w:World}{A:Option Addr}{len cap:Nat}{l:List Int}(hl:Ints w A len l)(hm:len≤maxLen):
 Calls prog 206 #[.slice A len cap] w fun e w'=>e=.returned (.int .i64 (chk l))∧w=w':=by
 unfold maxLen at hm;have hlen:=hl.1
 by_cases h288:288<len
 ·have hc:chk l=1:=by unfold chk;rw[if_pos (by omega)]
  rw[hc];clear hc hl hlen
  go_enter func206,ntmps206
  go_wp2;go_ret;exact⟨rfl,rfl⟩
 ·have hsum:=fun hok=>Qj (cap:=cap) hl (by omega) hok;have HSUM:=qhz hsum;clear hsum
  go_enter func206,ntmps206
  go_wp2
  go_loop [3] (fun i=>∃k:Nat,k≤len∧cL (l.take k)=true∧i=.int .i64 k) (fun i=>len-(intOf i).toNat)
  case atStart=>exact⟨0,Nat.zero_le _,rfl,rfl⟩
  case round=>
   obtain⟨k,hk,hok,rfl⟩:=hrel
   by_cases hlt:k<len
   ·obtain⟨g,o,rfl,hg,hc⟩:=hl.at hlt;have hts:=oF (l:=l) (k:=k) (by omega);have HS:=qhz hts;have HX:=qhz (show l[k]'(by omega)∈l from List.getElem_mem _);generalize l[k]'(by omega)=x at*;clear hl hts
    by_cases hr:0≤x∧x≤15
    ·have HO:=qhz (show cL (l.take (k+1))=true by rw[HS.out,sX,hok];simp[sZ];omega);have n0:decide (x<0)=false:=by simp;omega
     have n1:decide ((15:Int)<x)=false:=by simp;omega
     clear hr HS hok HX;go_wp2
     go_round
     case rel=>exact⟨k+1,by omega,HO.out,by go_num⟩
     case measure=>simp[intOf];omega
    ·have hc1:chk l=1:=by
      unfold chk;split
      ·rfl
      ·rw[if_pos];apply Classical.byContradiction;intro h;have h2:cL l=true:=by simpa using h
       have:=List.all_eq_true.1 h2 x HX.out;simp only[sZ,decide_eq_true_eq]at this;exact hr this
     have HC1:=qhz hc1;clear hc1 HS hok HX hlen
     by_cases hn:x<0
     ·go_wp2;go_ret;rw[HC1.out];exact⟨rfl,rfl⟩
     ·have n0:decide (x<0)=false:=by simp;omega
      have n1:15<x:=by omega
      go_wp2;go_ret;rw[HC1.out];exact⟨rfl,rfl⟩
   ·obtain rfl:k=len:=by omega
    rw[List.take_of_length_le (by omega)]at hok;have HC:=qhz (show chk l=(if 32768<ksum l then 10 else if ksum l<32768∧0<many l∧¬(many l=1∧top l=1)then 11 else 0) by
     rw[Rc,if_neg (by omega),if_neg (by simp[hok])])
    have hs:=HSUM.out hok;generalize ksum l=S at*;generalize many l=M at*;generalize top l=T at*;clear hl hok hlen HSUM;obtain⟨s,hS⟩:=E1 ((S:Int):Int);obtain⟨m,hM⟩:=E1 ((M:Int):Int);have HC2:=qhz (show(if 32768<S then(10:Int)else if S<32768∧0<M∧¬(M=1∧T=1)then 11 else 0)=(if 32768<s then 10 else if s<32768∧0<m∧¬(m=1∧T=1)then 11 else 0) by
     have e1:(32768<S)=((32768:Int)<s):=by rw[hS];apply propext;omega
     have e2:(S<32768∧0<M∧¬(M=1∧T=1))=(s<32768∧0<m∧¬(m=1∧T=1)):=by rw[hS,hM];apply propext;omega
     simp only[e1,e2])
    rw[←hS,←hM]at hs;clear hS hM;have HS:=qhz hs;clear hs
    by_cases c1:32768<s
    ·go_wp2_with fail
     refine HS.out.mono ?_;rintro e w' ⟨rfl,rfl⟩;go_wp2;go_ret;rw[HC.out,HC2.out,if_pos c1];exact⟨rfl,rfl⟩
    ·have C1:=qhz c1;have d1:decide ((32768:Int)<s)=false:=by simp;omega
     clear c1;have fin:∀v:Int,v=(if s<32768∧0<m∧¬(m=1∧T=1)then 11 else 0)→Ending.returned (.int .i64 v)=.returned (.int .i64 (chk l)):=by
      intro v hv;rw[HC.out,HC2.out,if_neg (by have:=C1.out;omega),hv]
     have FIN:=qhz fin;clear fin HC HC2
     by_cases c2:s<32768
     ·have C2:=qhz c2;have d2:decide (s<32768)=true:=by simp;omega
      clear c2
      by_cases c3:0<m
      ·have C3:=qhz c3;have d3:decide (0<m)=true:=by simp;omega
       clear c3
       by_cases c4:m=1
       ·have e4:(m==1)=true:=by simp;omega
        have C4:=qhz c4;clear c4
        by_cases c5:T=1
        ·have e5:(T==1)=true:=by simp;omega
         have C5:=qhz c5;clear c5
         go_wp2_with fail
         refine HS.out.mono ?_;rintro e w' ⟨rfl,rfl⟩;go_wp2;go_ret;exact⟨FIN.out _ (by rw[if_neg (by have:=C4.out;have:=C5.out;omega)]),rfl⟩
        ·have e5:(T==1)=false:=by simp;omega
         have C5:=qhz c5;clear c5
         go_wp2_with fail
         refine HS.out.mono ?_;rintro e w' ⟨rfl,rfl⟩;go_wp2;go_ret;exact⟨FIN.out _ (by rw[if_pos (by have:=C2.out;have:=C3.out;have:=C5.out;omega)]),rfl⟩
       ·have e4:(m==1)=false:=by simp;omega
        have C4:=qhz c4;clear c4
        go_wp2_with fail
        refine HS.out.mono ?_;rintro e w' ⟨rfl,rfl⟩;go_wp2;go_ret;exact⟨FIN.out _ (by rw[if_pos (by have:=C2.out;have:=C3.out;have:=C4.out;omega)]),rfl⟩
      ·have d3:decide (0<m)=false:=by simp;omega
       have C3:=qhz c3;clear c3
       go_wp2_with fail
       refine HS.out.mono ?_;rintro e w' ⟨rfl,rfl⟩;go_wp2;go_ret;exact⟨FIN.out _ (by rw[if_neg (by have:=C3.out;omega)]),rfl⟩
     ·have C2:=qhz c2;have d2:decide (s<32768)=false:=by simp;omega
      clear c2
      go_wp2_with fail
      refine HS.out.mono ?_;rintro e w' ⟨rfl,rfl⟩;go_wp2;go_ret;exact⟨FIN.out _ (by rw[if_neg (by have:=C2.out;omega)]),rfl⟩
def di(l:List Int)(p:List Nat):Nat:=kp l p/2^(15-was l p)-1
theorem MV{l:List Int}{p r:List Nat}(h:ord l=p++r)(hw:was l p=0):p=[]:=by
 unfold was at hw;cases e:p.getLast? with
 |none=>exact List.getLast?_eq_none_iff.1 e
 |some t=>
  rw[e]at hw;have:=eU (l:=l) (s:=t) (h▸List.mem_append_left r (List.mem_of_getLast? e));have hw:(l.getD t 0).toNat=0:=hw;omega
theorem zZ{l:List Int}{p r:List Nat}(h:ord l=p++r)(hw:was l p≠0):di l p+1=kp l p/2^(15-was l p):=by
 rcases List.eq_nil_or_concat p with e|⟨q,s,e⟩
 ·subst e;exact absurd rfl hw
 ·rw[List.concat_eq_append]at e;subst e;rw[List.append_assoc,List.singleton_append]at h;unfold di;rw[ta h,Nat.add_sub_cancel]
theorem xN{l:List Int}{p r:List Nat}{s:Nat}(h:ord l=p++s::r):di l (p++[s])=kp l p/2^(15-(l.getD s 0).toNat):=by
 unfold di;rw[ta h,Nat.add_sub_cancel]
theorem Cy{l:List Int}{p r:List Nat}(h:ord l=p++r)(hk:ksum l≤32768):di l p<32768:=by
 have h1:=RN h;have h2:kp l p/2^(15-was l p)≤kp l p:=Nat.div_le_self _ _;unfold di;omega
theorem JI{w:World}{A:Option Addr}{len cap:Nat}{l:List Int}(hl:Ints w A len l)(hm:len≤maxLen)(hc:chk l=0):
 Calls prog 168 #[.slice A len cap] w fun e w'=>e=.returned (.tuple #[.slice w.heap.size len len,(0:Int)])∧OwnI w' w.heap.size (.slice w.heap.size len len) (fI l)∧But [] w w':=by
 obtain⟨i0,hi0,hz0,hz1,hz2⟩:=info_parts cG;obtain⟨h1,h2,hk,h4⟩:=iT hc;have hlen:=hl.1;have h288:len≤288:=by omega
 have hck:=JJ (cap:=cap) hl hm;rw[hc]at hck;have HC:=qhz hck;clear hck h2 h4 h1 hc hm
 go_enter func168,ntmps168
 go_wp2_with fail
 refine HC.out.mono ?_;rintro e w' ⟨rfl,rfl⟩
 go_wp2_with (at_make;refine wpList_make_full _ rfl _ _ 36 rfl w.heap.size 3 i0 _ 1 underlying36 hi0 hz0 hz1 _ _ _ _ len rfl rfl (by omega) (by omega) (by rw[hz2];omega) (by unfold maxLen;omega) (by simp) ?_;intro w1 hown hgrow)
 have hO1:=OwnI.made hown;have hB1:But [] w w1:=(But.refl [] w).grown hgrow (by simp);clear hown hgrow HC
 go_loopw [6,7,8] (fun cd la n wr=>∃m:Nat,m≤15∧n=.int .i64 ((m:Int)+1)∧cd=.int .i64 (di l (bG l m))∧la=.int .i64 (was l (bG l m))∧
  OwnI wr w.heap.size (.slice w.heap.size len len) (cds l (bG l m))∧But [] w wr) (fun _ _ n _=>16-(intOf n).toNat)
 case atStart=>exact⟨0,by omega,rfl,by simp[di,kp,cst,bG],rfl,by rw[bG,ES,hlen];exact hO1,hB1⟩
 case round=>
  obtain⟨m,hm,rfl,rfl,rfl,hO,hB⟩:=hrel;clear hO1 hB1
  by_cases hlt:m<15
  ·obtain⟨wo,rfl⟩:=E1 (wr:World);have t15:decide ((m:Int)+1≤15)=true:=by simp;omega
   have HS:=qhz (show di l (bG l m)=di l (pre l m 0)∧was l (bG l m)=was l (pre l m 0)by rw[xe];exact⟨rfl,rfl⟩);rw[←xe]at hO;go_wp2
   go_loopw [6,7,9] (fun cd la i wr=>∃k:Nat,k≤len∧i=.int .i64 k∧cd=.int .i64 (di l (pre l m k))∧la=.int .i64 (was l (pre l m k))∧
    OwnI wr w.heap.size (.slice w.heap.size len len) (cds l (pre l m k))∧But [] w wr) (fun _ _ i _=>len-(intOf i).toNat)
   case atStart=>exact⟨0,Nat.zero_le _,rfl,by rw[HS.out.1],by rw[HS.out.2],hO,hB⟩
   case round=>
    clear hO hB HS;obtain⟨k,hk2,rfl,rfl,rfl,hO,hB⟩:=hrel
    by_cases hlt2:k<len
    ·obtain⟨g,o,rfl,hg,hc⟩:=hl.at hlt2;replace hc:=hB.cell hc (by simp);have hgd:l.getD k 0=l[k]'(by omega):=by rw[List.getD_eq_getElem?_getD,List.getElem?_eq_getElem (by omega)];rfl
     have hps:=xf l m k;obtain⟨r,hr⟩:=J7 l m (k+1) (by omega) hlt;have hlc:=gX l (pre l m k);rw[←hgd]at hc
     by_cases he:l.getD k 0=((m+1:Nat):Int)
     ·rw[if_pos he]at hps;rw[hps,List.append_assoc,List.singleton_append]at hr;have hce:=hO.cell (show k<(cds l (pre l m k)).length by omega);have hcf:=hO.free k;generalize(cds l (pre l m k))[k]'_=cv at hce;have h1:=rj hr;have h2:=zJ hr;have h5:=ET l (pre l m k) k;have h6:=lG l (pre l m k) k;have h7:=xN hr;have h8:=C0 hr hk;have h9:=Cy hr hk;have h10:=zZ hr;have h11:=MV hr;have en:(l.getD k 0).toNat=m+1:=by omega
      rw[←hps]at h5 h6 h7;rw[en]at h1 h2 h5 h6 h7 h8;rw[he]at hc;have H5:=qhz h5;have H6:=qhz h6;have H7:=qhz h7;have HO:=qhz hO;have HB:=qhz hB;have hp15:2^(m+1)≤2^15:=Nat.pow_le_pow_right (by decide) (by omega);have hc15:kp l (pre l m k)/2^(15-(m+1))<32768:=Nat.lt_of_lt_of_le h8 hp15;have h12:was l (pre l m k)=0→di l (pre l m k)=0∧kp l (pre l m k)/2^(15-(m+1))=0:=fun h=>by
       have:=h11 h;rw[this];simp[di,kp,cst]
      clear h5 h6 h7 hO hB hps hr hgd he h8 h11 hp15 hlc hlen en;generalize kp l (pre l m k)/2^(15-(m+1))=c at*;generalize di l (pre l m k)=lc at*;generalize was l (pre l m k)=W at *
      by_cases hW:W=0
      ·obtain⟨rfl,rfl⟩:=h12 hW;subst hW;clear h10 h2 h12;go_wp2
       go_roundw
       case rel=>exact⟨k+1,by omega,by go_num,by rw[H7.out],by rw[H6.out];go_num,by rw[H5.out];exact HO.out.set k _,HB.out.setCell (.inr (Nat.le_refl _)) _⟩
       case measure=>simp[intOf];omega
      ·have h13:=h10 hW;rw[←h13]at h2;obtain⟨d,hd⟩:=E1 (m+1-W);rw[←hd]at h2;have hsh:((lc:Int)+1)*2^d=(c:Int):=by rw[←h2];simp
       have esub2:(m:Int)+1-(W:Int)=(d:Int):=by omega
       have hd15:d≤15:=by omega
       have d0:0<(W:Int):=by omega
       clear h10 h12 h13 h2 hd;go_wp2
       go_roundw
       case rel=>exact⟨k+1,by omega,by go_num,by rw[H7.out],by rw[H6.out];go_num,by rw[H5.out];exact HO.out.set k _,HB.out.setCell (.inr (Nat.le_refl _)) _⟩
       case measure=>simp[intOf];omega
     ·rw[if_neg he]at hps;have HPS:=qhz hps;generalize l.getD k 0=x at*;have he2:(x==(m:Int)+1)=false:=by simp;omega
      have he3:(x !=(m:Int)+1)=true:=by simp;omega
      clear hps he hgd hlc hr hlen;generalize hlc2:di l (pre l m k)=lc at*;generalize hW2:was l (pre l m k)=W at*;have HX:=qhz hlc2;have HY:=qhz hW2;clear hlc2 hW2;go_wp2
      go_roundw
      case rel=>exact⟨k+1,by omega,by go_num,by rw[HPS.out,HX.out],by rw[HPS.out,HY.out],by rw[HPS.out];exact hO,hB⟩
      case measure=>simp[intOf];omega
    ·obtain rfl:k=len:=by omega
     have HE:=qhz (show pre l m k=bG l (m+1)by rw[←hlen,xh]);go_wp2
     go_roundw
     case rel=>exact⟨m+1,by omega,by go_num,by rw[HE.out],by rw[HE.out],by rw[←HE.out];exact hO,hB⟩
     case measure=>simp[intOf];omega
  ·obtain rfl:m=15:=by omega
   go_wp2
   go_ret2
   exact⟨rfl,hO,hB⟩
theorem I3(c:Nat):∀cs:List (Nat×Nat),spot c cs≤cs.length
 |[]=>Nat.le_refl _
 |x::cs=>by rw[spot];have:=I3 c cs;split<;>simp;exact this
theorem Ints.of{w:World}{b n:Nat}{t:TypeId}{cs:Array Value}{l:List Int}(h:Is w b t cs)(hn:l.length=n)(hc:∀i (hi:i<l.length),cs[i]? =some (.int .i64 l[i])):Ints w (some ⟨b,0,none⟩) n l:=
 ⟨hn,fun _=>⟨b,0,rfl,h.lt,fun i hi=>by rw[Nat.zero_add,h.cell];exact hc i hi⟩⟩
def RT(w:World)(b:Nat)(l:List Int):Prop:=
 ∃Al cl Ac cc,Is w b 198 #[.slice Al l.length cl,.slice Ac l.length cc]∧Ints w Al l.length l∧Ints w Ac l.length (fI l)
end Go.Proofs.YtbanopnofpjnbaaGreatDoor
