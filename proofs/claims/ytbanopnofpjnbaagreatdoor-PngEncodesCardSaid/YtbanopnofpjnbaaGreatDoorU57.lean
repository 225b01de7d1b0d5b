/- Own texts in one: RfC, RfD. -/
import Derived.Test.YtbanopnofpjnbaaGreatDoorU11
set_option maxRecDepth 1000000
set_option linter.unusedVariables false
set_option maxHeartbeats 4000000
namespace Go.Proofs.YtbanopnofpjnbaaGreatDoor
open Go Go.RowKit Tryz
theorem JH{a b:Int}(h:a=b):Ending.returned (.int .i64 a)=.returned (.int .i64 b):=by rw[h]
theorem mF{w:World}(t:Nat)(ht:t≤100000):
 Calls prog 188 #[t] w fun e w'=>e=.returned (.int .i64 (aq t:Nat))∧w=w':=by
 by_cases h1:t<265
 ·have d1:decide ((t:Int)<265)=true:=by simp;omega
  have hr:aq t=0:=if_pos (.inl h1);have HR:=qhz hr;clear hr h1
  go_enter func188,ntmps188
  go_wp2;go_ret;exact⟨by rw[HR.out];rfl,rfl⟩
 ·have d1:decide ((t:Int)<265)=false:=by simp;omega
  by_cases h2:t=285
  ·subst h2;have hr:aq 285=0:=if_pos (.inr rfl);have HR:=qhz hr;clear hr h1
   go_enter func188,ntmps188
   go_wp2;go_ret;exact⟨by rw[HR.out];rfl,rfl⟩
  ·have d2:((t:Int)==285)=false:=by simp;omega
   have hr:aq t=(t-261)/4:=if_neg (by omega);obtain⟨m,hm⟩:=E1 (t-261);rw[←hm]at hr;have e1:wrap64 ((t:Int)-261)=(m:Int):=by rw[IntWalk.wrap64_in _ ⟨by omega,by omega⟩];omega
   have HR:=qhz hr;have HM:=qhz (show m=t-261∧265≤t from⟨hm,by omega⟩);clear hr h1 h2 hm
   go_enter func188,ntmps188
   go_wp2;go_ret;exact⟨JH (by rw[HR.out,Int.tdiv_eq_ediv_of_nonneg (by have:=HM.out;omega)];have:=HM.out;omega),rfl⟩
theorem kB{w:World}(t:Nat)(ht:t≤100000):
 Calls prog 189 #[t] w fun e w'=>e=.returned (.int .i64 (aC t:Nat))∧w=w':=by
 by_cases h1:t<4
 ·have d1:decide ((t:Int)<4)=true:=by simp;omega
  have hr:aC t=0:=if_pos h1;have HR:=qhz hr;clear hr h1
  go_enter func189,ntmps189
  go_wp2;go_ret;exact⟨by rw[HR.out];rfl,rfl⟩
 ·have d1:decide ((t:Int)<4)=false:=by simp;omega
  have hr:aC t=t/2-1:=if_neg h1;have HR:=qhz hr;have H1:=qhz h1;clear hr h1
  go_enter func189,ntmps189
  go_wp2;go_ret;exact⟨JH (by rw[HR.out];have:=H1.out;omega),rfl⟩
def qD(k:Nat):Nat:=3+((List.range k).map fun k=>2^aq (257+k)).sum
theorem Cu(k:Nat):qD (k+1)=qD k+2^aq (257+k):=by unfold qD;rw[List.range_succ,List.map_append,List.sum_append];simp;omega
def tR(k:Nat):Nat:=1+((List.range k).map fun k=>2^aC k).sum
theorem CU(k:Nat):tR (k+1)=tR k+2^aC k:=by unfold tR;rw[List.range_succ,List.map_append,List.sum_append];simp;omega
theorem Sg{k:Nat}(h:k≤28):aq (257+k)≤5:=by unfold aq;split<;>omega
theorem RZ{k:Nat}(h:k≤29):aC k≤13:=by unfold aC;split<;>omega
theorem pow5{b:Nat}(h:b≤13):2^b≤8192:=Nat.pow_le_pow_right (n:=2) (by decide) h
theorem Bj(b:Nat):(2:Int)^b=((2^b:Nat):Int):=by simp
theorem Jj{b:Nat}(h:b≤13):wrap64 ((2:Int)^b)=((2^b:Nat):Int):=by
 have:=pow5 h;rw[Bj];generalize 2^b=z at*;rw[IntWalk.wrap64_in _ ⟨by omega,by omega⟩]
theorem Gn{w:World}(t:Nat)(h1:257≤t)(h2:t≤285):
 Calls prog 152 #[t] w fun e w'=>e=.returned (.tuple #[(ar t:Nat),(aq t:Nat)])∧w=w':=by
 by_cases h3:t=285
 ·subst h3;have hr:aq 285=0:=if_pos (.inr rfl);have hb:ar 285=258:=if_pos rfl;have HR:=qhz hr;have HB:=qhz hb;clear hr hb h1 h2
  go_enter func152,ntmps152
  go_wp2
  go_ret2
  exact⟨by rw[HR.out,HB.out];rfl,rfl⟩
 ·have d:((t:Int)==285)=false:=by simp;omega
  have hb:ar t=qD (t-257):=if_neg h3;have HB:=qhz hb;clear hb h3
  go_enter func152,ntmps152
  go_wp2
  go_loopw [4,5] (fun nv sv wr=>∃k:Nat,257+k≤t∧nv=.int .i64 (qD k:Nat)∧sv=.int .i64 ((257+k:Nat):Int)∧qD k≤3+k*32∧w=wr) (fun _ sv _=>t-(intOf sv).toNat)
  case atStart=>exact⟨0,by omega,rfl,rfl,by decide,rfl⟩
  case round=>
   obtain⟨k,hk,rfl,rfl,hle,rfl⟩:=hrel;obtain⟨u,hu⟩:∃u,u=257+k:=⟨_,rfl⟩
   rw[←hu]
   by_cases hlt:u<t
   ·have hs:=Cu k;have hbb:=Sg (k:=k) (by omega);have hc:=mF (w:=w) u (by omega);rw[←hu]at hs hbb;generalize hB:aq u=B at*;have hp:2^B≤32:=Nat.pow_le_pow_right (n:=2) (by decide) hbb;have e1:=Jj (b:=B) (by omega);generalize hX:qD k=X at*;have HS:=qhz hs;have HC:=qhz hc;have HU:=qhz hu;have e1b:=Bj B;generalize 2^B=P at*;have e2:wrap64 ((X:Int)+(P:Int))=(X:Int)+(P:Int):=IntWalk.wrap64_in _ ⟨by omega,by omega⟩;have hB13:(B:Int)<64:=by omega
    clear hs hc hu hB hX
    go_wp2_with fail
    refine HC.out.mono ?_;rintro e w2 ⟨rfl,rfl⟩;go_wp2
    go_roundw
    case rel=>exact⟨k+1,by have:=HU.out;omega,by rw[HS.out];go_num,by have:=HU.out;go_num,by rw[HS.out];omega,by trivial⟩
    case measure=>simp[intOf];have:=HU.out;omega
   ·obtain rfl:u=t:=by omega
    have hc:=mF (w:=w) u (by omega);have HC:=qhz hc;have HU:=qhz hu;clear hc hu
    go_wp2_with fail
    refine HC.out.mono ?_;rintro e w2 ⟨rfl,rfl⟩;go_wp2
    go_ret2
    have e:ar u=qD k:=HB.out.trans (by rw[HU.out,Nat.add_sub_cancel_left]);exact⟨by rw[e];rfl,rfl⟩
theorem AF{w:World}(t:Nat)(h2:t≤29):
 Calls prog 153 #[t] w fun e w'=>e=.returned (.tuple #[(aF t:Nat),(aC t:Nat)])∧w=w':=by
 have hb:aF t=tR t:=rfl;have HB:=qhz hb;clear hb
 go_enter func153,ntmps153
 go_wp2
 go_loopw [4,5] (fun nv sv wr=>∃k:Nat,k≤t∧nv=.int .i64 (tR k:Nat)∧sv=.int .i64 k∧tR k≤1+k*8192∧w=wr) (fun _ sv _=>t-(intOf sv).toNat)
 case atStart=>exact⟨0,by omega,rfl,rfl,by decide,rfl⟩
 case round=>
  obtain⟨k,hk,rfl,rfl,hle,rfl⟩:=hrel
  by_cases hlt:k<t
  ·have hs:=CU k;have hbb:=RZ (k:=k) (by omega);have hc:=kB (w:=w) k (by omega);generalize hB:aC k=B at*;have hp:=pow5 (b:=B) (by omega);have e1:=Jj (b:=B) (by omega);generalize hX:tR k=X at*;have HS:=qhz hs;have HC:=qhz hc;have e1b:=Bj B;generalize 2^B=P at*;have e2:wrap64 ((X:Int)+(P:Int))=(X:Int)+(P:Int):=IntWalk.wrap64_in _ ⟨by omega,by omega⟩;have hB13:(B:Int)<64:=by omega
   clear hs hc hB hX
   go_wp2_with fail
   refine HC.out.mono ?_;rintro e w2 ⟨rfl,rfl⟩;go_wp2
   go_roundw
   case rel=>exact⟨k+1,by omega,by rw[HS.out];go_num,by go_num,by rw[HS.out];omega,by trivial⟩
   case measure=>simp[intOf];omega
  ·obtain rfl:k=t:=by omega
   have hc:=kB (w:=w) k (by omega);have HC:=qhz hc;clear hc
   go_wp2_with fail
   refine HC.out.mono ?_;rintro e w2 ⟨rfl,rfl⟩;go_wp2
   go_ret2
   exact⟨by rw[HB.out];rfl,rfl⟩
theorem Kw(w:World):
 Calls prog 128 #[] w fun e w'=>e=.returned (.slice w.heap.size 19 19)∧w'=w.alloc (.cells ct 3):=by
 go_enter func128,ntmps128
 go_wp2;go_ret;exact⟨rfl,rfl⟩
theorem rB:fixL.length=288:=by decide+kernel
theorem QT:∀i<288,fixL.getD i 0=if i<144∨280≤i then 8 else if i<256 then 9 else 7:=by decide+kernel
theorem yF{l:List Int}{i:Nat}{x:Int}(h:i<l.length)(hx:l.getD i 0=x):l.take (i+1)=l.take i++[x]:=by
 rw[List.take_add_one,List.getElem?_eq_getElem h,←hx,List.getD_eq_getElem?_getD,List.getElem?_eq_getElem h];rfl
def R9(w:World)(e:Ending)(w':World):Prop:=∃A1 A2 c1 c2,e=.returned (.tuple #[.slice (some A1) 288 c1,.slice (some A2) 32 c2])∧Ints w' (some A1) 288 fixL∧Ints w' (some A2) 32 fixD∧But [] w w'∧w.heap.size≤A1.block∧w.heap.size≤A2.block
theorem Jc{w:World}{A:Option Addr}{n:Nat}{l:List Int}(h:Ints w A n l)(h0:0<n):∃a,A=some a:=by
 obtain⟨g,o,e,_⟩:=h.2 h0;exact⟨_,e⟩
theorem Lp(w:World):Calls prog 98 #[] w (R9 w):=by
 obtain⟨i0,hi0,hz0,hz1,hz2⟩:=info_parts cG
 go_enter func98,ntmps98
 go_wp2
 go_loopw [2,4] (fun lv iv wr=>∃i:Nat,i≤288∧iv=.int .i64 i∧OwnI wr w.heap.size lv (fixL.take i)∧But [] w wr) (fun _ iv _=>288-(intOf iv).toNat)
 case atStart=>exact⟨0,by omega,rfl,OwnI.nil _ _,But.refl _ _⟩
 case round=>
  obtain⟨i,hi,rfl,hO,hB⟩:=hrel;have hlen:(fixL.take i).length=i:=by rw[List.length_take,rB];omega
  obtain⟨A,cA,rfl,hI,_⟩:=hO.open;rw[hlen]at hO⊢;have HI:=qhz hI;have HO:=qhz hO;have HB:=qhz hB
  by_cases hlt:i<288
  ·have hat:=QT i hlt;have hox:=hO;unfold OwnI at hox;rw[hlen]at hox;have HOX:=qhz hox;have HAT:=qhz hat;have hnx:∀x,fixL.getD i 0=x→fixL.take (i+1)=fixL.take i++[x]:=fun x hx=>yF (by rw[rB];omega) hx;have hsz:=hB.size;clear hI;generalize fixL.take i=acc at*;have HLEN:=qhz hlen;have HNX:=qhz hnx;obtain⟨wo,rfl⟩:=E1 (wr:World);clear hO hB hox hat hlen hnx
   by_cases h1:i<144
   ·have d1:decide ((i:Int)<144)=true:=by simp;omega
    have hx:fixL.getD i 0=8:=by rw[HAT.out,if_pos (by omega)]
    have HX:=qhz hx;clear hx
    go_wp2_with (at_builtin;go_loud (refine wpList_append_own _ rfl _ _ 36 rfl w.heap.size 3 i0 (.int .i64 0) 1 8 underlying36 hi0 hz0 hz1 hz2 rfl (by decide) (.slice A i cA) i (acc.map (.int .i64)) rfl (HOX.out.alloc _) ⟨wo.heap.size,0,none⟩ 1 1 [.int .i64 (8:Int)] rfl rfl ?c1 ?c2 ?c3 ?c4 ?c5 ?_))
    case c1=>exact World.news_of_block (cs:=#[.int .i64 (8:Int)]) (t:=3) (fr:=(0,0)) (heap_alloc_new wo _)
    case c2=>simp[Value.oneCell']
    case c3=>unfold maxLen;omega
    case c4=>omega
    case c5=>simp;omega
    intro v' w3 hown hgrow _;have hp:=OwnI.pushed (x:=8) HB.out HO.out (by rw[HLEN.out];exact hown) hgrow;have HP:=qhz hp;clear hown hgrow hp;go_wp2
    go_roundw
    case rel=>exact⟨i+1,by omega,by go_num,by rw[HNX.out _ HX.out];exact HP.out.1,HP.out.2⟩
    case measure=>simp[intOf];omega
   ·have d1:decide ((i:Int)<144)=false:=by simp;omega
    by_cases h2:280≤i
    ·have d2:decide ((280:Int)≤(i:Int))=true:=by simp;omega
     have hx:fixL.getD i 0=8:=by rw[HAT.out,if_pos (by omega)]
     have HX:=qhz hx;clear hx
     go_wp2_with (at_builtin;go_loud (refine wpList_append_own _ rfl _ _ 36 rfl w.heap.size 3 i0 (.int .i64 0) 1 8 underlying36 hi0 hz0 hz1 hz2 rfl (by decide) (.slice A i cA) i (acc.map (.int .i64)) rfl (HOX.out.alloc _) ⟨wo.heap.size,0,none⟩ 1 1 [.int .i64 (8:Int)] rfl rfl ?c1 ?c2 ?c3 ?c4 ?c5 ?_))
     case c1=>exact World.news_of_block (cs:=#[.int .i64 (8:Int)]) (t:=3) (fr:=(0,0)) (heap_alloc_new wo _)
     case c2=>simp[Value.oneCell']
     case c3=>unfold maxLen;omega
     case c4=>omega
     case c5=>simp;omega
     intro v' w3 hown hgrow _;have hp:=OwnI.pushed (x:=8) HB.out HO.out (by rw[HLEN.out];exact hown) hgrow;have HP:=qhz hp;clear hown hgrow hp;go_wp2
     go_roundw
     case rel=>exact⟨i+1,by omega,by go_num,by rw[HNX.out _ HX.out];exact HP.out.1,HP.out.2⟩
     case measure=>simp[intOf];omega
    ·have d2:decide ((280:Int)≤(i:Int))=false:=by simp;omega
     by_cases h3:i<256
     ·have d3:decide ((i:Int)<256)=true:=by simp;omega
      have hx:fixL.getD i 0=9:=by rw[HAT.out,if_neg (by omega),if_pos (by omega)]
      have HX:=qhz hx;clear hx
      go_wp2_with (at_builtin;go_loud (refine wpList_append_own _ rfl _ _ 36 rfl w.heap.size 3 i0 (.int .i64 0) 1 8 underlying36 hi0 hz0 hz1 hz2 rfl (by decide) (.slice A i cA) i (acc.map (.int .i64)) rfl (HOX.out.alloc _) ⟨wo.heap.size,0,none⟩ 1 1 [.int .i64 (9:Int)] rfl rfl ?c1 ?c2 ?c3 ?c4 ?c5 ?_))
      case c1=>exact World.news_of_block (cs:=#[.int .i64 (9:Int)]) (t:=3) (fr:=(0,0)) (heap_alloc_new wo _)
      case c2=>simp[Value.oneCell']
      case c3=>unfold maxLen;omega
      case c4=>omega
      case c5=>simp;omega
      intro v' w3 hown hgrow _;have hp:=OwnI.pushed (x:=9) HB.out HO.out (by rw[HLEN.out];exact hown) hgrow;have HP:=qhz hp;clear hown hgrow hp;go_wp2
      go_roundw
      case rel=>exact⟨i+1,by omega,by go_num,by rw[HNX.out _ HX.out];exact HP.out.1,HP.out.2⟩
      case measure=>simp[intOf];omega
     ·have d3:decide ((i:Int)<256)=false:=by simp;omega
      have hx:fixL.getD i 0=7:=by rw[HAT.out,if_neg (by omega),if_neg (by omega)]
      have HX:=qhz hx;clear hx
      go_wp2_with (at_builtin;go_loud (refine wpList_append_own _ rfl _ _ 36 rfl w.heap.size 3 i0 (.int .i64 0) 1 8 underlying36 hi0 hz0 hz1 hz2 rfl (by decide) (.slice A i cA) i (acc.map (.int .i64)) rfl (HOX.out.alloc _) ⟨wo.heap.size,0,none⟩ 1 1 [.int .i64 (7:Int)] rfl rfl ?c1 ?c2 ?c3 ?c4 ?c5 ?_))
      case c1=>exact World.news_of_block (cs:=#[.int .i64 (7:Int)]) (t:=3) (fr:=(0,0)) (heap_alloc_new wo _)
      case c2=>simp[Value.oneCell']
      case c3=>unfold maxLen;omega
      case c4=>omega
      case c5=>simp;omega
      intro v' w3 hown hgrow _;have hp:=OwnI.pushed (x:=7) HB.out HO.out (by rw[HLEN.out];exact hown) hgrow;have HP:=qhz hp;clear hown hgrow hp;go_wp2
      go_roundw
      case rel=>exact⟨i+1,by omega,by go_num,by rw[HNX.out _ HX.out];exact HP.out.1,HP.out.2⟩
      case measure=>simp[intOf];omega
  ·have hi288:i=288:=by omega
   have dd:decide ((i:Int)<288)=false:=by simp;omega
   have hI:Ints wr A 288 fixL:=by
    have h:=HI.out;rw[show fixL.take i=fixL from List.take_of_length_le (by rw[rB];omega),rB]at h;exact h
   have HI288:=qhz hi288;have HI:=qhz hI;have hlow:∀a,A=some a→w.heap.size≤a.block:=fun a e=>by
    subst e;exact(World.ownsRow.lt hO a.block rfl).1
   have hbz:=hB.size;have HLOW:=qhz hlow;obtain⟨w1,rfl⟩:=E1 (wr:World);clear hI hO hB hlen HO hlow hi288 hlt;go_wp2
   go_loopw [3,5] (fun lv iv wr=>∃j:Nat,j≤32∧iv=.int .i64 j∧OwnI wr w1.heap.size lv (fixD.take j)∧But [] w1 wr) (fun _ iv _=>32-(intOf iv).toNat)
   case atStart=>exact⟨0,by omega,rfl,OwnI.nil _ _,But.refl _ _⟩
   case round=>
    obtain⟨j,hj,rfl,hO,hB2⟩:=hrel;have hlen:(fixD.take j).length=j:=by rw[List.length_take];show min j 32=j;omega
    obtain⟨A2,cA2,rfl,hI2,_⟩:=hO.open;rw[hlen]at hO⊢;rw[hlen]at hI2;have HI2:=qhz hI2;have HO:=qhz hO;have HB2:=qhz hB2
    by_cases hlt:j<32
    ·have hox:=hO;unfold OwnI at hox;rw[hlen]at hox;have HOX:=qhz hox;have hnx:∀x,fixD.getD j 0=x→fixD.take (j+1)=fixD.take j++[x]:=fun x hx=>yF (by show j<32;omega) hx;have hsz2:=hB2.size;clear hI2;generalize fixD.take j=acc at*;have HLEN:=qhz hlen;have HNX:=qhz hnx;obtain⟨wo,rfl⟩:=E1 (wr:World);clear hO hB2 hox hlen hnx;have hx:fixD.getD j 0=5:=by
      have:∀j<32,fixD.getD j 0=5:=by decide+kernel
      exact this j hlt
     have HX:=qhz hx;clear hx
     go_wp2_with (at_builtin;go_loud (refine wpList_append_own _ rfl _ _ 36 rfl w1.heap.size 3 i0 (.int .i64 0) 1 8 underlying36 hi0 hz0 hz1 hz2 rfl (by decide) (.slice A2 j cA2) j (acc.map (.int .i64)) rfl (HOX.out.alloc _) ⟨wo.heap.size,0,none⟩ 1 1 [.int .i64 (5:Int)] rfl rfl ?c1 ?c2 ?c3 ?c4 ?c5 ?_))
     case c1=>exact World.news_of_block (cs:=#[.int .i64 (5:Int)]) (t:=3) (fr:=(0,0)) (heap_alloc_new wo _)
     case c2=>simp[Value.oneCell']
     case c3=>unfold maxLen;omega
     case c4=>omega
     case c5=>simp;omega
     intro v' w3 hown hgrow _;have hp:=OwnI.pushed (x:=5) HB2.out HO.out (by rw[HLEN.out];exact hown) hgrow;have HP:=qhz hp;clear hown hgrow hp;go_wp2
     go_roundw
     case rel=>exact⟨j+1,by omega,by go_num,by rw[HNX.out _ HX.out];exact HP.out.1,HP.out.2⟩
     case measure=>simp[intOf];omega
    ·have hj32:j=32:=by omega
     have dj:decide ((j:Int)<32)=false:=by simp;omega
     have hD:Ints wr A2 32 fixD:=by
      have h:=HI2.out;rw[show fixD.take j=fixD from List.take_of_length_le (by show 32≤j;omega),hj32]at h;exact h
     have hL:=HI.out.but HB2.out (by simp);have hl2:∀a,A2=some a→w.heap.size≤a.block:=fun a e=>by
      subst e;have:=(World.ownsRow.lt hO a.block rfl).1;omega
     obtain⟨a1,rfl⟩:=Jc hL (by omega);obtain⟨a2,rfl⟩:=Jc hD (by omega);have HD:=qhz hD;have HL:=qhz hL;have HJ:=qhz hj32;have hz2:=hl2 a2 rfl;have hz1:=HLOW.out a1 rfl;clear hl2;clear hD hL hI2 hO hB2 hlen HO HI HI2 hj32 hlt;go_wp2
     go_ret2
     exact⟨a1,a2,_,_,by rw[HI288.out,HJ.out];rfl,HL.out,HD.out,HB.out.trans HB2.out,hz1,hz2⟩
end Go.Proofs.YtbanopnofpjnbaaGreatDoor
