/- Own texts in one: PnT, EfA, EfB, EfC, EfD, EfE. -/
import Derived.Test.YtbanopnofpjnbaaGreatDoorU15
import Derived.Test.YtbanopnofpjnbaaGreatDoorU17
import Derived.Test.YtbanopnofpjnbaaGreatDoorU49
import Derived.Test.YtbanopnofpjnbaaGreatDoorU52
import Derived.Test.YtbanopnofpjnbaaGreatDoorU54
import Derived.Test.YtbanopnofpjnbaaGreatDoorU57
set_option maxRecDepth 1000000
set_option linter.unusedVariables false
set_option maxHeartbeats 4000000
namespace Go.Proofs.YtbanopnofpjnbaaGreatDoor
open Go Go.RowKit Tryz
section
def EnE:Prop:=∀(v:World) (a b:Int) (pix:ByteArray),pix.size≤4096→Calls prog 14 #[.agg #[a,b,pix]] v (R1z (.tuple #[.string (encA a b pix).1,.int .i64 (encA a b pix).2]) v)
attribute [local irreducible] aA aG aX encA decA
theorem pngEncodes_walk{G:World→Prop}(hL:Ib G)(haw:Ie G)(hc:EnC G)(he:EnE){a b:Int}{pix:ByteArray}{w:World}(hp:pix.size≤140737488351232)(hG:G w):
 Calls prog 4 #[.agg #[a,b,pix]] w fun e w'=>e=.returned (.bool true)∧Below w.heap.size w w':=by
 obtain⟨b0,hb0⟩:=E1 w.heap.size;obtain⟨w1,hw1⟩:=E1 (w.alloc (.cells #[a,b,pix] 23));have HI:Hid (Is w1 b0 23 #[a,b,pix]):=qhz (by rw[hw1,hb0];exact Is.fresh _ _ _);have hB:But [] w w1:=by rw[hw1];exact(But.refl [] w).alloc _
 have HB:=qhz hB;have HG:Hid (∀v,But [] w1 v→G v):=qhz fun v hv=>hL _ _ (hL _ _ hG hB) hv;have HA:=qhz haw;clear hB hG haw
 by_cases hs:pix.size≤4096
 case neg=>
  have HS:Hid (∀v,Calls prog 12 #[.agg #[a,b,pix]] v (R1z (.bool false) v)):=qhz fun v=>jf v hp (by simp;omega)
  go_enter func4,ntmps4
  go_upto_region 1 with(fail)
  rw[←hw1,←hb0];clear hw1 hb0;have c0:=(HI.out.but (But.refl [] w1) (by simp)).cell 0;have c1:=(HI.out.but (But.refl [] w1) (by simp)).cell 1;have c2:=(HI.out.but (But.refl [] w1) (by simp)).cell 2;have hgl:=(HI.out.but (But.refl [] w1) (by simp)).lt
  go_wp2_with fail
  refine(HS.out _).mono ?_;rintro e w2 ⟨rfl,hB2⟩;have HB2:=qhz ((But.refl [] w1).trans hB2);clear hB2;clear c0 c1 c2 hgl
  go_wp2_with fail
  refine(HA.out _ (HG.out _ HB2.out)).mono ?_;rintro e w9 ⟨rfl,hB9⟩;have HB9:=qhz (HB.out.trans (HB2.out.trans hB9));clear hB9;go_wp2;go_ret;exact⟨rfl,HB9.out.belowP⟩
 have HS:Hid (∀v,Calls prog 12 #[.agg #[a,b,pix]] v (R1z (.bool true) v)):=qhz fun v=>jf v hp (by simp;omega);obtain⟨s,hs2⟩:=E1 ((encA a b pix).1);obtain⟨r,hr⟩:=E1 ((encA a b pix).2);have HP:Hid (∀v,But [] w1 v→Calls prog 13 #[.agg #[a,b,pix]] v (R1z (.tuple #[s,r]) v)):=qhz fun v hv=>by rw[hr,hs2];exact hc v a b pix (HG.out v hv) hs
 have HE:Hid (∀v,Calls prog 14 #[.agg #[a,b,pix]] v (R1z (.tuple #[s,r]) v)):=qhz fun v=>by rw[hr,hs2];exact he v a b pix hs
 clear hr hs2 hc he hs hp
 go_enter func4,ntmps4
 go_upto_region 1 with(fail)
 rw[←hw1,←hb0];clear hw1 hb0;have c0:=(HI.out.but (But.refl [] w1) (by simp)).cell 0;have c1:=(HI.out.but (But.refl [] w1) (by simp)).cell 1;have c2:=(HI.out.but (But.refl [] w1) (by simp)).cell 2;have hgl:=(HI.out.but (But.refl [] w1) (by simp)).lt
 go_wp2_with fail
 refine(HS.out _).mono ?_;rintro e w2 ⟨rfl,hB2⟩;have HB2:=qhz ((But.refl [] w1).trans hB2);clear hB2;clear c0 c1 c2 hgl;obtain⟨c0,c1,c2,hgl⟩:=(HI.out.but HB2.out (by simp)).c3
 go_wp2_with fail
 refine(HP.out _ HB2.out).mono ?_;rintro e w3 ⟨rfl,hB3⟩;have HB3:=qt HB2 hB3;clear hB3;clear c0 c1 c2 hgl;obtain⟨c0,c1,c2,hgl⟩:=(HI.out.but HB3.out (by simp)).c3
 go_wp2_with fail
 refine(HE.out _).mono ?_;rintro e w4 ⟨rfl,hB4⟩;have HB4:=qt HB3 hB4;clear hB4;clear c0 c1 c2 hgl
 go_wp2_with fail
 refine(HA.out _ (HG.out _ HB4.out)).mono ?_;rintro e w9 ⟨rfl,hB9⟩;have HB9:=qhz (HB.out.trans (HB4.out.trans hB9));clear hB9;go_wp2;go_ret;exact⟨rfl,HB9.out.belowP⟩
end
section
theorem El(n:Nat):∀k,k≤29→257≤tc n k∧tc n k≤285
 |0,_=>⟨Nat.le_refl _,by show 257≤285;omega⟩
 |k+1,h=>by
  rw[tc];split
  ·omega
  ·exact El n k (by omega)
theorem EF(n:Nat):∀k,k≤30→uy n k≤29
 |0,_=>Nat.zero_le _
 |k+1,h=>by
  rw[uy];split
  ·omega
  ·exact EF n k (by omega)
section
variable {w:World}
theorem tN(n:Nat)(h1:3≤n)(h2:n≤258):
 Calls prog 123 #[n] w fun e w'=>e=.returned (.tuple #[(lsym n:Nat),((n-ar (lsym n):Nat):Int),(aq (lsym n):Nat)])∧w=w':=by
 obtain⟨l1,l2,l3,l4⟩:=eK n (by omega) h1;have HLE:=qhz (fun t h1 h2=>Gn (w:=w) t h1 h2);have HLF:=qhz kb;have HIN:=qhz (El n)
 go_enter func123,ntmps123
 go_wp2
 go_loopw [5,6] (fun bv sv wr=>∃k:Nat,k≤29∧sv=.int .i64 ((257+k:Nat):Int)∧bv=.int .i64 (tc n k:Nat)∧w=wr) (fun _ sv _=>300-(intOf sv).toNat)
 case atStart=>exact⟨0,Nat.zero_le _,rfl,rfl,rfl⟩
 case round=>
  obtain⟨k,hk,rfl,rfl,rfl⟩:=hrel;have hin:=HIN.out k hk;obtain⟨b,hb⟩:=E1 (tc n k);rw[←hb]at hin⊢;have HB:=qhz hb;obtain⟨t,ht⟩:∃t,t=257+k:=⟨_,rfl⟩
  rw[←ht];have HT:=qhz ht;have htb:257≤t∧t≤286:=by omega
  clear hb
  by_cases hlt:k<29
  ·have hbf:=HLF.out t (by omega) (by omega);have ht5:t≤285:=by omega
   have d1:decide ((t:Int)≤285)=true:=by simp;omega
   clear ht
   go_wp2_with fail
   refine(HLE.out t (by omega) (by omega)).mono ?_;rintro e w1 ⟨rfl,rfl⟩;obtain⟨B,hB⟩:=E1 (ar t);rw[←hB]at hbf⊢;have HBB:=qhz hB;clear hB
   by_cases hle:B≤n
   ·have d2:decide ((B:Int)≤(n:Int))=true:=by simp;omega
    have d3:decide (B≤n)=true:=by simpa using hle
    have HN:=qhz (show tc n (k+1)=t by rw[tc,if_pos (by rw[←HT.out,←HBB.out];exact hle),HT.out]);go_wp2
    go_roundw
    case rel=>exact⟨k+1,by omega,by have:=HT.out;go_num,by rw[HN.out],by trivial⟩
    case measure=>simp[intOf];omega
   ·have d2:decide ((B:Int)≤(n:Int))=false:=by simp;omega
    have d3:decide (B≤n)=false:=by simpa using hle
    have HN:=qhz (show tc n (k+1)=b by rw[tc,if_neg (by rw[←HT.out,←HBB.out];exact hle),HB.out]);go_wp2
    go_roundw
    case rel=>exact⟨k+1,by omega,by have:=HT.out;go_num,by rw[HN.out],by trivial⟩
    case measure=>simp[intOf];omega
  ·have d1:decide ((t:Int)≤285)=false:=by simp;omega
   have hk29:k=29:=by omega
   have hbs:b=lsym n:=by rw[HB.out,hk29];rfl
   rw[←hbs]at l1 l2 l3 l4;have HBS:=qhz hbs;obtain⟨B,hB⟩:=E1 (ar b);have hle:=HLE.out b (by omega) (by omega);rw[←hB]at l3 l4 hle;have HBQ:=qhz hB;have HL2:=qhz hle;clear hk29 hbs hB ht hle
   go_wp2_with fail
   refine HL2.out.mono ?_;rintro e w1 ⟨rfl,rfl⟩;have e1:(n:Int)-(B:Int)=((n-B:Nat):Int):=by omega
   go_wp2
   go_ret3
   exact⟨by rw[←HBS.out,←HBQ.out];rfl,rfl⟩
theorem oP(n:Nat)(h1:1≤n)(h2:n≤512):
 Calls prog 124 #[n] w fun e w'=>e=.returned (.tuple #[(dsym n:Nat),((n-aF (dsym n):Nat):Int),(aC (dsym n):Nat)])∧w=w':=by
 obtain⟨l2,l3,l4⟩:=eL n (by omega) h1;have HLE:=qhz (fun t h2=>AF (w:=w) t h2);have HLF:=qhz ki;have HIN:=qhz (EF n)
 go_enter func124,ntmps124
 go_wp2
 go_loopw [5,6] (fun bv sv wr=>∃k:Nat,k≤30∧sv=.int .i64 (k:Nat)∧bv=.int .i64 (uy n k:Nat)∧w=wr) (fun _ sv _=>300-(intOf sv).toNat)
 case atStart=>exact⟨0,Nat.zero_le _,rfl,rfl,rfl⟩
 case round=>
  obtain⟨t,hk,rfl,rfl,rfl⟩:=hrel;have hin:=HIN.out t hk;obtain⟨b,hb⟩:=E1 (uy n t);rw[←hb]at hin⊢;have HB:=qhz hb;clear hb
  by_cases hlt:t<30
  ·have hbf:=HLF.out t (by omega);have d1:decide ((t:Int)≤29)=true:=by simp;omega
   go_wp2_with fail
   refine(HLE.out t (by omega)).mono ?_;rintro e w1 ⟨rfl,rfl⟩;obtain⟨B,hB⟩:=E1 (aF t);rw[←hB]at hbf⊢;have HBB:=qhz hB;clear hB
   by_cases hle:B≤n
   ·have d2:decide ((B:Int)≤(n:Int))=true:=by simp;omega
    have d3:decide (B≤n)=true:=by simpa using hle
    have HN:=qhz (show uy n (t+1)=t by rw[uy,if_pos (by rw[←HBB.out];exact hle)]);go_wp2
    go_roundw
    case rel=>exact⟨t+1,by omega,by go_num,by rw[HN.out],by trivial⟩
    case measure=>simp[intOf];omega
   ·have d2:decide ((B:Int)≤(n:Int))=false:=by simp;omega
    have d3:decide (B≤n)=false:=by simpa using hle
    have HN:=qhz (show uy n (t+1)=b by rw[uy,if_neg (by rw[←HBB.out];exact hle),HB.out]);go_wp2
    go_roundw
    case rel=>exact⟨t+1,by omega,by go_num,by rw[HN.out],by trivial⟩
    case measure=>simp[intOf];omega
  ·have d1:decide ((t:Int)≤29)=false:=by simp;omega
   have hk30:t=30:=by omega
   have hbs:b=dsym n:=by rw[HB.out,hk30];rfl
   rw[←hbs]at l2 l3 l4;have HBS:=qhz hbs;obtain⟨B,hB⟩:=E1 (aF b);have hle:=HLE.out b (by omega);rw[←hB]at l3 l4 hle;have HBQ:=qhz hB;have HL2:=qhz hle;clear hk30 hbs hB hle
   go_wp2_with fail
   refine HL2.out.mono ?_;rintro e w1 ⟨rfl,rfl⟩;have e1:(n:Int)-(B:Int)=((n-B:Nat):Int):=by omega
   go_wp2
   go_ret3
   exact⟨by rw[←HBS.out,←HBQ.out];rfl,rfl⟩
theorem wC{A:Option Addr}{n c least:Nat}{l:List Int}(hl:Ints w A n l)(hn:n≤1000)(hc:n≤c)(hle:least≤n)(h1:1≤least):
 Calls prog 126 #[.slice A n c,least] w fun e w'=>e=.returned (.slice A (cE l least n) c)∧w=w':=by
 have HI:=qhz hl;have HLN:=qhz hl.1;obtain⟨g,o,rfl,hgl,hcx⟩:=hl.at (show 0<n by omega);clear hcx hl
 go_enter func126,ntmps126
 go_wp2
 go_loopw [5] (fun kv wr=>∃k:Nat,k≤n∧least≤k∧kv=.int .i64 k∧Hid (cE l least k=cE l least n)∧w=wr) (fun kv _=>(intOf kv).toNat)
 case atStart=>exact⟨n,Nat.le_refl _,hle,rfl,qhz rfl,rfl⟩
 case round=>
  obtain⟨k,hk,hlk,rfl,HU,rfl⟩:=hrel;obtain⟨j,rfl⟩:∃j,k=j+1:=⟨k-1,by omega⟩
  by_cases hgt:least<j+1
  ·obtain⟨g2,o2,e2,_,hcell⟩:=HI.out.at (i:=j) (by omega);injection e2 with e2;injection e2 with e3 e4;subst e3 e4;have ej:l[j]'(by have:=HLN.out;omega)=l.getD j 0:=by rw[List.getD_eq_getElem?_getD,List.getElem?_eq_getElem (by have:=HLN.out;omega)];rfl
   rw[ej]at hcell;obtain⟨x,hx⟩:=E1 (l.getD j 0);rw[←hx]at hcell;have HX:=qhz hx;have d1:decide ((least:Int)<((j+1:Nat):Int))=true:=by simp;omega
   have d1':decide (least<j+1)=true:=by simpa using hgt
   have ee:((j+1:Nat):Int)-1=(j:Int):=by omega
   have b0:(0:Int)≤(j:Int):=by omega
   have b1:(j:Int)<(n:Int):=by omega
   clear ej hx;obtain⟨K,hK⟩:=E1 (j+1);rw[←hK]at d1 d1' ee⊢;have HK:=qhz hK;clear hK
   by_cases hz:x=0
   ·have dz:(x==0)=true:=by simp[hz]
    have HN:=qhz (show cE l least j=cE l least n by rw[←HU.out,cE,if_pos ⟨hgt,by rw[←HX.out];exact hz⟩]);clear hz;go_wp2
    go_roundw
    case rel=>exact⟨j,by omega,by omega,rfl,HN,by trivial⟩
    case measure=>have:=HK.out;simp[intOf];omega
   ·have dz:(x==0)=false:=by simpa using hz
    have HN:=qhz (show cE l least n=K by rw[←HU.out,cE,if_neg (fun h=>hz (by rw[HX.out];exact h.2)),HK.out]);have hKn:K≤n:=by have:=HK.out;omega
    have hKc:K≤c:=by omega
    clear hz;go_wp2;go_ret;exact⟨by rw[HN.out];rfl,rfl⟩
  ·have d1:decide ((least:Int)<((j+1:Nat):Int))=false:=by simp;omega
   have d1':decide (least<j+1)=false:=by simpa using hgt
   have HN:=qhz (show cE l least n=j+1 by rw[←HU.out,cE,if_neg (fun h=>hgt h.1)]);obtain⟨K,hK⟩:=E1 (j+1);rw[←hK]at d1 d1' HN⊢;have hKn:K≤n:=by omega
   have hKc:K≤c:=by omega
   clear hK;go_wp2;go_ret;exact⟨by rw[HN.out];rfl,rfl⟩
end
end
section
def OwnQ(w:World)(base:Nat)(v:Value)(L:List (Int×Nat)):Prop:=w.ownsRow base 157 2 v L.length (eo L)
theorem Oy:(prog.info? 157).map (fun i=>(i.zero,i.size,i.bytes))=some (some (.agg #[(0:Int),(0:Int)]),2,16):=by kernel_rfl
theorem OwnQ.nil(w:World)(base:Nat):OwnQ w base (.slice none 0 0) []:=World.ownsRow_nil _ _ _ _
theorem OwnQ.but{w w':World}{base:Nat}{v:Value}{L:List (Int×Nat)}(h:OwnQ w base v L)(hw:But [] w w'):OwnQ w' base v L:=by
 unfold OwnQ at h⊢;refine⟨h.1,?_⟩;rcases h.2 with h2|⟨g,cap,cur,hv,hg,hh,r⟩
 ·exact .inl h2
 ·refine .inr ⟨g,cap,cur,hv,hg,?_,r⟩;have hlt:g<w.heap.size:=(h.lt g (by rw[hv];rfl)).2;rw[hw.block g hlt (by simp)];exact hh
theorem OwnQ.open{w:World}{base:Nat}{v:Value}{L:List (Int×Nat)}(h:OwnQ w base v L):∃A c,v=.slice A L.length c∧Qs w A L.length L:=by
 unfold OwnQ at h;rcases h.2 with⟨rfl,e⟩|⟨g,cap,cur,rfl,hg,hh,r⟩
 ·have:L=[]:=List.eq_nil_of_length_eq_zero e;subst this;exact⟨none,0,rfl,rfl,fun h=>absurd h (by simp)⟩
 ·refine⟨some ⟨g,0,none⟩,cap,rfl,rfl,fun hn=>⟨g,0,rfl,(h.lt g rfl).2,fun i hi=>?_⟩⟩;obtain⟨h0,h1⟩:=sK L i hi;have c0:=h.cells (g:=g) rfl (i*2) _ h0;have c1:=h.cells (g:=g) rfl (i*2+1) _ h1;rw[Go.WideShapes.add_plain]at c0 c1;exact⟨c0,c1⟩
theorem OwnQ.pushed{w wr w':World}{v v':Value}{L:List (Int×Nat)}{x:Int×Nat}{cs:Array Value}{t:TypeId}(hB:But [] w wr)(hO:OwnQ wr w.heap.size v L)
 (h1:w'.ownsRow w.heap.size 157 2 v' (L.length+1) (eo L++[.int .i64 x.1,.int .i64 (x.2:Nat)])) (hg:(wr.alloc (.cells cs t)).grownBy w' v.ownBlock):
 OwnQ w' w.heap.size v' (L++[x])∧But [] w w':=by
 refine⟨?_,(hB.alloc _).grown hg (fun g e=>.inr (hO.lt g e).1)⟩;unfold OwnQ;rw[List.length_append,oo];simpa[eo]using h1
def GotQ(w:World)(L:List (Int×Nat))(e:Ending)(w':World):Prop:=∃v,e=.returned v∧OwnQ w' w.heap.size v L∧But [] w w'
section
variable {w:World}
theorem Lx{A:Option Addr}{n c:Nat}{l:List Int}(hl:Ints w A n l)(hn:n≤1000):
 Calls prog 127 #[.slice A n c] w (GotQ w (runs l)):=by
 obtain⟨i0,hi0,hz0,hz1,hz2⟩:=info_parts Oy;have HI:=qhz hl;have HLN:=qhz hl.1;clear hl
 go_enter func127,ntmps127
 go_wp2
 go_loopw [3,4] (fun ov iv wr=>∃(i:Nat) (L:List (Int×Nat)),i≤n∧iv=.int .i64 i∧L.length≤i∧Hid (L++dM l (l.length-i) i=runs l)∧Hid (OwnQ wr w.heap.size ov L)∧Hid (But [] w wr)) (fun _ iv _=>n-(intOf iv).toNat)
 case atStart=>exact⟨0,[],Nat.zero_le _,rfl,Nat.le_refl _,qhz rfl,qhz (OwnQ.nil _ _),qhz (But.refl _ _)⟩
 case round=>
  obtain⟨i,L,hin,rfl,hL,HR,HO,HB⟩:=hrel;obtain⟨wo,rfl⟩:=E1 (wr:World)
  by_cases hlt:i<n
  ·obtain⟨g,o,rfl,hg,hcell⟩:=HI.out.at hlt;have hil:i<l.length:=by have:=HLN.out;omega
   have ex:l[i]'hil=l.getD i 0:=by rw[List.getD_eq_getElem?_getD,List.getElem?_eq_getElem hil];rfl
   have hcell2:=HB.out.cell hcell (by simp);rw[ex]at hcell2;have HST:=qhz (yX hil);have hrn:=Jt hil;rw[HLN.out]at hrn;have HRI:=qhz (DR hil);obtain⟨x,hx⟩:=E1 (l.getD i 0);rw[←hx]at hcell2;have HX:=qhz hx;have k0:(0:Int)≤(i:Int):=by omega
   have k1:(i:Int)<(n:Int):=by omega
   clear ex hx hcell;obtain⟨R,hR⟩:=E1 (runN l i);rw[←hR]at hrn;have HRR:=qhz hR;clear hR;go_wp2
   go_loopw [5] (fun nv wr=>∃(k q:Nat),1≤k∧i+k≤n∧nv=.int .i64 k∧Hid (kF l i (n+1-k) k=R)∧wr=wo.drewN q) (fun nv _=>2000-(intOf nv).toNat)
   case atStart=>exact⟨1,0,Nat.le_refl _,by omega,rfl,qhz (by rw[HRR.out,Nat.add_sub_cancel];unfold runN;rw[HLN.out]),rfl⟩
   case round=>
    obtain⟨k,q,hk1,hkn,rfl,HE,rfl⟩:=hrel
    by_cases hmore:i+k<n∧l.getD (i+k) 0=l.getD i 0
    ·obtain⟨hm1,hm2⟩:=hmore;obtain⟨z,hz⟩:=E1 (i+k);obtain⟨g2,o2,e2,_,hcz⟩:=HI.out.at (i:=z) (by omega);injection e2 with e2;injection e2 with e3 e4;subst e3 e4;have hzl:z<l.length:=by have:=HLN.out;omega
     have ez:l[z]'hzl=x:=by
      rw[HX.out,←hm2,←hz,List.getD_eq_getElem?_getD,List.getElem?_eq_getElem hzl];rfl
     rw[ez]at hcz;have hcz2:=HB.out.cell hcz (by simp);have es:(i:Int)+(k:Int)=(z:Int):=by omega
     have wz:IntKind.i64.wrap (z:Int)=(z:Int):=IntWalk.i64_in _ (by omega);have dz:decide ((z:Int)<(n:Int))=true:=by simp;omega
     have dz2:decide (z<n)=true:=by simp;omega
     have dx:(x==x)=true:=by simp
     have z0:(0:Int)≤(z:Int):=by omega
     have z1:(z:Int)<(n:Int):=by omega
     have HN:=qhz (show kF l i (n+1-(k+1)) (k+1)=R by
      rw[←HE.out,show n+1-k=(n+1-(k+1))+1 from by omega,kF,if_pos ⟨by rw[HLN.out];exact hm1,hm2⟩])
     have hkn2:i+(k+1)≤n:=by omega
     clear hcz ez hz hm1 hm2 hkn;go_wp2
     go_quiet (fail)
     go_wp2
     go_roundw
     case rel=>exact⟨k+1,q+nq,by omega,hkn2,by go_num,HN,by trivial⟩
     case measure=>simp[intOf];omega
    ·have HKR:=qhz (show k=R by
      rw[←HE.out]
      by_cases h0:n+1-k=0
      ·rw[h0];rfl
      ·rw[show n+1-k=(n+1-k-1)+1 from by omega,kF,if_neg (fun h=>hmore ⟨by have:=HLN.out;omega,h.2⟩)])
     go_upto_region 5 with(fail)
     go_cut [28]from 10 to 28 (fun v wx=>v=.bool false∧∃q2,wx=wo.drewN q2)
     case first=>
      obtain⟨z,hz⟩:=E1 (i+k);have es:(i:Int)+(k:Int)=(z:Int):=by omega
      have wz:IntKind.i64.wrap (z:Int)=(z:Int):=IntWalk.i64_in _ (by omega)
      by_cases hzn:z<n
      ·obtain⟨g2,o2,e2,_,hcz⟩:=HI.out.at (i:=z) hzn;injection e2 with e2;injection e2 with e3 e4;subst e3 e4;have hzl:z<l.length:=by have:=HLN.out;omega
       obtain⟨y,hy⟩:=E1 (l[z]'hzl);rw[←hy]at hcz;have hcz2:=HB.out.cell hcz (by simp);have hyx:¬y=x:=fun h=>hmore ⟨by omega,by
        rw[←hz,←HX.out,←h,hy,List.getD_eq_getElem?_getD,List.getElem?_eq_getElem hzl];rfl⟩
       have dyx:(y==x)=false:=by simpa using hyx
       have dz:decide ((z:Int)<(n:Int))=true:=by simp;omega
       have dz2:decide (z<n)=true:=by simp;omega
       have z0:(0:Int)≤(z:Int):=by omega
       have z1:(z:Int)<(n:Int):=by omega
       clear hcz hz hmore hy hyx
       go_quiet (fail)
       go_wp2
       go_meet
       exact⟨rfl,q+nq,by first|rfl|exact wo.drewN_drewN q nq⟩
      ·have dz:decide ((z:Int)<(n:Int))=false:=by simp;omega
       have dz2:decide (z<n)=false:=by simp;omega
       clear hz hmore
       go_quiet (fail)
       go_wp2
       go_meet
       exact⟨rfl,q+nq,by first|rfl|exact wo.drewN_drewN q nq⟩
     case rest=>
     obtain⟨rfl,q2,hw⟩:=hcut;subst hw;have hkR:=HKR.out;obtain rfl:k=R:=hkR;clear hmore HKR HE;have HBW:=qhz (HB.out.drewN q2);have HOW:=qhz (HO.out.but ((But.refl [] wo).drewN q2));obtain⟨ww,hww⟩:=E1 (wo.drewN q2);have hc2:ww.cell? ⟨g,o+i,none⟩=some (.int .i64 x):=by rw[hww];exact hcell2
     have hpre:∀j,j<n→ww.cell? ⟨g,o+j,none⟩=some (.int .i64 (l.getD j 0)):=fun j hj=>by
      obtain⟨g2,o2,e2,_,hcz⟩:=HI.out.at (i:=j) hj;injection e2 with e2;injection e2 with e3 e4;subst e3 e4;have hjl:j<l.length:=by have:=HLN.out;omega
      rw[hww,List.getD_eq_getElem?_getD,List.getElem?_eq_getElem hjl];exact HB.out.cell hcz (by simp)
     have HPRE:=qhz hpre;rw[←hww]at HBW HOW⊢;have hszw:=HBW.out.size;clear hww hpre hcell2 HO HB
     by_cases hx0:x=0
     ·have dx0:(x==0)=true:=by simp[hx0]
      by_cases h11:11≤k
      ·have d11:decide ((11:Int)≤(k:Int))=true:=by simp;omega
       obtain⟨m,hm⟩:=E1 (min k 138);have hm1:11≤m∧m≤138∧m≤k:=by omega
       have HRA:=qhz (show aO l i=((18:Int),m-11,m) by
        unfold aO;rw[←HRR.out,if_pos ⟨by rw[←HX.out];exact hx0,h11⟩,hm])
       obtain⟨y,hy⟩:=E1 (m-11);have ey:(m:Int)-11=(y:Int):=by omega
       rw[←hy]at HRA;have HM:=qhz hm;clear hm hy
       go_upto_region 10 with(fail)
       go_cut [5]from 49 to 50 (fun v wx=>v=.int .i64 (m:Nat)∧ww=wx)
       case first=>
        rcases Nat.lt_or_ge 138 k with h5|h5
        ·have e:m=138:=by have:=HM.out;omega
         subst e;go_wp2
         all_goals (go_meet;exact⟨rfl,rfl⟩)
        ·have e:m=k:=by have:=HM.out;omega
         subst e;go_wp2
         all_goals (go_meet;exact⟨rfl,rfl⟩)
       case rest=>
       obtain⟨rfl,rfl⟩:=hcut
       go_wp2_with (at_builtin;refine wpList_append_own _ rfl _ _ 154 rfl w.heap.size 157 i0 (.agg #[(0:Int),(0:Int)]) 2 16 underlying154 hi0 hz0 hz1 hz2 rfl (by decide) _ L.length (eo L) rfl (World.ownsRow.alloc HOW.out _) ⟨ww.heap.size,0,none⟩ 1 1 [.int .i64 18,.int .i64 (y:Nat)] rfl rfl ?a1 ?a2 ?a3 ?a4 ?a5 ?_)
       case a1=>exact World.news_of_block (cs:=#[.int .i64 18,.int .i64 (y:Nat)]) (t:=157) (fr:=(0,0)) (heap_alloc_new ww _)
       case a2=>simp[Value.oneCell']
       case a3=>unfold maxLen;omega
       case a4=>omega
       case a5=>simp;omega
       intro v' w2 hown2 hgrow2 _;have HP:=qhz (OwnQ.pushed (x:=((18:Int),y)) HBW.out HOW.out hown2 hgrow2);clear hown2 hgrow2;go_wp2
       go_roundw
       case rel=>exact⟨i+m,L++[((18:Int),y)],by omega,by go_num,by rw[List.length_append,List.length_singleton];omega,qhz (by rw[←HR.out,HST.out,HRA.out,List.append_assoc];rfl),qhz HP.out.1,qhz HP.out.2⟩
       case measure=>simp[intOf];omega
      ·have d11:decide ((11:Int)≤(k:Int))=false:=by simp;omega
       by_cases h3:3≤k
       ·have d3:decide ((3:Int)≤(k:Int))=true:=by simp;omega
        have HRA:=qhz (show aO l i=((17:Int),k-3,k) by
         unfold aO;rw[←HRR.out,if_neg (fun h=>h11 h.2),if_pos ⟨by rw[←HX.out];exact hx0,h3⟩])
        obtain⟨y,hy⟩:=E1 (k-3);have ey:(k:Int)-3=(y:Int):=by omega
        rw[←hy]at HRA;clear hy
        go_wp2_with (at_builtin;refine wpList_append_own _ rfl _ _ 154 rfl w.heap.size 157 i0 (.agg #[(0:Int),(0:Int)]) 2 16 underlying154 hi0 hz0 hz1 hz2 rfl (by decide) _ L.length (eo L) rfl (World.ownsRow.alloc HOW.out _) ⟨ww.heap.size,0,none⟩ 1 1 [.int .i64 17,.int .i64 (y:Nat)] rfl rfl ?b1 ?b2 ?b3 ?b4 ?b5 ?_)
        case b1=>exact World.news_of_block (cs:=#[.int .i64 17,.int .i64 (y:Nat)]) (t:=157) (fr:=(0,0)) (heap_alloc_new ww _)
        case b2=>simp[Value.oneCell']
        case b3=>unfold maxLen;omega
        case b4=>omega
        case b5=>simp;omega
        intro v' w2 hown2 hgrow2 _;have HP:=qhz (OwnQ.pushed (x:=((17:Int),y)) HBW.out HOW.out hown2 hgrow2);clear hown2 hgrow2;go_wp2
        go_roundw
        case rel=>exact⟨i+k,L++[((17:Int),y)],by omega,by go_num,by rw[List.length_append,List.length_singleton];omega,qhz (by rw[←HR.out,HST.out,HRA.out,List.append_assoc];rfl),qhz HP.out.1,qhz HP.out.2⟩
        case measure=>simp[intOf];omega
       ·have d3:decide ((3:Int)≤(k:Int))=false:=by simp;omega
        have dn0:(x !=0)=false:=by simp[hx0]
        have HRA:=qhz (show aO l i=(x,0,1) by
         unfold aO;rw[←HRR.out,if_neg (fun h=>h11 h.2),if_neg (fun h=>h3 h.2),if_neg (fun h=>h.1 (by rw[←HX.out];exact hx0)),←HX.out])
        clear hx0
        go_upto_region 14 with(fail)
        go_cut [73]from 74 to 98 (fun v wx=>v=.bool false∧∃q3,wx=ww.drewN q3)
        case first=>
         go_quiet (fail)
         go_wp2
         go_meet
         exact⟨rfl,nq,rfl⟩
        case rest=>
        obtain⟨rfl,q3,hw3⟩:=hcut;obtain⟨ww2,rfl⟩:=E1 (wc:World);have HBX:Hid (But [] w ww2):=qhz (by rw[hw3];exact HBW.out.drewN q3);have HOX:=qhz (HOW.out.but (w':=ww2) (by rw[hw3];exact(But.refl [] ww).drewN q3));have hc3:ww2.cell? ⟨g,o+i,none⟩=some (.int .i64 x):=by rw[hw3];exact hc2
        have hszx:=HBX.out.size;clear hw3 hc2
        go_wp2_with (at_builtin;refine wpList_append_own _ rfl _ _ 154 rfl w.heap.size 157 i0 (.agg #[(0:Int),(0:Int)]) 2 16 underlying154 hi0 hz0 hz1 hz2 rfl (by decide) _ L.length (eo L) rfl (World.ownsRow.alloc HOX.out _) ⟨ww2.heap.size,0,none⟩ 1 1 [.int .i64 x,.int .i64 0] rfl rfl ?c1 ?c2 ?c3 ?c4 ?c5 ?_)
        case c1=>exact World.news_of_block (cs:=#[.int .i64 x,.int .i64 0]) (t:=157) (fr:=(0,0)) (heap_alloc_new ww2 _)
        case c2=>simp[Value.oneCell']
        case c3=>unfold maxLen;omega
        case c4=>omega
        case c5=>simp;omega
        intro v' w2 hown2 hgrow2 _;have HP:=qhz (OwnQ.pushed (x:=((x:Int),0)) HBX.out HOX.out hown2 hgrow2);clear hown2 hgrow2;go_wp2
        go_roundw
        case rel=>exact⟨i+1,L++[((x:Int),0)],by omega,by go_num,by rw[List.length_append,List.length_singleton];omega,qhz (by rw[←HR.out,HST.out,HRA.out,List.append_assoc];rfl),qhz HP.out.1,qhz HP.out.2⟩
        case measure=>simp[intOf];omega
     ·have dx0:(x==0)=false:=by simpa using hx0
      have dn0:(x !=0)=true:=by simpa using hx0
      have bi:IntKind.i64.wrap ((i:Int)-1)=(i:Int)-1:=IntWalk.i64_in _ (by omega)
      by_cases h16:0<i∧l.getD (i-1) 0=x∧3≤k
      ·obtain⟨hi0',hpx,h3⟩:=h16;have hp:=HPRE.out (i-1) (by omega);rw[hpx]at hp;have d0:decide ((0:Int)<(i:Int))=true:=by simp;omega
       have d0':decide (0<i)=true:=by simp;omega
       obtain⟨j,hj⟩:=E1 (i-1);rw[←hj]at hp hpx;have ej:(i:Int)-1=(j:Int):=by omega
       have wj:IntKind.i64.wrap (j:Int)=(j:Int):=IntWalk.i64_in _ (by omega);have j0:(0:Int)≤(j:Int):=by omega
       have j1:(j:Int)<(n:Int):=by omega
       have dxx:(x==x)=true:=by simp
       have d3:decide ((3:Int)≤(k:Int))=true:=by simp;omega
       obtain⟨m,hm⟩:=E1 (min k 6);have hm1:3≤m∧m≤6∧m≤k:=by omega
       have HRA:=qhz (show aO l i=((16:Int),m-3,m) by
        unfold aO;rw[←HRR.out,if_neg (fun h=>hx0 (by rw[HX.out];exact h.1)),if_neg (fun h=>hx0 (by rw[HX.out];exact h.1)),if_pos ⟨fun h=>hx0 (by rw[HX.out];exact h),hi0',by rw[←HX.out,←hj];exact hpx,h3⟩,hm])
       obtain⟨y,hy⟩:=E1 (m-3);have ey:(m:Int)-3=(y:Int):=by omega
       rw[←hy]at HRA;have HM:=qhz hm;clear hm hy hj hpx bi
       go_upto_region 14 with(fail)
       go_cut [73]from 74 to 98 (fun v wx=>v=.bool true∧∃q3,wx=ww.drewN q3)
       case first=>
        go_quiet (fail)
        go_wp2
        go_meet
        exact⟨rfl,nq,rfl⟩
       case rest=>
       obtain⟨rfl,q3,hw3⟩:=hcut;obtain⟨ww2,rfl⟩:=E1 (wc:World);have HBX:Hid (But [] w ww2):=qhz (by rw[hw3];exact HBW.out.drewN q3);have HOX:=qhz (HOW.out.but (w':=ww2) (by rw[hw3];exact(But.refl [] ww).drewN q3));have hszx:=HBX.out.size;clear hw3 hc2 hp
       go_upto_region 15 with(fail)
       go_cut [5]from 99 to 100 (fun v wx=>v=.int .i64 (m:Nat)∧ww2=wx)
       case first=>
        rcases Nat.lt_or_ge 6 k with h5|h5
        ·have e:m=6:=by have:=HM.out;omega
         subst e;go_wp2
         all_goals (go_meet;exact⟨rfl,rfl⟩)
        ·have e:m=k:=by have:=HM.out;omega
         subst e;go_wp2
         all_goals (go_meet;exact⟨rfl,rfl⟩)
       case rest=>
       obtain⟨rfl,rfl⟩:=hcut
       go_wp2_with (at_builtin;refine wpList_append_own _ rfl _ _ 154 rfl w.heap.size 157 i0 (.agg #[(0:Int),(0:Int)]) 2 16 underlying154 hi0 hz0 hz1 hz2 rfl (by decide) _ L.length (eo L) rfl (World.ownsRow.alloc HOX.out _) ⟨ww2.heap.size,0,none⟩ 1 1 [.int .i64 16,.int .i64 (y:Nat)] rfl rfl ?d1 ?d2 ?d3 ?d4 ?d5 ?_)
       case d1=>exact World.news_of_block (cs:=#[.int .i64 16,.int .i64 (y:Nat)]) (t:=157) (fr:=(0,0)) (heap_alloc_new ww2 _)
       case d2=>simp[Value.oneCell']
       case d3=>unfold maxLen;omega
       case d4=>omega
       case d5=>simp;omega
       intro v' w2 hown2 hgrow2 _;have HP:=qhz (OwnQ.pushed (x:=((16:Int),y)) HBX.out HOX.out hown2 hgrow2);clear hown2 hgrow2;go_wp2
       go_roundw
       case rel=>exact⟨i+m,L++[((16:Int),y)],by omega,by go_num,by rw[List.length_append,List.length_singleton];omega,qhz (by rw[←HR.out,HST.out,HRA.out,List.append_assoc];rfl),qhz HP.out.1,qhz HP.out.2⟩
       case measure=>simp[intOf];omega
      ·have HRA:=qhz (show aO l i=(x,0,1) by
        unfold aO;rw[←HRR.out,if_neg (fun h=>hx0 (by rw[HX.out];exact h.1)),if_neg (fun h=>hx0 (by rw[HX.out];exact h.1)),if_neg (fun h=>h16 ⟨h.2.1,by rw[h.2.2.1,←HX.out],h.2.2.2⟩),←HX.out])
       go_upto_region 14 with(fail)
       go_cut [73]from 74 to 98 (fun v wx=>v=.bool false∧∃q3,wx=ww.drewN q3)
       case first=>
        by_cases hip:0<i
        ·have d0:decide ((0:Int)<(i:Int))=true:=by simp;omega
         have d0':decide (0<i)=true:=by simp;omega
         have hp:=HPRE.out (i-1) (by omega);obtain⟨j,hj⟩:=E1 (i-1);rw[←hj]at hp;obtain⟨y,hy⟩:=E1 (l.getD j 0);rw[←hy]at hp;have ej:(i:Int)-1=(j:Int):=by omega
         have wj:IntKind.i64.wrap (j:Int)=(j:Int):=IntWalk.i64_in _ (by omega);have j0:(0:Int)≤(j:Int):=by omega
         have j1:(j:Int)<(n:Int):=by omega
         by_cases hyx:y=x
         ·have dyx:(y==x)=true:=by simpa using hyx
          have d3:decide ((3:Int)≤(k:Int))=false:=decide_eq_false (fun h=>h16 ⟨hip,by rw[←hj,←hy];exact hyx,by omega⟩);clear hy hj hyx h16 bi
          go_quiet (fail)
          go_wp2
          go_meet
          exact⟨rfl,nq,rfl⟩
         ·have dyx:(y==x)=false:=by simpa using hyx
          clear hy hj hyx h16 bi
          go_quiet (fail)
          go_wp2
          go_meet
          exact⟨rfl,nq,rfl⟩
        ·have d0:decide ((0:Int)<(i:Int))=false:=by simp;omega
         have d0':decide (0<i)=false:=by simp;omega
         clear h16 bi
         go_quiet (fail)
         go_wp2
         go_meet
         exact⟨rfl,nq,rfl⟩
       case rest=>
       obtain⟨rfl,q3,hw3⟩:=hcut;obtain⟨ww2,rfl⟩:=E1 (wc:World);have HBX:Hid (But [] w ww2):=qhz (by rw[hw3];exact HBW.out.drewN q3);have HOX:=qhz (HOW.out.but (w':=ww2) (by rw[hw3];exact(But.refl [] ww).drewN q3));have hc3:ww2.cell? ⟨g,o+i,none⟩=some (.int .i64 x):=by rw[hw3];exact hc2
       have hszx:=HBX.out.size;clear hw3 hc2
       go_wp2_with (at_builtin;refine wpList_append_own _ rfl _ _ 154 rfl w.heap.size 157 i0 (.agg #[(0:Int),(0:Int)]) 2 16 underlying154 hi0 hz0 hz1 hz2 rfl (by decide) _ L.length (eo L) rfl (World.ownsRow.alloc HOX.out _) ⟨ww2.heap.size,0,none⟩ 1 1 [.int .i64 x,.int .i64 0] rfl rfl ?f1 ?f2 ?f3 ?f4 ?f5 ?_)
       case f1=>exact World.news_of_block (cs:=#[.int .i64 x,.int .i64 0]) (t:=157) (fr:=(0,0)) (heap_alloc_new ww2 _)
       case f2=>simp[Value.oneCell']
       case f3=>unfold maxLen;omega
       case f4=>omega
       case f5=>simp;omega
       intro v' w2 hown2 hgrow2 _;have HP:=qhz (OwnQ.pushed (x:=((x:Int),0)) HBX.out HOX.out hown2 hgrow2);clear hown2 hgrow2;go_wp2
       go_roundw
       case rel=>exact⟨i+1,L++[((x:Int),0)],by omega,by go_num,by rw[List.length_append,List.length_singleton];omega,qhz (by rw[←HR.out,HST.out,HRA.out,List.append_assoc];rfl),qhz HP.out.1,qhz HP.out.2⟩
       case measure=>simp[intOf];omega
  ·go_wp2;go_ret;refine⟨_,rfl,?_,HB.out⟩;have h:=HR.out;rw[show l.length-i=0 by have:=HLN.out;omega]at h;have h2:L++[]=runs l:=h;rw[List.append_nil]at h2;rw[←h2];exact HO.out
end
end
section
def WroteF(w w':World)(lo b:Nat)(og:Option Nat)(r:Nat×Nat):Prop:=∃og',FW w' lo b og' r.1 r.2∧(∀g,og'=some g→og=some g∨w.heap.size≤g)∧But (b::og.toList) w w'
section
variable {w w1 w':World} {lo b:Nat} {og:Option Nat} {r:Nat×Nat}
theorem WroteF.refl(h:FW w lo b og r.1 r.2):WroteF w w lo b og r:=⟨og,h,fun _ h=>.inl h,But.refl _ _⟩
theorem WroteF.but(h:WroteF w w' lo b og r):But (b::og.toList) w w':=by
 obtain⟨_,_,_,h⟩:=h;exact h
theorem WroteF.step{r':Nat×Nat}{og' og2:Option Nat}(hg:∀g,og'=some g→og=some g∨w.heap.size≤g)(hB:But (b::og.toList) w w1)
 (h2:FW w' lo b og2 r'.1 r'.2) (hg2:∀g,og2=some g→og'=some g∨w1.heap.size≤g) (hB2:But (b::og'.toList) w1 w'):WroteF w w' lo b og r':=by
 refine⟨og2,h2,fun g e=>?_,hB.join hB2 fun i hi=>?_⟩
 ·rcases hg2 g e with h|h
  ·exact hg g h
  ·exact .inr (Nat.le_trans hB.size h)
 ·simp only[List.mem_cons,Option.mem_toList]at hi⊢;rcases hi with h|h
  ·exact .inl (.inl h)
  ·rcases hg i h with h|h
   ·exact .inl (.inr h)
   ·exact .inr h
theorem WroteF.bits(h:WroteF w w1 lo b og r)(hlo:lo≤w.heap.size)(hN:r.2≤100000000000)(v n:Nat):
 Calls prog 117 #[.pointer b,v,n] w1 fun e w'=>e=.returned (.tuple #[])∧WroteF w w' lo b og (layB r v n):=by
 obtain⟨og',hW,hg,hB⟩:=h;refine(hW.bits (Nat.le_trans hlo hB.size) (by omega) v n).mono ?_;rintro e w' ⟨rfl,og2,hW2,hg2,hB2⟩;exact⟨rfl,WroteF.step hg hB hW2 hg2 hB2⟩
theorem WroteF.bitsI(h:WroteF w w1 lo b og r)(hlo:lo≤w.heap.size)(hN:r.2≤100000000000)(v n:Int):
 Calls prog 117 #[.pointer b,v,n] w1 fun e w'=>e=.returned (.tuple #[])∧WroteF w w' lo b og (layX r.1 r.2 v n,layN r.2 n):=by
 obtain⟨og',hW,hg,hB⟩:=h;refine(hW.bits (Nat.le_trans hlo hB.size) (by omega) v n).mono ?_;rintro e w' ⟨rfl,og2,hW2,hg2,hB2⟩;exact⟨rfl,WroteF.step hg hB hW2 hg2 hB2⟩
theorem WroteF.bytes(h:WroteF w w1 lo b og r)(hlo:lo≤w.heap.size)(hN:r.2≤100000000000)(s:ByteArray)(hs:s.size≤70368744177664):
 Calls prog 118 #[.pointer b,s] w1 fun e w'=>e=.returned (.tuple #[])∧WroteF w w' lo b og (lC r.1 r.2 s,iu r.2 s):=by
 obtain⟨og',hW,hg,hB⟩:=h;refine(hW.bytes (Nat.le_trans hlo hB.size) (by omega) s hs).mono ?_;rintro e w' ⟨rfl,og2,hW2,hg2,hB2⟩;exact⟨rfl,WroteF.step hg hB hW2 hg2 hB2⟩
theorem WroteF.text(h:WroteF w w1 lo b og r):Calls prog 119 #[.pointer b] w1 fun e w'=>e=.returned (.string (aI r))∧w1=w':=by
 obtain⟨og',hW,hg,hB⟩:=h;exact hW.text
theorem x9{l:List Int}{s:Nat}{bt:Nat}(hT:Keep (b::og.toList) w fun w'=>RT w' bt l)(hok:∀x∈l,0≤x∧x≤15)(hW:WroteF w w1 lo b og r)(hlo:lo≤w.heap.size)(hN:r.2≤1000000000)(hh:has l s):
 Calls prog 129 #[.pointer bt,.pointer b,s] w1 fun e w'=>e=.returned (.int .i64 0)∧WroteF w w' lo b og (layC l r s):=by
 obtain⟨X,N⟩:=r;have he:layC l (X,N) s=layG ((fI l).getD s 0) (l.getD s 0).toNat X N:=by
  unfold layC layS;rw[if_pos hh,Int.toNat_natCast]
 rw[he];clear he
 obtain⟨h0,h1,h2⟩:0≤(s:Int)∧(s:Int)<l.length∧l.getD (s:Int).toNat 0≠0:=hh;rw[Int.toNat_natCast]at h2;have hn:s<l.length:=by omega
 have hg:l.getD s 0=l[s]:=gv hn;have hcl:(fI l).length=l.length:=by unfold fI;exact gX _ _
 have hg2:(fI l).getD s 0=(fI l)[s]'(by omega):=gv _;have hx:=hok _ (List.getElem_mem hn);rw[←hg]at hx;obtain⟨L,hL⟩:∃L:Nat,l.getD s 0=(L:Int):=⟨(l.getD s 0).toNat,by omega⟩
 rw[hL]at hx h2⊢;rw[Int.toNat_natCast];obtain⟨c,hc⟩:=E1 ((fI l).getD s 0);rw[←hc]at hg2⊢;have hL1:1≤L:=by omega
 have hL15:L≤15:=by omega
 have s0:(0:Int)≤(s:Int):=by omega
 have s1:(s:Int)<(l.length:Int):=by omega
 have old:∀W:World,But (b::og.toList) w W→∃g o cl g2 o2 cc,W.cell? ⟨bt,0,none⟩=some (.slice (some ⟨g,o,none⟩) l.length cl)∧W.cell? ⟨bt,1,none⟩=some (.slice (some ⟨g2,o2,none⟩) l.length cc)∧W.cell? ⟨g,o+s,none⟩=some (.int .i64 (L:Nat))∧W.cell? ⟨g2,o2+s,none⟩=some (.int .i64 c):=fun W hB=>by
  obtain⟨Al,cl,Ac,cc,hI,hl,hcs⟩:=hT W hB;obtain⟨g,o,rfl,hgl,hc1⟩:=hl.at hn;obtain⟨g2,o2,rfl,hgl2,hc2⟩:=hcs.at hn;rw[←hg,hL]at hc1;rw[←hg2]at hc2;exact⟨g,o,cl,g2,o2,cc,hI.cell 0,hI.cell 1,hc1,hc2⟩
 have OLD:=qhz old;obtain⟨g,o,cl,g2,o2,cc,c0,c1,c2,c3⟩:=OLD.out _ hW.but;have HW:=qhz hW;have hz:((L:Int)==0)=false:=by simp;omega
 have hz1:decide ((s:Int)<0)=false:=by simp;try omega
 have hz2:decide (l.length≤s)=false:=by simp;omega
 clear old hg hg2 hL hcl hT hok h0 h1 h2 hx hc hW
 go_enter func129,ntmps129
 go_wp2;clear c0 c1 c2 c3
 go_loopw [7] (fun iv wr=>∃k X' N':Nat,k≤L∧iv=.int .i64 ((k:Int)-1)∧layG c k X' N'=layG c L X N∧N'+k=N+L∧WroteF w wr lo b og (X',N')) (fun iv _=>((intOf iv)+1).toNat)
 case atStart=>exact⟨L,X,N,Nat.le_refl _,rfl,rfl,rfl,HW.out⟩
 case round=>
  obtain⟨k,X',N',hk,rfl,hG,hNk,hP⟩:=hrel;clear HW;obtain⟨g,o,cl,g2,o2,cc,c0,c1,c2,c3⟩:=OLD.out _ hP.but;have HP:=qhz hP;have HG:=qhz hG;have HNK:=qhz hNk;clear hP hG hNk;cases k with
  |zero=>
   go_wp2;go_ret;refine⟨rfl,?_⟩;have:=HG.out;rw[←this];exact HP.out
  |succ k=>
   have hk1:((k+1:Nat):Int)-1=(k:Int):=by omega
   rw[hk1];have hN2:N≤1000000000:=hN;have hN':N'≤100000000000:=by have:=HNK.out;omega
   clear hk1
   go_wp2_with fail
   refine(HP.out.bitsI hlo hN' (c/2^k) 1).mono ?_;rintro e w2 ⟨rfl,hP2⟩;have HP2:=qhz hP2;clear hP2 c0 c1 c2 c3;go_wp2
   go_roundw
   case rel=>
    refine⟨k,_,_,by omega,rfl,?_,?_,HP2.out⟩
    ·have:=HG.out;rw[layG]at this;exact this
    ·have:=HNK.out;rw[ry];omega
   case measure=>simp[intOf]
end
end
section
section
variable {w w1 w':World} {lo b:Nat} {og:Option Nat} {r:Nat×Nat}
theorem ED{l d:List Int}{bt bu n c:Nat}{A:Option Addr}{ts:List Tk}(hT:Keep (b::og.toList) w fun w'=>RT w' bt l)(hU:Keep (b::og.toList) w fun w'=>RT w' bu d)(hK:Keep (b::og.toList) w fun w'=>Tks w' A n (ts.map tkI))
 (hl:∀x∈l,0≤x∧x≤15) (hd:∀x∈d,0≤x∧x≤15) (hh:∀t∈ts,iC l d t) (h256:has l (256:Nat)) (hn:n≤1000000) (hW:WroteF w w1 lo b og r) (hlo:lo≤w.heap.size) (hN:r.2≤100000):
 Calls prog 121 #[.pointer b,.slice A n c,.pointer bt,.pointer bu] w1 fun e w'=>e=.returned (.tuple #[])∧WroteF w w' lo b og (layC l (bC l d r ts) 256):=by
 have hlen:ts.length=n:=by
  have:=(hK.now).1
  rwa [List.length_map]at this
 have HLN:=qhz hlen;have HK:=qhz hK;have HH:=qhz hh;have HW:=qhz hW;have HLA:=qhz (fun(s:Nat) (hs:has l s) (w2:World) (r2:Nat×Nat) (hW2:WroteF w w2 lo b og r2) (h2:r2.2≤1000000000)=>x9 hT hl hW2 hlo h2 hs);have HLD:=qhz (fun(s:Nat) (hs:has d s) (w2:World) (r2:Nat×Nat) (hW2:WroteF w w2 lo b og r2) (h2:r2.2≤1000000000)=>x9 hU hd hW2 hlo h2 hs);have HL15:=qhz hl;have HD15:=qhz hd;have H256:=qhz h256;clear hlen hT hU hK hh hW hl hd h256
 go_enter func121,ntmps121
 go_wp2
 go_loopw [8] (fun iv wr=>∃k:Nat,k≤n∧iv=.int .i64 k∧Hid (WroteF w wr lo b og (bC l d r (ts.take k)))∧(bC l d r (ts.take k)).2≤100000+60*k) (fun iv _=>n-(intOf iv).toNat)
 case atStart=>exact⟨0,Nat.zero_le _,rfl,HW,by show r.2≤100000+60*0;omega⟩
 case round=>
  obtain⟨k,hk,rfl,HP,hb⟩:=hrel;clear HW;obtain⟨q,hq⟩:=E1 (bC l d r (ts.take k));rw[←hq]at HP hb;have HQ:=qhz hq;clear hq
  by_cases hlt:k<n
  ·have hkt:k<ts.length:=by have:=HLN.out;omega
   have hmem:=HH.out _ (List.getElem_mem hkt);have hts:ts.take (k+1)=ts.take k++[ts[k]]:=List.take_succ_eq_append_getElem hkt;have hnx:bC l d r (ts.take (k+1))=layT l d q ts[k]:=by rw[hts,vE,←HQ.out]
   have hfw:=xL HL15.out HD15.out hmem q;have hcells:∀W:World,But (b::og.toList) w W→∃g o,A=some ⟨g,o,none⟩∧W.cell? ⟨g,o+k*3,none⟩=some (.int .i64 (ts[k].2.2:Nat))∧W.cell? ⟨g,o+k*3+1,none⟩=some (.int .i64 (ts[k].1:Nat))∧W.cell? ⟨g,o+k*3+2,none⟩=some (.int .i64 (ts[k].2.1:Nat)):=fun W hB=>by
    obtain⟨g,o,bb,x,z,e,hg,c0,c1,c2,h1⟩:=(HK.out W hB).at hlt;rw[List.getElem?_map,List.getElem?_eq_getElem hkt]at h1;injection h1 with h1;unfold tkI at h1;injection h1 with h2 h3;injection h3 with h3 h4;subst h2 h3 h4;exact⟨g,o,e,c0,c1,c2⟩
   obtain⟨t,ht⟩:=E1 (ts[k]);rw[←ht]at hmem hnx hfw hcells;obtain⟨x,z,y⟩:=t;obtain⟨g,o,rfl,c0,c1,c2⟩:=hcells _ HP.out.but;have HC:=qhz hcells;have HNX:=qhz hnx;dsimp only at c0 c1 c2;have k0:(0:Int)≤(k:Int):=by omega
   have k1:(k:Int)<(n:Int):=by omega
   unfold iC at hmem;dsimp only at hmem;clear ht hts hnx hcells
   by_cases hx:x=0
   ·rw[if_pos hx]at hmem;have eT:layT l d q (x,z,y)=layC l q y:=by unfold layT;rw[if_pos (show(x,z,y).1=0 from hx)]
    rw[eT]at hfw;have HE:=qhz eT;have dx:((x:Int)==0)=true:=by simp[hx]
    have HCALL:=qhz (HLA.out y hmem.2 _ q HP.out (by omega));clear eT hmem hx
    go_wp2_with fail
    refine HCALL.out.mono ?_;rintro e w3 ⟨rfl,hW3⟩;have HW3:=qhz hW3;clear hW3 c0 c1 c2;go_wp2
    go_roundw
    case rel=>exact⟨k+1,by omega,by go_num,qhz (by rw[HNX.out,HE.out];exact HW3.out),by rw[HNX.out,HE.out];omega⟩
    case measure=>simp[intOf];omega
   ·rw[if_neg hx]at hmem;obtain⟨a1,a2,a3,a4,a5,a6⟩:=hmem;obtain⟨b1,b2,b3,b4⟩:=eK x (by omega) a1;obtain⟨d1,d2,d3⟩:=eL z (by omega) a3;have dx:((x:Int)==0)=false:=by simp;omega
    have f5:=kb (lsym x) (by omega) b1;have f6:=ki (dsym z) (by omega);have f1:=dg HL15.out q (lsym x);have f2:=dh (layC l q (lsym x)) (x-ar (lsym x)) (aq (lsym x));have f3:=dg HD15.out (layB (layC l q (lsym x)) (x-ar (lsym x)) (aq (lsym x))) (dsym z);have eT:layT l d q (x,z,y)=layB (layC d (layB (layC l q (lsym x)) (x-ar (lsym x)) (aq (lsym x))) (dsym z)) (z-aF (dsym z)) (aC (dsym z)):=by unfold layT;rw[if_neg (show ¬(x,z,y).1=0 from hx)]
    rw[eT]at hfw;have HE:=qhz eT;have HEL:=qhz (fun(W:World)=>tN (w:=W) x a1 a2);have HED:=qhz (fun(W:World)=>oP (w:=W) z a3 a4);have C1:=qhz (fun W h h2=>HLA.out (lsym x) a5 W q h h2);have C2:=qhz (fun W h h2=>HLD.out (dsym z) a6 W (layB (layC l q (lsym x)) (x-ar (lsym x)) (aq (lsym x))) h h2);clear eT hx b4 d3 b3 d2;obtain⟨S1,hS1⟩:=E1 (lsym x);obtain⟨S2,hS2⟩:=E1 (dsym z);rw[←hS1]at HEL C1 C2 HE f1 f2 f3 f5 hfw b1 b2;rw[←hS2]at HED C2 HE f6 f3 hfw d1;obtain⟨V1,hV1⟩:=E1 (x-ar S1);obtain⟨V2,hV2⟩:=E1 (z-aF S2);rw[←hV1]at HEL C2 HE f2 f3 hfw;rw[←hV2]at HED HE hfw;obtain⟨M1,hM1⟩:=E1 (aq S1);obtain⟨M2,hM2⟩:=E1 (aC S2);rw[←hM1]at HEL C2 HE f2 f3 f5 hfw;rw[←hM2]at HED HE hfw f6;obtain⟨q1,hq1⟩:=E1 (layC l q S1);rw[←hq1]at C1 C2 HE f1 f2 f3 hfw;obtain⟨q2,hq2⟩:=E1 (layB q1 V1 M1);rw[←hq2]at C2 HE f2 f3 hfw;obtain⟨q3,hq3⟩:=E1 (layC d q2 S2);rw[←hq3]at C2 HE f3 hfw;have HQ2:=qhz hq2;clear hS1 hS2 hV1 hV2 hM1 hM2 hq1 hq2 hq3
    go_wp2_with fail
    refine(HEL.out _).mono ?_;rintro e w3 ⟨rfl,rfl⟩
    go_wp2_with fail
    refine(C1.out _ HP.out (by omega)).mono ?_;rintro e w3 ⟨rfl,hW3⟩;obtain⟨g1,o1,e1,c01,c11,c21⟩:=HC.out _ hW3.but;injection e1 with e1;injection e1 with e1 e2;subst e1 e2
    (try dsimp only at c01 c11 c21)
    have HW3:=qhz hW3;clear hW3 c0 c1 c2
    go_wp2_with fail
    refine(HW3.out.bits hlo (by omega) V1 M1).mono ?_;rintro e w4 ⟨rfl,hW4⟩;rw[←HQ2.out]at hW4;obtain⟨g1,o1,e1,c02,c12,c22⟩:=HC.out _ hW4.but;injection e1 with e1;injection e1 with e1 e2;subst e1 e2
    (try dsimp only at c02 c12 c22)
    have HW4:=qhz hW4;clear hW4 c01 c11 c21 HW3
    go_wp2_with fail
    refine(HED.out _).mono ?_;rintro e w5 ⟨rfl,rfl⟩
    go_wp2_with fail
    refine(C2.out _ HW4.out (by omega)).mono ?_;rintro e w5 ⟨rfl,hW5⟩;have HW5:=qhz hW5;clear hW5 c02 c12 c22 HW4
    go_wp2_with fail
    refine(HW5.out.bits hlo (by omega) V2 M2).mono ?_;rintro e w6 ⟨rfl,hW6⟩;have HW6:=qhz hW6;clear hW6 HW5;go_wp2
    go_roundw
    case rel=>exact⟨k+1,by omega,by go_num,qhz (by rw[HNX.out,HE.out];exact HW6.out),by rw[HNX.out,HE.out];omega⟩
    case measure=>simp[intOf];omega
  ·have hqe:q=bC l d r ts:=by rw[HQ.out,List.take_of_length_le (by have:=HLN.out;omega)]
   have HQE:=qhz hqe;have HCALL:=qhz (HLA.out 256 H256.out _ q HP.out (by omega));clear hqe
   go_wp2_with fail
   refine HCALL.out.mono ?_;rintro e w3 ⟨rfl,hW3⟩;have HW3:=qhz hW3;clear hW3;go_wp2
   go_end0
   exact⟨rfl,by rw[←HQE.out];exact HW3.out⟩
end
end
section
theorem Lr(l:List UInt8):cm l=layC fixL (bC fixL fixD (layB (layB (0,0) 1 1) 1 2) (toks l)) 256:=rfl
attribute [local irreducible] bC layC layB fixL fixD toks aI cm
theorem NewRT.keep{lo b:Nat}{w:World}{l:List Int}(h:NewRT lo w b l){S:List Nat}(hS:∀k∈S,k<lo):Keep S w fun w'=>RT w' b l:=fun w' hB=>(h.but hB hS).rt
theorem OwnK.keep{w:World}{base n c m:Nat}{A:Option Addr}{L:List T3}(h:OwnK w base (.slice A n c) L){S:List Nat}(hS:∀k∈S,k<base)(hn:L.length=m):Keep S w fun w'=>Tks w' A m L:=fun w' hB=>by
 have h2:OwnK w' base (.slice A n c) L:=aU h hB fun g e hg=>by have:=(h.lt g e).1;have:=hS g hg;omega
 obtain⟨A2,c2,e,hT⟩:=h2.open;injection e with e1 e2 e3;subst e1;rw[←hn];exact hT
theorem QR(w:World):FW (w.alloc (.cells #[.slice none 0 0,(0:Int)] 141)) (w.heap.size+1) w.heap.size none ((0,0):Nat×Nat).1 ((0,0):Nat×Nat).2:=RX w _
theorem WroteF.out{w w':World}{lo b:Nat}{og:Option Nat}{r:Nat×Nat}(h:WroteF w w' lo b og r)(hb:b<w.heap.size):∃og',FW w' lo b og' r.1 r.2∧∀k∈b::og'.toList,k<w'.heap.size:=by
 obtain⟨og',hF,hg,hB⟩:=h;refine⟨og',hF,fun k hk=>?_⟩;simp only[List.mem_cons,Option.mem_toList]at hk;rcases hk with rfl|hk
 ·exact hF.lt.1
 ·exact(hF.lt.2 k hk).1
theorem FW.ge{w:World}{lo b X N:Nat}{og:Option Nat}(h:FW w lo b og X N){g:Nat}(hg:og=some g):lo≤g:=by
 obtain⟨vv,LL,_,hown,hog,_⟩:=h;exact(hown.lt g (by rw[hog];exact hg)).1
theorem FW.new{w:World}{n b X N:Nat}{og:Option Nat}(h:FW w (n+1) b og X N)(hb:n≤b):∀k∈b::og.toList,n≤k:=by
 intro k hk;simp only[List.mem_cons,Option.mem_toList]at hk;rcases hk with rfl|hk
 ·exact hb
 ·exact Nat.le_trans (Nat.le_succ n) (h.ge hk)
theorem fewB{q:Nat×Nat}{v n a:Nat}(hn:n≤24)(hv:v<2^n)(h:q.2≤a):(layB q v n).2≤a+n:=by rw[bX hn hv];exact Nat.add_le_add_right h n
theorem GT(w:World){s:ByteArray}(hs:s.size≤10000):
 Calls prog 75 #[s] w (R1z (.string (aI (cm s.data.toList))) w):=by
 have hal:=wE s.data.toList;have hln:=bP s;have hty:=gR s.data.toList;obtain⟨P,hP⟩:=E1 (toks s.data.toList);have hTk:=fun v=>sq v (s:=s) (by omega);obtain⟨q1,hq1,hl1⟩:∃q,q=layB (0,0) 1 1∧q.2≤0+1:=⟨_,rfl,fewB (by omega) (by omega) (Nat.le_refl _)⟩
 obtain⟨q2,hq2,hl2⟩:∃q,q=layB q1 1 2∧q.2≤0+1+2:=⟨_,rfl,fewB (by omega) (by omega) hl1⟩
 have hX:cm s.data.toList=layC fixL (bC fixL fixD q2 P) 256:=by rw[hq2,hq1,hP];exact Lr _
 have HQ1:=qhz hq1;have HQ2:=qhz hq2;clear hq1 hq2;rw[←hP]at hal hty hTk;have HX:=qhz hX;have HTY:=qhz hty;have HTK:=qhz hTk;have HAL:=qhz hal;clear hP hty hTk hX hal hln;have hW0:=WroteF.refl (QR w);have HW0:=qhz hW0;clear hW0;have HB0:Hid (But [] w (w.alloc (.cells #[.slice none 0 0,(0:Int)] 141))):=qhz ((But.refl [] w).alloc _);have hsa:(w.alloc (.cells #[.slice none 0 0,(0:Int)] 141)).heap.size=w.heap.size+1:=by simp
 have HSA:=qhz hsa;clear hsa
 go_enter func75,ntmps75
 go_wp2_with fail
 refine(HW0.out.bits (by rw[HSA.out];exact Nat.le_refl _) (Nat.zero_le _) 1 1).mono ?_;rintro e w1 ⟨rfl,hW1⟩;rw[←HQ1.out]at hW1;have HW1:=qhz hW1;clear hW1
 go_wp2_with fail
 refine(HW1.out.bits (by rw[HSA.out];exact Nat.le_refl _) (by omega) 1 2).mono ?_;rintro e w2 ⟨rfl,hW2⟩;rw[←HQ2.out]at hW2;have hbut2:=HB0.out.fresh hW2.but (fun i hi=>by simp at hi;omega);obtain⟨og2,hF2,hlt2⟩:=hW2.out (by rw[HSA.out];omega);have hsz2:=hW2.but.size;rw[HSA.out]at hsz2;have HB2:=qhz hbut2;have HNW:=qhz (hF2.new (Nat.le_refl _));have HF2:=qhz hF2;have HL2:=qhz hlt2;clear hW2 hbut2 hF2 hlt2 HW0 HW1
 go_wp2_with fail
 refine(Lp w2).mono ?_;rintro e w3 ⟨A1,A2,cc1,cc2,rfl,hI1,hI2,hB3,_,_⟩;have HI2:=qhz hI2;have HB3:=qhz hB3;have hmk:=kU (cap:=cc1) hI1 (by omega) (fun e=>by cases e) cH;have HMK:=qhz hmk;clear hI1 hI2 hB3 hmk
 go_wp2_with fail
 refine HMK.out.mono ?_;rintro e w4 ⟨bt,rfl,hN4,hB4⟩;have hmk2:=kU (cap:=cc2) (HI2.out.but hB4 (by simp)) (by omega) (fun e=>by cases e) eM;have HMK2:=qhz hmk2;have HN4:=qhz hN4;have HB4:=qt HB3 hB4;have hs34:=HB3.out.size;clear hN4 hB4 hmk2 HMK HI2
 go_wp2_with fail
 refine HMK2.out.mono ?_;rintro e w5 ⟨bu,rfl,hN5,hB5⟩;have HN45:=qhz (HN4.out.but hB5 (by simp));have HN5:=qhz hN5;have HB5:=qt HB4 hB5;have hs45:=HB4.out.size;clear hN5 hB5 HMK2 HN4
 go_wp2_with fail
 refine(HTK.out w5).mono ?_;rintro e w6 ⟨v,rfl,hO6,hB6⟩;obtain⟨A6,c6,rfl,hT6⟩:=hO6.open;have hs56:=HB5.out.size;have hF6:=HF2.out.but (HB5.out.trans hB6) (by simp) (by simp);have hlt6:∀k∈w.heap.size::og2.toList,k<w2.heap.size:=HL2.out;have hW6:=WroteF.refl hF6;have hk1:=(HN45.out.but hB6 (by simp)).keep (S:=w.heap.size::og2.toList) (fun k hk=>by have:=hlt6 k hk;omega);have hk2:=(HN5.out.but hB6 (by simp)).keep (S:=w.heap.size::og2.toList) (fun k hk=>by have:=hlt6 k hk;omega);have hk3:=hO6.keep (m:=P.length) (S:=w.heap.size::og2.toList) (fun k hk=>by have:=hlt6 k hk;omega) (by rw[List.length_map]);have hPl:P.length≤1000000:=by have:=HAL.out;have:=bP s;omega
 have hsz6:=(HB5.out.trans hB6).size;have hly:=ED (c:=c6) hk1 hk2 hk3 (okl cH) (okl eM) HTY.out (hasL (by omega)) hPl hW6 (by omega) (by omega);have HLY:=qhz hly;have HB6:=qhz (HB2.out.trans (HB5.out.trans hB6));have HS:=qhz (fun k hk=>Nat.lt_of_lt_of_le (hlt6 k hk) hsz6);clear hO6 hB6 hT6 hF6 hlt6 hW6 hk1 hk2 hk3 hly HTK HN45 HN5 HB5
 go_wp2_with fail
 refine HLY.out.mono ?_;rintro e w7 ⟨rfl,hW7⟩;have hB7:But [] w w7:=HB6.out.fresh hW7.but HNW.out;have HB7:=qhz hB7;have HW7:=qhz hW7;clear hB7 hW7
 go_wp2_with fail
 refine HW7.out.text.mono ?_;rintro e w8 ⟨rfl,rfl⟩;go_wp2;go_ret;refine⟨?_,HB7.out⟩;rw[HX.out];rfl
end
end Go.Proofs.YtbanopnofpjnbaaGreatDoor
