/- Own texts in one: LcA, LcB. -/
import Derived.Test.YtbanopnofpjnbaaGreatDoorU52
set_option maxRecDepth 1000000
set_option linter.unusedVariables false
set_option maxHeartbeats 4000000
namespace Go.Proofs.YtbanopnofpjnbaaGreatDoor
open Go Go.RowKit Tryz
theorem oO(w:World){n first step:Nat}(hn:n≤100000)(hf:first≤100)(h1:1≤step)(h2:step≤100):
 Calls prog 77 #[n,first,step] w fun e w'=>e=.returned (.int .i64 (ay n first step:Nat))∧w=w':=by
 obtain⟨m,hm⟩:=E1 (ay n first step);have hk:=gs (n:=n) (first:=first) h1;have hle:=da n first step h1
 rw[←hm]at hk hle⊢;have HK:=qhz hk;clear hm hk
 go_enter func77,ntmps77
 go_wp2
 go_loop [7,8] (fun kv iv=>∃k i:Nat,k≤m∧kv=.int .i64 k∧iv=.int .i64 i∧Hid (i=first+k*step)) (fun kv _=>m-(intOf kv).toNat)
 case atStart=>exact⟨0,first,Nat.zero_le _,rfl,rfl,qhz (by omega)⟩
 case round=>
  obtain⟨k,i,hkm,rfl,rfl,HI⟩:=hrel
  by_cases hlt:k<m
  ·have hin:=(HK.out k).1 hlt;rw[←HI.out]at hin;have HN:Hid (i+step=first+(k+1)*step):=qhz (by rw[Nat.add_mul,HI.out];omega);go_wp2
   go_round
   case rel=>exact⟨k+1,i+step,by omega,by go_num,by go_num,HN⟩
   case measure=>simp[intOf]<;>omega
  ·obtain rfl:k=m:=by omega
   have hin:¬i<n:=fun h=>hlt ((HK.out k).2 (by rw[←HI.out];exact h));have hib:i≤1000000000:=by
    have:=HI.out;have:k*step≤100000*100:=Nat.mul_le_mul (by omega) h2;omega
   go_wp2;go_ret;exact⟨rfl,rfl⟩
theorem Pss.nil(w:World)(A:Option Addr):Pss w A 0 []:=⟨rfl,fun h=>absurd h (by omega)⟩
theorem Pss.but{w w':World}{A:Option Addr}{n:Nat}{L:List P6}(h:Pss w A n L)(hw:But [] w w'):Pss w' A n L:=
 ⟨h.1,fun hn=>by
  obtain⟨g,o,e,hg,hc⟩:=h.2 hn;refine⟨g,o,e,Nat.lt_of_lt_of_le hg hw.size,fun i k hi hk=>?_⟩;have h1:=hc i k hi hk;rw[←h1];have hb:=hw.block g hg (by simp);simp[World.cell?,hb]⟩
theorem Pss.of{w:World}{g:Nat}{L:List P6}{cs:Array Value}(h:Is w g 64 cs)(hc:cs.toList=bL L):Pss w (some ⟨g,0,none⟩) L.length L:=by
 refine⟨rfl,fun _=>⟨g,0,rfl,h.lt,fun i k hi hk=>?_⟩⟩;rw[h.cell,←pL L i k hi hk,←hc,Nat.zero_add,Array.getElem?_toList]
theorem OwnP6.nil(w:World)(base:Nat):OwnP6 w base (.slice none 0 0) []:=World.ownsRow_nil _ _ _ _
theorem OwnP6.but{w w':World}{base:Nat}{v:Value}{L:List P6}(h:OwnP6 w base v L)(hw:But [] w w'):OwnP6 w' base v L:=by
 obtain⟨h1,h2⟩:=h;refine⟨h1,?_⟩;rcases h2 with h2|⟨g,cap,cur,rfl,hg,hh,r⟩
 ·exact .inl h2
 ·have hlt:g<w.heap.size:=(Array.getElem?_eq_some_iff.1 hh).1;exact .inr ⟨g,cap,cur,rfl,hg,(hw.block g hlt (by simp)).trans hh,r⟩
theorem OwnP6.lt{w:World}{base:Nat}{v:Value}{L:List P6}(h:OwnP6 w base v L):∀g,v.ownBlock=some g→base≤g:=fun g e=>(World.ownsRow.lt h g e).1
theorem ku{w0:World}(w:World){ops:Array Oper}{rest:List Oper}{o:Oper}{a:Act}{Q:Exit→Act→World→Prop}(hgd:o.guard=none)(sl x:Operand)
 (ho:o.op=.call {callee:=.builtin .append,args:=#[sl,x],argTypes:=#[61,61]})
 (v:Value) (L:List P6) (hs:a.eval sl=v) (hO:OwnP6 w w0.heap.size v L) (hB:But [] w0 w) (p:P6) {cs:Array Value} (hcs:cs.toList=dG p) {g:Nat} (hx:a.eval x=.slice (some ⟨g,0,none⟩) 1 1) (hI:Is w g 64 cs) (hbound:L.length<1000000)
 (h:∀A c w' M,M=L++[p]→OwnP6 w' w0.heap.size (.slice A M.length c) M→But [] w0 w'→(∀i t cs,Is w i t cs→t≠64∨i<w0.heap.size→Is w' i t cs)→(∀A n M,Pss w A n M→(∀g o,A=some ⟨g,o,none⟩→v.ownBlock≠some g)→Pss w' A n M)→(∀g,v.ownBlock≠some g→g<w.heap.size→(Value.slice A M.length c).ownBlock≠some g)→wpList prog ops Q rest (a.put o.dst (.slice A M.length c)) w'):wpList prog ops Q (o::rest) a w:=by
 obtain⟨i0,hi0,hz0,hz1,hz2⟩:=info_parts oJ;refine wpList_append_own_at w hgd sl x 61 ho w0.heap.size 64 i0 _ 6 48 underlying61 hi0 hz0 hz1 hz2 rfl (by decide) v L.length (bL L) hs hO ⟨g,0,none⟩ 1 1 cs.toList hx (by rw[hcs];rfl) (KB hI) (by rw[hcs];simp[Value.oneCell',dG]) (by unfold maxLen;omega) (by omega) hB.size ?_;intro v' w' hown hgrow _ hat;have hO2:OwnP6 w' w0.heap.size v' (L++[p]):=by
  unfold OwnP6;rw[List.length_append,my];have e:bL [p]=cs.toList:=by rw[hcs];simp[bL]
  rw[e];exact hown
 obtain⟨A,c,rfl,_⟩:=hO2.shape;refine h A c w' _ rfl hO2 (hB.grown hgrow (fun k e=>.inr (hO.lt k e))) (fun i t cs2 h1 h2=>h1.grown hgrow fun e=>?_) (fun A2 n M hP hne=>⟨hP.1,fun hn=>?_⟩) (fun g3 h3 h4 e=>?_)
 ·rcases h2 with h2|h2
  ·obtain⟨_,hcase⟩:=hO;rcases hcase with⟨rfl,_⟩|⟨g1,cap,cur,rfl,_,hh,_⟩
   ·cases e
   ·have e2:i=g1:=by simpa[Value.ownBlock]using e
    subst e2;unfold Is at h1;rw[h1]at hh;injection hh with hh;injection hh with _ h4 _;exact h2 h4
  ·have:=hO.lt i e.symm;omega
 ·obtain⟨g2,o2,e,hg,hc⟩:=hP.2 hn;refine⟨g2,o2,e,Nat.lt_of_lt_of_le hg hgrow.size,fun i k hi hk=>?_⟩;rw[←hc i k hi hk];have hb:=hgrow.block g2 hg (fun e2=>hne g2 o2 e e2.symm);simp[World.cell?,hb]
 ·rcases hat with hat|hat
  ·exact h3 (hat.symm.trans e)
  ·rw[hat]at e;have:w.heap.size=g3:=by simpa using e
   omega
theorem lK(w h:Nat)(B:List bj)(i:Nat):(aH w h B i).length≤B.length:=by
 unfold aH;rw[List.length_map];refine Nat.le_trans (List.length_filter_le _ _) ?_;rw[List.length_take];exact Nat.min_le_right _ _
def PsS(w:World)(g1 g3:Nat)(a b d c l:Int)(N:Nat)(M:List P6)(v:World):Prop:=Is v g1 33 #[a,b,d,c,l]∧Pss v (some ⟨g3,0,none⟩) N M∧But [] w v
theorem PsS.but{w v v':World}{g1 g3:Nat}{a b d c l:Int}{N:Nat}{M:List P6}(h:PsS w g1 g3 a b d c l N M v)(k:But [] v v'):PsS w g1 g3 a b d c l N M v':=⟨h.1.but k (by simp),h.2.1.but k,h.2.2.trans k⟩
theorem CN(w:World)(a b d c l:Int):
 Calls prog 38 #[.agg #[a,b,d,c,l]] w fun e w'=>∃A cap,e=.returned (.slice A (cy a b d c l).length cap)∧Pss w' A (cy a b d c l).length (cy a b d c l)∧(cy a b d c l).length≤cap∧But [] w w':=by
 have hE:=fun v=>EC v a b d c l
 by_cases h0:ak a b d c l≠0
 ·obtain⟨er,her⟩:=E1 (ak a b d c l);rw[zB h0];have h1:er=5∨er=24:=by rcases iJ a b d c l with h|h|h<;>simp_all
  simp only[←her]at hE;have HE:=qhz hE;have hI:=Is.fresh w 33 #[a,b,d,c,l];have HA:=qhz ((But.refl [] w).alloc (.cells #[a,b,d,c,l] 33));obtain⟨c0,c1,c2,c3,c4,_⟩:=hI.c5;clear hE her h0 hI;rcases h1 with rfl|rfl
  ·go_enter func38,ntmps38
   go_wp2_with fail
   refine(HE.out _).mono ?_;rintro e w1 ⟨rfl,hB⟩;have HB:=qhz (HA.out.trans hB);clear hB;go_wp2;go_ret;exact⟨none,0,rfl,Pss.nil _ _,Nat.le_refl _,HB.out⟩
  ·go_enter func38,ntmps38
   go_wp2_with fail
   refine(HE.out _).mono ?_;rintro e w1 ⟨rfl,hB⟩;have HB:=qhz (HA.out.trans hB);clear hB;go_wp2;go_ret;exact⟨none,0,rfl,Pss.nil _ _,Nat.le_refl _,HB.out⟩
 have h0:ak a b d c l=0:=by simpa using h0
 obtain⟨⟨a1,a2⟩,⟨b1,b2⟩,hab,hl,_⟩:=ii h0;obtain⟨W,rfl⟩:∃n:Nat,a=(n:Int):=⟨a.toNat,by omega⟩
 obtain⟨H,rfl⟩:∃n:Nat,b=(n:Int):=⟨b.toNat,by omega⟩
 rw[h0]at hE;have HE:=qhz hE;clear hE hab;rcases hl with rfl|rfl
 ·obtain⟨B,hB⟩:=E1 (gn 0);have hBl:B.length=1:=by rw[hB];rfl
  have hBs:∀p,p∈B→(p.x≤7∧p.y≤7)∧(1≤p.dx∧p.dx≤8)∧1≤p.dy∧p.dy≤8:=fun p hp=>gm (l:=0) (by rw[←hB];exact hp);have HR:Hid (cy (W:Int) (H:Int) d c 0=aH W H B 1):=qhz (by
   rw[rf h0,←hBl];unfold aH;rw[List.take_length,hB];rfl)
  have HB:=qhz hB;have HBl:=qhz hBl;have HBs:=qhz hBs;have HAL:Hid ((cy (W:Int) (H:Int) d c 0).length≤100):=qhz (by rw[HR.out];have:=lK W H B 1;omega);obtain⟨RR,hRR⟩:=E1 (cy (W:Int) (H:Int) d c 0);rw[←hRR]at HR⊢;clear hB hBl hBs h0 hRR HAL;obtain⟨i0,hi0,hz0,hz1,hz2⟩:=info_parts oJ;have hI:=Is.fresh w 33 #[W,H,d,c,(0:Int)];have hA:=(But.refl [] w).alloc (.cells #[W,H,d,c,(0:Int)] 33);obtain⟨g1,hg1⟩:=E1 w.heap.size;obtain⟨w0,hw0⟩:=E1 (w.alloc (.cells #[W,H,d,c,(0:Int)] 33));rw[←hg1,←hw0]at hI;rw[←hw0]at hA;have HI:=qhz hI;have HA:=qhz hA;have HG:=qhz hg1;obtain⟨c0,c1,c2,c3,c4,_⟩:=hI.c5;clear hI hA
  go_enter func38,ntmps38
  go_upto_region 1 with(fail)
  rw[←hw0,←hg1];clear hw0 hg1
  go_wp2_with fail
  refine(HE.out _).mono ?_;rintro e w1 ⟨rfl,hB1⟩;have hI1:=HI.out.but hB1 (by simp);have HB1:=qhz hB1;have HI1:=qhz hI1;clear hB1 hI1 c0 c1 c2 c3 c4
  go_upto_region 3 with(fail)
  go_cut [3]from 10 to 11 (fun v wx=>∃g,v=.slice (some ⟨g,0,none⟩) 1 1∧Hid (But [] w1 wx)∧Hid (Pss wx (some ⟨g,0,none⟩) 1 (bM.map b6)))
  case first=>
   go_wp2
   go_meet
   exact⟨_,rfl,qhz ((But.refl [] w1).alloc _),qhz (Pss.of (L:=bM.map b6) (Is.fresh _ _ _) rfl)⟩
  case rest=>
  obtain⟨g3,rfl,HBx,HPx⟩:=hcut;have hI2:=HI1.out.but HBx.out (by simp);have c4:=hI2.cell 4;have HS:Hid (PsS w g1 g3 W H d c 0 1 (B.map b6) wc):=qhz ⟨hI2,by rw[HB.out];exact HPx.out,(HA.out.trans HB1.out).trans HBx.out⟩;have HO:Hid (OwnP6 wc w.heap.size (.slice none 0 0) (aH W H B 0)):=qhz (OwnP6.nil _ _);clear hI2 HI HA HG HB1 HI1 HBx HPx
  go_wp2_with fail
  go_loopw [4,5] (fun ov iv wr=>∃i:Nat,i≤1∧iv=.int .i64 i∧Hid (OwnP6 wr w.heap.size ov (aH W H B i))∧Hid (ov.ownBlock≠some g3)∧Hid (PsS w g1 g3 W H d c 0 1 (B.map b6) wr)) (fun _ iv _=>1-(intOf iv).toNat)
  case atStart=>exact⟨0,Nat.zero_le _,rfl,HO,qhz (by simp[Value.ownBlock]),HS⟩
  case round=>
   clear HO HS;obtain⟨i,hi,rfl,HO,HNE,HS⟩:=hrel
   by_cases hlt:i<1
   ·obtain⟨g,o,q,e,hg,hq,k0,k1,k2,k3,k4,k5⟩:=HS.out.2.1.at hlt;injection e with e;injection e with e1 e2;subst e1 e2;rw[List.getElem?_map]at hq;obtain⟨p,hp,hqp⟩:=Option.map_eq_some_iff.1 hq;subst hqp;have hpm:=HBs.out p (List.mem_of_getElem? hp);have HNX:=qhz (ib (w:=W) (h:=H) hp);obtain⟨x,y,dx,dy⟩:=p;obtain⟨⟨s1,s2⟩,⟨s3,s4⟩,s5,s6⟩:=hpm;dsimp only at s1 s2 s3 s4 s5 s6;unfold b6 at k0 k1 k2 k3 k4 k5;dsimp only at k0 k1 k2 k3 k4 k5;rw[Nat.zero_add]at k0 k1 k2 k3 k4 k5;clear hq hp;obtain⟨j0,j1,hg1⟩:=HS.out.1.c2;have HLT:=qhz hg;obtain⟨mW,hmW⟩:=E1 (ay W x dx);obtain⟨mH,hmH⟩:=E1 (ay H y dy);have HM1:Hid (∀v,Calls prog 77 #[W,x,dx] v fun e w'=>e=.returned (.int .i64 (mW:Nat))∧v=w'):=qhz fun v=>by rw[hmW];exact oO v (by omega) (by omega) s3 (by omega)
    have HM2:Hid (∀v,Calls prog 77 #[H,y,dy] v fun e w'=>e=.returned (.int .i64 (mH:Nat))∧v=w'):=qhz fun v=>by rw[hmH];exact oO v (by omega) (by omega) s5 (by omega)
    have HSO:Hid (cj W H ⟨x,y,dx,dy⟩=decide (0<mW∧0<mH)):=qhz (by rw[hmW,hmH];rfl);have HP6:Hid (p6 W H ⟨x,y,dx,dy⟩=(x,y,dx,dy,mW,mH)):=qhz (by rw[hmW,hmH];rfl);have l1:mW≤1024:=by rw[hmW];exact Nat.le_trans (da _ _ _ s3) (by omega)
    have l2:mH≤1024:=by rw[hmH];exact Nat.le_trans (da _ _ _ s5) (by omega)
    clear hmW hmH;have hAl:=(But.refl [] wr).alloc (.cells #[x,y,dx,dy,mW,mH] 64);have HS2:=qhz (HS.out.but hAl);have HO2:=qhz (HO.out.but hAl);have HF9:Hid (Is ((wr.alloc (.cells #[x,y,dx,dy,mW,mH] 64)).alloc (.cells #[x,y,dx,dy,mW,mH] 64)) (wr.heap.size+1) 64 #[x,y,dx,dy,mW,mH]):=qhz (by
     have h:=Is.fresh (wr.alloc (.cells #[x,y,dx,dy,mW,mH] 64)) 64 #[x,y,dx,dy,mW,mH];rw[show(wr.alloc (.cells #[x,y,dx,dy,mW,mH] 64)).heap.size=wr.heap.size+1 by simp]at h;exact h)
    have HTL:Hid ((aH W H B i).length<1000000):=qhz (by have:=lK W H B i;have:=HBl.out;omega)
    by_cases hm:0<mW∧0<mH
    ·have HN:Hid (aH W H B (i+1)=aH W H B i++[(x,y,dx,dy,mW,mH)]):=qhz (by rw[HNX.out,HSO.out,if_pos (decide_eq_true hm),HP6.out]);obtain⟨hm1,hm2⟩:=hm
     go_wp2_with fail
     refine(HM1.out _).mono ?_;rintro e wz ⟨rfl,rfl⟩
     go_wp2_with fail
     refine(HM2.out _).mono ?_;rintro e wz ⟨rfl,rfl⟩
     go_wp2_with (at_builtin;refine ku (w0:=w) _ rfl _ _ rfl _ (aH W H B i) rfl (HO2.out.but ((But.refl [] _).alloc _)) (HS2.out.2.2.alloc _) (x,y,dx,dy,mW,mH) (cs:=#[.int .i64 x,.int .i64 y,.int .i64 dx,.int .i64 dy,.int .i64 mW,.int .i64 mH]) rfl rfl HF9.out HTL.out ?_)
     intro A9 c9 w9 hO9 hB9 hIs hPs hNe;have HNE9:Hid ((Value.slice A9 ((aH W H B i).length+1) c9).ownBlock≠some g3):=qhz (hNe _ HNE.out (by have:=HLT.out;simp;omega));have HS9:Hid (PsS w g1 g3 W H d c 0 1 (B.map b6) w9):=qhz ⟨hIs _ _ _ (HS2.out.1.but ((But.refl [] _).alloc _) (by simp)) (.inl (by decide)),hPs _ _ _ (HS2.out.2.1.but ((But.refl [] _).alloc _)) (fun g o e=>by injection e with e;injection e with e1 e2;subst e1;exact HNE.out),hB9⟩;have HO9:Hid (OwnP6 w9 w.heap.size (.slice A9 ((aH W H B i).length+1) c9) (aH W H B (i+1))):=qhz (by rw[HN.out];exact hO9);clear hIs hPs hNe hO9 hB9;go_wp2
     go_roundw
     case rel=>exact⟨i+1,by omega,by go_num,HO9,HNE9,HS9⟩
     case measure=>simp[intOf]<;>omega
    ·have HN:Hid (aH W H B (i+1)=aH W H B i):=qhz (by rw[HNX.out,HSO.out,if_neg (by simpa using hm),List.append_nil])
     by_cases hm1:0<mW
     ·have hm2:¬0<mH:=fun h=>hm ⟨hm1,h⟩;clear hm
      go_wp2_with fail
      refine(HM1.out _).mono ?_;rintro e wz ⟨rfl,rfl⟩
      go_wp2_with fail
      refine(HM2.out _).mono ?_;rintro e wz ⟨rfl,rfl⟩
      go_wp2_with fail
      go_roundw
      case rel=>exact⟨i+1,by omega,by go_num,qhz (by rw[HN.out];exact HO2.out),HNE,HS2⟩
      case measure=>simp[intOf]<;>omega
     ·clear hm
      go_wp2_with fail
      refine(HM1.out _).mono ?_;rintro e wz ⟨rfl,rfl⟩
      go_wp2_with fail
      refine(HM2.out _).mono ?_;rintro e wz ⟨rfl,rfl⟩
      go_wp2_with fail
      go_roundw
      case rel=>exact⟨i+1,by omega,by go_num,qhz (by rw[HN.out];exact HO2.out),HNE,HS2⟩
      case measure=>simp[intOf]<;>omega
   ·obtain rfl:i=1:=by omega
    obtain⟨A,cp,rfl,hcp⟩:=HO.out.shape;have hps:=HO.out.pss;go_wp2;go_ret;refine⟨A,cp,?_,?_,?_,HS.out.2.2⟩
    ·rw[HR.out];rfl
    ·rw[HR.out];exact hps
    ·rw[HR.out];exact hcp
 ·obtain⟨B,hB⟩:=E1 (gn 1);have hBl:B.length=7:=by rw[hB];rfl
  have hBs:∀p,p∈B→(p.x≤7∧p.y≤7)∧(1≤p.dx∧p.dx≤8)∧1≤p.dy∧p.dy≤8:=fun p hp=>gm (l:=1) (by rw[←hB];exact hp);have HR:Hid (cy (W:Int) (H:Int) d c 1=aH W H B 7):=qhz (by
   rw[rf h0,←hBl];unfold aH;rw[List.take_length,hB];rfl)
  have HB:=qhz hB;have HBl:=qhz hBl;have HBs:=qhz hBs;have HAL:Hid ((cy (W:Int) (H:Int) d c 1).length≤100):=qhz (by rw[HR.out];have:=lK W H B 7;omega);obtain⟨RR,hRR⟩:=E1 (cy (W:Int) (H:Int) d c 1);rw[←hRR]at HR⊢;clear hB hBl hBs h0 hRR HAL;obtain⟨i0,hi0,hz0,hz1,hz2⟩:=info_parts oJ;have hI:=Is.fresh w 33 #[W,H,d,c,(1:Int)];have hA:=(But.refl [] w).alloc (.cells #[W,H,d,c,(1:Int)] 33);obtain⟨g1,hg1⟩:=E1 w.heap.size;obtain⟨w0,hw0⟩:=E1 (w.alloc (.cells #[W,H,d,c,(1:Int)] 33));rw[←hg1,←hw0]at hI;rw[←hw0]at hA;have HI:=qhz hI;have HA:=qhz hA;have HG:=qhz hg1;obtain⟨c0,c1,c2,c3,c4,_⟩:=hI.c5;clear hI hA
  go_enter func38,ntmps38
  go_upto_region 1 with(fail)
  rw[←hw0,←hg1];clear hw0 hg1
  go_wp2_with fail
  refine(HE.out _).mono ?_;rintro e w1 ⟨rfl,hB1⟩;have hI1:=HI.out.but hB1 (by simp);have HB1:=qhz hB1;have HI1:=qhz hI1;clear hB1 hI1 c0 c1 c2 c3 c4
  go_upto_region 3 with(fail)
  go_cut [3]from 10 to 11 (fun v wx=>∃g,v=.slice (some ⟨g,0,none⟩) 1 1∧Hid (But [] w1 wx)∧Hid (Pss wx (some ⟨g,0,none⟩) 1 (bM.map b6)))
  case first=>
   go_wp2
   go_meet
   exact⟨_,rfl,qhz ((But.refl [] w1).alloc _),qhz (Pss.of (L:=bM.map b6) (Is.fresh _ _ _) rfl)⟩
  case rest=>
  obtain⟨g3,rfl,HBx,HPx⟩:=hcut;have hI2:=HI1.out.but HBx.out (by simp);have c4:=hI2.cell 4
  go_upto_region 5 with(fail)
  go_cut [3]from 15 to 22 (fun v wy=>∃g,v=.slice (some ⟨g,0,none⟩) 7 7∧Hid (But [] wc wy)∧Hid (Pss wy (some ⟨g,0,none⟩) 7 (fL.map b6)))
  case first=>
   clear hI2 c4;go_wp2
   go_meet
   exact⟨_,rfl,qhz ((But.refl [] wc).alloc _),qhz (Pss.of (L:=fL.map b6) (Is.fresh _ _ _) rfl)⟩
  case rest=>
  obtain⟨w5,hw5⟩:=E1 wc;obtain⟨g5,rfl,HBy,HPy⟩:=hcut;have HS:Hid (PsS w g1 g5 W H d c 1 7 (B.map b6) wc):=qhz ⟨hI2.but HBy.out (by simp),by rw[HB.out];exact HPy.out,((HA.out.trans HB1.out).trans HBx.out).trans HBy.out⟩;have HO:Hid (OwnP6 wc w.heap.size (.slice none 0 0) (aH W H B 0)):=qhz (OwnP6.nil _ _);clear hI2 c4 HI HA HG HB1 HI1 HBx HPx HBy HPy
  go_wp2_with fail
  go_loopw [4,5] (fun ov iv wr=>∃i:Nat,i≤7∧iv=.int .i64 i∧Hid (OwnP6 wr w.heap.size ov (aH W H B i))∧Hid (ov.ownBlock≠some g5)∧Hid (PsS w g1 g5 W H d c 1 7 (B.map b6) wr)) (fun _ iv _=>7-(intOf iv).toNat)
  case atStart=>exact⟨0,Nat.zero_le _,rfl,HO,qhz (by simp[Value.ownBlock]),HS⟩
  case round=>
   clear HO HS;obtain⟨i,hi,rfl,HO,HNE,HS⟩:=hrel
   by_cases hlt:i<7
   ·obtain⟨g,o,q,e,hg,hq,k0,k1,k2,k3,k4,k5⟩:=HS.out.2.1.at hlt;injection e with e;injection e with e1 e2;subst e1 e2;rw[List.getElem?_map]at hq;obtain⟨p,hp,hqp⟩:=Option.map_eq_some_iff.1 hq;subst hqp;have hpm:=HBs.out p (List.mem_of_getElem? hp);have HNX:=qhz (ib (w:=W) (h:=H) hp);obtain⟨x,y,dx,dy⟩:=p;obtain⟨⟨s1,s2⟩,⟨s3,s4⟩,s5,s6⟩:=hpm;dsimp only at s1 s2 s3 s4 s5 s6;unfold b6 at k0 k1 k2 k3 k4 k5;dsimp only at k0 k1 k2 k3 k4 k5;rw[Nat.zero_add]at k0 k1 k2 k3 k4 k5;clear hq hp;obtain⟨j0,j1,hg1⟩:=HS.out.1.c2;have HLT:=qhz hg;obtain⟨mW,hmW⟩:=E1 (ay W x dx);obtain⟨mH,hmH⟩:=E1 (ay H y dy);have HM1:Hid (∀v,Calls prog 77 #[W,x,dx] v fun e w'=>e=.returned (.int .i64 (mW:Nat))∧v=w'):=qhz fun v=>by rw[hmW];exact oO v (by omega) (by omega) s3 (by omega)
    have HM2:Hid (∀v,Calls prog 77 #[H,y,dy] v fun e w'=>e=.returned (.int .i64 (mH:Nat))∧v=w'):=qhz fun v=>by rw[hmH];exact oO v (by omega) (by omega) s5 (by omega)
    have HSO:Hid (cj W H ⟨x,y,dx,dy⟩=decide (0<mW∧0<mH)):=qhz (by rw[hmW,hmH];rfl);have HP6:Hid (p6 W H ⟨x,y,dx,dy⟩=(x,y,dx,dy,mW,mH)):=qhz (by rw[hmW,hmH];rfl);have l1:mW≤1024:=by rw[hmW];exact Nat.le_trans (da _ _ _ s3) (by omega)
    have l2:mH≤1024:=by rw[hmH];exact Nat.le_trans (da _ _ _ s5) (by omega)
    clear hmW hmH;have hAl:=(But.refl [] wr).alloc (.cells #[x,y,dx,dy,mW,mH] 64);have HS2:=qhz (HS.out.but hAl);have HO2:=qhz (HO.out.but hAl);have HF9:Hid (Is ((wr.alloc (.cells #[x,y,dx,dy,mW,mH] 64)).alloc (.cells #[x,y,dx,dy,mW,mH] 64)) (wr.heap.size+1) 64 #[x,y,dx,dy,mW,mH]):=qhz (by
     have h:=Is.fresh (wr.alloc (.cells #[x,y,dx,dy,mW,mH] 64)) 64 #[x,y,dx,dy,mW,mH];rw[show(wr.alloc (.cells #[x,y,dx,dy,mW,mH] 64)).heap.size=wr.heap.size+1 by simp]at h;exact h)
    have HTL:Hid ((aH W H B i).length<1000000):=qhz (by have:=lK W H B i;have:=HBl.out;omega)
    by_cases hm:0<mW∧0<mH
    ·have HN:Hid (aH W H B (i+1)=aH W H B i++[(x,y,dx,dy,mW,mH)]):=qhz (by rw[HNX.out,HSO.out,if_pos (decide_eq_true hm),HP6.out]);obtain⟨hm1,hm2⟩:=hm
     go_wp2_with fail
     refine(HM1.out _).mono ?_;rintro e wz ⟨rfl,rfl⟩
     go_wp2_with fail
     refine(HM2.out _).mono ?_;rintro e wz ⟨rfl,rfl⟩
     go_wp2_with (at_builtin;refine ku (w0:=w) _ rfl _ _ rfl _ (aH W H B i) rfl (HO2.out.but ((But.refl [] _).alloc _)) (HS2.out.2.2.alloc _) (x,y,dx,dy,mW,mH) (cs:=#[.int .i64 x,.int .i64 y,.int .i64 dx,.int .i64 dy,.int .i64 mW,.int .i64 mH]) rfl rfl HF9.out HTL.out ?_)
     intro A9 c9 w9 hO9 hB9 hIs hPs hNe;have HNE9:Hid ((Value.slice A9 ((aH W H B i).length+1) c9).ownBlock≠some g5):=qhz (hNe _ HNE.out (by have:=HLT.out;simp;omega));have HS9:Hid (PsS w g1 g5 W H d c 1 7 (B.map b6) w9):=qhz ⟨hIs _ _ _ (HS2.out.1.but ((But.refl [] _).alloc _) (by simp)) (.inl (by decide)),hPs _ _ _ (HS2.out.2.1.but ((But.refl [] _).alloc _)) (fun g o e=>by injection e with e;injection e with e1 e2;subst e1;exact HNE.out),hB9⟩;have HO9:Hid (OwnP6 w9 w.heap.size (.slice A9 ((aH W H B i).length+1) c9) (aH W H B (i+1))):=qhz (by rw[HN.out];exact hO9);clear hIs hPs hNe hO9 hB9;go_wp2
     go_roundw
     case rel=>exact⟨i+1,by omega,by go_num,HO9,HNE9,HS9⟩
     case measure=>simp[intOf]<;>omega
    ·have HN:Hid (aH W H B (i+1)=aH W H B i):=qhz (by rw[HNX.out,HSO.out,if_neg (by simpa using hm),List.append_nil])
     by_cases hm1:0<mW
     ·have hm2:¬0<mH:=fun h=>hm ⟨hm1,h⟩;clear hm
      go_wp2_with fail
      refine(HM1.out _).mono ?_;rintro e wz ⟨rfl,rfl⟩
      go_wp2_with fail
      refine(HM2.out _).mono ?_;rintro e wz ⟨rfl,rfl⟩
      go_wp2_with fail
      go_roundw
      case rel=>exact⟨i+1,by omega,by go_num,qhz (by rw[HN.out];exact HO2.out),HNE,HS2⟩
      case measure=>simp[intOf]<;>omega
     ·clear hm
      go_wp2_with fail
      refine(HM1.out _).mono ?_;rintro e wz ⟨rfl,rfl⟩
      go_wp2_with fail
      refine(HM2.out _).mono ?_;rintro e wz ⟨rfl,rfl⟩
      go_wp2_with fail
      go_roundw
      case rel=>exact⟨i+1,by omega,by go_num,qhz (by rw[HN.out];exact HO2.out),HNE,HS2⟩
      case measure=>simp[intOf]<;>omega
   ·obtain rfl:i=7:=by omega
    obtain⟨A,cp,rfl,hcp⟩:=HO.out.shape;have hps:=HO.out.pss;go_wp2;go_ret;refine⟨A,cp,?_,?_,?_,HS.out.2.2⟩
    ·rw[HR.out];rfl
    ·rw[HR.out];exact hps
    ·rw[HR.out];exact hcp
end Go.Proofs.YtbanopnofpjnbaaGreatDoor
