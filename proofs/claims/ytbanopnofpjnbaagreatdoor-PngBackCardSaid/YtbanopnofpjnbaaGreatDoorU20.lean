/- Own texts in one: FiP, EfH, DgN, ZlB, HpB. -/
import Derived.Test.YtbanopnofpjnbaaGreatDoorU14
import Derived.Test.YtbanopnofpjnbaaGreatDoorU18
import Derived.Test.YtbanopnofpjnbaaGreatDoorU19
set_option maxRecDepth 1000000
set_option linter.unusedVariables false
set_option maxHeartbeats 4000000
namespace Go.Proofs.YtbanopnofpjnbaaGreatDoor
open Go Go.RowKit Tryz
section
def sumC(f:Nat→Nat):Array Value:=#[.int .i64 (f 0:Nat),.int .i64 (f 1:Nat),.int .i64 (f 2:Nat),.int .i64 (f 3:Nat),.int .i64 (f 4:Nat)]
theorem P3(f:Nat→Nat){k:Nat}(hk:k<5):(sumC f)[k]? =some (.int .i64 (f k:Nat)):=by
 match k,hk with
 |0,_=>rfl
 |1,_=>rfl
 |2,_=>rfl
 |3,_=>rfl
 |4,_=>rfl
theorem Nh(f:Nat→Nat){k:Nat}(hk:k<5)(x:Nat):(sumC f).setIfInBounds k (.int .i64 (x:Nat))=sumC fun j=>if j=k then x else f j:=by
 match k,hk with
 |0,_=>rfl
 |1,_=>rfl
 |2,_=>rfl
 |3,_=>rfl
 |4,_=>rfl
theorem P2{f h:Nat→Nat}(e:∀j,j<5→f j=h j):sumC f=sumC h:=by
 unfold sumC;rw[e 0 (by omega),e 1 (by omega),e 2 (by omega),e 3 (by omega),e 4 (by omega)]
theorem II(f:Nat→Nat){k:Nat}(hk:k<5)(w:World):(Instr.index 130 (.agg (sumC f)) (.int .i64 (k:Int))).run prog w=.ok (.int .i64 (f k:Nat)) w:=by
 match k,hk with
 |0,_=>rfl
 |1,_=>rfl
 |2,_=>rfl
 |3,_=>rfl
 |4,_=>rfl
def PickS(w v:World)(g b0:Nat)(l:List UInt8)(f:Nat→Nat):Prop:=RowF v g l∧Is v b0 130 (sumC f)∧g≠b0∧w.heap.size≤b0∧But [] w v
section
variable {w v v':World} {g b0:Nat} {l:List UInt8} {f h:Nat→Nat}
theorem PickS.but(s:PickS w v g b0 l f)(k:But [] v v'):PickS w v' g b0 l f:=⟨s.1.but k,s.2.1.but k (by simp),s.2.2.1,s.2.2.2.1,s.2.2.2.2.trans k⟩
theorem PickS.eq(s:PickS w v g b0 l f)(e:∀j,j<5→f j=h j):PickS w v g b0 l h:=⟨s.1,by rw[←P2 e];exact s.2.1,s.2.2⟩
theorem PickS.put(s:PickS w v g b0 l f){k:Nat}(hk:k<5)(x:Nat):PickS w (v.setCell ⟨b0,k,none⟩ (.int .i64 (x:Nat))) g b0 l fun j=>if j=k then x else f j:=
 ⟨s.1.far (p:=⟨b0,k,none⟩) s.2.2.1 _,by rw[←Nh f hk];exact s.2.1.put k _,s.2.2.1,s.2.2.2.1,s.2.2.2.2.setCell (p:=⟨b0,k,none⟩) (.inr s.2.2.2.1) _⟩
theorem PickS.sum(s:PickS w v g b0 l f){k:Nat}(hk:k<5):v.cell? ⟨b0,k,none⟩=some (.int .i64 (f k:Nat)):=(s.2.1.cell k).trans (P3 f hk)
end
theorem Mp(c:Nat→Nat)(k:Nat):(bstF c (k+1)).2=c (bstF c (k+1)).1:=(zu c k).2.1
theorem Pa(c:Nat→Nat)(k:Nat):(bstF c (k+1)).1=if c k<c (bstF c k).1 then k else(bstF c k).1:=by
 rw[uh];cases k with
 |zero=>rw[if_pos (.inl rfl)];show 0=if c 0<c 0 then 0 else 0;split<;>rfl
 |succ k=>
  rw[Mp]
  by_cases h:c (k+1)<c (bstF c (k+1)).1
  ·rw[if_pos (.inr h),if_pos h]
  ·rw[if_neg (by omega),if_neg h]
theorem Ka(w:World)(bpp:Int)(s t:ByteArray)(hs:s.size≤140737488351232)(ht:t.size≤140737488351232):
 Calls prog 63 #[bpp,s,t] w (R1z (.tuple #[(zw bpp s t:Nat),.int .i64 (bO bpp s t)]) w):=by
 have hF:=fun v=>Km v bpp s t (by omega) (by omega)
 by_cases h0:bO bpp s t≠0
 ·have h1:bO bpp s t=1:=by rcases kJ bpp s t with h|h;exact absurd h h0;exact h
  rw[zv h0,h1];rw[decide_eq_false h0]at hF;have HF:=qhz hF;clear hF h0 h1
  go_enter func63,ntmps63
  go_wp2_with fail
  refine(HF.out _).mono ?_;rintro e w1 ⟨rfl,rfl⟩;go_wp2
  go_ret2
  exact⟨rfl,But.refl [] _⟩
 have h0:bO bpp s t=0:=by simpa using h0
 obtain⟨hb1,hb8,hts⟩:=rG h0;obtain⟨n,rfl⟩:∃n:Nat,bpp=(n:Int):=⟨bpp.toNat,by omega⟩
 have hn1:1≤n:=by omega
 have hn8:n≤8:=by omega
 rw[rd h0,h0];rw[decide_eq_true h0]at hF;have HF:=qhz hF;have HTS:=qhz hts;obtain⟨X,hX⟩:∃X:Nat→List UInt8,X=fun k=>doF (k:Nat) n s.data.toList t.data.toList:=⟨_,rfl⟩
 have hll:s.data.toList.length=s.size:=Array.length_toList;have hXl:∀k,(X k).length=s.size:=fun k=>by rw[hX];dsimp only;rw[cq,hll]
 obtain⟨c,hc⟩:∃c:Nat→Nat→Nat,c=fun i k=>kG ((X k).take i):=⟨_,rfl⟩
 have hR:kC n s.data.toList t.data.toList=(bstF (c s.size) 5).1:=by
  have e:c s.size=fun k=>kG (X k):=by
   rw[hc]
   funext k
   dsimp only;rw[List.take_of_length_le (by rw[hXl];exact Nat.le_refl _)]
  unfold kC;rw[e,hX];rfl
 have hcl:∀i k,c i k≤18014398508957696:=fun i k=>by
  rw[hc];dsimp only;have h:=oV (X k) i (B:=140737488351232) (by rw[hXl];exact hs);omega
 have hc0:∀k,c 0 k=0:=fun k=>by rw[hc];dsimp only;rw[List.take_zero];rfl
 have hcn:∀i k,i<s.size→c (i+1) k=c i k+farB ((X k).getD i 0):=fun i k hi=>by
  rw[hc];dsimp only;rw[vT _ (by rw[hXl];exact hi)]
 have hXa:∀i (k:Nat),i<s.size→(X k).getD i 0=s.data.toList.getD i 0-gz (k:Int) n s.data.toList t.data.toList i:=fun i k hi=>by
  rw[hX];dsimp only;rw[EG _ _ _ _ (by rw[hll];exact hi)]
 have HR:=qhz hR;have HCL:=qhz hcl;have HC0:=qhz hc0;have HCN:=qhz hcn;have HXA:=qhz hXa;have HLL:=qhz hll;clear hF h0 hts hb1 hb8 hX hXl hc hR hcl hc0 hcn hXa hll;have kc:=nY w s;have hro:=ob w s;have hrb:=od w s;have hcap:=iP w s.size 5;obtain⟨c1,hc1⟩:=E1 (grownCap w s.size 0 5);rw[←hc1]at kc hcap;obtain⟨w5,hw5⟩:=E1 (BE w s);rw[←hw5]at kc hro hrb;clear hc1 hw5;obtain⟨g,hg⟩:=E1 w.heap.size;rw[←hg]at kc hro;have hI5:=Is.fresh w5 130 #[(0:Int),(0:Int),(0:Int),(0:Int),(0:Int)];have hA5:=(But.refl [] w5).alloc (.cells #[(0:Int),(0:Int),(0:Int),(0:Int),(0:Int)] 130);have HS0:Hid (PickS w (w5.alloc (.cells #[(0:Int),(0:Int),(0:Int),(0:Int),(0:Int)] 130)) g w5.heap.size s.data.toList (c 0)):=qhz (by
  refine⟨hro.but hA5,?_,by have:=hro.lt;omega,hrb.size,hrb.trans hA5⟩;have e:sumC (c 0)=#[.int .i64 0,.int .i64 0,.int .i64 0,.int .i64 0,.int .i64 0]:=by
   unfold sumC;rw[HC0.out,HC0.out,HC0.out,HC0.out,HC0.out];rfl
  rw[e];exact hI5)
 clear hro hrb hg hI5 hA5
 go_enter func63,ntmps63
 go_wp2_with fail
 refine(HF.out _).mono ?_;rintro e wz ⟨rfl,rfl⟩
 go_wp2_with fail
 obtain⟨b0,hb0⟩:=E1 w5.heap.size;rw[←hb0]at HS0⊢;obtain⟨w6,hw6⟩:=E1 (w5.alloc (.cells #[(0:Int),(0:Int),(0:Int),(0:Int),(0:Int)] 130));rw[←hw6]at HS0⊢;clear hb0 hw6 kc
 go_loopw [26] (fun kv wr=>∃i:Nat,i≤s.size∧kv=.int .i64 i∧Hid (PickS w wr g b0 s.data.toList (c i))) (fun kv _=>s.size-(intOf kv).toNat)
 case atStart=>exact⟨0,Nat.zero_le _,rfl,HS0⟩
 case round=>
  clear HS0;obtain⟨k,hk,rfl,HS⟩:=hrel
  by_cases hlt:k<s.size
  ·obtain⟨qa,hqa⟩:=E1 (bU s.data.toList n k);obtain⟨qb,hqb⟩:=E1 ((t.data.toList.getD k 0).toNat);obtain⟨qc,hqc⟩:=E1 (bU t.data.toList n k);have la:qa<256:=by rw[hqa];exact fj _ _ _
   have lb:qb<256:=by rw[hqb];exact UInt8.toNat_lt _
   have lc:qc<256:=by rw[hqc];exact fj _ _ _
   obtain⟨b,hb⟩:=E1 ((s.data.toList.getD k 0).toNat);have hcb:wr.cell? ⟨g,k,none⟩=some (.int .u8 (b:Nat)):=by rw[hb];exact HS.out.1.cell (by rw[HLL.out];exact hlt)
   have hb256:b<256:=by rw[hb];exact UInt8.toNat_lt _
   have HP:Hid (Calls prog 106 #[n,.int .i64 k,.slice g s.size c1,t] wr (R1z (preV qa qb qc) wr)):=qhz (by
    rw[hqa,hqb,hqc];exact xj wr hn1 hn8 hlt hs hcap HS.out.1.lt (fun i hi=>HS.out.1.cell (by rw[HLL.out];omega)) HTS.out)
   have HIX:Hid (∀(m:Nat) v,m≤4→(Instr.index 131 (preV qa qb qc) (.int .i64 (m:Int))).run prog v=.ok (.int .u8 (fx (m:Int) qa qb qc:Nat)) v):=qhz fun m v hm=>sN hm la lb v;obtain⟨V,hV⟩:=E1 (preV qa qb qc);have HFO:Hid (∀m:Nat,(gz (m:Int) n s.data.toList t.data.toList k).toNat=fx (m:Int) qa qb qc):=qhz (fun m=>by
    have hp:=lR (m:Int) la lb lc;unfold gz;rw[←hqa,←hqb,←hqc,UInt8.toNat_ofNat'];omega)
   rw[←hV]at HIX HP;have HBB:=qhz hb;clear hqa hqb hqc hV hb
   go_wp2_with fail
   refine HP.out.mono ?_;rintro e w7 ⟨rfl,hB7⟩;have HS7:=qhz (HS.out.but hB7);clear hB7 HP hcb HS
   go_wp2_with fail
   go_loopw [36] (fun kv wx=>∃m:Nat,m≤5∧kv=.int .i64 m∧Hid (PickS w wx g b0 s.data.toList (fun j=>if j<m then c (k+1) j else c k j))) (fun kv _=>5-(intOf kv).toNat)
   case atStart=>exact⟨0,Nat.zero_le _,rfl,qhz (HS7.out.eq fun j _=>by rw[if_neg (by omega)])⟩
   case round=>
    clear HS7;obtain⟨m,hm,rfl,HS8⟩:=hrel
    by_cases hm5:m<5
    ·have hix:=fun v=>HIX.out m v (by omega);obtain⟨p,hp⟩:=E1 (fx (m:Int) qa qb qc);have hp256:p<256:=by rw[hp];exact lR _ la lb lc
     rw[←hp]at hix;obtain⟨y,hy⟩:=E1 ((X m).getD k 0);obtain⟨z,hz⟩:=E1 (y.toNat:Nat);have hz256:z<256:=by rw[hz];exact y.toNat_lt
     have ew:IntKind.u8.wrap ((b:Int)-(p:Int))=(z:Int):=by
      rw[hz,hy,HXA.out k m hlt,UInt8.toNat_sub,HFO.out,←HBB.out,←hp,IntKind.wrap_u8];omega
     obtain⟨q,hq⟩:=E1 (farB y);have HSZ:Hid (∀v,Calls prog 107 #[.int .u8 (z:Int)] v fun e w'=>e=.returned (.int .i64 (q:Nat))∧v=w'):=qhz fun v=>by
      have h:=JW v z hz256;rw[hz,UInt8.ofNat_toNat,←hq]at h;rw[hz];exact h
     obtain⟨a,ha⟩:=E1 (c k m);have ha2:a≤18014398508957696:=by rw[ha];exact HCL.out k m
     have hq2:q≤128:=by rw[hq];exact Lu y
     have haq:c (k+1) m=a+q:=by rw[HCN.out k m hlt,←hy,←hq,←ha]
     have hcell:wr.drew.cell? ⟨b0,m,none⟩=some (.int .i64 (a:Nat)):=by
      have h:=(HS8.out.but ((But.refl [] _).drew)).sum hm5;rw[if_neg (by omega),←ha]at h;exact h
     have hfree:wr.drew.frozen? ⟨b0,m,none⟩=false:=(HS8.out.but ((But.refl [] _).drew)).2.1.free m;have HS9:Hid (PickS w (wr.drew.setCell ⟨b0,m,none⟩ (.int .i64 ((a:Int)+(q:Int)))) g b0 s.data.toList (fun j=>if j<m+1 then c (k+1) j else c k j)):=qhz (by
      have h:=(HS8.out.but ((But.refl [] _).drew)).put hm5 (a+q);rw[Int.natCast_add]at h;refine h.eq fun j _=>?_
      by_cases hj:j=m
      ·rw[if_pos hj,hj,if_pos (by omega),haq]
      ·rw[if_neg hj]
       by_cases hjm:j<m
       ·rw[if_pos hjm,if_pos (by omega)]
       ·rw[if_neg hjm,if_neg (by omega)])
     have m0:(0:Int)≤(m:Int):=by omega
     have m1:(m:Int)<5:=by omega
     clear hp hy hz hq ha haq HS8
     go_upto_region 11 with(fail)
     go_region_with (refine(HSZ.out _).mono ?_;rintro e w6 ⟨rfl,rfl⟩)
     all_goals go_wp2
     all_goals exact⟨⟨m+1,by omega,by go_num,HS9⟩,by simp[intOf]<;>omega⟩
    ·obtain rfl:m=5:=by omega
     have HS9:=qhz (HS8.out.eq (h:=c (k+1)) fun j hj=>if_pos hj);go_wp2
     go_roundw
     case rel=>exact⟨k+1,by omega,by go_num,HS9⟩
     case measure=>simp[intOf]<;>omega
  ·obtain rfl:k=s.size:=by omega
   obtain⟨d,hd⟩:=E1 (c s.size);rw[←hd]at HS HR;have hdl:∀j,d j≤18014398508957696:=fun j=>by rw[hd];exact HCL.out _ _
   have HDL:=qhz hdl;have e0:=HS.out.sum (k:=0) (by omega);have e1:=HS.out.sum (k:=1) (by omega);have e2:=HS.out.sum (k:=2) (by omega);have e3:=HS.out.sum (k:=3) (by omega);have e4:=HS.out.sum (k:=4) (by omega);have HIX:Hid (∀(m:Nat) v,m<5→(Instr.index 130 (.agg #[(d 0:Nat),(d 1:Nat),(d 2:Nat),(d 3:Nat),(d 4:Nat)]) (.int .i64 (m:Int))).run prog v=.ok (.int .i64 (d m:Nat)) v):=qhz fun m v hm=>II d hm v;clear hd hdl
   go_wp2_with fail
   go_loopw [14,52] (fun bv kv wx=>∃m b:Nat,m≤5∧kv=.int .i64 m∧bv=.int .i64 b∧Hid (b=(bstF d m).1)∧Hid (PickS w wx g b0 s.data.toList d)) (fun _ kv _=>5-(intOf kv).toNat)
   case atStart=>exact⟨0,0,Nat.zero_le _,rfl,rfl,qhz rfl,HS⟩
   case round=>
    clear e0 e1 e2 e3 e4 HS;obtain⟨m,b,hm,rfl,rfl,HB,HS⟩:=hrel
    by_cases hm5:m<5
    ·have hix:=fun v=>HIX.out m v hm5;have hbm:b≤m:=by rw[HB.out];exact(C7 d HDL.out m).2
     have hcell:=HS.out.sum (k:=b) (by omega);have HON:Hid ((bstF d (m+1)).1=if d m<d b then m else b):=qhz (by rw[Pa,←HB.out]);obtain⟨x,hx⟩:=E1 (d m);obtain⟨u,hu⟩:=E1 (d b);rw[←hx]at hix HON;rw[←hu]at hcell HON;have i0:(0:Int)≤(b:Int):=by omega
     have i1:(b:Int)<5:=by omega
     have m0:(0:Int)≤(m:Int):=by omega
     have m1:(m:Int)<5:=by omega
     clear hx hu
     by_cases hxu:x<u
     ·have HN:Hid (m=(bstF d (m+1)).1):=qhz (by rw[HON.out,if_pos hxu]);go_wp2
      go_roundw
      case rel=>exact⟨m+1,m,by omega,by go_num,by first|rfl|go_num,HN,HS⟩
      case measure=>simp[intOf]<;>omega
     ·have HN:Hid (b=(bstF d (m+1)).1):=qhz (by rw[HON.out,if_neg hxu]);go_wp2
      go_roundw
      case rel=>exact⟨m+1,b,by omega,by go_num,by first|rfl|go_num,HN,HS⟩
      case measure=>simp[intOf]<;>omega
    ·obtain rfl:m=5:=by omega
     have HE:Hid (kC n s.data.toList t.data.toList=b):=qhz (by rw[HR.out,←HB.out]);go_wp2
     go_ret2
     exact⟨by rw[HE.out];rfl,HS.out.2.2.2.2⟩
end
section
theorem MB(l:List UInt8):dH l=if(aI (dynL l)).size<(if(aI (cm l)).size<(aI (dE l)).size then aI (cm l)else aI (dE l)).size then aI (dynL l)else if(aI (cm l)).size<(aI (dE l)).size then aI (cm l)else aI (dE l):=rfl
attribute [local irreducible] layB dE aI cm dynL dH
end
section
theorem CH(l:List UInt8):Au (toks l)=cm l:=rfl
attribute [local irreducible] bC layC layB fixL fixD toks aI dynL dE cm dH
def bk(a b c:ByteArray)(k:Nat):ByteArray:=if k=0 then a else
 let d:=if b.size<a.size then b else a
 if k=1 then d else if c.size<d.size then c else d
theorem zy(w:World)(hG:GD w){s:ByteArray}(hs:s.size≤10000):
 Calls prog 71 #[s] w (R1z (.string (dH s.data.toList)) w):=by
 have hal:=wE s.data.toList;have hln:=bP s;have hty:=gR s.data.toList;have HTK:=qhz (Fb w (s:=s) (by omega));have hX:=CH s.data.toList;have hn:(toks s.data.toList).length≤10000:=by omega
 obtain⟨n,hnP⟩:=E1 ((toks s.data.toList).length);rw[←hnP]at hn;have hBE:=MB s.data.toList;have hST:=fun v=>Bt v (s:=s) (by omega);have hFX:=fun(v:World) (A:Option Addr) (c:Nat) (hK:Tks v A n ((toks s.data.toList).map tkI))=>GF v (c:=c) hK hn hty;have hDY:=fun(v:World) (A:Option Addr) (c:Nat) (hg:GD v) (hK:Tks v A n ((toks s.data.toList).map tkI))=>AE v hg (c:=c) hK hn;rw[hX]at hFX;obtain⟨a,ha⟩:=E1 (aI (dE s.data.toList));obtain⟨b,hb⟩:=E1 (aI (cm s.data.toList));obtain⟨c,hc⟩:=E1 (aI (dynL s.data.toList));simp only[←ha]at hST hBE;simp only[←hb]at hFX hBE;simp only[←hc]at hDY hBE;have hbk:bk a b c 2=dH s.data.toList:=by
  rw[hBE];rfl
 have HST:=qhz hST;have HFX:=qhz hFX;have HDY:=qhz hDY;have HBK:=qhz hbk;have HN:=qhz hnP;have HG:=qhz hG;clear hal hln hnP hty hX hBE hST hFX hDY hbk hG ha hb hc
 go_enter func71,ntmps71
 go_wp2_with fail
 refine HTK.out.mono ?_;rintro e w1 ⟨v,rfl,hO,hB⟩;obtain⟨A1,c1,rfl,hT1⟩:=hO.open;rw[List.length_map,←HN.out]at hT1⊢;have HT1:=qhz hT1;have HB1:=qhz hB;clear hO hB hT1 HTK
 go_wp2_with fail
 refine(HST.out _).mono ?_;rintro e w2 ⟨rfl,hB2⟩;have HB2:=qhz hB2;have HC:=qhz (HFX.out w2 A1 c1 (HT1.out.but hB2));clear hB2 HST HFX
 go_wp2_with fail
 refine HC.out.mono ?_;rintro e w3 ⟨rfl,hB3⟩;have HB3:=qt HB2 hB3;have HC:=qhz (HDY.out w3 A1 c1 (HG.out.but (HB1.out.trans (HB2.out.trans hB3))) (HT1.out.but (HB2.out.trans hB3)));clear hB3 HDY HB2
 go_wp2_with fail
 refine HC.out.mono ?_;rintro e w4 ⟨rfl,hB4⟩;have HB4:=qhz ((HB1.out.trans (HB3.out.trans hB4)).alloc (.cells #[b,c] 9));have hI:=Is.fresh w4 9 #[b,c];have HI:=qhz hI;clear hB4 hI HC HB3 HB1 HT1;go_wp2
 go_loop [4,17] (fun bv iv=>∃k:Nat,k≤2∧iv=.int .i64 k∧bv=.string (bk a b c k)) (fun _ iv=>2-(intOf iv).toNat)
 case atStart=>exact⟨0,Nat.zero_le _,rfl,rfl⟩
 case round=>
  obtain⟨k,hk,rfl,rfl⟩:=hrel
  by_cases hlt:k<2
  ·have hst:bk a b c (k+1)=if(if k=0 then b else c).size<(bk a b c k).size then(if k=0 then b else c)else bk a b c k:=by
    rcases(show k=0∨k=1 by omega)with rfl|rfl
    ·rfl
    ·rfl
   have hcl:(w4.alloc (.cells #[b,c] 9)).cell? ⟨w4.heap.size,k,none⟩=some (.string (if k=0 then b else c)):=by
    rcases(show k=0∨k=1 by omega)with rfl|rfl
    ·exact HI.out.cell 0
    ·exact HI.out.cell 1
   obtain⟨x,hx⟩:∃x,x=if k=0 then b else c:=⟨_,rfl⟩
   obtain⟨d,hd⟩:=E1 (bk a b c k);rw[←hx]at hst hcl;rw[←hd]at hst⊢;have HSTP:=qhz hst;have k0:(0:Int)≤(k:Int):=by omega
   have k1:(k:Int)<2:=by omega
   clear hst hx hd
   by_cases hle:x.size<d.size
   ·have dl:decide (x.size<d.size)=true:=by simpa using hle
    have HN2:=qhz (show bk a b c (k+1)=x by rw[HSTP.out,if_pos hle]);go_wp2
    go_round
    case rel=>exact⟨k+1,by omega,by go_num,by rw[HN2.out]⟩
    case measure=>simp[intOf];omega
   ·have dl:decide (x.size<d.size)=false:=by simpa using hle
    have HN2:=qhz (show bk a b c (k+1)=d by rw[HSTP.out,if_neg hle]);go_wp2
    go_round
    case rel=>exact⟨k+1,by omega,by go_num,by rw[HN2.out]⟩
    case measure=>simp[intOf];omega
  ·obtain rfl:k=2:=by omega
   go_wp2;go_ret;exact⟨by rw[←HBK.out];rfl,HB4.out⟩
end
section
attribute [local irreducible] dH dK unzT strL br eD aI dE cm dynL
theorem JT(w:World)(hG:GD w){s:ByteArray}(hs:s.size≤10000):
 Calls prog 33 #[s] w (R1z (.string (dK s.data.toList)) w):=by
 have HD:=qhz (zy w hG hs);have HS:=qhz (fun v=>DY v (s:=s) (by unfold maxLen;omega));have hl:=bP s;have hb:=qm (l:=s.data.toList) (by omega);have hx:=p9 (eD s.data.toList);have hw:=rI s.data.toList;obtain⟨b,hb2⟩:=E1 (dH s.data.toList);obtain⟨x,hx2⟩:=E1 (strL (br (eD s.data.toList)));rw[←hb2,←hx2]at hw;rw[←hb2]at HD hb;rw[←hx2]at HS hx;have HW:=qhz hw;have kd:(9223372036854775807<2+b.size)=False:=by simp;omega
 have ke:(9223372036854775807<2+b.size+4)=False:=by simp;omega
 clear hG hl hw hb2 hx2
 go_enter func33,ntmps33
 go_wp2_with fail
 refine HD.out.mono ?_;rintro e w1 ⟨rfl,hB1⟩;have HB1:=qhz hB1;clear hB1
 go_wp2_with fail
 refine(HS.out w1).mono ?_;rintro e w2 ⟨rfl,hB2⟩;have HB2:=qt HB1 hB2;clear hB2;go_wp2;go_ret;exact⟨by rw[HW.out];rfl,HB2.out⟩
end
section
theorem BT(w:World)(n:Int):
 Calls prog 70 #[n] w (R1z (.string (strL (jA n))) w):=by
 have kc:=fun W:World=>vU W n;have HB:=qhz ((But.refl [] w).alloc (.cells #[.int .u8 (IntKind.u8.wrap (n/16777216)),.int .u8 (IntKind.u8.wrap (n/65536)),.int .u8 (IntKind.u8.wrap (n/256)),.int .u8 (IntKind.u8.wrap n)] 5));obtain⟨a,ha⟩:=E1 (IntKind.u8.wrap (n/16777216));obtain⟨b,hb⟩:=E1 (IntKind.u8.wrap (n/65536));obtain⟨c,hc⟩:=E1 (IntKind.u8.wrap (n/256));obtain⟨d,hd⟩:=E1 (IntKind.u8.wrap n);rw[←ha,←hb,←hc,←hd]at HB;simp only[←ha,←hb,←hc,←hd]at kc;have ea:=ha.symm;have eb:=hb.symm;have ec:=hc.symm;have ed:=hd.symm
 clear ha hb hc hd
 go_enter func70,ntmps70
 go_wp2;go_ret;exact⟨rfl,HB.out⟩
attribute [local irreducible] strL br jA eh
def LayT(w:World)(g1 g2:Nat)(a b d c l:Int)(v:World):Prop:=Is v g1 33 #[a,b,d,c,l]∧Is v g2 42 #[strL [],strL []]∧But [] w v
theorem LayT.but{w v v':World}{g1 g2:Nat}{a b d c l:Int}(h:LayT w g1 g2 a b d c l v)(k:But [] v v'):LayT w g1 g2 a b d c l v':=⟨h.1.but k (by simp),h.2.1.but k (by simp),h.2.2.trans k⟩
theorem Kd(w:World)(a b d c l:Int):
 Calls prog 32 #[.agg #[a,b,d,c,l]] w (R1z (uc (layI a b d c l)) w):=by
 obtain⟨F,hF⟩:∃F:Int→ByteArray,∀n,F n=strL (jA n):=⟨fun n=>strL (jA n),fun _=>rfl⟩
 have H1:Hid (∀v n,Calls prog 70 #[.int .i64 n] v (R1z (.string (F n)) v)):=qhz (fun v n=>by rw[hF];exact BT v n);obtain⟨w0,hw0⟩:=E1 ((w.alloc (.cells #[a,b,d,c,l] 33)).alloc (.cells #[.string ⟨#[]⟩,.string ⟨#[]⟩] 42));have hB0:But [] w w0:=by rw[hw0];exact((But.refl [] w).alloc _).alloc _
 have hI0:Is w0 w.heap.size 33 #[a,b,d,c,l]:=by rw[hw0];exact(Is.fresh _ _ _).alloc _
 have hJ0:Is w0 (w.heap.size+1) 42 #[strL [],strL []]:=by
  have h:=Is.fresh (w.alloc (.cells #[a,b,d,c,l] 33)) 42 #[strL [],strL []];rw[show(w.alloc (.cells #[a,b,d,c,l] 33)).heap.size=w.heap.size+1 by simp]at h;rw[hw0];rw[yP]at h⊢;exact h
 have k5:∀(W:World) (g:Nat),Is W g 5 #[.int .u8 (IntKind.u8.wrap d),.int .u8 (IntKind.u8.wrap c),.int .u8 0,.int .u8 0,.int .u8 (IntKind.u8.wrap l)]→(convert 47 9 (.slice (some ⟨g,0,none⟩) 5 5)).run prog W=.ok (.string (strL [eh d,eh c,0,0,eh l])) W:=fun W g h=>tY d c l h;obtain⟨x1,hx1⟩:=E1 (IntKind.u8.wrap d);obtain⟨x2,hx2⟩:=E1 (IntKind.u8.wrap c);obtain⟨x3,hx3⟩:=E1 (IntKind.u8.wrap l);simp only[←hx1,←hx2,←hx3]at k5;have q1:=hx1.symm;have q2:=hx2.symm;have q3:=hx3.symm;obtain⟨Y,hY⟩:=E1 (strL [eh d,eh c,0,0,eh l]);have sY:Y.size=5:=by rw[hY,ac];rfl
 simp only[←hY]at k5;have k6:(convert 47 9 (.slice (some ⟨w.heap.size+1+1,0,none⟩) 5 5)).run prog (((w.alloc (.cells #[a,b,d,c,l] 33)).alloc (.cells #[.string ⟨#[]⟩,.string ⟨#[]⟩] 42)).alloc (.cells #[.int .u8 x1,.int .u8 x2,.int .u8 0,.int .u8 0,.int .u8 x3] 5))=.ok (.string Y) (((w.alloc (.cells #[a,b,d,c,l] 33)).alloc (.cells #[.string ⟨#[]⟩,.string ⟨#[]⟩] 42)).alloc (.cells #[.int .u8 x1,.int .u8 x2,.int .u8 0,.int .u8 0,.int .u8 x3] 5)):=by
  have h:=Is.fresh ((w.alloc (.cells #[a,b,d,c,l] 33)).alloc (.cells #[.string ⟨#[]⟩,.string ⟨#[]⟩] 42)) 5 #[.int .u8 x1,.int .u8 x2,.int .u8 0,.int .u8 0,.int .u8 x3];rw[show((w.alloc (.cells #[a,b,d,c,l] 33)).alloc (.cells #[.string ⟨#[]⟩,.string ⟨#[]⟩] 42)).heap.size=w.heap.size+1+1 by simp]at h;exact k5 _ _ h
 have sA:(F a).size=4:=by rw[hF,ac,fg]
 have sB:(F b).size=4:=by rw[hF,ac,fg]
 have HY:=qhz hY;have HF:=qhz hF;have HI0:=qhz hI0;have HJ0:=qhz hJ0;have HB0:=qhz hB0;have HW0:=qhz hw0;obtain⟨n0,n1,n2,n3,n4,_⟩:=hI0.c5;rw[hw0]at n0 n1 n2 n3 n4;clear k5 hw0 hB0 hI0 hJ0 hx1 hx2 hx3 hF hY
 go_enter func32,ntmps32
 go_upto_region 2 with(fail)
 rw[←HW0.out];clear n0 n1 n2 n3 n4 k6;obtain⟨g1,hg1⟩:=E1 w.heap.size;obtain⟨g2,hg2⟩:=E1 (w.heap.size+1);have HG1:=qhz hg1;have HG2:=qhz hg2;rw[←hg2]at HJ0⊢;rw[←hg1]at HI0⊢;clear hg1 hg2;obtain⟨w1,hw1⟩:=E1 (w0.alloc (.cells #[.int .u8 x1,.int .u8 x2,.int .u8 0,.int .u8 0,.int .u8 x3] 5));rw[←hw1];have hS:LayT w g1 g2 a b d c l w1:=by rw[hw1];exact LayT.but ⟨HI0.out,HJ0.out,HB0.out⟩ ((But.refl [] w0).alloc _)
 have hgg:w.heap.size≤g2:=by rw[HG2.out];omega
 have hne:g1≠g2:=by rw[HG1.out,HG2.out];omega
 clear hw1 HI0 HJ0 HB0 HW0 HG1 HG2;obtain⟨c0,c1,_⟩:=hS.1.c2;obtain⟨e0,e1,_⟩:=hS.2.1.c2;obtain⟨f0,f1⟩:=hS.2.1.f2
 go_region_with (go_at_call 70;refine(H1.out _ _).mono ?_;rintro e wk ⟨rfl,hB⟩;(first|have hS:=LayT.but hS hB|have hS:=LayT.but hS ((But.refl [] _).drew.trans hB));have c0:=hS.1.cell 0;have c1:=hS.1.cell 1;have e0:=hS.2.1.cell 0;have e1:=hS.2.1.cell 1;have f0:=hS.2.1.free 0;have f1:=hS.2.1.free 1;clear hB)
 all_goals
  have hI7:=(hS.2.1.put 0 (.string ⟨#[73,72,68,82]⟩)).put 1 (.string (F a++F b++Y));have hB7:=(hS.2.2.setCell (p:=⟨g2,0,none⟩) (.inr hgg) (.string ⟨#[73,72,68,82]⟩)).setCell (p:=⟨g2,1,none⟩) (.inr hgg) (.string (F a++F b++Y));obtain⟨z0,z1,_⟩:=hI7.c2;go_wp2;refine bodyPost_ret (v:=.agg #[.string ⟨#[73,72,68,82]⟩,.string (F a++F b++Y)]) (by simp[results,results32,go_sem,z0,z1]) rfl ?_;refine⟨?_,hB7⟩;unfold uc layI;rw[HF.out,HF.out,HY.out];show _=Ending.returned (.agg #[strL fp,(strL (jA a++(jA b++[eh d,eh c,0,0,eh l])))]);rw[fR,fR,show strL fp=⟨#[73,72,68,82]⟩from yG,ByteArray.append_assoc]
end
end Go.Proofs.YtbanopnofpjnbaaGreatDoor
