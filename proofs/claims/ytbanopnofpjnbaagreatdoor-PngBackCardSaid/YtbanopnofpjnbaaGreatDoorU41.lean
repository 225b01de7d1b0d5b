/- Own texts in one: PnA, PnB, PnK, PnJ, PnT, ZlB, PnC. -/
import Derived.Test.YtbanopnofpjnbaaGreatDoorU39
import Derived.Test.YtbanopnofpjnbaaGreatDoorU40
set_option maxRecDepth 1000000
set_option linter.unusedVariables false
set_option maxHeartbeats 4000000
namespace Go.Proofs.YtbanopnofpjnbaaGreatDoor
open Go Go.RowKit Tryz
theorem LF{a b:Int}{rows:ByteArray}:(bH++encs (encK a b rows)).length=57+(dK rows.data.toList).size:=by
 unfold encK;show(bH++(encC (layI a b 16 6 0)++(encC (bo,(dK rows.data.toList).data.toList)++(encC (cf,[])++[])))).length=_;rw[List.length_append,List.length_append,List.length_append,List.length_append,jD,jD,jD,iq];show 8+(4+(4+(13+4))+(4+(4+((dK rows.data.toList).data.toList.length+4))+(4+(4+(0+4))+0)))=_;rw[Array.length_toList];show _=57+(dK rows.data.toList).data.size;omega
theorem LV{a b:Int}{pix:ByteArray}(h:aA a b pix=0)(hs:cJ a b 16 6 0≤60000):
 (encA a b pix).2=0∧(encA a b pix).1.size≤65536∧57≤(encA a b pix).1.size∧decA (encA a b pix).1=((a,b,pix),0):=by
 have h0:=kV h;obtain⟨hb1,hb2,_⟩:=ze h;have hrz:=sr h;obtain⟨rows,hrows⟩:=E1 ((aX a b pix).1);rw[←hrows]at hb1 hrz;have hrl:rows.data.toList.length=cJ a b 16 6 0:=by rw[Array.length_toList];exact hrz
 have hws:=nt (l:=rows.data.toList) (by omega);have hok:(encK a b rows).all okC=true:=LG (by omega);have hj:gj (encK a b rows)=(bH++encs (encK a b rows),0):=by unfold gj;rw[if_pos hok]
 have he:encA a b pix=(strL (bH++encs (encK a b rows)),0):=by
  unfold encA;rw[if_neg (fun k=>k hb2),←hrows,hj]
 have hsz:(encA a b pix).1.size=57+(dK rows.data.toList).size:=by rw[he];show(strL _).size=_;rw[ac,LF]
 refine⟨by rw[he],by rw[hsz];omega,by rw[hsz];omega,?_⟩;have hsz2:=hsz;rw[he]at hsz2⊢;unfold decA;rw[if_neg (by have h3:(strL (bH++encs (encK a b rows))).size=57+(dK rows.data.toList).size:=hsz2;show ¬65536<(strL (bH++encs (encK a b rows))).size;omega)];show decS (splT (strL (bH++encs (encK a b rows))).data.toList)=_;rw[aj,uO hok];unfold decS;rw[if_neg (by show ¬(0:Int)≠0;decide)];have hrd:eR (encK a b rows)=([a,b,16,6,0],{hs0 with idat:=true,D:=[(dK rows.data.toList).data.toList].flatten},0):=QP h0 (by decide) (ps:=[(dK rows.data.toList).data.toList]) (by simp);show decR (eR (encK a b rows))=_;rw[hrd];unfold decR;rw[if_neg (by show ¬(0:Int)≠0;decide)];have hD: [(dK rows.data.toList).data.toList].flatten=(dK rows.data.toList).data.toList:=by simp
 have hun:unzT (strL (dK rows.data.toList).data.toList) ((cJ a b 16 6 0:Nat):Int)=(rows.data.toList,0):=by
  rw[jO,←hrl];exact M5 (by omega)
 show decU [a,b,16,6,0] _ (unzT (strL [(dK rows.data.toList).data.toList].flatten) ((cJ a b 16 6 0:Nat):Int))=_;rw[hD,hun];unfold decU;rw[if_neg (by show ¬(0:Int)=5;decide),if_neg (by show ¬(0:Int)≠0;decide)];show aG a b 16 6 0 (strL []) (strL []) false (strL rows.data.toList)=_;rw[jO];exact hb1
theorem vP(k:Ck)(l:List Ck):ir (k::l)=k.2.length+ir l:=rfl
def Bb(R:Nat)(s:HS):Prop:=s.P.length≤R∧s.T.length≤R∧s.D.length≤R
theorem Fi{R n:Nat}{d c:Int}{last:Bool}{k:Ck}{s:HS}(h:Bb R s)(hn:s.D.length+n≤R)(hk:k.2.length≤n):
 Bb R (ci d c last k s).1∧(ci d c last k s).1.D.length≤s.D.length+k.2.length:=by
 obtain⟨h1,h2,h3⟩:=h;have h0:Bb R s∧s.D.length≤s.D.length+k.2.length:=⟨⟨h1,h2,h3⟩,by omega⟩
 unfold ci;split
 ·exact h0
 split
 ·split
  ·exact h0
  split
  ·exact h0
  ·exact⟨⟨by show k.2.length≤R;omega,h2,h3⟩,by show s.D.length≤_;omega⟩
 split
 ·split
  ·exact h0
  split
  ·exact h0
  ·exact⟨⟨h1,by show k.2.length≤R;omega,h3⟩,by show s.D.length≤_;omega⟩
 split
 ·split
  ·exact h0
  ·refine⟨⟨h1,h2,?_⟩,?_⟩
   ·show(s.D++k.2).length≤R;rw[List.length_append];omega
   ·show(s.D++k.2).length≤_;rw[List.length_append];omega
 split
 ·split
  ·exact h0
  split
  ·exact h0
  split
  ·exact h0
  ·exact h0
 split
 ·exact h0
 ·exact h0
theorem zd{R:Nat}{d c:Int}:∀(l:List Ck) (s:HS),Bb R s→s.D.length+ir l≤R→Bb R (runH d c l s).1
 |[],s,h,_=>h
 |k::l,s,h,hn=>by
  rw[vP]at hn;have hs:=Fi (d:=d) (c:=c) (last:=l.isEmpty) (k:=k) h hn (by omega);unfold runH;cases hx:ci d c l.isEmpty k s with
  |mk s' o=>
   rw[hx]at hs;cases o with
   |some e=>exact hs.1
   |none=>exact zd l s' hs.1 (by have:=hs.2;dsimp only at this;omega)
theorem ma(R:Nat):Bb R hs0:=⟨Nat.zero_le _,Nat.zero_le _,Nat.zero_le _⟩
theorem FE:∀(l:List Ck),Bb (ir l) (eR l).2.1
 |[]=>ma _
 |k::l=>by
  rw[vP,fV];split
  ·exact ma _
  split
  ·exact ma _
  split
  ·exact ma _
  split
  ·exact zd l hs0 (ma _) (by show 0+ir l≤_;omega)
  ·exact ma _
theorem BI{l:List Ck}(h:(eR l).2.2=0):iI (eR l).1=0:=by
 cases l with
 |nil=>exact absurd h (by show(23:Int)≠0;decide)
 |cons k l=>
  rw[fV]at h⊢;split at h
  ·exact absurd h (by show(23:Int)≠0;decide)
  rename_i h1;rw[if_neg h1];split at h
  ·exact absurd h (by show(24:Int)≠0;decide)
  rename_i h2;rw[if_neg h2];split at h
  ·rename_i h3;exact absurd h h3
  rename_i h3;rw[if_neg h3];split at h
  ·rename_i h4;rw[if_pos h4];exact Classical.not_not.1 h3
  ·rename_i h4;exact absurd h h4
theorem PQ(s:ByteArray)(M:Int):((unzT s M).1.length:Int)≤max M 0:=by
 have h:=(pV (s:=strL (s.data.toList.drop 2)) (most:=M)).2;have h0:((([]:List UInt8).length:Nat):Int)≤max M 0:=by show(0:Int)≤_;omega
 unfold unzT
 repeat' split
 all_goals first|exact h0|exact h
theorem uR{a b:Int}{pix:ByteArray}(h:aA a b pix=0)(hs:pix.size≤4096):cJ a b 16 6 0≤60000:=by
 have h1:=sr h;have h2:=lP a b pix;omega
section
def DeC(G:World→Prop):Prop:=∀(v:World) (f:ByteArray),G v→f.size≤140737488351232→Calls prog 9 #[f] v (Bd v (decA f))
attribute [local irreducible] aA aG aX encA decA
end
section
def Iy(r:List UInt8×Int):Ending:=.returned (.tuple #[strL r.1,r.2])
theorem PR{s:ByteArray}(M:Int)(h:s.size<2):unzT s M=([],3):=by unfold unzT;rw[if_pos h]
theorem M4{s:ByteArray}(M:Int)(h:2≤s.size)(hb:kn (s.data.toList.getD 0 0).toNat (s.data.toList.getD 1 0).toNat):unzT s M=([],16):=by
 unfold unzT;rw[if_neg (by omega),if_pos hb]
theorem PS{s:ByteArray}{M:Int}(h:2≤s.size)(hb:¬kn (s.data.toList.getD 0 0).toNat (s.data.toList.getD 1 0).toNat)(he:(gy (strL (s.data.toList.drop 2)) M).2.2≠0):
 unzT s M=([],(gy (strL (s.data.toList.drop 2)) M).2.2):=by
 unfold unzT;rw[if_neg (by omega),if_neg hb,if_pos he]
def Bl(t:ByteArray)(L:List UInt8):Int:=if t.size<4 then 3 else if t.data.toList.take 4≠br (eD L)then 17 else if 4<t.size then 4 else 0
theorem M3{s:ByteArray}{M:Int}{L:List UInt8}{n:Nat}(h:2≤s.size)(hb:¬kn (s.data.toList.getD 0 0).toNat (s.data.toList.getD 1 0).toNat)(he:gy (strL (s.data.toList.drop 2)) M=(L,n,0)):
 unzT s M=if Bl (strL (s.data.toList.drop (2+n))) L=0 then(L,0)else([],Bl (strL (s.data.toList.drop (2+n))) L):=by
 have hl:s.data.toList.length=s.size:=by simp
 have hn:n≤s.size-2:=by
  have:=(pV (s:=strL (s.data.toList.drop 2)) (most:=M)).1;rw[he,ac,List.length_drop,hl]at this;exact this
 unfold unzT;rw[if_neg (by omega),if_neg hb,he];dsimp only;rw[if_neg (by simp)];unfold Bl;rw[ac,aj,List.length_drop,hl]
 by_cases h4:s.size<2+n+4
 ·rw[if_pos h4,if_pos (show s.size-(2+n)<4 by omega),if_neg (by decide)]
 ·have h4':¬s.size-(2+n)<4:=by omega
  rw[if_neg h4,if_neg h4'];have hlt:((s.data.toList.drop (2+n)).take 4).length=4:=by rw[List.length_take,List.length_drop,hl];omega
  obtain⟨A,hA⟩:=E1 ((s.data.toList.drop (2+n)).take 4);rw[←hA]at hlt⊢
  by_cases hq:A=br (eD L)
  ·have e:¬ofL A≠eD L:=fun h=>h (by rw[hq,gJ (pc L)]);have q2:¬A≠br (eD L):=fun h=>h hq;rw[if_neg e];simp only[if_neg q2]
   by_cases h5:2+n+4<s.size
   ·have h6:4<s.size-(2+n):=by omega
    rw[if_pos h5];simp only[if_pos h6];rw[if_neg (by decide)]
   ·have h6:¬4<s.size-(2+n):=by omega
    rw[if_neg h5];simp only[if_neg h6];rw[if_pos trivial]
  ·have e:ofL A≠eD L:=fun e=>hq (Ee hlt (az _) (by rw[e,gJ (pc L)]));rw[if_pos e];simp only[if_pos hq];rw[if_neg (by decide)]
attribute [local irreducible] dH dK unzT Bl strL br eD aI dE cm dynL
theorem BK(w:World)(hG:GL w){s:ByteArray}{M:Int}(hs:s.size≤140737489403904)(hM:M≤1099511627776):
 Calls prog 51 #[s,M] w fun e w'=>e=Iy (unzT s M)∧But [] w w':=by
 obtain⟨R,hR⟩:=E1 (unzT s M);rw[←hR]
 by_cases h2:s.size<2
 ·have HH:=qhz (Kk w h2);have HR:=qhz (hR.trans (PR M h2));clear hR hG
  go_enter func51,ntmps51
  go_wp2_with fail
  refine HH.out.mono ?_;rintro e w1 ⟨rfl,rfl⟩;go_wp2
  go_ret2
  exact⟨by rw[HR.out];unfold Iy strL;rfl,But.refl [] w⟩
 ·have h2':2≤s.size:=by omega
  have hH:=Kl w h2' rfl rfl;have x0:s[0].toNat=(s.data.toList.getD 0 0).toNat:=by rw[gw s (by omega)]
  have x1:s[1].toNat=(s.data.toList.getD 1 0).toNat:=by rw[gw s (by omega)]
  rw[x0,x1]at hH;have hun:=fun hb=>M4 M h2' hb;have hue:=fun hb he=>PS (M:=M) h2' hb he;have hut:=fun L n hb he=>M3 (M:=M) (L:=L) (n:=n) h2' hb he
  by_cases hb:kn (s.data.toList.getD 0 0).toNat (s.data.toList.getD 1 0).toNat
  ·rw[if_pos (show _∨_∨_∨_ from hb)]at hH;have HR:=qhz (hR.trans (hun hb));have HH:=qhz hH;clear hR hG hun hue hut hH x0 x1 hb
   go_enter func51,ntmps51
   go_wp2_with fail
   refine HH.out.mono ?_;rintro e w1 ⟨rfl,hB1⟩;have HB1:=qhz hB1;clear hB1;go_wp2
   go_ret2
   exact⟨by rw[HR.out];unfold Iy strL;rfl,HB1.out⟩
  ·rw[if_neg (show ¬(_∨_∨_∨_)from hb)]at hH;have hue:=hue hb;have hut:=fun L n=>hut L n hb;have hsl:∀w,(Instr.slice 9 (.string s) (some (.int .i64 2)) none none).run prog w=.ok (.string (strL (s.data.toList.drop 2))) w:=fun w=>by
    rw[run_slice_string_from_if w 9 s .i64 2 underlying9,if_pos (by omega),show((2:Int).toNat)=2 from rfl,gO,List.take_of_length_le (by rw[bP];exact Nat.le_refl _)]
   have hsz:(strL (s.data.toList.drop 2)).size=s.size-2:=by rw[ac,List.length_drop,bP]
   have hin:=pV (s:=strL (s.data.toList.drop 2)) (most:=M);have hI:=fun v hg=>CB (w:=v) (strL (s.data.toList.drop 2)) M (by rw[hsz];omega) hM hg;have hd:∀n,(strL (s.data.toList.drop 2)).data.toList.drop n=s.data.toList.drop (2+n):=fun n=>by rw[aj,List.drop_drop]
   obtain⟨y,hy⟩:=E1 (strL (s.data.toList.drop 2));rw[←hy]at hsl hsz hin hue;simp only[←hy]at hI hd hut;obtain⟨L,n,er,hq⟩:∃L n er,gy y M=(L,n,er):=⟨_,_,_,rfl⟩
   rw[hq]at hin hue;simp only[hq]at hI;have hn:n≤y.size:=hin.1;have hL:(L.length:Int)≤max M 0:=hin.2;have HSL:=qhz hsl;have HH:=qhz hH;have HI:=qhz hI;have HG:=qhz hG
   by_cases he:er=0
   ·subst he;have hut:=hut L n hq;have hsl2:∀w,(Instr.slice 9 (.string y) (some (.int .i64 (n:Int))) none none).run prog w=.ok (.string (strL (s.data.toList.drop (2+n)))) w:=fun w=>by
     rw[run_slice_string_from_if w 9 y .i64 (n:Int) underlying9,if_pos (by omega),show((n:Int).toNat)=n from Int.toNat_natCast n,gO,List.take_of_length_le (by rw[bP];exact Nat.le_refl _),hd]
    have hts:(strL (s.data.toList.drop (2+n))).size≤1000000000000000:=by rw[ac,List.length_drop,bP];omega
    obtain⟨t,ht⟩:=E1 (strL (s.data.toList.drop (2+n)));rw[←ht]at hut hts;simp only[←ht]at hsl2;have hck:=fun v=>F2 v (t:=t) (x:=strL L) hts (by rw[ac];unfold maxLen;omega);simp only[aj]at hck;have hrr:(if t.size<4 then(3:Int)else if t.data.toList.take 4≠br (eD L)then 17 else if 4<t.size then 4 else 0)=Bl t L:=by unfold Bl;rfl
    simp only[hrr]at hck;obtain⟨r,hr⟩:=E1 (Bl t L);rw[←hr]at hut;simp only[←hr]at hck;have hR2:=hR.trans hut;have HCK:=qhz hck;have hxe:(⟨L.toArray⟩:ByteArray)=strL L:=by unfold strL;rfl
    have HR:=qhz hR2;have HSL2:=qhz hsl2;clear hR hG hun hue hut hH x0 x1 hb hsl hsz hin hI hd hy hq hn hL hck hrr hr hR2 hts ht hsl2;have hsl:=HSL.out;have hsl2:=HSL2.out
    go_enter func51,ntmps51
    go_wp2_with fail
    refine HH.out.mono ?_;rintro e w1 ⟨rfl,hB1⟩;have HB1:=qhz hB1;clear hB1
    go_wp2_with fail
    refine(HI.out w1 (HG.out.but HB1.out)).mono ?_;rintro e w2 ⟨he2,hB2⟩;unfold tell at he2;simp only[hxe]at he2;subst he2;have HB2:=qt HB1 hB2;clear hB2
    go_wp2_with fail
    refine(HCK.out w2).mono ?_;rintro e w3 ⟨rfl,hB3⟩;have HB3:=qt HB2 hB3;clear hB3
    by_cases hr0:r=0
    ·have HR3:=qhz (HR.out.trans (if_pos hr0));subst hr0;clear HR;go_wp2
     go_ret2
     exact⟨by rw[HR3.out];rfl,HB3.out⟩
    ·have HR3:=qhz (HR.out.trans (if_neg hr0));have d:(r !=0)=true:=by simpa using hr0
     clear HR hr0;go_wp2
     go_ret2
     exact⟨by rw[HR3.out];unfold Iy strL;rfl,HB3.out⟩
   ·have HR:=qhz (hR.trans (hue he));have d:(er !=0)=true:=by simpa using he
    clear hR hG hun hue hut hH x0 x1 hb hsl hsz hin hI hd hy hq hn hL he;have hsl:=HSL.out
    go_enter func51,ntmps51
    go_wp2_with fail
    refine HH.out.mono ?_;rintro e w1 ⟨rfl,hB1⟩;have HB1:=qhz hB1;clear hB1
    go_wp2_with fail
    refine(HI.out w1 (HG.out.but HB1.out)).mono ?_;rintro e w2 ⟨he2,hB2⟩;unfold tell at he2;subst he2;have HB2:=qt HB1 hB2;clear hB2;go_wp2
    go_ret2
    exact⟨by rw[HR.out];unfold Iy strL;rfl,HB2.out⟩
end
theorem wK{S:ShP}(hd:S.d≤16)(hc:ai S.c≤4)(W H:Nat)(p:bj)(hx:1≤p.dx)(hy:1≤p.dy):fS S (mo W H p)≤H*(1+8*W):=by
 by_cases h0:ay W p.x p.dx=0
 ·have h1:mo W H p=[]:=by unfold mo;rw[if_pos h0]
  rw[h1];exact Nat.zero_le _
 ·rw[pB _ _ _ _ (by omega)];have h1:ay W p.x p.dx≤W:=da W p.x p.dx hx;have h2:ay H p.y p.dy≤H:=da H p.y p.dy hy;generalize ay W p.x p.dx=m at*;have h3:S.d*ai S.c≤16*4:=Nat.mul_le_mul hd hc;have h4:S.d*ai S.c*m≤16*4*m:=Nat.mul_le_mul_right _ h3;have h5:bA S m≤8*W:=by unfold bA;omega
  exact Nat.mul_le_mul h2 (by omega)
theorem nU{S:ShP}(hd:S.d≤16)(hc:ai S.c≤4)(W H:Nat):∀ps:List bj,(∀p∈ps,1≤p.dx∧1≤p.dy)→fS S (bS W H ps)≤ps.length*(H*(1+8*W))
 |[],_=>Nat.zero_le _
 |p::ps,h=>by
  have e:bS W H (p::ps)=mo W H p++bS W H ps:=rfl;have h1:=wK hd hc W H p (h p (by simp)).1 (h p (by simp)).2;have h2:=nU hd hc W H ps fun q hq=>h q (by simp[hq]);rw[e,qx,List.length_cons,Nat.add_mul,Nat.one_mul];omega
theorem Nq{a b d c l:Int}(h0:ak a b d c l=0):cJ a b d c l≤300000:=by
 obtain⟨W,H,D,C,R⟩:=dA h0;rw[jP [] [] false h0 R];have h:=nU (S:=⟨W,H,D,C,[],[],false⟩) R.d16 R.s4 W H ((gn l).filter (cj W H)) (fun p hp=>by have:=gm (List.mem_filter.1 hp).1;omega);have hl:((gn l).filter (cj W H)).length≤7:=Nat.le_trans (List.length_filter_le _ _) (by unfold gn;split<;>decide);have hm:H*(1+8*W)≤33792:=by
  have h1:=R.area;have h2:=R.h2;have e:H*(8*W)=8*(W*H):=by rw[Nat.mul_left_comm,Nat.mul_comm H W]
  rw[Nat.mul_add,Nat.mul_one,e];omega
 have h3:=Nat.mul_le_mul hl hm;omega
end Go.Proofs.YtbanopnofpjnbaaGreatDoor
