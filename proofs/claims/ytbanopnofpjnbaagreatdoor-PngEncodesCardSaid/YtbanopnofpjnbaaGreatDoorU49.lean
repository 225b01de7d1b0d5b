/- Own texts in one: Words, Crc, Stream, WriteD. -/
import Derived.Test.YtbanopnofpjnbaaGreatDoorU26
set_option maxRecDepth 1000000
set_option linter.unusedVariables false
set_option maxHeartbeats 4000000
namespace Go.Proofs.YtbanopnofpjnbaaGreatDoor
open Go Go.RowKit Tryz
theorem CD(a b:Nat)(ha:a<9223372036854775808)(hb:b<9223372036854775808):bits .xor .i64 (a:Int) (b:Int)=((a ^^^ b:Nat):Int):=by
 have hx:a ^^^ b<2^63:=Nat.xor_lt_two_pow (by omega) (by omega);show IntKind.i64.wrap ((BitVec.ofInt 64 (a:Int) ^^^ BitVec.ofInt 64 (b:Int)).toNat:Int)=_;rw[BitVec.toNat_xor,jm a ha,jm b hb];exact rH _ (by omega) (by omega)
theorem Qk(s:ByteArray)(w:World)(hs:s.size≤maxLen):
 Calls prog 45 #[s] w fun e w'=>e=.returned (.int .i64 (cR s.data.toList))∧w=w':=by
 unfold maxLen at hs
 go_enter func45,ntmps45
 go_wp2
 go_loop [3,4,5,6] (fun c i _ _=>∃k:Nat,k≤s.size∧i=.int .i64 k∧c=.int .i64 (fG (s.data.toList.take k))) (fun _ i _ _=>s.size-(intOf i).toNat)
 case atStart=>exact⟨0,Nat.zero_le _,rfl,rfl⟩
 case round=>
  obtain⟨k,hk,rfl,rfl⟩:=hrel;have hlt:=tU (s.data.toList.take k)
  by_cases hk2:k<s.size
  ·have hb:=s[k].toNat_lt;have hx:=CD (fG (s.data.toList.take k)) s[k].toNat (by omega) (by omega);have hcl:=ns hlt (show s[k].toNat<4294967296 by omega);have hts:=nL s k hk2;have HS:Hid (fG (s.data.toList.take (k+1))=bh 8 (fG (s.data.toList.take k) ^^^ s[k].toNat)):=by rw[hts,tT];rfl
   clear hts;go_wp2
   go_loop [3,5,6] (fun c j _=>∃n:Nat,n≤8∧j=.int .i64 n∧c=.int .i64 (bh n (fG (s.data.toList.take k) ^^^ s[k].toNat))) (fun _ j _=>8-(intOf j).toNat)
   case atStart=>exact⟨0,Nat.zero_le _,rfl,rfl⟩
   case round=>
    obtain⟨n,hn,rfl,rfl⟩:=hrel;have hcn:=qe n hcl;generalize fG (s.data.toList.take k) ^^^ s[k].toNat=x at*;have hxor:=CD (bh n x/2) 3988292384 (by omega) (by omega);have hq:((bh n x:Nat):Int)/2=((bh n x/2:Nat):Int):=by simp
    have HX:Hid (bits .xor .i64 (((bh n x:Nat):Int)/2) 3988292384=((bh n x/2 ^^^ 3988292384:Nat):Int)):=by rw[hq];exact hxor
    clear hxor hq;go_wp2
    ·have h1:((bh n x:Nat):Int)%2=1:=by(have h:(((bh n x:Nat):Int)%2==1)=true:=by assumption);simpa using h
     go_round
     case rel=>exact⟨n+1,by omega,by go_num,by rw[HX.out,iR,vS h1]⟩
     case measure=>simp[intOf];omega
    ·have h1:¬((bh n x:Nat):Int)%2=1:=by(have h:(((bh n x:Nat):Int)%2==1)=false:=by assumption);simpa using h
     go_round
     case rel=>exact⟨n+1,by omega,by go_num,by rw[iR,tV h1];go_num⟩
     case measure=>simp[intOf];omega
    ·obtain rfl:n=8:=by omega
     go_round
     case rel=>exact⟨k+1,by omega,by go_num,by rw[HS.out]⟩
     case measure=>simp[intOf];omega
  ·have HL:Hid (bits .xor .i64 ((fG (s.data.toList.take k):Nat):Int) 4294967295=((cR s.data.toList:Nat):Int)):=by
    have e:s.data.toList.take k=s.data.toList:=by rw[show k=s.size from by omega];exact qY s
    rw[e]at hlt⊢;exact CD _ 4294967295 (by omega) (by omega)
   go_wp2;go_ret;exact⟨sH HL.out,rfl⟩
theorem JK(s:ByteArray)(w:World)(hs:s.size≤maxLen):
 Calls prog 37 #[s] w fun e w'=>e=.returned (.int .i64 (eD s.data.toList))∧w=w':=by
 unfold maxLen at hs
 go_enter func37,ntmps37
 go_wp2
 go_loop [3,4,5] (fun a b i=>∃k:Nat,k≤s.size∧i=.int .i64 k∧a=.int .i64 (adP (s.data.toList.take k)).1∧b=.int .i64 (adP (s.data.toList.take k)).2) (fun _ _ i=>s.size-(intOf i).toNat)
 case atStart=>exact⟨0,Nat.zero_le _,rfl,rfl,rfl⟩
 case round=>
  obtain⟨k,hk,rfl,rfl,rfl⟩:=hrel;have hlt:=MG (s.data.toList.take k);obtain⟨hl1,hl2⟩:=hlt
  by_cases hk2:k<s.size
  ·have hb:=s[k].toNat_lt;have hts:=nL s k hk2;have HS:Hid (adP (s.data.toList.take (k+1))=(((adP (s.data.toList.take k)).1+s[k].toNat)%65521,((adP (s.data.toList.take k)).2+((adP (s.data.toList.take k)).1+s[k].toNat)%65521)%65521)):=by rw[hts,E4];exact rfl
   clear hts;go_wp2
   go_round
   case rel=>exact⟨k+1,by omega,by go_num,by rw[HS.out];go_num,by rw[HS.out];go_num⟩
   case measure=>simp[intOf];omega
  ·have HL:Hid (65536*(((adP (s.data.toList.take k)).2:Nat):Int)+(((adP (s.data.toList.take k)).1:Nat):Int)=((eD s.data.toList:Nat):Int)):=by
    have e:s.data.toList.take k=s.data.toList:=by rw[show k=s.size from by omega];exact qY s
    rw[e];show @Eq Int _ _;unfold eD;omega
   go_wp2;go_ret;exact⟨sH HL.out,rfl⟩
theorem QC(l:List UInt8)(k:Nat)(h:k<l.length):l[k].toNat=num l/256^k%256:=by
 rw[←xu,List.drop_eq_getElem_cons h];have:=l[k].toNat_lt;simp only[num];omega
def FW(w:World)(lo b:Nat)(og:Option Nat)(X N:Nat):Prop:=
 ∃(v:Value) (L:List UInt8),Is w b 141 #[v,N]∧w.ownsRow lo 5 1 v L.length (ah L)∧v.ownBlock=og∧L.length=(N+7)/8∧num L=X∧X<2^N
theorem FW.but{w w':World}{lo b X N:Nat}{og:Option Nat}{S:List Nat}(h:FW w lo b og X N)(hw:But S w w')(hb:b∉S)(hg:∀g,og=some g→g∉S):FW w' lo b og X N:=by
 obtain⟨v,L,hi,hown,hog,r⟩:=h;exact⟨v,L,hi.but hw hb,aU hown hw (fun g e=>hg g (by rw[←hog];exact e)),hog,r⟩
theorem FW.lt{w:World}{lo b X N:Nat}{og:Option Nat}(h:FW w lo b og X N):b<w.heap.size∧∀g,og=some g→g<w.heap.size∧g≠b:=by
 obtain⟨v,L,hi,hown,hog,r⟩:=h;refine⟨hi.lt,fun g e=>?_⟩;subst hog;exact⟨(hown.lt g e).2,fun e2=>fy hown hi (by decide) (by rw[e,e2])⟩
theorem RX(w:World)(lo:Nat):FW (w.alloc (.cells #[.slice none 0 0,(0:Int)] 141)) lo w.heap.size none 0 0:=
 ⟨.slice none 0 0,[],Is.fresh w _ _,World.ownsRow_nil _ _ _ _,rfl,rfl,rfl,by decide⟩
theorem FW.text{w:World}{lo b:Nat}{og:Option Nat}{X N:Nat}(h:FW w lo b og X N):
 Calls prog 119 #[.pointer b] w fun e w'=>e=.returned (.string (eX X N))∧w=w':=by
 obtain⟨x,L,hi,hown,hog,hlen,hnum,hX⟩:=h;have h0:w.cell? ⟨b,0,none⟩=some x:=hi.cell 0;have hcv:=ox hown;have e:eX X N=⟨L.toArray⟩:=by
  unfold eX;rw[←jG (l:=L) hlen hnum]
 rw[e];clear hi hown hog hlen hnum hX
 go_enter func119,ntmps119
 go_wp2;go_ret;exact⟨rfl,rfl⟩
theorem FW.bytes{w:World}{lo b:Nat}{og:Option Nat}{X N:Nat}(h:FW w lo b og X N)(hlo:lo≤w.heap.size)(hN:N≤140737488355328)(s:ByteArray)(hs:s.size≤70368744177664):
 Calls prog 118 #[.pointer b,s] w fun e w'=>e=.returned (.tuple #[])∧
  ∃og',FW w' lo b og' (lC X N s) (iu N s)∧(∀g,og'=some g→og=some g∨w.heap.size≤g)∧But (b::og.toList) w w':=by
 obtain⟨x,L,hi,hown,hog,hlen,hnum,hX⟩:=h;have h0:w.cell? ⟨b,0,none⟩=some x:=hi.cell 0;have hne:=fy hown hi (by decide);have hLb:L.length≤17592186044417:=by omega
 have HL:=qhz hlen;have HX:=qhz hnum;have HI:=qhz hi;clear hlen hnum hi;obtain⟨i0,hi0,hz0,hz1,hz2⟩:=info_parts lw
 go_enter func118,ntmps118
 go_wp2_with (at_builtin;refine fN _ rfl _ _ 47 9 rfl lo 5 i0 underlying47 underlying9 hi0 hz0 hz1 hz2 x L.length (ah L) rfl hown s rfl (by omega) (by omega) ?_;intro A2 c2 w2 hown2 hgrow hat;have hi2:=HI.out.grown hgrow (Ne.symm hne);have g0:w2.cell? ⟨b,0,none⟩=some x:=hi2.cell 0;have g1:w2.frozen? ⟨b,0,none⟩=false:=hi2.free 0;have g2:w2.frozen? ⟨b,1,none⟩=false:=hi2.free 1;have g3:w2.cell? ⟨b,1,none⟩=some (.int .i64 (N:Nat)):=hi2.cell 1;have HI2:=qhz hi2;clear hi2)
 go_end0
 have e8:(8*((L.length:Int)+(s.size:Int)))=((8*(L.length+s.size):Nat):Int):=by omega
 have eN:iu N s=8*(L.length+s.size):=by have:=HL.out;unfold iu;omega
 rw[e8,←eN];have hB2:=((But.refl (b::og.toList) w).grown hgrow (fun g e=>by
  have e1:og=some g:=hog▸e;subst e1;exact .inl (by simp)))
 have hne2:=fy hown2 HI2.out (by decide);have hsl:s.data.toList.length=s.size:=Array.length_toList;refine⟨rfl,(Value.slice A2 (L.length+s.size) c2).ownBlock,⟨_,L++s.data.toList,?_,?_,rfl,?_,?_,?_⟩,fun g e=>?_,(hB2.setCell (.inl (by simp)) _).setCell (.inl (by simp)) _⟩
 ·simpa using(HI2.out.put 0 (.slice A2 (L.length+s.size) c2)).put 1 (.int .i64 (iu N s:Nat))
 ·have ho:w2.ownsRow lo 5 1 (.slice A2 (L.length+s.size) c2) (L++s.data.toList).length (ah (L++s.data.toList)):=by
   rw[List.length_append,dB];exact hown2
  exact ownsRow_setCell_other (ownsRow_setCell_other ho (a:=⟨b,0,none⟩) hne2 _) (a:=⟨b,1,none⟩) hne2 _
 ·rw[List.length_append,hsl,eN];omega
 ·unfold lC;rw[fZ,←HX.out,HL.out,p256,Nat.mul_comm]
 ·have hlt:=vr (L++s.data.toList);rw[fZ,List.length_append,hsl,p256,p256,←eN]at hlt;unfold lC;rw[←HX.out,←HL.out,Nat.mul_comm (num s.data.toList)];exact hlt
 ·rcases hat g e with h|h
  ·exact .inl (hog▸h)
  ·exact .inr h
theorem QA(L:List UInt8)(k:Nat)(h:k<L.length)(y:UInt8):num (L.set k y)+256^k*L[k].toNat=num L+256^k*y.toNat:=by
 induction L generalizing k with
 |nil=>simp at h
 |cons x L ih=>
  cases k with
  |zero=>simp[num];omega
  |succ k=>
   have hk:k<L.length:=by simpa using h
   have:=ih k hk;simp only[List.set_cons_succ,num,List.getElem_cons_succ,Nat.pow_succ];have e1:256^k*256*(L[k]'hk).toNat=256*(256^k*(L[k]'hk).toNat):=by rw[Nat.mul_comm (256^k) 256,Nat.mul_assoc]
   have e2:256^k*256*y.toNat=256*(256^k*y.toNat):=by rw[Nat.mul_comm (256^k) 256,Nat.mul_assoc]
   rw[e1,e2];omega
theorem CE(v:Int):Go.bits .and .i64 v 1=v%2:=iO v 1 (by decide)
theorem RE(old z r:Nat)(hr:r≤7)(ho:old<2^r)(hz:z<2):Go.bits .or .u8 (old:Int) (IntKind.u8.wrap (IntKind.u8.wrap (z:Int)*2^r))=((old+z*2^r:Nat):Int):=by
 have h7:2^r≤2^7:=Nat.pow_le_pow_right (by decide) hr;have hzr:z*2^r≤1*2^7:=Nat.mul_le_mul (by omega) h7;have e1:IntKind.u8.wrap (z:Int)=(z:Int):=by rw[IntKind.wrap_u8];omega
 have e2:IntKind.u8.wrap ((z*2^r:Nat):Int)=((z*2^r:Nat):Int):=by rw[IntKind.wrap_u8];omega
 rw[e1,xO,e2,u8_or_nat _ _ (by omega) (by omega),Nat.or_comm,nat_join r _ _ (Nat.mul_mod_left z _) ho,Nat.add_comm]
def FMid(w w1:World)(lo b g c:Nat)(og:Option Nat)(X M:Nat)(L:List UInt8):Prop:=
 Is w1 b 141 #[.slice g L.length c,M]∧w1.ownsRow lo 5 1 (.slice g L.length c) L.length (ah L)∧
  L.length=M/8+1∧num L=X∧X<2^M∧(og=some g∨w.heap.size≤g)∧But (b::og.toList) w w1
theorem NX{w:World}{base n g c k:Nat}{e:TypeId}{L:List UInt8}(h:w.ownsRow base e 1 (.slice g n c) n (ah L))(hk:k<L.length):w.cell? ⟨g,k,none⟩=some (.int .u8 ((L[k]'hk).toNat:Int)):=by
 have hl:=h.1;rw[iZ]at hl;rw[h.cellAt k (by omega)];simp[ah,hk]
theorem FMid.drew{w w1:World}{lo b g c X M:Nat}{og:Option Nat}{L:List UInt8}(h:FMid w w1 lo b g c og X M L):FMid w w1.drew lo b g c og X M L:=by
 obtain⟨h1,h2,h3,h4,h5,h6,h7⟩:=h;exact⟨h1.drew,h2.drew,h3,h4,h5,h6,h7.drew⟩
theorem Ln{w wr w1:World}{lo b g c X M:Nat}{og og1:Option Nat}{x:Value}{L:List UInt8}(h8:M%8=0)(hX:X<2^M)(hog:x.ownBlock=og1)
 (hf:∀g,og1=some g→og=some g∨w.heap.size≤g) (hB:But (b::og.toList) w wr) (hi:Is wr b 141 #[x,M]) (hnum:num L=X) (hlen:L.length=(M+7)/8)
 (hown:wr.ownsRow lo 5 1 x L.length (ah L)) (hown2:w1.ownsRow lo 5 1 (.slice (some ⟨g,0,none⟩) (L.length+1) c) (L.length+1) (ah L++[.int .u8 0]))
 (hgrow:(wr.alloc (.cells #[.int .u8 0] 5)).grownBy w1 x.ownBlock) (hat:x.ownBlock=some g∨g=wr.heap.size+1):
 FMid w (w1.setCell ⟨b,0,none⟩ (.slice (some ⟨g,0,none⟩) (L.length+1) c)) lo b g c og X M (L++[0]):=by
 have hne:=fy hown hi (by decide);have hi2:=(hi.alloc (.cells #[.int .u8 0] 5)).grown hgrow (Ne.symm hne);have hne2:=fy hown2 hi2 (by decide);have hS:=hB.size;have hB2:=(hB.alloc (.cells #[.int .u8 0] 5)).grown hgrow (fun k e=>by
  rcases hf k (hog▸e)with h|h
  ·subst h;exact .inl (by simp)
  ·exact .inr h)
 have e1:(L++[0]).length=L.length+1:=by simp
 refine⟨?_,?_,by rw[e1];omega,by rw[ri];simpa using hnum,hX,?_,hB2.setCell (.inl (by simp)) _⟩
 ·rw[e1];simpa using hi2.put 0 (.slice (some ⟨g,0,none⟩) (L.length+1) c)
 ·rw[e1,iU];exact ownsRow_setCell_other hown2 (a:=⟨b,0,none⟩) hne2 _
 ·rcases hat with h|h
  ·exact hf g (hog▸h)
  ·exact .inr (by omega)
theorem Qy(old z r:Nat)(hr:r≤7)(ho:old<2^r)(hz:z<2):Go.bits .or .u8 (old:Int) ((z:Int)%256*2^r%256)=((old+z*2^r:Nat):Int):=by
 have h:=RE old z r hr ho hz;rw[IntKind.wrap_u8,IntKind.wrap_u8]at h;exact h
theorem LH(v:Int)(j:Nat):(v%2^(j+1)).toNat=(v%2^j).toNat+(v/2^j%2).toNat*2^j:=by
 have e:((2:Int)^j)=((2^j:Nat):Int):=by simp
 have e1:((2:Int)^(j+1))=((2^j:Nat):Int)*2:=by rw[Int.pow_succ,e]
 have hpos:=Nat.two_pow_pos j;rw[e1,e];generalize 2^j=P at*;have h1:=Int.emod_add_mul_ediv v (P:Int);have h2:=Int.emod_nonneg v (show(P:Int)≠0 by omega);have h3:=Int.emod_lt_of_pos v (show(0:Int)<(P:Int)by omega);generalize hr:v%(P:Int)=r at*;generalize hq:v/(P:Int)=q at*;have h4:=Int.emod_add_mul_ediv q 2;have h5:q%2=0∨q%2=1:=by omega
 generalize q%2=z at*;generalize q/2=q2 at*;have hv:v=(r+P*z)+P*2*q2:=by rw[←h1,←h4,Int.mul_add,←Int.mul_assoc,Int.add_assoc]
 have hzP:(P:Int)*z=0∨(P:Int)*z=P:=by rcases h5 with h|h<;>subst h<;>simp
 have hb:v%(P*2)=r+P*z:=by
  rw[hv,Int.add_mul_emod_self_left];exact Int.emod_eq_of_lt (by omega) (by omega)
 rw[hb];rcases h5 with h|h
 ·subst h;simp
 ·subst h;simp;omega
theorem Lm{w W:World}{lo b g c X0 M N j:Nat}{og:Option Nat}{L:List UInt8}{v:Int}{y:UInt8}(hM:N+j=M)
 (hi:Is W b 141 #[.slice (some ⟨g,0,none⟩) L.length c,M]) (ho:W.ownsRow lo 5 1 (.slice (some ⟨g,0,none⟩) L.length c) L.length (ah L))
 (hl:L.length=M/8+1) (hn:num L=X0+(v%2^j).toNat*2^N) (hx:X0+(v%2^j).toNat*2^N<2^M) (hg:og=some g∨w.heap.size≤g) (hB:But (b::og.toList) w W)
 (hk:M/8<L.length) (hy:L[M/8]=y):
 ∃og1,FW ((W.setCell ⟨g,M/8,none⟩ (.int .u8 (Go.bits .or .u8 (y.toNat:Int) (Go.bits .and .i64 (v/2^j) 1%256*2^(M%8)%256)))).setCell ⟨b,1,none⟩ (.int .i64 ((M:Int)+1))) lo b og1 (X0+(v%2^(j+1)).toNat*2^N) (N+(j+1))∧
  (∀g,og1=some g→og=some g∨w.heap.size≤g)∧
  But (b::og.toList) w ((W.setCell ⟨g,M/8,none⟩ (.int .u8 (Go.bits .or .u8 (y.toNat:Int) (Go.bits .and .i64 (v/2^j) 1%256*2^(M%8)%256)))).setCell ⟨b,1,none⟩ (.int .i64 ((M:Int)+1))):=by
 have hold:y.toNat<2^(M%8):=by
  rw[←hy,QC L (M/8) hk,hn,p256];refine Nat.lt_of_le_of_lt (Nat.mod_le _ _) ?_;apply Nat.div_lt_of_lt_mul;rw[←Nat.pow_add,show 8*(M/8)+M%8=M from by omega];exact hx
 have hz:(v/2^j%2).toNat<2:=by omega
 have ez:v/2^j%2=(((v/2^j%2).toNat:Nat):Int):=by omega
 have hstep:=LH v j;have h7:2^(M%8)≤2^7:=Nat.pow_le_pow_right (by decide) (by omega);rw[CE,ez,hstep];generalize(v/2^j%2).toNat=z at*;rw[Qy y.toNat z (M%8) (by omega) hold hz];have hzr:z*2^(M%8)≤1*2^(M%8):=Nat.mul_le_mul_right _ (by omega);have hby:(UInt8.ofNat (y.toNat+z*2^(M%8))).toNat=y.toNat+z*2^(M%8):=by
  have h:(UInt8.ofNat (y.toNat+z*2^(M%8))).toNat=(y.toNat+z*2^(M%8))%256:=UInt8.toNat_ofNat';omega
 have hgb:g≠b:=fun e=>fy ho hi (by decide) (by rw[e];rfl);have hst:=(ho.stored (M/8) (.int .u8 ((y.toNat+z*2^(M%8):Nat):Int))).1;have hnum:num (L.set (M/8) (UInt8.ofNat (y.toNat+z*2^(M%8))))=num L+z*2^M:=by
  have h:=QA L (M/8) hk (UInt8.ofNat (y.toNat+z*2^(M%8)));rw[hby,hy,Nat.mul_add,p256]at h;have e:2^(8*(M/8))*(z*2^(M%8))=z*2^M:=by
   rw[Nat.mul_left_comm,←Nat.pow_add,show 8*(M/8)+M%8=M from by omega]
  omega
 have hX':X0+((v%2^j).toNat+z*2^j)*2^N=num L+z*2^M:=by
  rw[hn,Nat.add_mul,Nat.mul_assoc,←Nat.pow_add,show j+N=M from by omega,Nat.add_assoc]
 have e1:((M:Int)+1)=((M+1:Nat):Int):=by omega
 have hB1:But (b::og.toList) w ((W.setCell ⟨g,M/8,none⟩ (.int .u8 ((y.toNat+z*2^(M%8):Nat):Int))).setCell ⟨b,1,none⟩ (.int .i64 ((M:Int)+1))):=
  (hB.setCell (p:=⟨g,M/8,none⟩) (hg.elim (fun h=>.inl (by subst h;simp)) .inr) _).setCell (p:=⟨b,1,none⟩) (.inl (by simp)) _
 refine⟨some g,⟨.slice (some ⟨g,0,none⟩) L.length c,L.set (M/8) (UInt8.ofNat (y.toNat+z*2^(M%8))),?_,?_,rfl,?_,?_,?_⟩,fun k e=>?_,hB1⟩
 ·rw[show N+(j+1)=M+1 from by omega,e1];have h:=(hi.far (p:=⟨g,M/8,none⟩) (Ne.symm hgb) (.int .u8 ((y.toNat+z*2^(M%8):Nat):Int))).put 1 (.int .i64 ((M+1:Nat):Int));simpa using h
 ·have ec:ah (L.set (M/8) (UInt8.ofNat (y.toNat+z*2^(M%8))))=(ah L).set (M/8) (.int .u8 ((y.toNat+z*2^(M%8):Nat):Int)):=by
   unfold ah;rw[List.map_set,hby]
  rw[ec,List.length_set];exact ownsRow_setCell_other hst (a:=⟨b,1,none⟩) (by simp[Value.ownBlock];exact hgb) _
 ·rw[List.length_set];omega
 ·rw[hnum,hX']
 ·rw[hX',show N+(j+1)=M+1 from by omega,Nat.pow_succ,hn];have:z*2^M≤1*2^M:=Nat.mul_le_mul_right _ (by omega);omega
 ·have:g=k:=by simpa using e
  subst this;exact hg
theorem FW.bits{w:World}{lo b:Nat}{og:Option Nat}{X N:Nat}(h:FW w lo b og X N)(hlo:lo≤w.heap.size)(hN:N≤140737488355328)(v n:Int):
 Calls prog 117 #[.pointer b,v,n] w fun e w'=>e=.returned (.tuple #[])∧
  ∃og',FW w' lo b og' (layX X N v n) (layN N n)∧(∀g,og'=some g→og=some g∨w.heap.size≤g)∧But (b::og.toList) w w':=by
 by_cases hn:n<0∨24<n
 ·have hx:layX X N v n=X:=by unfold layX;rw[if_pos hn]
  have hy:layN N n=N:=by unfold layN;rw[if_pos hn]
  rw[hx,hy];clear hx hy;rcases hn with hn|hn
  ·go_enter func117,ntmps117
   go_wp2;exact bodyPost_ret (results_none rfl _ _ _) rfl ⟨rfl,og,h,fun g e=>.inl e,But.refl _ _⟩
  ·have hn0:¬n<0:=by omega
   go_enter func117,ntmps117
   go_wp2;exact bodyPost_ret (results_none rfl _ _ _) rfl ⟨rfl,og,h,fun g e=>.inl e,But.refl _ _⟩
 ·obtain⟨m,rfl⟩:=Int.eq_ofNat_of_zero_le (show 0≤n by omega);have hm:m≤24:=by omega
  have d1:decide ((m:Int)<0)=false:=by simp
  have d2:decide ((24:Int)<(m:Int))=false:=by simp;omega
  have hx:layX X N v (m:Int)=X+(v%2^m).toNat*2^N:=by unfold layX;rw[if_neg hn];rfl
  have hy:layN N (m:Int)=N+m:=by unfold layN;rw[if_neg hn];rfl
  rw[hx,hy];clear hx hy hn;obtain⟨i0,hi0,hz0,hz1,hz2⟩:=info_parts lw
  go_enter func117,ntmps117
  go_wp2
  go_loopw [6] (fun i wr=>∃j:Nat,j≤m∧i=.int .i64 j∧∃og1,FW wr lo b og1 (X+(v%2^j).toNat*2^N) (N+j)∧(∀g,og1=some g→og=some g∨w.heap.size≤g)∧But (b::og.toList) w wr) (fun i _=>m-(intOf i).toNat)
  case atStart=>exact⟨0,Nat.zero_le _,rfl,og,by simpa using h,fun g e=>.inl e,But.refl _ _⟩
  case round=>
   obtain⟨j,hj,rfl,og1,hF,hf,hB⟩:=hrel
   by_cases hlt:j<m
   ·generalize hM:N+j=M at*;have HM:=qhz hM;have hMb:M≤140737488355400:=by omega
    clear hM h;have hmid:∃(x:Value) (L:List UInt8),Is wr b 141 #[x,M]∧wr.ownsRow lo 5 1 x L.length (ah L)∧x.ownBlock=og1∧L.length=(M+7)/8∧num L=X+(v%2^j).toNat*2^N∧X+(v%2^j).toNat*2^N<2^M:=hF;clear hF;obtain⟨x,L,hi,hown,hog,hlen,hnum,hX⟩:=hmid;have hbl:b<wr.heap.size:=hi.lt;have hsz:=hB.size;have h1:wr.cell? ⟨b,1,none⟩=some (.int .i64 (M:Nat)):=hi.cell 1;have f0:wr.frozen? ⟨b,0,none⟩=false:=hi.free 0;have f1:wr.frozen? ⟨b,1,none⟩=false:=hi.free 1;have hne:=fy hown hi (by decide);have hLb:L.length≤17592186044500:=by omega
    have HI:=qhz hi;have HX:=qhz hnum;have HL:=qhz hlen;clear hnum hlen
    by_cases h8:M%8=0
    case' pos=>
     have h0:wr.cell? ⟨b,0,none⟩=some x:=hi.cell 0;have t8:((M:Int)%8==0)=true:=by rw[beq_iff_eq];omega
     clear hi
     go_wp2_with (at_builtin;refine wpList_append_lies _ rfl _ _ _ rfl lo 5 i0 _ 1 1 underlying47 hi0 hz0 hz1 hz2 rfl (by omega) x L.length (ah L) rfl (hown.alloc _) ⟨wr.heap.size,0,none⟩ 1 1 [.int .u8 0] rfl rfl (cell_one_new _ _ _) (by simp[Value.oneCell']) (by omega) (by unfold maxLen;omega) (by omega) (by simp;omega) (wr.heap.size+1) (by simp) ?_;intro g c w1 hown2 hgrow hat hlt2;have hi2:=((HI.out.alloc (.cells #[.int .u8 0] 5)).grown hgrow (Ne.symm hne));have g0:w1.cell? ⟨b,0,none⟩=some x:=hi2.cell 0;have g1:w1.cell? ⟨b,1,none⟩=some (.int .i64 (M:Nat)):=hi2.cell 1;have g2:w1.frozen? ⟨b,0,none⟩=false:=hi2.free 0;have g3:w1.frozen? ⟨b,1,none⟩=false:=hi2.free 1;have HI2:=qhz hi2;clear hi2)
     have hF:=Ln h8 hX hog hf hB HI.out HX.out HL.out hown hown2 hgrow hat;clear g0 g1 g2 g3 h0 h1 f0 f1 hown hown2 hgrow hat HI2 hog hf HI HX HL hne hLb hlt2 t8 h8;generalize w1.setCell ⟨b,0,none⟩ (.slice (some ⟨g,0,none⟩) (L.length+1) c)=W at*;generalize L++[0]=L' at *
    case' neg=>
     have t8:((M:Int)%8==0)=false:=by rw[beq_eq_false_iff_ne];omega
     have hpos:0<L.length:=by have:=HL.out;omega
     obtain⟨g,c,rfl,_,hlt2⟩:=hown.form hpos;have h0:wr.cell? ⟨b,0,none⟩=some (.slice (some ⟨g,0,none⟩) L.length c):=hi.cell 0;clear hi
     go_wp2_with fail
     have hF:FMid w wr lo b g c og (X+(v%2^j).toNat*2^N) M L:=⟨HI.out,hown,by have:=HL.out;omega,HX.out,hX,hf g (hog▸rfl),hB⟩
     clear h0 h1 f0 f1 hown hog hf HI HX HL hne hLb hlt2 t8 h8 hpos;generalize hLL:L=L' at*;generalize hWW:wr=W at *
    all_goals
     obtain⟨hi3,ho3,hl3,hn3,hx3,hg3,hb3⟩:=hF.drew;refine wp_region_still_tail 33 (by kernel_rfl) (by kernel_rfl) ?_;simp only[List.take_succ_cons,List.take_zero,List.drop_succ_cons,List.drop_zero];change wpStill _ _ W.drew (fun a'=>wpList _ _ _ _ a' W.drew) _ _;generalize W.drew=W at*;have c0:W.cell? ⟨b,0,none⟩=some (.slice (some ⟨g,0,none⟩) L'.length c):=hi3.cell 0;have c1:W.cell? ⟨b,1,none⟩=some (.int .i64 (M:Nat)):=hi3.cell 1;have e1:W.frozen? ⟨b,1,none⟩=false:=hi3.free 1;have hk:M/8<L'.length:=by omega
     have ce:W.cell? ⟨g,M/8,none⟩=some (.int .u8 ((L'[M/8]'hk).toNat:Int)):=NX ho3 hk;have ef:W.frozen? ⟨g,M/8,none⟩=false:=ho3.frozenAt _;have hgb:g≠b:=fun e=>fy ho3 hi3 (by decide) (by rw[e];rfl);have HI3:=qhz hi3;have HL3:=qhz hl3;have HN3:=qhz hn3;have hidx:(M:Int)/8<(L'.length:Int):=by omega
     have hidx0:0≤(M:Int)/8:=by omega
     clear hi3 hl3 hn3;generalize hy:L'[M/8]=y at*;have q1:IntKind.i64.wrap ((M:Int)/8)=(M:Int)/8:=IntWalk.i64_in _ (by omega);have q2:((M:Int)/8).toNat=M/8:=by omega
     have q3:0≤(M:Int)%8:=by omega
     have q4:IntKind.i64.wrap ((M:Int)%8)=(M:Int)%8:=IntWalk.i64_in _ (by omega);have q5:((M:Int)%8).toNat=M%8:=by omega
     have q6:min (M%8) 8=M%8:=by omega
     have q7:(M:Int).tmod 8=(M:Int)%8:=Int.tmod_eq_emod_of_nonneg (by omega)
     repeat still_step
     refine wpStill_nil ?_;clear q1 q2 q3 q4 q5 q6 q7;go_wp2
     go_roundw
     case rel=>exact⟨j+1,by omega,by go_num,Lm HM.out HI3.out ho3 HL3.out HN3.out hx3 hg3 hb3 hk hy⟩
     case measure=>simp[intOf];omega
   ·obtain rfl:j=m:=by omega
    clear h;go_wp2
    go_end0
    exact⟨rfl,og1,hF,hf,hB⟩
end Go.Proofs.YtbanopnofpjnbaaGreatDoor
