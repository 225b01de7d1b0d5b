/- Own texts in one: PnG, PnJ, PnT. -/
import Derived.Test.YtbanopnofpjnbaaGreatDoorU25
import Derived.Test.YtbanopnofpjnbaaGreatDoorU41
set_option maxRecDepth 1000000
set_option linter.unusedVariables false
set_option maxHeartbeats 4000000
namespace Go.Proofs.YtbanopnofpjnbaaGreatDoor
open Go Go.RowKit Tryz
def InJ(S:ShP)(j:RowJ):Prop:=j.y<S.h∧∀i,i<j.n→j.x+i*j.dx<S.w
theorem OC{S:ShP}{l:List bj}(hl:∀p∈l,1≤p.dx∧1≤p.dy):∀j∈bS S.w S.h l,InJ S j:=fun j hj=>by
 obtain⟨p,hp,hj⟩:=List.mem_flatMap.1 hj;unfold mo at hj;split at hj
 ·cases hj
 obtain⟨t,ht,rfl⟩:=List.mem_map.1 hj;exact⟨(gs (hl p hp).2 t).1 (List.mem_range.1 ht),fun i hi=>(gs (hl p hp).1 i).1 hi⟩
theorem vg{S:ShP}{line:List UInt8}{j:RowJ}(hj:InJ S j):∀(m x:Nat) (pix:List UInt8),x+m≤j.n→pix.length=8*(S.w*S.h)→(cO S line j m x pix).2=0→(cO S line j m x pix).1.length=8*(S.w*S.h)
 |0,_,_,_,hl,_=>hl
 |m+1,x,pix,hx,hl,h=>by
  unfold cO at h⊢
  by_cases k:(pixS S (bJ S line x)).2≠0
  ·rw[if_pos k]at h;exact absurd h k
  ·rw[if_neg k]at h⊢;have h8:(pixS S (bJ S line x)).1.length=8:=by
    rcases lU S (bJ S line x)with e|e
    ·exact e.2
    ·rw[e]at k;exact absurd (by show(29:Int)≠0;decide) k
   have h1:=hj.2 x (by omega);have h2:(j.y+1)*S.w≤S.h*S.w:=Nat.mul_le_mul_right _ hj.1;rw[Nat.add_mul,Nat.one_mul,Nat.mul_comm S.h S.w]at h2;exact vg hj m (x+1) _ (by omega) (by rw[mS (by omega)];exact hl) h
theorem zc{S:ShP}:∀(js:List RowJ) (raw above pix:List UInt8),(∀j∈js,InJ S j)→pix.length=8*(S.w*S.h)→(runI S js raw above pix).2=0→(runI S js raw above pix).1.length=8*(S.w*S.h)
 |[],_,_,_,_,hl,_=>hl
 |j::js,raw,above,pix,hj,hl,h=>by
  unfold runI at h⊢
  by_cases k:4<(raw.getD 0 0).toNat
  ·rw[if_pos k]at h;exact absurd h (by show(28:Int)≠0;decide)
  rw[if_neg k]at h⊢;generalize eO ((raw.getD 0 0).toNat:Int) (bppN S) ((raw.drop 1).take (bA S j.n)) (if j.first=true then []else above)=line at h⊢
  by_cases k2:(cO S line j j.n 0 pix).2≠0
  ·rw[if_pos k2]at h;exact absurd h k2
  ·rw[if_neg k2]at h⊢;exact zc js _ _ _ (fun i hi=>hj i (by simp[hi])) (vg (hj j (by simp)) _ _ _ (by omega) hl (Classical.not_not.1 k2)) h
theorem Lc{S:ShP}{l:List bj}{raw:List UInt8}(hp:∀p∈l,1≤p.dx∧1≤p.dy)(h:(imgT S l raw).2=0):(imgT S l raw).1.length=8*(S.w*S.h):=by
 unfold imgT at h⊢;split at h
 ·exact absurd h (by show(30:Int)≠0;decide)
 rename_i h1;rw[if_neg h1];split at h
 ·exact absurd h (by show(31:Int)≠0;decide)
 rename_i h2;rw[if_neg h2];exact zc _ _ _ _ (OC hp) List.length_replicate h
theorem zh{a b d c l:Int}(h:ak a b d c l=0):ak a b 16 6 0=0:=by
 unfold ak at h⊢;split at h
 ·exact absurd h (by decide)
 rename_i h1;split at h
 ·exact absurd h (by decide)
 rename_i h2;have hd:bD 16 6=true:=by decide
 rw[if_neg (fun k=>h1 (by rw[hd]at k;rcases k with k|k|k|k|k|k<;>first|exact .inl k|exact .inr (.inl k)|exact .inr (.inr (.inl k))|exact .inr (.inr (.inr (.inl k)))|exact absurd rfl k.1|exact absurd k (by decide))),if_neg h2]
theorem Gy{a b d c l:Int}{pal tr:ByteArray}{has:Bool}{raw:ByteArray}(h:(aG a b d c l pal tr has raw).2=0):
 (aG a b d c l pal tr has raw).1.1=a∧(aG a b d c l pal tr has raw).1.2.1=b∧aA a b (aG a b d c l pal tr has raw).1.2.2=0:=by
 by_cases h0:ak a b d c l=0
 ·obtain⟨W,H,D,C,R⟩:=dA h0;have hT:=Aj (pal:=pal) (tr:=tr) (has:=has) (raw:=raw) h0 R;unfold aG at h⊢
  by_cases k:(imgA a b d c l pal tr has raw).2≠0
  ·rw[if_pos k]at h;exact absurd h k
  ·rw[if_neg k];refine⟨rfl,rfl,?_⟩;have hl:=Lc (S:=⟨W,H,D,C,pal.data.toList,tr.data.toList,has⟩) (l:=(gn l).filter (cj W H)) (raw:=raw.data.toList) (fun p hp=>by have:=gm (List.mem_filter.1 hp).1;omega) (by rw[←hT];exact Classical.not_not.1 k);rw[←hT]at hl;unfold aA;rw[if_neg (fun k2=>k2 (zh h0)),if_neg];refine fun k2=>k2 ?_;show((strL _).size:Int)=_;rw[ac,hl,R.wa,R.hb];show((8*(W*H):Nat):Int)=8*(W:Int)*(H:Int);rw[Int.mul_assoc]
   exact_mod_cast rfl
 ·rw[Ez h0]at h;exact absurd h h0
theorem xS{a b d c l:Int}{pal tr:ByteArray}{has:Bool}{raw:ByteArray}(h:(aG a b d c l pal tr has raw).2≠0):aG a b d c l pal tr has raw=(r30,(aG a b d c l pal tr has raw).2):=by
 unfold aG at h⊢
 by_cases k:(imgA a b d c l pal tr has raw).2≠0
 ·rw[if_pos k];rfl
 ·rw[if_neg k]at h;exact absurd rfl h
theorem Hj{a b:Int}{pix:ByteArray}(h:aA a b pix=0):pix.size≤32768:=by
 have h0:=kV h;obtain⟨W,H,R⟩:=pG h0;have hp:(pix.size:Int)=8*a*b:=by
  unfold aA at h;rw[if_neg (fun k=>k h0)]at h
  by_cases k:(pix.size:Int)≠8*a*b
  ·rw[if_pos k]at h;exact absurd h (by decide)
  ·exact Classical.not_not.1 k
 have hp2:pix.size=8*W*H:=by
  rw[R.wa,R.hb]at hp
  exact_mod_cast hp
 have:=R.area;rw[hp2,Nat.mul_assoc];omega
theorem GY(n:List Int)(s:HS)(u:List UInt8×Int):((decU n s u).2≠0∧decU n s u=(r30,(decU n s u).2))∨((decU n s u).2=0∧aA (decU n s u).1.1 (decU n s u).1.2.1 (decU n s u).1.2.2=0):=by
 unfold decU;split
 ·exact .inl ⟨by decide,rfl⟩
 split
 ·rename_i h;exact .inl ⟨h,rfl⟩
 ·by_cases k:(aG (n.getD 0 0) (n.getD 1 0) (n.getD 2 0) (n.getD 3 0) (n.getD 4 0) (strL s.P) (strL s.T) s.trans (strL u.1)).2=0
  ·obtain⟨e1,e2,e3⟩:=Gy k;exact .inr ⟨k,by rw[e1,e2];exact e3⟩
  ·exact .inl ⟨k,xS k⟩
theorem AH(f:ByteArray):((decA f).2≠0∧decA f=(r30,(decA f).2))∨((decA f).2=0∧aA (decA f).1.1 (decA f).1.2.1 (decA f).1.2.2=0):=by
 unfold decA;split
 ·exact .inl ⟨by decide,rfl⟩
 unfold decS;split
 ·rename_i h;exact .inl ⟨h,rfl⟩
 unfold decR;split
 ·rename_i h;exact .inl ⟨h,rfl⟩
 exact GY _ _ _
theorem Q5{f:ByteArray}(h:(decA f).2≠0):decA f=(r30,(decA f).2):=by
 rcases AH f with k|k
 ·exact k.2
 ·exact absurd k.1 h
theorem OW{f:ByteArray}(h:(decA f).2=0):aA (decA f).1.1 (decA f).1.2.1 (decA f).1.2.2=0∧(decA f).1.2.2.size≤140737488351232:=by
 rcases AH f with k|k
 ·exact absurd h k.1
 ·exact⟨k.2,Nat.le_trans (Hj k.2) (by decide)⟩
section
attribute [local irreducible] aA aG aX encA decA
theorem pngAgain_walk{G:World→Prop}(hL:Ib G)(haw:Ie G)(hc:EnC G)(hd:DeC G){f:ByteArray}{w:World}(hf:f.size≤140737488351232)(hG:G w):
 Calls prog 6 #[f] w fun e w'=>e=.returned (.bool true)∧Below w.heap.size w w':=by
 obtain⟨w1,hw1⟩:=E1 (w:World);have HB:Hid (But [] w w1):=qhz (by rw[hw1];exact But.refl [] w);have HG:Hid (∀v,But [] w1 v→G v):=qhz fun v hv=>hL _ _ hG (by rw[hw1]at hv;exact hv);have HA:=qhz haw;clear hG haw
 by_cases hs:5000<f.size
 case pos=>
  have d1:decide ((5000:Int)<(f.size:Int))=true:=by simp;omega
  go_enter func6,ntmps6
  go_upto_region 1 with(fail)
  rw[←hw1];clear hw1
  go_wp2_with fail
  refine(HA.out _ (HG.out _ (But.refl [] w1))).mono ?_;rintro e w9 ⟨rfl,hB9⟩;have HB9:=qhz (HB.out.trans ((But.refl [] w1).trans hB9));clear hB9;go_wp2;go_ret;exact⟨rfl,HB9.out.belowP⟩
 have d1:decide ((5000:Int)<(f.size:Int))=false:=by simp;omega
 by_cases h0:(decA f).2≠0
 case pos=>
  obtain⟨r,hr⟩:=E1 ((decA f).2);have hR:=Q5 h0;have q0:(r !=0)=true:=by rw[hr];simpa using h0
  rw[←hr]at hR;have HP:Hid (∀v,But [] w1 v→Calls prog 9 #[f] v (R1z (.tuple #[.agg #[(0:Int),(0:Int),.string ⟨#[]⟩],r]) v)):=qhz fun v hv=>by have h:=hd v f (HG.out v hv) hf;rw[hR]at h;exact h
  have keq:=fun v=>wW v 0 0 ⟨#[]⟩;clear hr hR hc hd h0
  go_enter func6,ntmps6
  go_upto_region 1 with(fail)
  rw[←hw1];clear hw1
  go_wp2_with fail
  refine(HP.out _ (But.refl [] _)).mono ?_;rintro e w2 ⟨rfl,hB2⟩;have HB2:=qhz ((But.refl [] w1).trans hB2);clear hB2
  go_upto_region 4 with(fail)
  obtain⟨b1,hb1⟩:=E1 w2.heap.size;obtain⟨w3,hw3⟩:=E1 (w2.alloc (.cells #[(0:Int),(0:Int),.string ⟨#[]⟩] 23));rw[←hw3,←hb1];have HI1:Hid (Is w3 b1 23 #[(0:Int),(0:Int),.string ⟨#[]⟩]):=qhz (by rw[hw3,hb1];exact Is.fresh _ _ _);have HB3:Hid (But [] w1 w3):=qhz (by rw[hw3];exact HB2.out.alloc _);clear hb1 hw3;obtain⟨e0,e1,e2,hgl1⟩:=HI1.out.c3
  go_wp2_with fail
  refine(HA.out _ (HG.out _ HB3.out)).mono ?_;rintro e w9 ⟨rfl,hB9⟩;have HB9:=qhz (HB.out.trans (HB3.out.trans hB9));clear hB9;go_wp2;go_ret;exact⟨rfl,HB9.out.belowP⟩
 have h0:=Classical.not_not.1 h0;obtain⟨a,ha⟩:=E1 ((decA f).1.1);obtain⟨b,hb⟩:=E1 ((decA f).1.2.1);obtain⟨pix,hpx⟩:=E1 ((decA f).1.2.2);obtain⟨hck,hp⟩:=OW h0;rw[←ha,←hb,←hpx]at hck;rw[←hpx]at hp;have HP:Hid (∀v,But [] w1 v→Calls prog 9 #[f] v (R1z (.tuple #[.agg #[a,b,pix],(0:Int)]) v)):=qhz fun v hv=>by have h:=hd v f (HG.out v hv) hf;rw[ha,hb,hpx,←h0];exact h
 clear ha hb hpx h0
 by_cases hs3:pix.size≤4096
 case neg=>
  have HS:Hid (∀v,Calls prog 12 #[.agg #[a,b,pix]] v (R1z (.bool false) v)):=qhz fun v=>jf v hp (by simp;omega);clear hc hd hck
  go_enter func6,ntmps6
  go_upto_region 1 with(fail)
  rw[←hw1];clear hw1
  go_wp2_with fail
  refine(HP.out _ (But.refl [] _)).mono ?_;rintro e w2 ⟨rfl,hB2⟩;have HB2:=qhz ((But.refl [] w1).trans hB2);clear hB2
  go_upto_region 4 with(fail)
  obtain⟨b1,hb1⟩:=E1 w2.heap.size;obtain⟨w3,hw3⟩:=E1 (w2.alloc (.cells #[a,b,pix] 23));rw[←hw3,←hb1];have HI1:Hid (Is w3 b1 23 #[a,b,pix]):=qhz (by rw[hw3,hb1];exact Is.fresh _ _ _);have HB3:Hid (But [] w1 w3):=qhz (by rw[hw3];exact HB2.out.alloc _);clear hb1 hw3;obtain⟨c0,c1,c2,hgl⟩:=HI1.out.c3
  go_wp2_with fail
  refine(HS.out _).mono ?_;rintro e w4 ⟨rfl,hB4⟩;have HB4:=qt HB3 hB4;clear hB4;clear c0 c1 c2 hgl
  go_wp2_with fail
  refine(HA.out _ (HG.out _ HB4.out)).mono ?_;rintro e w9 ⟨rfl,hB9⟩;have HB9:=qhz (HB.out.trans (HB4.out.trans hB9));clear hB9;go_wp2;go_ret;exact⟨rfl,HB9.out.belowP⟩
 have HS:Hid (∀v,Calls prog 12 #[.agg #[a,b,pix]] v (R1z (.bool true) v)):=qhz fun v=>jf v hp (by simp;omega);obtain⟨j1,j2,_,j4⟩:=LV hck (uR hck hs3);obtain⟨s,hs2⟩:=E1 ((encA a b pix).1);rw[←hs2]at j2 j4;have HQ:Hid (∀v,But [] w1 v→Calls prog 13 #[.agg #[a,b,pix]] v (R1z (.tuple #[s,(0:Int)]) v)):=qhz fun v hv=>by have h:=hc v a b pix (HG.out v hv) hs3;rw[j1,←hs2]at h;exact h
 have HM:Hid (∀v,But [] w1 v→Calls prog 9 #[s] v (R1z (.tuple #[.agg #[a,b,pix],(0:Int)]) v)):=qhz fun v hv=>by have h:=hd v s (HG.out v hv) (by omega);rw[j4]at h;exact h
 have keq:=fun v=>wW v a b pix;clear hs2 j1 j2 j4 hc hd hck
 go_enter func6,ntmps6
 go_upto_region 1 with(fail)
 rw[←hw1];clear hw1
 go_wp2_with fail
 refine(HP.out _ (But.refl [] _)).mono ?_;rintro e w2 ⟨rfl,hB2⟩;have HB2:=qhz ((But.refl [] w1).trans hB2);clear hB2
 go_upto_region 4 with(fail)
 obtain⟨b1,hb1⟩:=E1 w2.heap.size;obtain⟨w3,hw3⟩:=E1 (w2.alloc (.cells #[a,b,pix] 23));rw[←hw3,←hb1];have HI1:Hid (Is w3 b1 23 #[a,b,pix]):=qhz (by rw[hw3,hb1];exact Is.fresh _ _ _);have HB3:Hid (But [] w1 w3):=qhz (by rw[hw3];exact HB2.out.alloc _);clear hb1 hw3;obtain⟨c0,c1,c2,hgl⟩:=HI1.out.c3
 go_wp2_with fail
 refine(HS.out _).mono ?_;rintro e w4 ⟨rfl,hB4⟩;have HI4:=qhz (HI1.out.but hB4 (by simp));have HB4:=qt HB3 hB4;clear hB4;clear c0 c1 c2 hgl;have c0:=(HI4.out.but (But.refl [] _) (by simp)).cell 0;have c1:=(HI4.out.but (But.refl [] _) (by simp)).cell 1;have c2:=(HI4.out.but (But.refl [] _) (by simp)).cell 2;have hgl:=(HI4.out.but (But.refl [] _) (by simp)).lt
 go_wp2_with fail
 refine(HQ.out _ HB4.out).mono ?_;rintro e w5 ⟨rfl,hB5⟩;have HI5:=qhz (HI4.out.but hB5 (by simp));have HB5:=qt HB4 hB5;clear hB5;clear c0 c1 c2 hgl
 go_wp2_with fail
 refine(HM.out _ HB5.out).mono ?_;rintro e w6 ⟨rfl,hB6⟩;have HI6:=qhz (HI5.out.but hB6 (by simp));have HB6:=qt HB5 hB6;clear hB6
 go_upto_region 10 with(fail)
 obtain⟨b2,hb2⟩:=E1 w6.heap.size;obtain⟨w7,hw7⟩:=E1 (w6.alloc (.cells #[a,b,pix] 23));rw[←hw7,←hb2];have HI3:Hid (Is w7 b2 23 #[a,b,pix]):=qhz (by rw[hw7,hb2];exact Is.fresh _ _ _);have hA7:But [] w6 w7:=by rw[hw7];exact(But.refl [] w6).alloc _
 have HI7:=qhz (HI6.out.but hA7 (by simp));have HB7:=qhz (HB6.out.trans hA7);clear hb2 hw7 hA7;obtain⟨e0,e1,e2,hgl1⟩:=HI7.out.c3;obtain⟨f0,f1,f2,hgl2⟩:=HI3.out.c3
 go_wp2_with fail
 refine(HA.out _ (HG.out _ HB7.out)).mono ?_;rintro e w9 ⟨rfl,hB9⟩;have HB9:=qhz (HB.out.trans (HB7.out.trans hB9));clear hB9;go_wp2;go_ret;exact⟨rfl,HB9.out.belowP⟩
end
end Go.Proofs.YtbanopnofpjnbaaGreatDoor
