/- Own texts in one: PxL, PnJ, PnT. -/
import Derived.Test.YtbanopnofpjnbaaGreatDoorU25
import Derived.Test.YtbanopnofpjnbaaGreatDoorU41
set_option maxRecDepth 1000000
set_option linter.unusedVariables false
set_option maxHeartbeats 4000000
namespace Go.Proofs.YtbanopnofpjnbaaGreatDoor
open Go Go.RowKit Tryz
section
theorem AM(a b:Int)(pix:ByteArray):aA a b pix=0∨aA a b pix=5∨aA a b pix=24:=by
 unfold aA;have h:=iJ a b 16 6 0;split
 ·rcases h with h|h|h
  ·rw[h];simp
  ·exact .inr (.inl h)
  ·exact .inr (.inr h)
 ·split
  ·simp
  ·simp
attribute [local irreducible] aA aG aX
end
theorem QY{a b:Int}{pix:ByteArray}(h:aA a b pix≠0):encA a b pix=(⟨#[]⟩,aA a b pix):=by
 have hr:aX a b pix=(⟨#[]⟩,aA a b pix):=by unfold aX;rw[if_pos h]
 unfold encA;rw[hr,if_pos h]
section
attribute [local irreducible] aA aG aX encA decA
theorem pngBack_walk{G:World→Prop}(hL:Ib G)(haw:Ie G)(hc:EnC G)(hd:DeC G){a b:Int}{pix:ByteArray}{w:World}(hp:pix.size≤140737488351232)(hG:G w):
 Calls prog 5 #[.agg #[a,b,pix]] w fun e w'=>e=.returned (.bool true)∧Below w.heap.size w w':=by
 obtain⟨b0,hb0⟩:=E1 w.heap.size;obtain⟨w1,hw1⟩:=E1 (w.alloc (.cells #[a,b,pix] 23));have HI:Hid (Is w1 b0 23 #[a,b,pix]):=qhz (by rw[hw1,hb0];exact Is.fresh _ _ _);have hB:But [] w w1:=by rw[hw1];exact(But.refl [] w).alloc _
 have HB:=qhz hB;have HG:Hid (∀v,But [] w1 v→G v):=qhz fun v hv=>hL _ _ (hL _ _ hG hB) hv;have HA:=qhz haw;clear hB hG haw
 by_cases hs:pix.size≤4096
 case neg=>
  have HS:Hid (∀v,Calls prog 12 #[.agg #[a,b,pix]] v (R1z (.bool false) v)):=qhz fun v=>jf v hp (by simp;omega)
  go_enter func5,ntmps5
  go_upto_region 1 with(fail)
  rw[←hw1,←hb0];clear hw1 hb0;have c0:=(HI.out.but (But.refl [] w1) (by simp)).cell 0;have c1:=(HI.out.but (But.refl [] w1) (by simp)).cell 1;have c2:=(HI.out.but (But.refl [] w1) (by simp)).cell 2;have hgl:=(HI.out.but (But.refl [] w1) (by simp)).lt
  go_wp2_with fail
  refine(HS.out _).mono ?_;rintro e w2 ⟨rfl,hB2⟩;have HB2:=qhz ((But.refl [] w1).trans hB2);clear hB2;clear c0 c1 c2 hgl
  go_wp2_with fail
  refine(HA.out _ (HG.out _ HB2.out)).mono ?_;rintro e w9 ⟨rfl,hB9⟩;have HB9:=qhz (HB.out.trans (HB2.out.trans hB9));clear hB9;go_wp2;go_ret;exact⟨rfl,HB9.out.belowP⟩
 have HS:Hid (∀v,Calls prog 12 #[.agg #[a,b,pix]] v (R1z (.bool true) v)):=qhz fun v=>jf v hp (by simp;omega)
 by_cases h0:aA a b pix≠0
 case pos=>
  obtain⟨r,hr⟩:=E1 (aA a b pix);have hR:=QY h0;rw[←hr]at hR;have HP:Hid (∀v,But [] w1 v→Calls prog 13 #[.agg #[a,b,pix]] v (R1z (.tuple #[.string ⟨#[]⟩,r]) v)):=qhz fun v hv=>by have h:=hc v a b pix (HG.out v hv) hs;rw[hR]at h;exact h
  have hcases:r=5∨r=24:=by rcases AM a b pix with h|h|h;exact absurd h h0;exact .inl (hr.trans h);exact .inr (hr.trans h)
  clear hr hR hc hd h0;rcases hcases with rfl|rfl
  all_goals
   go_enter func5,ntmps5
   go_upto_region 1 with(fail)
   rw[←hw1,←hb0];clear hw1 hb0;have c0:=(HI.out.but (But.refl [] w1) (by simp)).cell 0;have c1:=(HI.out.but (But.refl [] w1) (by simp)).cell 1;have c2:=(HI.out.but (But.refl [] w1) (by simp)).cell 2;have hgl:=(HI.out.but (But.refl [] w1) (by simp)).lt
   go_wp2_with fail
   refine(HS.out _).mono ?_;rintro e w2 ⟨rfl,hB2⟩;have HB2:=qhz ((But.refl [] w1).trans hB2);clear hB2;clear c0 c1 c2 hgl;obtain⟨c0,c1,c2,hgl⟩:=(HI.out.but HB2.out (by simp)).c3
   go_wp2_with fail
   refine(HP.out _ HB2.out).mono ?_;rintro e w3 ⟨rfl,hB3⟩;have HB3:=qt HB2 hB3;clear hB3;clear c0 c1 c2 hgl
   go_wp2_with fail
   refine(HA.out _ (HG.out _ HB3.out)).mono ?_;rintro e w9 ⟨rfl,hB9⟩;have HB9:=qhz (HB.out.trans (HB3.out.trans hB9));clear hB9;go_wp2;go_ret;exact⟨rfl,HB9.out.belowP⟩
 have h0:=Classical.not_not.1 h0;obtain⟨j1,j2,_,j4⟩:=LV h0 (uR h0 hs);obtain⟨s,hs2⟩:=E1 ((encA a b pix).1);rw[←hs2]at j2 j4;have HP:Hid (∀v,But [] w1 v→Calls prog 13 #[.agg #[a,b,pix]] v (R1z (.tuple #[s,(0:Int)]) v)):=qhz fun v hv=>by have h:=hc v a b pix (HG.out v hv) hs;rw[j1,←hs2]at h;exact h
 have HM:Hid (∀v,But [] w1 v→Calls prog 9 #[s] v (R1z (.tuple #[.agg #[a,b,pix],(0:Int)]) v)):=qhz fun v hv=>by have h:=hd v s (HG.out v hv) (by omega);rw[j4]at h;exact h
 have keq:=fun v=>wW v a b pix;have d1:decide ((s.size:Int)≤65536)=true:=by simp;omega
 clear hs2 j1 j2 j4 hc hd h0
 go_enter func5,ntmps5
 go_upto_region 1 with(fail)
 rw[←hw1,←hb0];clear hw1 hb0;have c0:=(HI.out.but (But.refl [] w1) (by simp)).cell 0;have c1:=(HI.out.but (But.refl [] w1) (by simp)).cell 1;have c2:=(HI.out.but (But.refl [] w1) (by simp)).cell 2;have hgl:=(HI.out.but (But.refl [] w1) (by simp)).lt
 go_wp2_with fail
 refine(HS.out _).mono ?_;rintro e w2 ⟨rfl,hB2⟩;have HB2:=qhz ((But.refl [] w1).trans hB2);clear hB2;clear c0 c1 c2 hgl;obtain⟨c0,c1,c2,hgl⟩:=(HI.out.but HB2.out (by simp)).c3
 go_wp2_with fail
 refine(HP.out _ HB2.out).mono ?_;rintro e w3 ⟨rfl,hB3⟩;have HB3:=qt HB2 hB3;clear hB3;clear c0 c1 c2 hgl
 go_wp2_with fail
 refine(HM.out _ HB3.out).mono ?_;rintro e w4 ⟨rfl,hB4⟩;have HB4:=qt HB3 hB4;clear hB4
 go_upto_region 7 with(fail)
 obtain⟨b1,hb1⟩:=E1 w4.heap.size;obtain⟨w5,hw5⟩:=E1 (w4.alloc (.cells #[a,b,pix] 23));rw[←hw5,←hb1];have HI1:Hid (Is w5 b1 23 #[a,b,pix]):=qhz (by rw[hw5,hb1];exact Is.fresh _ _ _);have HB5:Hid (But [] w1 w5):=qhz (by rw[hw5];exact HB4.out.alloc _);clear hb1 hw5;obtain⟨c0,c1,c2,hgl⟩:=(HI.out.but HB5.out (by simp)).c3;obtain⟨e0,e1,e2,hgl1⟩:=HI1.out.c3
 go_wp2_with fail
 refine(HA.out _ (HG.out _ HB5.out)).mono ?_;rintro e w9 ⟨rfl,hB9⟩;have HB9:=qhz (HB.out.trans (HB5.out.trans hB9));clear hB9;go_wp2;go_ret;exact⟨rfl,HB9.out.belowP⟩
end
end Go.Proofs.YtbanopnofpjnbaaGreatDoor
