/- Own texts in one: PnJ, PnT. -/
import Derived.Test.YtbanopnofpjnbaaGreatDoorU15
import Derived.Test.YtbanopnofpjnbaaGreatDoorU25
set_option maxRecDepth 1000000
set_option linter.unusedVariables false
set_option maxHeartbeats 4000000
namespace Go.Proofs.YtbanopnofpjnbaaGreatDoor
open Go Go.RowKit Tryz
theorem Q4{f:ByteArray}(h:65536<f.size):decA f=(r30,5):=by unfold decA;rw[if_pos h]
section
attribute [local irreducible] aA aG aX encA decA
theorem pngBounds_walk{G:World→Prop}(hL:Ib G)(haw:Ie G)(hd:DeS G){f:ByteArray}{more:Int}{w:World}(hf:f.size≤140737488351232)(hm:(Lit.int .i64 more).wf)(hG:G w):
 Calls prog 8 #[f,more] w fun e w'=>e=.returned (.bool true)∧Below w.heap.size w w':=by
 obtain⟨w1,hw1⟩:=E1 (w:World);have HB:Hid (But [] w w1):=qhz (by rw[hw1];exact But.refl [] w);have HG:Hid (∀v,But [] w1 v→G v):=qhz fun v hv=>hL _ _ hG (by rw[hw1]at hv;exact hv);have HA:=qhz haw;clear hG haw
 by_cases hs:100000<f.size
 case pos=>
  have d1:decide ((100000:Int)<(f.size:Int))=true:=by simp;omega
  go_enter func8,ntmps8
  go_upto_region 1 with(fail)
  rw[←hw1];clear hw1
  go_wp2_with fail
  refine(HA.out _ (HG.out _ (But.refl [] w1))).mono ?_;rintro e w9 ⟨rfl,hB9⟩;have HB9:=qhz (HB.out.trans ((But.refl [] w1).trans hB9));clear hB9;go_wp2;go_ret;exact⟨rfl,HB9.out.belowP⟩
 have d1:decide ((100000:Int)<(f.size:Int))=false:=by simp;omega
 have HD:Hid (∀s:ByteArray,65536<s.size→s.size≤1000000→∀v,But [] w1 v→Calls prog 9 #[.string s] v (R1z (.tuple #[.agg #[(0:Int),(0:Int),.string ⟨#[]⟩],(5:Int)]) v)):=qhz fun s h1 h2 v hv=>by have h:=hd v s (HG.out v hv) (by omega) (.inl h1);rw[Q4 h1]at h;exact h
 have keq:=fun v=>wW v 0 0 ⟨#[]⟩;clear hd
 by_cases hb:65536<f.size
 case pos=>
  have d2:decide ((f.size:Int)≤65536)=false:=by simp;omega
  go_enter func8,ntmps8
  go_upto_region 1 with(fail)
  rw[←hw1];clear hw1
  go_upto_region 4 with(fail)
  have f1:1≤(if more<1 then(1:Int)else more):=by split<;>omega
  generalize(if more<1 then(1:Int)else more)=m1 at f1⊢;have f2:1≤(if 1000<m1 then(1000:Int)else m1)∧(if 1000<m1 then(1000:Int)else m1)≤1000:=by split<;>omega
  generalize(if 1000<m1 then(1000:Int)else m1)=m2 at f2⊢;obtain⟨n,rfl⟩:∃n:Nat,m2=(n:Int):=⟨m2.toNat,by omega⟩
  have hn:1≤n∧n≤1000:=by omega
  clear f1 f2
  go_wp2_with fail
  refine(HD.out f hb (by omega) _ (But.refl [] _)).mono ?_;rintro e w2 ⟨rfl,hB2⟩;have HB2:=qhz ((But.refl [] w1).trans hB2);clear hB2
  go_upto_region 8 with(fail)
  obtain⟨b1,hb1⟩:=E1 w2.heap.size;obtain⟨w3,hw3⟩:=E1 (w2.alloc (.cells #[(0:Int),(0:Int),.string ⟨#[]⟩] 23));rw[←hw3,←hb1];have HI1:Hid (Is w3 b1 23 #[(0:Int),(0:Int),.string ⟨#[]⟩]):=qhz (by rw[hw3,hb1];exact Is.fresh _ _ _);have HB3:Hid (But [] w1 w3):=qhz (by rw[hw3];exact HB2.out.alloc _);clear hb1 hw3;obtain⟨e0,e1,e2,hgl1⟩:=HI1.out.c3
  go_wp2_with fail
  refine(HA.out _ (HG.out _ HB3.out)).mono ?_;rintro e w9 ⟨rfl,hB9⟩;have HB9:=qhz (HB.out.trans (HB3.out.trans hB9));clear hB9;go_wp2;go_ret;exact⟨rfl,HB9.out.belowP⟩
 have d2:decide ((f.size:Int)≤65536)=true:=by simp;omega
 go_enter func8,ntmps8
 go_upto_region 1 with(fail)
 rw[←hw1];clear hw1
 go_upto_region 4 with(fail)
 have f1:1≤(if more<1 then(1:Int)else more):=by split<;>omega
 generalize(if more<1 then(1:Int)else more)=m1 at f1⊢;have f2:1≤(if 1000<m1 then(1000:Int)else m1)∧(if 1000<m1 then(1000:Int)else m1)≤1000:=by split<;>omega
 generalize(if 1000<m1 then(1000:Int)else m1)=m2 at f2⊢;obtain⟨n,rfl⟩:∃n:Nat,m2=(n:Int):=⟨m2.toNat,by omega⟩
 have hn:1≤n∧n≤1000:=by omega
 clear f1 f2;obtain⟨j,hj⟩:∃j,j=65536-f.size:=⟨_,rfl⟩
 obtain⟨k,hk⟩:=E1 (j+n);have j1:(65536:Int)-(f.size:Int)=(j:Int):=by omega
 have j2:IntKind.i64.wrap (j:Int)=(j:Int):=IntWalk.i64_in _ (by omega);have j3:(j:Int)+(n:Int)=(k:Int):=by omega
 have j4:IntKind.i64.wrap (k:Int)=(k:Int):=IntWalk.i64_in _ (by omega);obtain⟨km,kt⟩:=yt w1 k (by omega);have hB2:=dS w1 k;obtain⟨w2,hw2⟩:=E1 (cF w1 k);rw[←hw2]at km kt hB2;have HB2:=qhz hB2;clear hw2 hB2;obtain⟨z,hz⟩:=E1 (strL (List.replicate k 0));have hzs:z.size=k:=by rw[hz,ac,List.length_replicate]
 rw[←hz]at kt;clear hz;obtain⟨s,hs4⟩:=E1 (f++z);have hss:s.size=f.size+z.size:=by rw[hs4,ByteArray.size_append]
 have hsum:f.size+z.size≤1000000:=by omega
 have HDs:=qhz (HD.out s (by omega) (by omega));have HS4:=qhz hs4;clear hj hk hss hs4
 go_wp2_with fail
 rw[←HS4.out];refine(HDs.out _ HB2.out).mono ?_;rintro e w4 ⟨rfl,hB4⟩;have HB4:=qt HB2 hB4;clear hB4
 go_upto_region 8 with(fail)
 obtain⟨b1,hb1⟩:=E1 w4.heap.size;obtain⟨w3,hw3⟩:=E1 (w4.alloc (.cells #[(0:Int),(0:Int),.string ⟨#[]⟩] 23));rw[←hw3,←hb1];have HI1:Hid (Is w3 b1 23 #[(0:Int),(0:Int),.string ⟨#[]⟩]):=qhz (by rw[hw3,hb1];exact Is.fresh _ _ _);have HB3:Hid (But [] w1 w3):=qhz (by rw[hw3];exact HB4.out.alloc _);clear hb1 hw3;obtain⟨e0,e1,e2,hgl1⟩:=HI1.out.c3
 go_wp2_with fail
 refine(HA.out _ (HG.out _ HB3.out)).mono ?_;rintro e w9 ⟨rfl,hB9⟩;have HB9:=qhz (HB.out.trans (HB3.out.trans hB9));clear hB9;go_wp2;go_ret;exact⟨rfl,HB9.out.belowP⟩
end
end Go.Proofs.YtbanopnofpjnbaaGreatDoor
