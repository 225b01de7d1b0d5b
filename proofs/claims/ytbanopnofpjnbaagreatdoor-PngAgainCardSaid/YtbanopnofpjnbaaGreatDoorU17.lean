/- Own texts in one: DgA, EfD, EfF, EfG, EfI, DgI, DgJ, DgB. -/
import Derived.Test.YtbanopnofpjnbaaGreatDoorU13
import Derived.Test.YtbanopnofpjnbaaGreatDoorU16
set_option maxRecDepth 1000000
set_option linter.unusedVariables false
set_option maxHeartbeats 4000000
namespace Go.Proofs.YtbanopnofpjnbaaGreatDoor
open Go Go.RowKit Tryz
def covG(v g:Nat):Nat→Nat→Nat
 |0,e=>e
 |f+1,e=>if 2*g≤v/2^e then covG v g f (e+1)else e
def cov(v g:Nat):Nat:=covG v g 12 0
theorem Q9:∀n,n<258→3≤n→4*cov (n-3) 4+(n-3)/2^cov (n-3) 4+257=lsym n∧(n-3)%2^cov (n-3) 4=n-ar (lsym n)∧cov (n-3) 4=aq (lsym n)∧cov (n-3) 4≤5:=by decide+kernel
theorem Ra:∀n,n<513→1≤n→2*cov (n-1) 2+(n-1)/2^cov (n-1) 2=dsym n∧(n-1)%2^cov (n-1) 2=n-aF (dsym n)∧cov (n-1) 2=aC (dsym n)∧cov (n-1) 2≤8:=by decide+kernel
theorem Oc:lsym 258=285∧aq 285=0∧ar 285=258:=by decide+kernel
theorem O1(v e:Nat)(he:e≤11):bits .and .i64 (v:Int) (wrap64 (wrap64 (2^e)-1))=((v%2^e:Nat):Int):=by
 have h1:wrap64 (wrap64 (2^e)-1)=2^e-1:=by
  have:∀e,e<12→wrap64 (wrap64 (2^e)-1)=2^e-1:=by decide+kernel
  exact this e (by omega)
 rw[h1,iO _ _ (by omega)];push_cast;rfl
def dJ(s m e:Nat):Value:=.agg #[s,m,e]
theorem qK(w:World){v g:Nat}(hv:v≤600)(hg:1≤g)(hg4:g≤4)(hlt:cov v g≤11):
 Calls prog 223 #[v,g] w (R1z (dJ (g*cov v g+v/2^cov v g) (v%2^cov v g) (cov v g)) w):=by
 have HB0:Hid (But [] w (w.alloc (.cells #[(0:Int),(0:Int),(0:Int)] 226))):=qhz ((But.refl [] w).alloc _);have HI0:Hid (Is (w.alloc (.cells #[(0:Int),(0:Int),(0:Int)] 226)) w.heap.size 226 #[(0:Int),(0:Int),(0:Int)]):=qhz (Is.fresh w _ _)
 go_enter func223,ntmps223
 go_wp2
 go_loop [5] (fun ev=>∃(e f:Nat),e+f=12∧ev=.int .i64 e∧Hid (covG v g f e=cov v g)) (fun ev=>20-(intOf ev).toNat)
 case atStart=>exact⟨0,12,rfl,rfl,qhz rfl⟩
 case round=>
  obtain⟨e,f,hef,rfl,HE⟩:=hrel;obtain⟨q,hq⟩:∃q:Nat,(v:Int)/2^e=(q:Int):=⟨v/2^e,by push_cast;rfl⟩
  have hq2:q=v/2^e:=by(have:(v:Int)/2^e=((v/2^e:Nat):Int):=by push_cast;rfl);omega
  have HQ:=qhz hq2;have hqv:q≤v:=by rw[hq2];exact Nat.div_le_self _ _
  clear hq2
  by_cases hge:2*g≤q
  ·have dq:decide (2*(g:Int)≤(q:Int))=true:=by simp;omega
   obtain⟨f,rfl⟩:∃f',f=f'+1:=by
    rcases f with _|f
    ·exfalso;have h:=HE.out;unfold covG at h;omega
    ·exact⟨f,rfl⟩
   have HE2:=qhz (show covG v g f (e+1)=cov v g by rw[←HE.out,covG,if_pos (by rw[←HQ.out];exact hge)]);go_wp2
   go_round
   case rel=>exact⟨e+1,f,by omega,by go_num,HE2⟩
   case measure=>simp[intOf];omega
  ·have dq:decide (2*(g:Int)≤(q:Int))=false:=by simp;omega
   have HEC:=qhz (show e=cov v g by
    rw[←HE.out];rcases f with _|f
    ·rfl
    ·rw[covG,if_neg (by rw[←HQ.out];exact hge)])
   have he11:e≤11:=by have:=HEC.out;omega
   obtain⟨p,hp⟩:∃p:Nat,(g:Int)*(e:Int)=(p:Int):=⟨g*e,by push_cast;rfl⟩
   have HP:=qhz (show p=g*e by(have:(g:Int)*(e:Int)=((g*e:Nat):Int):=by push_cast;rfl);omega);have hp44:p≤44:=by rw[HP.out];exact Nat.le_trans (Nat.mul_le_mul hg4 he11) (by decide)
   go_wp2
   go_region
   go_simp;have hI:=Is.fresh w 226 #[.int .i64 ((p:Int)+(q:Int)),.int .i64 (bits BinOp.and IntKind.i64 (v:Int) (wrap64 (wrap64 (2^e)-1))),e];have hB:=((But.refl [] w).alloc (.cells #[.int .i64 ((p:Int)+(q:Int)),.int .i64 (bits BinOp.and IntKind.i64 (v:Int) (wrap64 (wrap64 (2^e)-1))),e] 226)).drew;go_wp2;refine bodyPost_ret (results_cell_row rfl _ _ w.heap.size _ _ _ _ rfl hI.drew underlying226 rfl (by kernel_rfl)) rfl ?_;refine⟨?_,hB⟩;rw[O1 _ _ he11];unfold dJ;rw[←HEC.out,←HP.out,←HQ.out]
   push_cast
   rfl
theorem qv(w:World)(y z:Nat):
 Calls prog 198 #[qQ (0,(z:Int),(y:Int))] w (R1z (dJ y 0 0) w):=by
 unfold qQ;have hB:=((But.refl [] w).alloc (.cells #[y,(0:Int),z] 149)).alloc (.cells #[y,(0:Int),(0:Int)] 226);have hI:=Is.fresh (w.alloc (.cells #[y,(0:Int),z] 149)) 226 #[y,(0:Int),(0:Int)];have hs:(w.alloc (.cells #[y,(0:Int),z] 149)).heap.size=w.heap.size+1:=by simp
 rw[hs]at hI;have HB:=qhz hB;have HI:=qhz hI;clear hB hI hs
 go_enter func198,ntmps198
 go_wp2;refine bodyPost_ret (results_cell_row rfl _ _ (w.heap.size+1) _ _ _ _ rfl HI.out underlying226 rfl (by kernel_rfl)) rfl ?_;exact⟨rfl,HB.out⟩
theorem yI(w:World)(z y:Nat):
 Calls prog 198 #[qQ (258,(z:Int),(y:Int))] w (R1z (dJ 285 0 0) w):=by
 unfold qQ;have hB:=((But.refl [] w).alloc (.cells #[y,(258:Int),z] 149)).alloc (.cells #[(285:Int),(0:Int),(0:Int)] 226);have hI:=Is.fresh (w.alloc (.cells #[y,(258:Int),z] 149)) 226 #[(285:Int),(0:Int),(0:Int)];have hs:(w.alloc (.cells #[y,(258:Int),z] 149)).heap.size=w.heap.size+1:=by simp
 rw[hs]at hI;have HB:=qhz hB;have HI:=qhz hI;clear hB hI hs
 go_enter func198,ntmps198
 go_wp2;refine bodyPost_ret (results_cell_row rfl _ _ (w.heap.size+1) _ _ _ _ rfl HI.out underlying226 rfl (by kernel_rfl)) rfl ?_;exact⟨rfl,HB.out⟩
theorem yH(w:World)(x z y:Nat)(h3:3≤x)(h257:x≤257)(hcv:cov (x-3) 4≤5):
 Calls prog 198 #[qQ ((x:Int),(z:Int),(y:Int))] w (R1z (dJ (4*cov (x-3) 4+(x-3)/2^cov (x-3) 4+257) ((x-3)%2^cov (x-3) 4) (cov (x-3) 4)) w):=by
 unfold qQ;obtain⟨v,hv⟩:=E1 (x-3);rw[←hv]at hcv⊢;have ev:(x:Int)-3=(v:Int):=by omega
 obtain⟨W,hW⟩:=E1 ((w.alloc (.cells #[y,x,z] 149)).alloc (.cells #[(0:Int),(0:Int),(0:Int)] 226));have hC:=qK W (v:=v) (g:=4) (by omega) (by omega) (by omega) (by omega);obtain⟨s,hs⟩:∃s,s=4*cov v 4+v/2^cov v 4:=⟨_,rfl⟩
 obtain⟨m,hm⟩:=E1 (v%2^cov v 4);obtain⟨e,he⟩:=E1 (cov v 4);have hs600:s≤600:=by
  have:=Nat.div_le_self v (2^cov v 4);omega
 rw[←hs,←hm,←he]at hC;rw[←hs,←hm,←he];have hB:But [] w W:=by rw[hW];exact((But.refl [] w).alloc _).alloc _
 have hI:Is W (w.heap.size+1) 226 #[(0:Int),(0:Int),(0:Int)]:=by
  have h:=Is.fresh (w.alloc (.cells #[y,x,z] 149)) 226 #[(0:Int),(0:Int),(0:Int)];rw[hW];simpa using h
 have HB:=qhz hB;have HI:=qhz hI;have HC:=qhz hC;have dx:((x:Int)==0)=false:=by simp;omega
 have dx2:((x:Int)==258)=false:=by simp;omega
 clear hB hI hC hs hm he hcv hv
 go_enter func198,ntmps198
 go_wp2_with fail
 rw[←hW];refine HC.out.mono ?_;rintro er w1 ⟨rfl,hB1⟩;have HB1:=qhz hB1;have hI1:=(HI.out.but hB1 (by simp)).alloc (.cells #[.int .i64 ((s:Int)+257),m,e] 226);have hsz:=hI1.lt;obtain⟨W2,hW2⟩:=E1 (w1.alloc (.cells #[.int .i64 ((s:Int)+257),m,e] 226));rw[←hW2]at hI1;obtain⟨c0,c1,c2,_⟩:=hI1.c3;obtain⟨f0,f1,f2⟩:=hI1.f3;rw[hW2]at c0 c1 c2 f0 f1 f2;have hI2:=((hI1.put 0 (.int .i64 ((s:Int)+257))).put 1 (.int .i64 m)).put 2 (.int .i64 e);have hB2:But [] w (((W2.setCell ⟨w.heap.size+1,0,none⟩ (.int .i64 ((s:Int)+257))).setCell ⟨w.heap.size+1,1,none⟩ (.int .i64 m)).setCell ⟨w.heap.size+1,2,none⟩ (.int .i64 e)):=by
  rw[hW2];exact((((HB.out.trans HB1.out).alloc _).setCell (.inr (Nat.le_succ _)) _).setCell (.inr (Nat.le_succ _)) _).setCell (.inr (Nat.le_succ _)) _
 rw[hW2]at hI2 hB2;have HI2:=qhz hI2;have HB2:=qhz hB2;clear hB1 hI1 hI2 hB2 hsz hW2 hW;unfold dJ;go_wp2;refine bodyPost_ret (results_cell_row rfl _ _ (w.heap.size+1) _ _ _ _ rfl HI2.out underlying226 rfl (by kernel_rfl)) rfl ?_;exact⟨by push_cast;rfl,HB2.out⟩
theorem qu(w:World)(x z y:Nat)(h3:3≤x)(h258:x≤258):
 Calls prog 198 #[qQ ((x:Int),(z:Int),(y:Int))] w (R1z (dJ (lsym x) (x-ar (lsym x)) (aq (lsym x))) w):=by
 by_cases h:x=258
 ·subst h;obtain⟨a,b,c⟩:=Oc;rw[a,b,c];exact yI w z y
 ·obtain⟨a,b,c,d⟩:=Q9 x (by omega) h3;have:=yH w x z y h3 (by omega) d;rw[a,b]at this;rw[←c];exact this
theorem mI(w:World)(x z y:Nat)(h1:1≤z)(h512:z≤512):
 Calls prog 199 #[qQ ((x:Int),(z:Int),(y:Int))] w (R1z (dJ (dsym z) (z-aF (dsym z)) (aC (dsym z))) w):=by
 obtain⟨a,b,c,d⟩:=Ra z (by omega) h1;unfold qQ;obtain⟨v,hv⟩:=E1 (z-1);rw[←hv]at a b c d;have ev:(z:Int)-1=(v:Int):=by omega
 obtain⟨W,hW⟩:=E1 ((w.alloc (.cells #[y,x,z] 149)).alloc (.cells #[(0:Int),(0:Int),(0:Int)] 226));have hC:=qK W (v:=v) (g:=2) (by omega) (by omega) (by omega) (by omega);rw[a,b,c]at hC;obtain⟨s,hs⟩:=E1 (dsym z);rw[←hs]at hC⊢;obtain⟨m,hm⟩:=E1 (z-aF s);obtain⟨e,he⟩:=E1 (aC s);rw[←hm,←he]at hC⊢;have hB:But [] w W:=by rw[hW];exact((But.refl [] w).alloc _).alloc _
 have hI:Is W (w.heap.size+1) 226 #[(0:Int),(0:Int),(0:Int)]:=by
  have h:=Is.fresh (w.alloc (.cells #[y,x,z] 149)) 226 #[(0:Int),(0:Int),(0:Int)];rw[hW];simpa using h
 have HB:=qhz hB;have HI:=qhz hI;have HC:=qhz hC;clear hB hI hC hs hm he hv a b c d
 go_enter func199,ntmps199
 go_wp2_with fail
 rw[←hW];refine HC.out.mono ?_;rintro er w1 ⟨rfl,hB1⟩;have hI1:=HI.out.but hB1 (by simp);obtain⟨c0,c1,c2,_⟩:=hI1.c3;obtain⟨f0,f1,f2⟩:=hI1.f3;have hI2:=((hI1.put 0 (.int .i64 s)).put 1 (.int .i64 m)).put 2 (.int .i64 e);have hB2:But [] w (((w1.setCell ⟨w.heap.size+1,0,none⟩ (.int .i64 s)).setCell ⟨w.heap.size+1,1,none⟩ (.int .i64 m)).setCell ⟨w.heap.size+1,2,none⟩ (.int .i64 e)):=
  (((HB.out.trans hB1).setCell (.inr (Nat.le_succ _)) _).setCell (.inr (Nat.le_succ _)) _).setCell (.inr (Nat.le_succ _)) _
 have HI2:=qhz hI2;have HB2:=qhz hB2;clear hB1 hI1 hI2 hB2 hW;unfold dJ;go_wp2;refine bodyPost_ret (results_cell_row rfl _ _ (w.heap.size+1) _ _ _ _ rfl HI2.out underlying226 rfl (by kernel_rfl)) rfl ?_;exact⟨rfl,HB2.out⟩
theorem okl{l:List Int}(hc:chk l=0):∀x∈l,0≤x∧x≤15:=fun x hx=>oX hc x hx
theorem dg{l:List Int}(hok:∀x∈l,0≤x∧x≤15)(q:Nat×Nat)(t:Nat):(layC l q t).2≤q.2+15:=by
 unfold layC layS
 by_cases hh:has l t
 ·rw[if_pos hh,lZ,Int.toNat_natCast];have h8:(t:Int)<l.length:=hh.2.1;have h9:=hok _ (List.getElem_mem (show t<l.length by omega));rw[←gv (show t<l.length by omega)]at h9;omega
 ·rw[if_neg hh];omega
theorem dh(q:Nat×Nat)(v n:Nat):(layB q v n).2≤q.2+n:=by
 unfold layB layN;dsimp only;split
 ·omega
 ·rw[Int.toNat_natCast];exact Nat.le_refl _
theorem xL{l d:List Int}(hl:∀x∈l,0≤x∧x≤15)(hd:∀x∈d,0≤x∧x≤15){t:Tk}(ht:iC l d t)(q:Nat×Nat):(layT l d q t).2≤q.2+60:=by
 unfold iC at ht;unfold layT
 by_cases h0:t.1=0
 ·rw[if_pos h0];have:=dg hl q t.2.2;omega
 ·rw[if_neg h0]at ht⊢;obtain⟨a1,a2,a3,a4,a5,a6⟩:=ht;obtain⟨b1,b2,b3,b4⟩:=eK t.1 (by omega) a1;obtain⟨c1,c2,c3⟩:=eL t.2.1 (by omega) a3;have e1:=dg hl q (lsym t.1);have e2:=dh (layC l q (lsym t.1)) (t.1-ar (lsym t.1)) (aq (lsym t.1));have e3:=dg hd (layB (layC l q (lsym t.1)) (t.1-ar (lsym t.1)) (aq (lsym t.1))) (dsym t.2.1);have e4:=dh (layC d (layB (layC l q (lsym t.1)) (t.1-ar (lsym t.1)) (aq (lsym t.1))) (dsym t.2.1)) (t.2.1-aF (dsym t.2.1)) (aC (dsym t.2.1));have e5:=kb (lsym t.1) (by omega) b1;have e6:=ki (dsym t.2.1) (by omega);omega
theorem vE(l d:List Int)(q:Nat×Nat)(ts:List Tk)(t:Tk):bC l d q (ts++[t])=layT l d (bC l d q ts) t:=by
 unfold bC;rw[List.foldl_append];rfl
section
theorem Ma{W:World}{g cap:Nat}{L:List UInt8}(h:∀j (hj:j<L.length),W.cell? ⟨g,j,none⟩=some (.int .u8 (L[j].toNat:Int))):
 (convert 47 9 (.slice g L.length cap)).run prog W=.ok (.string ⟨L.toArray⟩) W:=by
 refine run_convert_bytes_back W 47 9 5 ⟨g,0,none⟩ cap L underlying47 underlying5 underlying9 (fun j hj=>?_);have e2:(⟨g,0,none⟩:Addr).add j=⟨g,j,none⟩:=by unfold Addr.add;split<;>simp_all
 rw[e2];exact h j hj
theorem kh(n:Nat):(eJ n).length=4:=rfl
attribute [local irreducible] layB layY dE aI eJ
theorem Be{a:Int}(h0:0≤a)(h1:a<100000):IntKind.i64.wrap a=a:=by simp[IntKind.wrap_i64];omega
end
section
theorem E6(n:Nat):ap n=((List.replicate n (0:Int)).map (Value.int .i64)).toArray:=by
 apply Array.ext_getElem?;intro j;unfold ap madeCells;have e:(Value.int .i64 0).cells=#[.int .i64 0]:=rfl;rw[e]
 by_cases hj:j<n
 ·simp[hj,Nat.mod_one]
 ·simp[hj]
theorem EO(ts:List Tk)(t:Tk)(h:t.1=0):cntB (ts++[t])=cntB ts:=by unfold cntB;rw[jb,if_pos h]
theorem EN(ts:List Tk)(t:Tk)(h:t.1≠0):cntB (ts++[t])=inc (cntB ts) (dsym t.2.1):=by unfold cntB;rw[jb,if_neg h]
theorem rE(ts:List Tk)(j:Nat):0≤(cntA ts).getD j 0∧(cntA ts).getD j 0≤1+ts.length:=by
 have h1:=jL (fun t:Tk=>some (symA t)) j ts ((List.replicate 286 (0:Int)).set 256 1);have h2:=nJ (fun t:Tk=>some (symA t)) j ts ((List.replicate 286 (0:Int)).set 256 1);have h3:=DG j;have h4:((List.replicate 286 (0:Int)).set 256 1).getD j 0≤1:=by rw[jQ,jJ];split<;>omega
 unfold cntA;omega
theorem rD(ts:List Tk)(j:Nat):0≤(cntB ts).getD j 0∧(cntB ts).getD j 0≤ts.length:=by
 have h1:=jL (fun t:Tk=>if t.1=0 then none else some (dsym t.2.1)) j ts (List.replicate 30 (0:Int));have h2:=nJ (fun t:Tk=>if t.1=0 then none else some (dsym t.2.1)) j ts (List.replicate 30 (0:Int));have h3:=jJ 30 j;unfold cntB;omega
attribute [local irreducible] bC layC layB fixL fixD toks aI cntA cntB ap
theorem ig(w:World)(n:Nat):Row (w.alloc (.cells (ap n) 3)) w.heap.size 3 (List.replicate n 0):=by
 unfold Row;rw[←E6];exact Is.fresh w _ _
theorem Row.alloc{w:World}{B:Nat}{t:TypeId}{l:List Int}(h:Row w B t l)(o:Obj):Row (w.alloc o) B t l:=Is.alloc h o
theorem Row.far{w:World}{B:Nat}{t:TypeId}{l:List Int}(h:Row w B t l){p:Addr}(hp:B≠p.block)(u:Value):Row (w.setCell p u) B t l:=Is.far h hp u
theorem Row.free{w:World}{B:Nat}{t:TypeId}{l:List Int}(h:Row w B t l)(i:Nat):w.frozen? ⟨B,i,none⟩=false:=Is.free h i
theorem Row.inc{w:World}{B:Nat}{t:TypeId}{l:List Int}(h:Row w B t l){i:Nat}{v:Int}(hv:v=l.getD i 0):Row (w.setCell ⟨B,i,none⟩ (.int .i64 (v+1))) B t (Go.Proofs.YtbanopnofpjnbaaGreatDoor.inc l i):=by
 subst hv;exact h.set i _
end
section
theorem EM:cntB []=List.replicate 30 (0:Int):=by unfold cntB;rfl
theorem LR(l:List UInt8):dynL l=layC (lenA (toks l)) (bC (lenA (toks l)) (lenB (toks l)) (dU (lenS (lenA (toks l)++lenB (toks l))) (fo (lenS (lenA (toks l)++lenB (toks l))) (layB (layB (layB (layB (layB (0,0) 1 1) 2 2) ((lenA (toks l)).length-257) 5) ((lenB (toks l)).length-1) 5) ((told (lenS (lenA (toks l)++lenB (toks l)))).length-4) 4) (ordS.take (told (lenS (lenA (toks l)++lenB (toks l)))).length)) (runs (lenA (toks l)++lenB (toks l)))) (toks l)) 256:=rfl
attribute [local irreducible] bC layC layB fixL fixD toks aI cntA cntB ap dynL inc lsym dsym
theorem DC{t:Tk}(h:t.1=0):symA t=t.2.2:=by unfold symA;rw[if_pos h]
theorem DB{t:Tk}(h:t.1≠0):symA t=lsym t.1:=by unfold symA;rw[if_neg h]
theorem wh{a:Int}(h0:0≤a)(h1:a≤99990):IntKind.i64.wrap (a+1)=a+1:=Be (by omega) (by omega)
theorem okCe{l:List Int}(h:∀j,0≤l.getD j 0∧l.getD j 0≤1000000):cu l=true:=by
 unfold cu;rw[List.all_eq_true];intro x hx;obtain⟨i,hi,rfl⟩:=List.getElem_of_mem hx;have h1:=h i;rw[List.getD_eq_getElem?_getD,List.getElem?_eq_getElem hi]at h1;unfold m7;simp only[decide_eq_true_eq];have h2:0≤l[i]∧l[i]≤1000000:=h1;omega
theorem yE(l:List Int)(n:Nat):l.take (l.take n).length=l.take n:=by
 rw[List.take_eq_take_iff,List.length_take];omega
theorem tu(ts:List Tk):(lims 15 (cntA ts)).take (lenA ts).length=lenA ts:=yE _ _
theorem tq(ts:List Tk):(lims 15 (cntB ts)).take (lenB ts).length=lenB ts:=yE _ _
theorem xK(ts:List Tk):(lenA ts).length≤286:=by
 unfold lenA;rw[dr]
 have:=iG (lims 15 (cntA ts)) 257 (lims 15 (cntA ts)).length;rw[aV,cC]at*;exact this
theorem Cw(ts:List Tk):(lenB ts).length≤30:=by
 unfold lenB;rw[dr]
 have:=iG (lims 15 (cntB ts)) 1 (lims 15 (cntB ts)).length;rw[aV,bW]at*;exact this
def cntR(rs:List (Int×Nat)):List Int:=jM (fun c:Int×Nat=>some c.1.toNat) (List.replicate 19 0) rs
theorem Mg(ls:List Int):cntS ls=cntR (runs ls):=rfl
theorem EL:cntR []=List.replicate 19 (0:Int):=rfl
theorem ka(rs:List (Int×Nat)):(cntR rs).length=19:=by unfold cntR;rw[ff];simp
theorem AJ(rs:List (Int×Nat))(c:Int×Nat):cntR (rs++[c])=Go.Proofs.YtbanopnofpjnbaaGreatDoor.inc (cntR rs) c.1.toNat:=by unfold cntR;rw[jb]
theorem rC(rs:List (Int×Nat))(j:Nat):0≤(cntR rs).getD j 0∧(cntR rs).getD j 0≤rs.length:=by
 have h1:=jL (fun c:Int×Nat=>some c.1.toNat) j rs (List.replicate 19 (0:Int));have h2:=nJ (fun c:Int×Nat=>some c.1.toNat) j rs (List.replicate 19 (0:Int));have h3:=jJ 19 j;unfold cntR;omega
theorem yZ(l:List Int):∀f i,(dM l f i).length≤f
 |0,_=>Nat.le_refl _
 |f+1,i=>by
  rw[dM];split
  ·have:=yZ l f (i+(aO l i).2.2);rw[List.length_cons];omega
  ·exact Nat.zero_le _
theorem wO(l:List Int):(runs l).length≤l.length:=yZ l _ _
theorem uT{l:List Int}(h15:∀i,0≤l.getD i 0∧l.getD i 0≤15):∀c∈runs l,0≤c.1∧c.1≤18:=jR h15 _ _
attribute [local irreducible] cntR runs
theorem uJ(S:List Int){k:Nat}(hk:k<19):(ordS.take (k+1)).map (fun j=>S.getD j 0)=(ordS.take k).map (fun j=>S.getD j 0)++[S.getD (ordS.getD k 0) 0]:=by
 have hl:k<ordS.length:=hk;rw[List.take_succ_eq_append_getElem hl,List.map_append,List.getD_eq_getElem?_getD (l:=ordS),List.getElem?_eq_getElem hl];rfl
theorem rV(S:List Int){k:Nat}(hk:k≤19):((ordS.take k).map (fun j=>S.getD j 0)).length=k:=by
 have hl:ordS.length=19:=rfl;rw[List.length_map,List.length_take];omega
theorem vF(S:List Int)(q:Nat×Nat){j:Nat}(hj:j<19):fo S q (ordS.take (j+1))=layB (fo S q (ordS.take j)) (S.getD (ordS.getD j 0) 0).toNat 3:=by
 have hl:j<ordS.length:=hj;rw[List.take_succ_eq_append_getElem hl,List.getD_eq_getElem?_getD (l:=ordS),List.getElem?_eq_getElem hl];unfold fo;rw[List.foldl_append];rfl
theorem tB(S:List Int)(q:Nat×Nat):fo S q (ordS.take 0)=q:=rfl
theorem vG(S:List Int)(q:Nat×Nat)(rs:List (Int×Nat))(c:Int×Nat):dU S q (rs++[c])=layR S (dU S q rs) c:=by
 unfold dU;rw[List.foldl_append];rfl
theorem vH{S:List Int}{q:Nat×Nat}{y m:Nat}(h:y<16):layR S q ((y:Int),m)=layC S q y:=by
 unfold layR;rw[if_neg (by dsimp only;omega),if_neg (by dsimp only;omega),if_neg (by dsimp only;omega)];rfl
theorem Et{S:List Int}{q:Nat×Nat}{y m:Nat}(h:y=16):layR S q ((y:Int),m)=layB (layC S q y) m 2:=by subst h;rfl
theorem Es{S:List Int}{q:Nat×Nat}{y m:Nat}(h:y=17):layR S q ((y:Int),m)=layB (layC S q y) m 3:=by subst h;rfl
theorem Er{S:List Int}{q:Nat×Nat}{y m:Nat}(h:y=18):layR S q ((y:Int),m)=layB (layC S q y) m 7:=by subst h;rfl
theorem csA{l:List Int}{n m:Nat}(hl:l.length=n)(h:n≤m):(csOf l n).length≤m:=by
 have:=oU l;rw[hl]at this;omega
end
section
theorem OB(l:List Int)(i j:Nat):Go.Proofs.YtbanopnofpjnbaaGreatDoor.inc (Go.Proofs.YtbanopnofpjnbaaGreatDoor.inc l i) j=Go.Proofs.YtbanopnofpjnbaaGreatDoor.inc (Go.Proofs.YtbanopnofpjnbaaGreatDoor.inc l j) i:=by
 by_cases h:i=j
 ·subst h;rfl
 ·unfold Go.Proofs.YtbanopnofpjnbaaGreatDoor.inc;rw[jQ,jQ,if_neg (fun e=>h e.1),if_neg (fun e=>h e.1.symm),List.set_comm _ _ h]
theorem rX{β:Type}(f:β→Option Nat)(i:Nat):∀(ts:List β) (a:List Int),jM f (Go.Proofs.YtbanopnofpjnbaaGreatDoor.inc a i) ts=Go.Proofs.YtbanopnofpjnbaaGreatDoor.inc (jM f a ts) i
 |[],_=>rfl
 |t::ts,a=>by
  rw[gU,gU];cases f t with
  |none=>exact rX f i ts a
  |some j=>dsimp only;rw[OB a i j];exact rX f i ts _
def cntZ(ts:List Tk):List Int:=jM (fun t=>some (symA t)) (List.replicate 286 0) ts
theorem O3(ts:List Tk):Go.Proofs.YtbanopnofpjnbaaGreatDoor.inc (cntZ ts) 256=cntA ts:=by
 unfold cntZ cntA;rw[←rX];rfl
attribute [local irreducible] bC layC layB fixL fixD toks aI cntA cntB ap dynL inc lsym dsym lims
theorem lp{w:World}{A:Option Addr}{len cap M:Nat}{l:List Int}(hl:Ints w A len l)(hM1:1≤M)(hM2:M≤15)(h288:len≤288)(hok:cu l=true)(hp:(csOf l len).length≤2^M){m:Int}(hm:(M:Int)=m):
 Calls prog 166 #[m,.slice A len cap] w fun e w'=>∃g,e=.returned (.slice (some ⟨g,0,none⟩) len len)∧OwnI w' w.heap.size (.slice (some ⟨g,0,none⟩) len len) (lims M l)∧But [] w w':=by
 have hc:=Gl (cap:=cap) hl hM1 hM2 h288 hok hp hm;have HC:=qhz hc;clear hc hl hok hp hm
 go_enter func166,ntmps166
 go_wp2_with fail
 refine HC.out.mono ?_;rintro e w1 ⟨g,rfl,hO,hB⟩;have HO:=qhz hO;have HB:=qhz hB;clear hO hB;go_wp2;go_ret;exact⟨g,rfl,HO.out,HB.out⟩
section
variable {w:World}
theorem kN{A:Option Addr}{n c least:Nat}{l:List Int}(hl:Ints w A n l)(hn:n≤1000)(hc:n≤c)(hle:least≤n)(h1:1≤least):
 Calls prog 165 #[.slice A n c,least] w fun e w'=>e=.returned (.slice A (cE l least n) c)∧w=w':=by
 have HI:=qhz hl;have HLN:=qhz hl.1;obtain⟨g,o,rfl,hgl,hcx⟩:=hl.at (show 0<n by omega);clear hcx hl
 go_enter func165,ntmps165
 go_wp2
 go_loopw [0] (fun kv wr=>∃k:Nat,k≤n∧least≤k∧kv=.slice (some ⟨g,o,none⟩) k c∧Hid (cE l least k=cE l least n)∧w=wr) (fun kv _=>match kv with|.slice _ k _=>k|_=>0)
 case atStart=>exact⟨n,Nat.le_refl _,hle,rfl,qhz rfl,rfl⟩
 case round=>
  obtain⟨k,hk,hlk,rfl,HU,rfl⟩:=hrel;obtain⟨j,rfl⟩:∃j,k=j+1:=⟨k-1,by omega⟩
  obtain⟨K,hK⟩:=E1 (j+1);have HK:=qhz hK;have ee:(K:Int)-1=(j:Int):=by omega
  have hKj:j<K:=by omega
  by_cases hgt:least<j+1
  ·obtain⟨g2,o2,e2,_,hcell⟩:=HI.out.at (i:=j) (by omega);injection e2 with e2;injection e2 with e3 e4;subst e3 e4;have ej:l[j]'(by have:=HLN.out;omega)=l.getD j 0:=by rw[List.getD_eq_getElem?_getD,List.getElem?_eq_getElem (by have:=HLN.out;omega)];rfl
   rw[ej]at hcell;obtain⟨x,hx⟩:=E1 (l.getD j 0);rw[←hx]at hcell;have HX:=qhz hx;have d1:decide ((least:Int)<(K:Int))=true:=by simp;omega
   have d1':decide (least<K)=true:=by simp;omega
   have b0:(0:Int)≤(j:Int):=by omega
   have b1:(j:Int)<(K:Int):=by omega
   have b2:(j:Int)≤(c:Int):=by omega
   have hKn:K≤n:=by omega
   rw[←hK];clear ej hx hK
   by_cases hz:x=0
   ·have dz:(x==0)=true:=by simp[hz]
    have HN:=qhz (show cE l least j=cE l least n by rw[←HU.out,cE,if_pos ⟨hgt,by rw[←HX.out];exact hz⟩]);clear hz;go_wp2
    go_roundw
    case rel=>exact⟨j,by omega,by omega,rfl,HN,by trivial⟩
    case measure=>show j<K;omega
   ·have dz:(x==0)=false:=by simpa using hz
    have HN:=qhz (show cE l least n=K by rw[←HU.out,cE,if_neg (fun h=>hz (by rw[HX.out];exact h.2)),HK.out]);clear hz;go_wp2;go_ret;exact⟨by rw[HN.out];rfl,rfl⟩
  ·have d1:decide ((least:Int)<(K:Int))=false:=by simp;omega
   have d1':decide (least<K)=false:=by simp;omega
   have HN:=qhz (show cE l least n=K by rw[←HU.out,cE,if_neg (fun h=>hgt h.1),HK.out]);rw[←hK];clear hK;go_wp2;go_ret;exact⟨by rw[HN.out];rfl,rfl⟩
end
theorem tm(ts:List Tk):(cntZ ts).length=286:=by unfold cntZ;rw[ff];simp
theorem Md(ts:List Tk)(t:Tk):cntZ (ts++[t])=Go.Proofs.YtbanopnofpjnbaaGreatDoor.inc (cntZ ts) (symA t):=by unfold cntZ;rw[jb]
theorem yh(ts:List Tk)(j:Nat):0≤(cntZ ts).getD j 0∧(cntZ ts).getD j 0≤ts.length:=by
 have h1:=jL (fun t:Tk=>some (symA t)) j ts (List.replicate 286 (0:Int));have h2:=nJ (fun t:Tk=>some (symA t)) j ts (List.replicate 286 (0:Int));have h3:=jJ 286 j;unfold cntZ;omega
theorem O2:cntZ []=List.replicate 286 (0:Int):=rfl
attribute [local irreducible] cntZ
theorem Qb(a b c:Value)(W:World):(Instr.field 226 (.agg #[a,b,c]) 0).run prog W=.ok a W:=by kernel_rfl
def Sa(w:World)(ts:List Tk)(e:Ending)(w':World):Prop:=e=.returned (.tuple #[.slice w.heap.size 286 286,.slice (some ⟨w.heap.size+1,0,none⟩) 30 30])∧Row w' w.heap.size 3 (cntA ts)∧Row w' (w.heap.size+1) 3 (cntB ts)∧But [] w w'
theorem G9(w:World){A:Option Addr}{n c:Nat}{ts:List Tk}(hK:Tks w A n (ts.map tkI))(hn:n≤10000)(hsh:∀t∈ts,(t.1=0∧t.2.2≤255)∨(t.1≠0∧3≤t.1∧t.1≤258∧1≤t.2.1∧t.2.1≤512)):
 Calls prog 164 #[.slice A n c] w (Sa w ts):=by
 have hlen:ts.length=n:=by have:=hK.1;rwa [List.length_map]at this
 have HLN:=qhz hlen;have HK:=qhz hK;have HSH:=qhz hsh;have hfd:=Qb;have hmkA:∀W:World,(Instr.makeSlice 36 (.int .i64 286) (.int .i64 286)).run prog W=.ok (.slice (some ⟨W.heap.size,0,none⟩) 286 286) (W.alloc (.cells (ap 286) 3)):=fun W=>eF 286 (by omega) W;have hmkB:∀W:World,(Instr.makeSlice 36 (.int .i64 30) (.int .i64 30)).run prog W=.ok (.slice (some ⟨W.heap.size,0,none⟩) 30 30) (W.alloc (.cells (ap 30) 3)):=fun W=>eF 30 (by omega) W;have hr0:=(ig w 286).alloc (.cells (ap 30) 3);have hr1:=ig (w.alloc (.cells (ap 286) 3)) 30;have hsA:(w.alloc (.cells (ap 286) 3)).heap.size=w.heap.size+1:=by simp
 rw[hsA]at hr1;rw[←O2]at hr0;rw[←EM]at hr1;have hBW:=((But.refl [] w).alloc (.cells (ap 286) 3)).alloc (.cells (ap 30) 3);have HR0:=qhz hr0;have HR1:=qhz hr1;have HBW:=qhz hBW;have hsw:w.heap.size+1<((w.alloc (.cells (ap 286) 3)).alloc (.cells (ap 30) 3)).heap.size:=by simp
 have HSW:=qhz hsw;clear hlen hK hsh hr0 hr1 hsA hBW hsw
 go_enter func164,ntmps164
 go_wp2
 go_loopw [10] (fun iv wr=>∃k:Nat,k≤n∧iv=.int .i64 k∧Hid (Row wr w.heap.size 3 (cntZ (ts.take k)))∧Hid (Row wr (w.heap.size+1) 3 (cntB (ts.take k)))∧Hid (But [] w wr)∧w.heap.size+1<wr.heap.size) (fun iv _=>n-(intOf iv).toNat)
 case atStart=>exact⟨0,Nat.zero_le _,rfl,HR0,HR1,HBW,HSW.out⟩
 case round=>
  obtain⟨k,hk,rfl,HA,HB,HBW2,hsw⟩:=hrel;clear HR0 HR1 HBW hmkA hmkB
  by_cases hlt:k<n
  ·have hkt:k<ts.length:=by have:=HLN.out;omega
   have hmem:=HSH.out _ (List.getElem_mem hkt);have hts:ts.take (k+1)=ts.take k++[ts[k]]:=List.take_succ_eq_append_getElem hkt;obtain⟨g,o,bb,xx,zz,rfl,hg,c0,c1,c2,h1⟩:=(HK.out.but HBW2.out).at hlt;rw[List.getElem?_map,List.getElem?_eq_getElem hkt]at h1;injection h1 with h1;unfold tkI at h1;injection h1 with h2 h3;injection h3 with h3 h4;subst h2 h3 h4;obtain⟨t,ht⟩:=E1 (ts[k]);rw[←ht]at hmem hts c0 c1 c2;obtain⟨x,z,y⟩:=t;have hna:=Md (ts.take k) (x,z,y);rw[←hts]at hna;have hlk:(ts.take k).length≤10000:=by rw[List.length_take];omega
   have HTS:=qhz hts;have HNA:=qhz hna;have HLA:Hid ((cntZ (ts.take k)).length=286):=qhz (tm _);have HLB:Hid ((cntB (ts.take k)).length=30):=qhz (bW _);dsimp only at hmem c0 c1 c2;have k0:(0:Int)≤(k:Int):=by omega
   have k1:(k:Int)<(n:Int):=by omega
   obtain⟨wb,hwb⟩:=E1 (wr.alloc (.cells #[y,x,z] 149));have hIb:Is wb wr.heap.size 149 #[y,x,z]:=by rw[hwb];exact Is.fresh wr _ _
   have hBb:But [] wr wb:=by rw[hwb];exact(But.refl [] wr).alloc _
   have HIB:=qhz hIb;have HBB:=qhz hBb;have HWB:=qhz hwb;clear ht hts hna hwb hIb hBb hg
   by_cases hx:x=0
   ·subst hx;have hy:y≤255:=by rcases hmem with h|h<;>omega
    have HWB:Hid (wb=wr.alloc (.cells #[y,(0:Int),z] 149)):=qhz HWB.out;have HIB:Hid (Is wb wr.heap.size 149 #[y,(0:Int),z]):=qhz HIB.out;have HSY:Hid (Calls prog 198 #[.agg #[y,(0:Int),z]] wb (R1z (dJ y 0 0) wb)):=qhz (qv wb y z)
    go_wp2_with fail
    rw[←HWB.out];refine HSY.out.mono ?_;rintro e wy ⟨rfl,hBy⟩;have hBy2:=HBB.out.trans hBy;have hAy:=HA.out.but hBy2 (by simp);have hBBy:=HB.out.but hBy2 (by simp);have hIy:=HIB.out.but hBy (by simp);obtain⟨vv,hvv⟩:=E1 ((cntZ (ts.take k)).getD y 0);have hfew:=yh (ts.take k) y;have d0:=hAy.at (i:=y) (by rw[HLA.out];omega);have d1:=hAy.free y;rw[←hvv]at d0 hfew;have wv:=wh (a:=vv) (by omega) (by omega);have b0:(0:Int)≤(y:Int):=by omega
    have b1:(y:Int)<286:=by omega
    have hnx:=hAy.inc hvv;rw[show Go.Proofs.YtbanopnofpjnbaaGreatDoor.inc (cntZ (ts.take k)) y=cntZ (ts.take (k+1))by rw[HNA.out,DC rfl]]at hnx;have hnb:=hBBy.far (p:=⟨w.heap.size,y,none⟩) (by simp) (.int .i64 (vv+1));rw[show cntB (ts.take k)=cntB (ts.take (k+1))by rw[HTS.out,EO _ _ rfl]]at hnb;have hbw:=(HBW2.out.trans hBy2).setCell (p:=⟨w.heap.size,y,none⟩) (.inr (Nat.le_refl _)) (.int .i64 (vv+1));have e1:=(hIy.far (p:=⟨w.heap.size,y,none⟩) (by simp;omega) (.int .i64 (vv+1))).cell 1;have hsz:=hBy2.size;have hsw2:w.heap.size+1<(wy.setCell ⟨w.heap.size,y,none⟩ (.int .i64 (vv+1))).heap.size:=by simp;omega
    have HNX:=qhz hnx;have HNB:=qhz hnb;have HBW3:=qhz hbw;have HSW3:=qhz hsw2;clear hvv hnx hnb hbw hmem hBy hBy2 hAy hBBy hIy hsw2 c0 c1 c2;unfold dJ;go_wp2
    go_roundw
    case rel=>exact⟨k+1,by omega,by go_num,HNX,HNB,HBW3,HSW3.out⟩
    case measure=>simp[intOf];omega
   ·obtain⟨x3,x258,z1,z512⟩:3≤x∧x≤258∧1≤z∧z≤512:=by rcases hmem with h|h<;>omega
    obtain⟨a1,a2,_,_⟩:=eK x (by omega) x3;obtain⟨b1,_,_⟩:=eL z (by omega) z1;have HSY:Hid (Calls prog 198 #[.agg #[y,x,z]] wb (R1z (dJ (lsym x) (x-ar (lsym x)) (aq (lsym x))) wb)):=qhz (qu wb x z y x3 x258);have HDY:Hid (∀W:World,Calls prog 199 #[.agg #[y,x,z]] W (R1z (dJ (dsym z) (z-aF (dsym z)) (aC (dsym z))) W)):=qhz (fun W=>mI W x z y z1 z512);rw[DB hx]at HNA;have hnb0:=EN (ts.take k) (x,z,y) hx;rw[←HTS.out]at hnb0;dsimp only at HNA hnb0;have x0:decide ((0:Int)<(x:Int))=true:=by simp;omega
    have x0':decide (0<x)=true:=by simp;omega
    obtain⟨sx,hsx⟩:=E1 (lsym x);obtain⟨dz,hdz⟩:=E1 (dsym z);rw[←hsx]at HSY HNA a1 a2;simp only[←hdz]at HDY hnb0 b1;obtain⟨v1,hv1⟩:=E1 (x-ar sx);obtain⟨m1,hm1⟩:=E1 (aq sx);obtain⟨v2,hv2⟩:=E1 (z-aF dz);obtain⟨m2,hm2⟩:=E1 (aC dz);rw[←hv1,←hm1]at HSY;simp only[←hv2,←hm2]at HDY;have HNB0:=qhz hnb0;have r0:(0:Int)≤(sx:Int):=by omega
    have r1:(sx:Int)<286:=by omega
    have r2:(0:Int)≤(dz:Int):=by omega
    have r3:(dz:Int)<30:=by omega
    clear hmem hx hsx hdz hv1 hm1 hv2 hm2 hnb0
    go_wp2_with fail
    rw[←HWB.out];refine HSY.out.mono ?_;rintro e wy ⟨rfl,hBy⟩;have hBy2:=HBB.out.trans hBy;have hAy:=HA.out.but hBy2 (by simp);have hBBy:=HB.out.but hBy2 (by simp);have hIy:=HIB.out.but hBy (by simp);obtain⟨vv,hvv⟩:=E1 ((cntZ (ts.take k)).getD sx 0);have hfew:=yh (ts.take k) sx;have d0:=hAy.at (i:=sx) (by rw[HLA.out];omega);have d1:=hAy.free sx;rw[←hvv]at d0 hfew;have wv:=wh (a:=vv) (by omega) (by omega);have hnx:=hAy.inc hvv;rw[←HNA.out]at hnx;have hnb:=hBBy.far (p:=⟨w.heap.size,sx,none⟩) (by simp) (.int .i64 (vv+1));have hbw:=(HBW2.out.trans hBy2).setCell (p:=⟨w.heap.size,sx,none⟩) (.inr (Nat.le_refl _)) (.int .i64 (vv+1));have hI2:=hIy.far (p:=⟨w.heap.size,sx,none⟩) (by simp;omega) (.int .i64 (vv+1));obtain⟨e0,e1,e2,_⟩:=hI2.c3;have hsz:=hBy2.size;have hsw2:wr.heap.size≤(wy.setCell ⟨w.heap.size,sx,none⟩ (.int .i64 (vv+1))).heap.size:=by simp;omega
    have HNX:=qhz hnx;have HNB:=qhz hnb;have HBW3:=qhz hbw;have HSW3:=qhz hsw2;clear hvv hnx hnb hbw hBy hBy2 hAy hBBy hIy hI2 hsw2 c0 c1 c2 HSY;unfold dJ
    go_wp2_with fail
    refine(HDY.out _).mono ?_;rintro e wz ⟨rfl,hBz⟩;have hAz:=HNX.out.but hBz (by simp);have hBz3:=HNB.out.but hBz (by simp);obtain⟨uu,huu⟩:=E1 ((cntB (ts.take k)).getD dz 0);have hfew2:=rD (ts.take k) dz;have g0:=hBz3.at (i:=dz) (by rw[HLB.out];omega);have g1:=hBz3.free dz;rw[←huu]at g0 hfew2;have wu:=wh (a:=uu) (by omega) (by omega);have hnb2:=hBz3.inc huu;rw[←HNB0.out]at hnb2;have hnx2:=hAz.far (p:=⟨w.heap.size+1,dz,none⟩) (by simp) (.int .i64 (uu+1));have hbw2:=(HBW3.out.trans hBz).setCell (p:=⟨w.heap.size+1,dz,none⟩) (.inr (Nat.le_succ _)) (.int .i64 (uu+1));have hsz4:=hBz.size;have hsw4:w.heap.size+1<(wz.setCell ⟨w.heap.size+1,dz,none⟩ (.int .i64 (uu+1))).heap.size:=by have h3:=HSW3.out;have e:(wz.setCell ⟨w.heap.size+1,dz,none⟩ (.int .i64 (uu+1))).heap.size=wz.heap.size:=(by simp);omega
    have HNX2:=qhz hnx2;have HNB2:=qhz hnb2;have HBW4:=qhz hbw2;have HSW4:=qhz hsw4;clear huu hnb2 hnx2 hbw2 hBz hAz hBz3 hsz4 hsw4 HDY d0 d1 e0 e1 e2;unfold dJ;go_wp2
    go_roundw
    case rel=>exact⟨k+1,by omega,by go_num,HNX2,HNB2,HBW4,HSW4.out⟩
    case measure=>simp[intOf];omega
  ·obtain rfl:k=n:=by omega
   have hall:ts.take k=ts:=List.take_of_length_le (by have:=HLN.out;omega);rw[hall]at HA HB;obtain⟨vv,hvv⟩:=E1 ((cntZ ts).getD 256 0);have hfew:=yh ts 256;have d0:=HA.out.at (i:=256) (by rw[tm];omega);have d1:=HA.out.free 256;have hln:=HLN.out;rw[←hvv]at d0 hfew;have wv:=wh (a:=vv) (by omega) (by omega);have hnx:=HA.out.inc hvv;rw[O3]at hnx;have hnb:=HB.out.far (p:=⟨w.heap.size,256,none⟩) (by simp) (.int .i64 (vv+1));have hbw:=HBW2.out.setCell (p:=⟨w.heap.size,256,none⟩) (.inr (Nat.le_refl _)) (.int .i64 (vv+1));have HNX:=qhz hnx;have HNB:=qhz hnb;have HBW3:=qhz hbw;clear hvv hnx hnb hbw hall hln;go_wp2
   go_ret2
   exact⟨rfl,HNX.out,HNB.out,HBW3.out⟩
end
section
attribute [local irreducible] bC layC layB fixL fixD toks aI cntA cntB ap dynL inc lsym dsym lims cntR runs
def extN(y:Nat):Nat:=if y=16 then 2 else if y=17 then 3 else if y=18 then 7 else 0
theorem Ay(w:World)(y:Nat):Calls prog 205 #[y] w fun e w'=>e=.returned (.int .i64 (extN y:Nat))∧w=w':=by
 unfold extN
 by_cases h1:y=16
 ·subst h1
  go_enter func205,ntmps205
  go_wp2;go_ret;exact⟨rfl,rfl⟩
 ·rw[if_neg h1];have d1:((y:Int)==16)=false:=by simp;omega
  by_cases h2:y=17
  ·subst h2
   go_enter func205,ntmps205
   go_wp2;go_ret;exact⟨rfl,rfl⟩
  ·rw[if_neg h2];have d2:((y:Int)==17)=false:=by simp;omega
   by_cases h3:y=18
   ·subst h3
    go_enter func205,ntmps205
    go_wp2;go_ret;exact⟨rfl,rfl⟩
   ·rw[if_neg h3];have d3:((y:Int)==18)=false:=by simp;omega
    clear h1 h2 h3
    go_enter func205,ntmps205
    go_wp2;go_ret;exact⟨rfl,rfl⟩
theorem pz(w:World){A:Option Addr}{n c:Nat}{R:List (Int×Nat)}(hQ:Qs w A n R)(hn:n≤400)(hcd:∀c∈R,0≤c.1∧c.1≤18):
 Calls prog 203 #[.slice A n c] w fun e w'=>∃g,e=.returned (.slice (some ⟨g,0,none⟩) 19 19)∧OwnI w' w.heap.size (.slice (some ⟨g,0,none⟩) 19 19) (lims 7 (cntR R))∧But [] w w':=by
 have HNR:=qhz hQ.1;have HQS:=qhz hQ;have HCD:=qhz hcd;have hmkS:∀W:World,(Instr.makeSlice 36 (.int .i64 19) (.int .i64 19)).run prog W=.ok (.slice (some ⟨W.heap.size,0,none⟩) 19 19) (W.alloc (.cells (ap 19) 3)):=fun W=>eF 19 (by omega) W;have hr0:=ig w 19;rw[←EL]at hr0;have HROW:=qhz hr0;have HBW:=qhz ((But.refl [] w).alloc (.cells (ap 19) 3));have hsw:w.heap.size<(w.alloc (.cells (ap 19) 3)).heap.size:=by simp
 have HSW:=qhz hsw;clear hQ hcd hr0 hsw
 go_enter func203,ntmps203
 go_wp2
 go_loopw [9] (fun iv wr=>∃k:Nat,k≤n∧iv=.int .i64 k∧Hid (Row wr w.heap.size 3 (cntR (R.take k)))∧Hid (But [] w wr)∧w.heap.size<wr.heap.size) (fun iv _=>n-(intOf iv).toNat)
 case atStart=>exact⟨0,Nat.zero_le _,rfl,HROW,HBW,HSW.out⟩
 case round=>
  obtain⟨k,hk,rfl,HA,HBW2,hsw⟩:=hrel;clear HROW HBW HSW hmkS
  by_cases hlt:k<n
  ·have hltR:k<R.length:=by rw[HNR.out];exact hlt
   have hmem:=HCD.out _ (List.getElem_mem hltR);have hts:R.take (k+1)=R.take k++[R[k]]:=List.take_succ_eq_append_getElem hltR;obtain⟨g,o,cc,mm,rfl,hg,c00,c01,h1⟩:=(HQS.out.but HBW2.out).at hlt;rw[List.getElem?_eq_getElem hltR]at h1;injection h1 with h1;rw[h1]at hmem hts;have hna:=AJ (R.take k) (cc,mm);rw[←hts]at hna;have hlk:(R.take k).length≤400:=by rw[List.length_take];omega
   dsimp only at hmem hna;obtain⟨y,rfl⟩:∃y:Nat,cc=(y:Int):=⟨cc.toNat,by omega⟩
   rw[Int.toNat_natCast]at hna;have HNA:=qhz hna;have HLA:Hid ((cntR (R.take k)).length=19):=qhz (ka _);obtain⟨vv,hvv⟩:=E1 ((cntR (R.take k)).getD y 0);have hfew:=rC (R.take k) y;have hB1:=(But.refl [] wr).alloc (.cells #[y,mm] 234);have hA1:=HA.out.but hB1 (by simp);have d0:=hA1.at (i:=y) (by rw[HLA.out];omega);have d1:=hA1.free y;rw[←hvv]at d0 hfew;have wv:=wh (a:=vv) (by omega) (by omega);have b0:(0:Int)≤(y:Int):=by omega
   have b1:(y:Int)<19:=by omega
   have k0:(0:Int)≤(k:Int):=by omega
   have k1:(k:Int)<(n:Int):=by omega
   have hnx:=(HA.out.inc hvv).alloc (.cells #[y,mm] 234);rw[←HNA.out]at hnx;have hbw:=(HBW2.out.setCell (p:=⟨w.heap.size,y,none⟩) (.inr (Nat.le_refl _)) (.int .i64 (vv+1))).alloc (.cells #[y,mm] 234);have hsz:=hB1.size;have hsw2:w.heap.size<((wr.setCell ⟨w.heap.size,y,none⟩ (.int .i64 (vv+1))).alloc (.cells #[y,mm] 234)).heap.size:=by simp;omega
   have HNX:=qhz hnx;have HBW3:=qhz hbw;have HSW2:=qhz hsw2;clear hvv hnx hbw hmem hts hna h1 hg hB1 hA1 hsz hsw2 hltR;go_wp2
   go_roundw
   case rel=>exact⟨k+1,by omega,by go_num,HNX,HBW3,HSW2.out⟩
   case measure=>simp[intOf];omega
  ·obtain rfl:k=n:=by omega
   have hall:R.take k=R:=List.take_of_length_le (by have:=HNR.out;omega);rw[hall]at HA;have hln:=HNR.out;have hI:=HA.out.ints;rw[ka]at hI;have hc:=lp (cap:=19) (M:=7) (m:=7) hI (by omega) (by omega) (by omega) (okCe fun j=>by have:=rC R j;omega) (csA (ka R) (by decide)) rfl;have HC:=qhz hc;clear hall hln hI hc
   go_wp2_with fail
   refine HC.out.mono ?_;rintro e w2 ⟨g,rfl,hO,hB⟩;have HO:=qhz (hO.base (b2:=w.heap.size) (Nat.le_of_lt hsw));have HB:=qt HBW2 hB;clear hO hB;go_wp2;go_ret;exact⟨g,rfl,HO.out,HB.out⟩
def GD(w:World):Prop:=∀i,i<19→w.cell? ⟨1,i,none⟩=some (.int .i64 (ordS.getD i 0:Nat))
theorem GD.but{w w':World}(h:GD w)(hB:But [] w w'):GD w':=fun i hi=>hB.cell (h i hi) (by simp)
theorem Ci{j:Nat}(hj:j<19):ct.toList[j]? =some (.int .i64 (ordS.getD j 0:Nat)):=by
 have hl:j<ordS.length:=hj;have e:ct.toList=ordS.map fun k=>Value.int .i64 ((k:Nat):Int):=rfl;rw[e,List.getElem?_map,List.getD_eq_getElem?_getD,List.getElem?_eq_getElem hl];rfl
theorem Jr{w:World}(h:GD w):(loadVar 259 ⟨1,0,none⟩).run prog w=.ok (.agg ct) w:=by
 have hl:(loadCells ⟨1,0,none⟩ ct.toList.length).run prog w=.ok ct.toList.toArray w:=
  run_loadCells_list (P:=prog) w ⟨1,0,none⟩ ct.toList (fun j v hv=>by
   have hadd:(⟨1,0,none⟩:Addr).add j=⟨1,j,none⟩:=by unfold Addr.add;split<;>simp_all
   have hj:j<19:=(List.getElem?_eq_some_iff.1 hv).1;rw[hadd,h j hj,←hv,Ci hj])
 have hl2:(loadCells ⟨1,0,none⟩ 19).run prog w=.ok ct w:=hl;have hi:(prog.info? 259).map (·.size)=some 19:=by kernel_rfl
 cases hq:prog.info? 259 with
 |none=>simp[hq]at hi
 |some i=>
  have hs:i.size=19:=by simpa[hq]using hi
  have hagg:(isAgg 259).run prog w=.ok true w:=by
   unfold isAgg;rw[Sem.run_bind,run_underlying underlying259 w];rfl
  clear hl;simp[loadVar,Sem.run_bind,hagg,sizeOf,typeInfo,hq,hs,hl2]
theorem pi{ops:Array Oper}{rest:List Oper}{o:Oper}{a:Act}{w:World}{Q:Exit→Act→World→Prop}(hgd:o.guard=none)(x:Operand)(ho:o.op=.load 259 x)
 (hx:a.eval x=.pointer (some ⟨1,0,none⟩)) (hg:GD w) (h:wpList prog ops Q rest (a.put o.dst (.agg ct)) w):wpList prog ops Q (o::rest) a w:=by
 refine wpList_plain hgd fun K hK=>?_;unfold Oper.wp execOp;simp only[ho,hx,Instr.loadAt,Instr.sureAddr,Sem.run_bind,Sem.run_pure,Result.andThen_ok,Jr hg];exact hK _ _ h
theorem Ft:∀(i:Nat),i<19→∀W:World,(Instr.index 259 (.agg ct) (.int .i64 i)).run prog W=.ok (.int .i64 (ordS.getD i 0:Nat)) W
 |0,_,W=>by kernel_rfl
 |1,_,W=>by kernel_rfl
 |2,_,W=>by kernel_rfl
 |3,_,W=>by kernel_rfl
 |4,_,W=>by kernel_rfl
 |5,_,W=>by kernel_rfl
 |6,_,W=>by kernel_rfl
 |7,_,W=>by kernel_rfl
 |8,_,W=>by kernel_rfl
 |9,_,W=>by kernel_rfl
 |10,_,W=>by kernel_rfl
 |11,_,W=>by kernel_rfl
 |12,_,W=>by kernel_rfl
 |13,_,W=>by kernel_rfl
 |14,_,W=>by kernel_rfl
 |15,_,W=>by kernel_rfl
 |16,_,W=>by kernel_rfl
 |17,_,W=>by kernel_rfl
 |18,_,W=>by kernel_rfl
 |i+19,h,_=>absurd h (by omega)
end
section
def WroteP(w w':World)(lo b:Nat)(og:Option Nat)(r:Nat×Nat):Prop:=∃og',WS w' lo b og' r.1 r.2∧(∀g,og'=some g→og=some g∨w.heap.size≤g)∧But (b::og.toList) w w'
section
variable {w w1 w2 w':World} {lo b:Nat} {og:Option Nat} {r:Nat×Nat}
theorem WroteP.refl(h:WS w lo b og r.1 r.2):WroteP w w lo b og r:=⟨og,h,fun _ h=>.inl h,But.refl _ _⟩
theorem WroteP.but(h:WroteP w w' lo b og r):But (b::og.toList) w w':=by
 obtain⟨_,_,_,h⟩:=h;exact h
theorem WroteP.keep{Q:World→Prop}(h:WroteP w w' lo b og r)(k:Keep (b::og.toList) w Q):Q w':=k w' h.but
theorem WroteP.step{r':Nat×Nat}{og' og2:Option Nat}(hg:∀g,og'=some g→og=some g∨w.heap.size≤g)(hB:But (b::og.toList) w w1)
 (h2:WS w' lo b og2 r'.1 r'.2) (hg2:∀g,og2=some g→og'=some g∨w1.heap.size≤g) (hB2:But (b::og'.toList) w1 w'):WroteP w w' lo b og r':=by
 refine⟨og2,h2,fun g e=>?_,hB.join hB2 fun i hi=>?_⟩
 ·rcases hg2 g e with h|h
  ·exact hg g h
  ·exact .inr (Nat.le_trans hB.size h)
 ·simp only[List.mem_cons,Option.mem_toList]at hi⊢;rcases hi with h|h
  ·exact .inl (.inl h)
  ·rcases hg i h with h|h
   ·exact .inl (.inr h)
   ·exact .inr h
theorem WroteP.bitsI(h:WroteP w w1 lo b og r)(hlo:lo≤w.heap.size)(hN:r.2≤100000000000)(v n:Int):
 Calls prog 192 #[.pointer b,v,n] w1 fun e w'=>e=.returned (.tuple #[])∧WroteP w w' lo b og (layX r.1 r.2 v n,layN r.2 n):=by
 obtain⟨og',hW,hg,hB⟩:=h;refine(hW.bits (Nat.le_trans hlo hB.size) (by omega) v n).mono ?_;rintro e w' ⟨rfl,og2,hW2,hg2,hB2⟩;exact⟨rfl,WroteP.step hg hB hW2 hg2 hB2⟩
theorem WroteP.bits(h:WroteP w w1 lo b og r)(hlo:lo≤w.heap.size)(hN:r.2≤100000000000)(v n:Nat):
 Calls prog 192 #[.pointer b,v,n] w1 fun e w'=>e=.returned (.tuple #[])∧WroteP w w' lo b og (layB r v n):=h.bitsI hlo hN v n
theorem WroteP.bytes(h:WroteP w w1 lo b og r)(hlo:lo≤w.heap.size)(hN:r.2≤100000000000)(s:ByteArray)(hs:s.size≤70368744177664):
 Calls prog 193 #[.pointer b,s] w1 fun e w'=>e=.returned (.tuple #[])∧WroteP w w' lo b og (lC r.1 r.2 s,iu r.2 s):=by
 obtain⟨og',hW,hg,hB⟩:=h;refine(hW.bytes (Nat.le_trans hlo hB.size) (by omega) s hs).mono ?_;rintro e w' ⟨rfl,og2,hW2,hg2,hB2⟩;exact⟨rfl,WroteP.step hg hB hW2 hg2 hB2⟩
theorem WroteP.text(h:WroteP w w1 lo b og r)(hN:r.2≤100000000000):Calls prog 160 #[.pointer b] w1 (R1z (.string (aI r)) w1):=by
 obtain⟨og',hW,hg,hB⟩:=h;exact hW.text (by omega)
theorem WroteP.other(h:WroteP w w1 lo b og r)(hB:But [] w1 w2):WroteP w w2 lo b og r:=by
 obtain⟨og',hF,hg,hB1⟩:=h;exact WroteP.step hg hB1 (hF.but hB (by simp) (by simp)) (fun g e=>.inl e) (hB.more (by simp))
theorem WroteP.rebase(h:WroteP w w1 lo b og r)(hB:But [] w1 w2):∃og',WroteP w2 w2 lo b og' r∧(∀k∈b::og'.toList,k<w1.heap.size∧(k∈b::og.toList∨w.heap.size≤k))∧
 (∀Q:World→Prop,Keep (b::og.toList) w Q→Keep (b::og'.toList) w2 Q)∧(∀w' r',WroteP w2 w' lo b og' r'→WroteP w w' lo b og r'):=by
 obtain⟨og',hF,hg,hB1⟩:=h;have hB12:But (b::og.toList) w w2:=hB1.join hB (by simp);have hin:∀i∈b::og'.toList,i∈b::og.toList∨w.heap.size≤i:=fun i hi=>by
  simp only[List.mem_cons,Option.mem_toList]at hi⊢;rcases hi with h|h
  ·exact .inl (.inl h)
  ·rcases hg i h with h|h
   ·exact .inl (.inr h)
   ·exact .inr h
 refine⟨og',WroteP.refl (hF.but hB (by simp) (by simp)),fun k hk=>⟨?_,hin k hk⟩,fun Q hQ=>hQ.step hB12 hin,fun w' r' h'=>?_⟩
 ·simp only[List.mem_cons,Option.mem_toList]at hk;rcases hk with rfl|hk
  ·exact hF.lt.1
  ·exact(hF.lt.2 k hk).1
 ·obtain⟨og2,hW2,hg2,hB2⟩:=h';exact WroteP.step hg hB12 hW2 hg2 hB2
theorem D4{l:List Int}{s:Nat}{bt:Nat}(hT:Keep (b::og.toList) w fun w'=>TT w' bt l)(hok:∀x∈l,0≤x∧x≤15)(hW:WroteP w w1 lo b og r)(hlo:lo≤w.heap.size)(hN:r.2≤1000000000)(hh:has l s):
 Calls prog 200 #[.pointer bt,.pointer b,s] w1 fun e w'=>e=.returned (.int .i64 0)∧WroteP w w' lo b og (layC l r s):=by
 obtain⟨X,N⟩:=r;have he:layC l (X,N) s=layG ((fI l).getD s 0) (l.getD s 0).toNat X N:=by
  unfold layC layS;rw[if_pos hh,Int.toNat_natCast]
 rw[he];clear he
 obtain⟨h0,h1,h2⟩:0≤(s:Int)∧(s:Int)<l.length∧l.getD (s:Int).toNat 0≠0:=hh;rw[Int.toNat_natCast]at h2;have hn:s<l.length:=by omega
 have hg:l.getD s 0=l[s]:=gv hn;have hcl:(fI l).length=l.length:=by unfold fI;exact gX _ _
 have hg2:(fI l).getD s 0=(fI l)[s]'(by omega):=gv _;have hx:=hok _ (List.getElem_mem hn);rw[←hg]at hx;obtain⟨L,hL⟩:∃L:Nat,l.getD s 0=(L:Int):=⟨(l.getD s 0).toNat,by omega⟩
 rw[hL]at hx h2⊢;rw[Int.toNat_natCast];obtain⟨c,hc⟩:=E1 ((fI l).getD s 0);rw[←hc]at hg2⊢;have hL1:1≤L:=by omega
 have hL15:L≤15:=by omega
 have s0:(0:Int)≤(s:Int):=by omega
 have s1:(s:Int)<(l.length:Int):=by omega
 have old:∀W:World,But (b::og.toList) w W→∃g o cl g2 o2 cc,W.cell? ⟨bt,18,none⟩=some (.slice (some ⟨g,o,none⟩) l.length cl)∧W.cell? ⟨bt,19,none⟩=some (.slice (some ⟨g2,o2,none⟩) l.length cc)∧W.cell? ⟨g,o+s,none⟩=some (.int .i64 (L:Nat))∧W.cell? ⟨g2,o2+s,none⟩=some (.int .i64 c):=fun W hB=>by
  obtain⟨Ao,co,Al,cl,Ac,cc,hI,_,hl,hcs⟩:=hT W hB;obtain⟨g,o,rfl,hgl,hc1⟩:=hl.at hn;obtain⟨g2,o2,rfl,hgl2,hc2⟩:=hcs.at hn;rw[←hg,hL]at hc1;rw[←hg2]at hc2;exact⟨g,o,cl,g2,o2,cc,hI.cell 18,hI.cell 19,hc1,hc2⟩
 have OLD:=qhz old;obtain⟨g,o,cl,g2,o2,cc,c0,c1,c2,c3⟩:=OLD.out _ hW.but;have HW:=qhz hW;have hz:((L:Int)==0)=false:=by simp;omega
 have hz1:decide ((s:Int)<0)=false:=by simp;try omega
 have hz2:decide (l.length≤s)=false:=by simp;omega
 clear old hg hg2 hL hcl hT hok h0 h1 h2 hx hc hW
 go_enter func200,ntmps200
 go_wp2;clear c0 c1 c2 c3
 go_loopw [7] (fun iv wr=>∃k X' N':Nat,k≤L∧iv=.int .i64 ((k:Int)-1)∧layG c k X' N'=layG c L X N∧N'+k=N+L∧WroteP w wr lo b og (X',N')) (fun iv _=>((intOf iv)+1).toNat)
 case atStart=>exact⟨L,X,N,Nat.le_refl _,rfl,rfl,rfl,HW.out⟩
 case round=>
  obtain⟨k,X',N',hk,rfl,hG,hNk,hP⟩:=hrel;clear HW;obtain⟨g,o,cl,g2,o2,cc,c0,c1,c2,c3⟩:=OLD.out _ hP.but;have HP:=qhz hP;have HG:=qhz hG;have HNK:=qhz hNk;clear hP hG hNk;cases k with
  |zero=>
   go_wp2;go_ret;refine⟨rfl,?_⟩;have:=HG.out;rw[←this];exact HP.out
  |succ k=>
   have hk1:((k+1:Nat):Int)-1=(k:Int):=by omega
   rw[hk1];have hN2:N≤1000000000:=hN;have hN':N'≤100000000000:=by have:=HNK.out;omega
   clear hk1
   go_wp2_with fail
   refine(HP.out.bitsI hlo hN' (c/2^k) 1).mono ?_;rintro e w2 ⟨rfl,hP2⟩;have HP2:=qhz hP2;clear hP2 c0 c1 c2 c3;go_wp2
   go_roundw
   case rel=>
    refine⟨k,_,_,by omega,rfl,?_,?_,HP2.out⟩
    ·have:=HG.out;rw[layG]at this;exact this
    ·have:=HNK.out;rw[ry];omega
   case measure=>simp[intOf]
theorem mg(h:WroteP w w1 lo b og r)(hlo:lo≤w.heap.size)(hN:r.2≤1000000000){last kind:Nat}(hl:last≤1)(hk:kind≤2):
 Calls prog 158 #[.pointer b,last,kind] w1 fun e w'=>e=.returned (.tuple #[])∧WroteP w w' lo b og (layB (layB r last 1) kind 2):=by
 have h1:(layB r last 1).2≤1000000001:=by
  rw[bX (by omega) (by omega)];show r.2+1≤_;omega
 have H:=qhz h;obtain⟨q,hq⟩:=E1 (layB r last 1);rw[←hq]at h1⊢;have HQ:=qhz hq;clear h hq
 go_enter func158,ntmps158
 go_wp2_with fail
 refine(H.out.bits hlo (by omega) last 1).mono ?_;rintro e w2 ⟨rfl,h2⟩;rw[←HQ.out]at h2;have H2:=qhz h2;clear h2
 go_wp2_with fail
 refine(H2.out.bits hlo (by omega) kind 2).mono ?_;rintro e w3 ⟨rfl,h3⟩;have H3:=qhz h3;clear h3;go_wp2
 go_end0
 exact⟨rfl,H3.out⟩
theorem ru{l:List Int}{s m e:Nat}{bt:Nat}(hT:Keep (b::og.toList) w fun w'=>TT w' bt l)(hok:∀x∈l,0≤x∧x≤15)(hW:WroteP w w1 lo b og r)(hlo:lo≤w.heap.size)(hN:r.2≤100000000)(hh:has l s)(hq:(layC l r s).2≤100000000):
 Calls prog 197 #[.pointer b,.pointer bt,dJ s m e] w1 fun en w'=>en=.returned (.tuple #[])∧WroteP w w' lo b og (layB (layC l r s) m e):=by
 unfold dJ;have hlo1:lo≤w1.heap.size:=Nat.le_trans hlo hW.but.size;obtain⟨wb,hwb⟩:=E1 (w1.alloc (.cells #[s,m,e] 226));have hI:Is wb w1.heap.size 226 #[s,m,e]:=by rw[hwb];exact Is.fresh w1 _ _
 have hB:But [] w1 wb:=by rw[hwb];exact(But.refl [] w1).alloc _
 obtain⟨og',hR,hlt,hKp,hback⟩:=hW.rebase hB;have hT2:=hKp _ hT;have hlo2:lo≤wb.heap.size:=Nat.le_trans hlo1 hB.size;have hc:=D4 hT2 hok hR hlo2 (by omega) hh;obtain⟨q,hqq⟩:=E1 (layC l r s);rw[←hqq]at hc hq⊢;have HC:=qhz hc;have HI:=qhz hI;have HBK:=qhz hback;have HLT:=qhz hlt;have HWB:=qhz hwb;clear hwb hc hqq hI hB hR hlt hback hT2 hT hKp hW hh hok
 go_enter func197,ntmps197
 go_wp2_with fail
 rw[←HWB.out];refine HC.out.mono ?_;rintro en w2 ⟨rfl,h2⟩;have hI2:=HI.out.but h2.but (fun hk=>by have:=(HLT.out _ hk).1;omega);have c1:=hI2.cell 1;have c2:=hI2.cell 2;have H2:=qhz h2;clear h2 hI2
 go_wp2_with fail
 refine(H2.out.bits hlo2 (by omega) m e).mono ?_;rintro en w3 ⟨rfl,h3⟩;have H3:=qhz (HBK.out _ _ h3);clear h3;go_wp2
 go_end0
 exact⟨rfl,H3.out⟩
end
end
end Go.Proofs.YtbanopnofpjnbaaGreatDoor
