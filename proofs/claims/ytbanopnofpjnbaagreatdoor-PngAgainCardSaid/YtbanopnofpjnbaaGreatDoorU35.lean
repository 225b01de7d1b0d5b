/- Own texts in one: SbWb. -/
import Derived.Test.YtbanopnofpjnbaaGreatDoorU34
set_option maxRecDepth 1000000
set_option linter.unusedVariables false
set_option maxHeartbeats 4000000
namespace Go.Proofs.YtbanopnofpjnbaaGreatDoor
open Go Go.RowKit Tryz
section
attribute [local irreducible] pixA palA fk
theorem ND(w:World){a b c d e0:Int}{pal tr:ByteArray}{has:Bool}{A:Option Addr}{n cp:Nat}{l:List Int}(hx:c=4∨c=6)(hZ:Zs w A n l)(hn:n≤1000)(hcp:n≤cp)(hp:pal.size≤140737488351232)(ht:tr.size≤140737488351232):
 Calls prog 147 #[.agg #[a,b,d,c,e0,pal,tr,has],.slice A n cp] w fun r w'=>r=.returned (.tuple #[.string (kZ d c pal tr has l).1,.int .i64 (kZ d c pal tr has l).2])∧But [] w w':=by
 have hln:=hZ.1;have hA:=(But.refl [] w).alloc (.cells #[a,b,d,c,e0,pal,tr,has] 35);obtain⟨b0,hb0⟩:=E1 w.heap.size;obtain⟨w1,hw1⟩:=E1 (w.alloc (.cells #[a,b,d,c,e0,pal,tr,has] 35));have hI:Is w1 b0 35 #[a,b,d,c,e0,pal,tr,has]:=by rw[hw1,hb0];exact Is.fresh _ _ _
 rw[←hw1]at hA;have HA:=qhz hA;have HC:Hid (∀v,But [] w1 v→v.cell? ⟨b0,0,none⟩=some (.int .i64 a)∧v.cell? ⟨b0,1,none⟩=some (.int .i64 b)∧v.cell? ⟨b0,2,none⟩=some (.int .i64 d)∧v.cell? ⟨b0,3,none⟩=some (.int .i64 c)∧v.cell? ⟨b0,4,none⟩=some (.int .i64 e0)∧v.cell? ⟨b0,5,none⟩=some (.string pal)∧v.cell? ⟨b0,6,none⟩=some (.string tr)∧v.cell? ⟨b0,7,none⟩=some (.bool has)∧b0<v.heap.size):=qhz fun v hv=>by
  have hh:=hI.but hv (by simp);exact⟨hh.cell 0,hh.cell 1,hh.cell 2,hh.cell 3,hh.cell 4,hh.cell 5,hh.cell 6,hh.cell 7,hh.lt⟩
 have HZ:Hid (∀v,But [] w1 v→Zs v A n l):=qhz fun v hv=>hZ.but (hA.trans hv);have HSM:Hid (∀v,Calls prog 144 #[c] v fun e w'=>e=.returned (.int .i64 (aW c))∧v=w'):=qhz fun v=>iK v c;have HDP:Hid (∀v,Calls prog 178 #[d] v fun e w'=>e=.returned (.bool (depB d))∧v=w'):=qhz fun v=>dP v d
 by_cases h2:n=0
 ·subst h2;have HR:=qhz (fc (d:=d) (c:=c) (pal:=pal) (tr:=tr) (has:=has) (l:=l) (.inr (.inl hln)));rw[HR.out];clear hln hZ;have c0:=hI.cell 0;have c6:=hI.cell 6;have c7:=hI.cell 7;clear hA hI
  go_enter func147,ntmps147
  go_upto_region 1 with(fail)
  rw[←hw1,←hb0];clear c0 c6 c7 hw1 hb0;obtain⟨c0,c1,c2,c3,c4,c5,c6,c7,hgl⟩:=HC.out w1 (But.refl [] _)
  go_wp2_with (first|(refine(HSM.out _).mono ?_;rintro e wz ⟨rfl,rfl⟩)|(refine(HDP.out _).mono ?_;rintro e wz ⟨rfl,rfl⟩))
  go_ret2
  exact⟨rfl,HA.out⟩
 have t2:((n:Int)==0)=false:=by simp;exact h2
 have t2b:¬(n:Int)=0:=by omega
 obtain⟨sc,hsc⟩:=E1 (aW c);rw[←hsc]at HSM
 by_cases h1:sc=(n:Int)
 ·subst h1;have HSC:=qhz hsc;have t1:((n:Int) !=(n:Int))=false:=by simp
  by_cases hd:depB d=false
  ·have HR:=qhz (fc (d:=d) (c:=c) (pal:=pal) (tr:=tr) (has:=has) (l:=l) (.inr (.inr (.inl hd))));rw[HR.out];rw[hd]at HDP;clear hln hZ hsc hd;have c0:=hI.cell 0;have c6:=hI.cell 6;have c7:=hI.cell 7;clear hA hI
   go_enter func147,ntmps147
   go_upto_region 1 with(fail)
   rw[←hw1,←hb0];clear c0 c6 c7 hw1 hb0;obtain⟨c0,c1,c2,c3,c4,c5,c6,c7,hgl⟩:=HC.out w1 (But.refl [] _)
   go_wp2_with (first|(refine(HSM.out _).mono ?_;rintro e wz ⟨rfl,rfl⟩)|(refine(HDP.out _).mono ?_;rintro e wz ⟨rfl,rfl⟩))
   go_ret2
   exact⟨rfl,HA.out⟩
  have hd:depB d=true:=by simpa using hd
  rw[hd]at HDP;obtain⟨D,rfl,hdep,hD1,hD16⟩:=kj hd;have HWI:Hid (∀v,But [] w1 v→Calls prog 180 #[D,.slice A n cp] v fun e w'=>e=.returned (.bool (inR D l))∧v=w'):=qhz fun v hv=>(sL v (cp:=cp) (HZ.out v hv) hn hD16).mono fun _ _ ⟨h1,h2⟩=>⟨h1,h2.symm⟩
  by_cases hin:inR D l=false
  ·have HR:=qhz (fc (d:=(D:Int)) (c:=c) (pal:=pal) (tr:=tr) (has:=has) (l:=l) (.inr (.inr (.inr hin))));rw[HR.out];rw[hin]at HWI;clear hln hZ hsc hd hdep hin;have c0:=hI.cell 0;have c6:=hI.cell 6;have c7:=hI.cell 7;clear hA hI
   go_enter func147,ntmps147
   go_upto_region 1 with(fail)
   rw[←hw1,←hb0];clear c0 c6 c7 hw1 hb0;obtain⟨c0,c1,c2,c3,c4,c5,c6,c7,hgl⟩:=HC.out w1 (But.refl [] _)
   go_wp2_with (first|(refine(HSM.out _).mono ?_;rintro e wz ⟨rfl,rfl⟩)|(refine(HDP.out _).mono ?_;rintro e wz ⟨rfl,rfl⟩)|(refine(HWI.out _ (But.refl [] _)).mono ?_;rintro e wz ⟨rfl,rfl⟩))
   go_ret2
   exact⟨rfl,HA.out⟩
  have hin:inR D l=true:=by simpa using hin
  rw[hin]at HWI;have HIN:=qhz hin;have HR:=qhz (sQ (c:=c) (pal:=pal) (tr:=tr) (has:=has) hln hsc.symm (by omega) hd hin);rw[HR.out];have HC4:=qhz (mw hsc.symm (by omega));have HLN:=qhz hln;have HDE:=qhz hd;have HIND:Hid (∀(v:World) (k:Nat),k<65536→Calls prog 181 #[.agg #[a,b,D,c,e0,pal,tr,has],.int .i64 k] v fun r w'=>r=.returned (.tuple #[.string (palA pal tr has k).1,.int .i64 (palA pal tr has k).2])∧But [] v w'):=qhz fun v k hk=>qA v hk hp ht;have HCOL:Hid (∀(v:World) (m al:Nat) (l':List Int),Zs v A m l'→0<m→m≤1000→al<65536→Calls prog 182 #[D,.slice A m cp,.int .i64 al] v (R1z (.tuple #[.string (px4 (aZ (l'.getD (0%m) 0) D) (aZ (l'.getD (1%m) 0) D) (aZ (l'.getD (2%m) 0) D) al),(0:Int)]) v)):=qhz fun v m al l' h1 h2 h3 h4=>jZ v h1 h2 h3 h4;have HCL:Hid (∀v,But [] w1 v→Calls prog 184 #[.agg #[a,b,D,c,e0,pal,tr,has],.slice A n cp] v fun r w'=>r=.returned (.bool (mU D tr has l))∧But [] v w'):=qhz fun v hv=>vj v hD16 (HZ.out v hv) hn ht;obtain⟨R,hR⟩:=E1 (pixA D c pal tr has l);rw[←hR];have HRR:=qhz hR;clear hln hZ hsc hd hdep hin hR HR;rcases HC4.out with⟨hcc,hnn⟩|⟨hcc,hnn⟩|⟨hcc,hnn⟩|⟨hcc,hnn⟩|⟨hcc,hnn⟩
  ·omega
  ·omega
  ·omega
  ·subst hcc hnn;obtain⟨x0,hx0⟩:∃x,l[0]? =some x:=⟨_,List.getElem?_eq_getElem (by rw[HLN.out];decide)⟩
   have HX0:=qhz hx0;clear hx0;obtain⟨x1,hx1⟩:∃x,l[1]? =some x:=⟨_,List.getElem?_eq_getElem (by rw[HLN.out];decide)⟩
   have HX1:=qhz hx1;clear hx1;obtain⟨W0,hW0⟩:=E1 (aZ x1 (D:Int));have hWl:W0<65536:=by rw[hW0];exact nC _ _
   have HW:Hid (∀W,Calls prog 183 #[x1,D] W fun e w'=>e=.returned (.int .i64 (W0:Nat))∧W=w'):=qhz fun W=>by rw[hW0];exact nP W x1 D
   have HCA:Hid (∀v,But [] w1 v→Calls prog 182 #[D,.slice A 1 cp,W0] v (R1z (.tuple #[R.1,R.2]) v)):=qhz fun v hv=>by
    have h:=HCOL.out v 1 W0 (l.take 1) (u7 (HZ.out v hv) (by decide)) (by decide) (by decide) hWl;have hR:R=(px4 (aZ ((l.take 1).getD (0%1) 0) D) (aZ ((l.take 1).getD (1%1) 0) D) (aZ ((l.take 1).getD (2%1) 0) D) W0,0):=by
     rw[HRR.out];unfold pixA;rw[if_neg (by decide),if_neg (by decide)];rw[if_pos rfl,p7 HX1.out,←hW0];have q0:(l.take 1).getD 0 0=l.getD 0 0:=by rw[List.getD_eq_getElem?_getD,List.getD_eq_getElem?_getD,List.getElem?_take_of_lt (by decide)]
     show _=(px4 (aZ ((l.take 1).getD 0 0) D) (aZ ((l.take 1).getD 0 0) D) (aZ ((l.take 1).getD 0 0) D) W0,0)
     rw[q0]
    rw[hR];exact h
   have HEL:Hid (∀v,But [] w1 v→∃g o,A=some ⟨g,o,none⟩∧v.cell? ⟨g,o+1,none⟩=some (.int .i64 x1)):=qhz fun v hv=>by
    obtain⟨g,o,y,hA0,hg,hy,k0⟩:=(HZ.out v hv).at (i:=1) (by decide);rw[HX1.out]at hy;obtain rfl:x1=y:=Option.some.inj hy;exact⟨g,o,hA0,k0⟩
   obtain⟨g,o,hA0,_⟩:=HEL.out w1 (But.refl [] _);subst hA0;have HEC:Hid (∀v,But [] w1 v→v.cell? ⟨g,o+1,none⟩=some (.int .i64 x1)):=qhz fun v hv=>by
    obtain⟨g',o',e,h⟩:=HEL.out v hv;injection e with e;injection e with e1 e2;rw[e1,e2];exact h
   obtain⟨R1,R2⟩:=R;clear HCOL HCL HIND HRR HEL hW0;have c0:=hI.cell 0;have c6:=hI.cell 6;have c7:=hI.cell 7;clear hA hI
   go_enter func147,ntmps147
   go_upto_region 1 with(fail)
   rw[←hw1,←hb0];clear c0 c6 c7 hw1 hb0;obtain⟨c0,c1,c2,c3,c4,c5,c6,c7,hgl⟩:=HC.out w1 (But.refl [] _)
   go_upto_region 9 with(first|(refine(HSM.out _).mono ?_;rintro e wz ⟨rfl,rfl⟩)|(refine(HDP.out _).mono ?_;rintro e wz ⟨rfl,rfl⟩)|(refine(HWI.out _ (But.refl [] _)).mono ?_;rintro e wz ⟨rfl,rfl⟩))
   clear c0 c1 c2 c3 c4 c5 c6 c7 hgl;refine bw (S:=fun v=>But [] w1 v) (R:=fun v v'=>But [] v v') (fun w=>But.refl [] w) (by kernel_rfl) ((But.refl [] w1).drew) ?_;refine rdk 0 (.pointer b0) ?_;refine rdk 1 (.pointer (some ⟨b0,2,none⟩)) ?_;refine rdq 2 (.int .i64 (D:Nat)) (fun w hS=>?_) ?_
   ·obtain⟨c0,c1,c2,c3,c4,c5,c6,c7,hgl⟩:=HC.out w hS;go_simp
   refine rdk 3 (.slice (some ⟨g,o,none⟩) 2 cp) ?_;refine rdk 4 (.int .i64 1) ?_;refine rdq 5 (.slice (some ⟨g,o,none⟩) 1 cp) (fun w hS=>?_) ?_
   ·go_simp
    all_goals (intro h;omega)
   refine rdk 6 (.slice (some ⟨g,o,none⟩) 2 cp) ?_;refine rdk 7 (.int .i64 1) ?_;refine rdk 8 (.pointer (some ⟨g,o+1,none⟩)) ?_;refine rdq 9 (.int .i64 x1) (fun w hS=>?_) ?_
   ·have y:=HEC.out w hS;go_simp
   refine rdk 10 (.pointer b0) ?_;refine rdk 11 (.pointer (some ⟨b0,2,none⟩)) ?_;refine rdq 12 (.int .i64 (D:Nat)) (fun w hS=>?_) ?_
   ·obtain⟨c0,c1,c2,c3,c4,c5,c6,c7,hgl⟩:=HC.out w hS;go_simp
   refine cr (fun w=>But.refl [] w) (fun x y z h k=>h.trans k) (i:=13) (v:=.int .i64 (W0:Nat)) rfl (by kernel_rfl) (by kernel_rfl) (by kernel_rfl) (fun _ _ _ h=>h) (.inl ⟨?_,fun w hS=>.inr ⟨_,_,?_,(HW.out w).mono ?_⟩⟩) ?_
   ·go_simp
   ·go_simp
   ·rintro e wy ⟨rfl,rfl⟩;exact⟨rfl,hS,But.refl [] _⟩
   refine cr (fun w=>But.refl [] w) (fun x y z h k=>h.trans k) (i:=14) (v:=.tuple #[R1,R2]) rfl (by kernel_rfl) (by kernel_rfl) (by kernel_rfl) (fun _ _ _ h=>h) (.inl ⟨?_,fun w hS=>.inr ⟨_,_,?_,(HCA.out w hS).mono ?_⟩⟩) ?_
   ·go_simp
   ·go_simp
   ·rintro e wy ⟨rfl,hB⟩;exact⟨rfl,hS.trans hB,hB⟩
   refine rdk 15 (.string R1) ?_;refine rdk 16 (.int .i64 R2) ?_;refine rdk 17 (.string R1) ?_;refine rdk 18 (.int .i64 R2) ?_;refine⟨by kernel_rfl,fun w9 hR9 hS9=>?_⟩;have HB9:=qhz hS9;clear hR9 hS9;go_simp;go_wp2
   go_ret2
   exact⟨rfl,HA.out.trans HB9.out⟩
  ·subst hcc hnn;obtain⟨x0,hx0⟩:∃x,l[0]? =some x:=⟨_,List.getElem?_eq_getElem (by rw[HLN.out];decide)⟩
   have HX0:=qhz hx0;clear hx0;obtain⟨x1,hx1⟩:∃x,l[1]? =some x:=⟨_,List.getElem?_eq_getElem (by rw[HLN.out];decide)⟩
   have HX1:=qhz hx1;clear hx1;obtain⟨x2,hx2⟩:∃x,l[2]? =some x:=⟨_,List.getElem?_eq_getElem (by rw[HLN.out];decide)⟩
   have HX2:=qhz hx2;clear hx2;obtain⟨x3,hx3⟩:∃x,l[3]? =some x:=⟨_,List.getElem?_eq_getElem (by rw[HLN.out];decide)⟩
   have HX3:=qhz hx3;clear hx3;obtain⟨W0,hW0⟩:=E1 (aZ x3 (D:Int));have hWl:W0<65536:=by rw[hW0];exact nC _ _
   have HW:Hid (∀W,Calls prog 183 #[x3,D] W fun e w'=>e=.returned (.int .i64 (W0:Nat))∧W=w'):=qhz fun W=>by rw[hW0];exact nP W x3 D
   have HCA:Hid (∀v,But [] w1 v→Calls prog 182 #[D,.slice A 3 cp,W0] v (R1z (.tuple #[R.1,R.2]) v)):=qhz fun v hv=>by
    have h:=HCOL.out v 3 W0 (l.take 3) (u7 (HZ.out v hv) (by decide)) (by decide) (by decide) hWl;have hR:R=(px4 (aZ ((l.take 3).getD (0%3) 0) D) (aZ ((l.take 3).getD (1%3) 0) D) (aZ ((l.take 3).getD (2%3) 0) D) W0,0):=by
     rw[HRR.out];unfold pixA;rw[if_neg (by decide),if_neg (by decide),if_neg (by decide)];rw[if_pos rfl,p7 HX3.out,←hW0];have q0:(l.take 3).getD 0 0=l.getD 0 0:=by rw[List.getD_eq_getElem?_getD,List.getD_eq_getElem?_getD,List.getElem?_take_of_lt (by decide)]
     have q1:(l.take 3).getD 1 0=l.getD 1 0:=by rw[List.getD_eq_getElem?_getD,List.getD_eq_getElem?_getD,List.getElem?_take_of_lt (by decide)]
     have q2:(l.take 3).getD 2 0=l.getD 2 0:=by rw[List.getD_eq_getElem?_getD,List.getD_eq_getElem?_getD,List.getElem?_take_of_lt (by decide)]
     show _=(px4 (aZ ((l.take 3).getD 0 0) D) (aZ ((l.take 3).getD 1 0) D) (aZ ((l.take 3).getD 2 0) D) W0,0)
     rw[q0,q1,q2]
    rw[hR];exact h
   have HEL:Hid (∀v,But [] w1 v→∃g o,A=some ⟨g,o,none⟩∧v.cell? ⟨g,o+3,none⟩=some (.int .i64 x3)):=qhz fun v hv=>by
    obtain⟨g,o,y,hA0,hg,hy,k0⟩:=(HZ.out v hv).at (i:=3) (by decide);rw[HX3.out]at hy;obtain rfl:x3=y:=Option.some.inj hy;exact⟨g,o,hA0,k0⟩
   obtain⟨g,o,hA0,_⟩:=HEL.out w1 (But.refl [] _);subst hA0;have HEC:Hid (∀v,But [] w1 v→v.cell? ⟨g,o+3,none⟩=some (.int .i64 x3)):=qhz fun v hv=>by
    obtain⟨g',o',e,h⟩:=HEL.out v hv;injection e with e;injection e with e1 e2;rw[e1,e2];exact h
   obtain⟨R1,R2⟩:=R;clear HCOL HCL HIND HRR HEL hW0;have c0:=hI.cell 0;have c6:=hI.cell 6;have c7:=hI.cell 7;clear hA hI
   go_enter func147,ntmps147
   go_upto_region 1 with(fail)
   rw[←hw1,←hb0];clear c0 c6 c7 hw1 hb0;obtain⟨c0,c1,c2,c3,c4,c5,c6,c7,hgl⟩:=HC.out w1 (But.refl [] _)
   go_upto_region 9 with(first|(refine(HSM.out _).mono ?_;rintro e wz ⟨rfl,rfl⟩)|(refine(HDP.out _).mono ?_;rintro e wz ⟨rfl,rfl⟩)|(refine(HWI.out _ (But.refl [] _)).mono ?_;rintro e wz ⟨rfl,rfl⟩))
   clear c0 c1 c2 c3 c4 c5 c6 c7 hgl;refine bw (S:=fun v=>But [] w1 v) (R:=fun v v'=>But [] v v') (fun w=>But.refl [] w) (by kernel_rfl) ((But.refl [] w1).drew) ?_;refine rdk 0 (.pointer b0) ?_;refine rdk 1 (.pointer (some ⟨b0,2,none⟩)) ?_;refine rdq 2 (.int .i64 (D:Nat)) (fun w hS=>?_) ?_
   ·obtain⟨c0,c1,c2,c3,c4,c5,c6,c7,hgl⟩:=HC.out w hS;go_simp
   refine rdk 3 (.slice (some ⟨g,o,none⟩) 4 cp) ?_;refine rdk 4 (.int .i64 3) ?_;refine rdq 5 (.slice (some ⟨g,o,none⟩) 3 cp) (fun w hS=>?_) ?_
   ·go_simp
    all_goals (intro h;omega)
   refine rdk 6 (.slice (some ⟨g,o,none⟩) 4 cp) ?_;refine rdk 7 (.int .i64 3) ?_;refine rdk 8 (.pointer (some ⟨g,o+3,none⟩)) ?_;refine rdq 9 (.int .i64 x3) (fun w hS=>?_) ?_
   ·have y:=HEC.out w hS;go_simp
   refine rdk 10 (.pointer b0) ?_;refine rdk 11 (.pointer (some ⟨b0,2,none⟩)) ?_;refine rdq 12 (.int .i64 (D:Nat)) (fun w hS=>?_) ?_
   ·obtain⟨c0,c1,c2,c3,c4,c5,c6,c7,hgl⟩:=HC.out w hS;go_simp
   refine cr (fun w=>But.refl [] w) (fun x y z h k=>h.trans k) (i:=13) (v:=.int .i64 (W0:Nat)) rfl (by kernel_rfl) (by kernel_rfl) (by kernel_rfl) (fun _ _ _ h=>h) (.inl ⟨?_,fun w hS=>.inr ⟨_,_,?_,(HW.out w).mono ?_⟩⟩) ?_
   ·go_simp
   ·go_simp
   ·rintro e wy ⟨rfl,rfl⟩;exact⟨rfl,hS,But.refl [] _⟩
   refine cr (fun w=>But.refl [] w) (fun x y z h k=>h.trans k) (i:=14) (v:=.tuple #[R1,R2]) rfl (by kernel_rfl) (by kernel_rfl) (by kernel_rfl) (fun _ _ _ h=>h) (.inl ⟨?_,fun w hS=>.inr ⟨_,_,?_,(HCA.out w hS).mono ?_⟩⟩) ?_
   ·go_simp
   ·go_simp
   ·rintro e wy ⟨rfl,hB⟩;exact⟨rfl,hS.trans hB,hB⟩
   refine rdk 15 (.string R1) ?_;refine rdk 16 (.int .i64 R2) ?_;refine rdk 17 (.string R1) ?_;refine rdk 18 (.int .i64 R2) ?_;refine⟨by kernel_rfl,fun w9 hR9 hS9=>?_⟩;have HB9:=qhz hS9;clear hR9 hS9;go_simp;go_wp2
   go_ret2
   exact⟨rfl,HA.out.trans HB9.out⟩
 ·have HR:=qhz (fc (d:=d) (c:=c) (pal:=pal) (tr:=tr) (has:=has) (l:=l) (.inl (by rw[hln,←hsc];exact h1)));rw[HR.out];have t1:((n:Int) !=sc)=true:=by simp;exact fun e=>h1 e.symm
  have t3:((n:Int)=sc)=False:=by simp;exact fun e=>h1 e.symm
  clear hln hZ hsc;have c0:=hI.cell 0;have c6:=hI.cell 6;have c7:=hI.cell 7;clear hA hI
  go_enter func147,ntmps147
  go_upto_region 1 with(fail)
  rw[←hw1,←hb0];clear c0 c6 c7 hw1 hb0;obtain⟨c0,c1,c2,c3,c4,c5,c6,c7,hgl⟩:=HC.out w1 (But.refl [] _)
  go_wp2_with (first|(refine(HSM.out _).mono ?_;rintro e wz ⟨rfl,rfl⟩)|(refine(HDP.out _).mono ?_;rintro e wz ⟨rfl,rfl⟩))
  go_ret2
  exact⟨rfl,HA.out⟩
theorem FN(w:World){a b c d e0:Int}{pal tr:ByteArray}{has:Bool}{A:Option Addr}{n cp:Nat}{l:List Int}(hZ:Zs w A n l)(hn:n≤1000)(hcp:n≤cp)(hp:pal.size≤140737488351232)(ht:tr.size≤140737488351232):
 Calls prog 147 #[.agg #[a,b,d,c,e0,pal,tr,has],.slice A n cp] w fun r w'=>r=.returned (.tuple #[.string (kZ d c pal tr has l).1,.int .i64 (kZ d c pal tr has l).2])∧But [] w w':=by
 by_cases hx:c=4∨c=6
 ·exact ND w hx hZ hn hcp hp ht
 ·exact NF w hx hZ hn hcp hp ht
end
end Go.Proofs.YtbanopnofpjnbaaGreatDoor
