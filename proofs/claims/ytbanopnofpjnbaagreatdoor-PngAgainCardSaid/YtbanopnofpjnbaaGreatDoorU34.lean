/- Own texts in one: SbV, SbR, SbS, SbW. -/
import Derived.Test.YtbanopnofpjnbaaGreatDoorU28
set_option maxRecDepth 1000000
set_option linter.unusedVariables false
set_option maxHeartbeats 4000000
namespace Go.Proofs.YtbanopnofpjnbaaGreatDoor
open Go Go.RowKit Tryz
theorem lf(w:World){bc bd:Nat}{A:Option Addr}{m cp:Nat}{l:List Int}{d:Int}{i:Nat}(hIc:Is w bc 36 #[.slice A m cp])(hId:Is w bd 3 #[d])(hZ:Zs w A m l)(hm:0<m)(hm2:m≤1000)(hi:i≤2):
 Calls prog 215 #[i,.pointer bc,.pointer bd] w (R1z (.int .i64 (aZ (l.getD (i%m) 0) d:Nat)) w):=by
 obtain⟨j,hj⟩:=E1 (i%m);have hjm:j<m:=by rw[hj];exact Nat.mod_lt _ hm
 rw[←hj];obtain⟨g,o,x,rfl,hg,hx,k0⟩:=hZ.at hjm;obtain⟨W0,hW0⟩:=E1 (aZ x d);have HW:Hid (∀W,Calls prog 183 #[x,d] W fun e w'=>e=.returned (.int .i64 (W0:Nat))∧w'=W):=qhz fun W=>by
  rw[hW0];exact(nP W x d).mono fun _ _ ⟨h1,h2⟩=>⟨h1,h2.symm⟩
 have HR:Hid (aZ (l.getD j 0) d=W0):=qhz (by rw[p7 hx,hW0]);rw[HR.out];have f1:(i:Int).tmod (m:Int)=(j:Int):=by rw[Int.tmod_eq_emod_of_nonneg (by omega),hj];simp
 have f2:(i:Int)%(m:Int)=(j:Int):=by rw[hj];simp
 have t1:=af (show j<1000000000000000 by omega);have n0:((m:Int)==0)=false:=by simp;omega
 have n1:¬(m:Int)=0:=by omega
 have n2:¬m=0:=by omega
 have cc:=hIc.cell 0;have cd:=hId.cell 0;have lc:=hIc.lt;have ld:=hId.lt;clear hj hx hW0 hIc hId hZ
 go_enter func215,ntmps215
 go_upto_region 1 with(fail)
 go_quiet ((go_at_call 183;exact Calls.quiet_of_same (HW.out _)))
 go_wp2;go_ret;exact⟨rfl,(But.refl [] _).drewN _⟩
theorem F8{a b c e:Nat}(ha:a<65536)(hb:b<65536)(hc:c<65536)(he:e<65536):kD 16 [(a:Int),(b:Int),(c:Int),(e:Int)]=(twoB a++twoB b++twoB c++twoB e,0):=by
 have h:=Ks ha hb hc he;unfold px4 at h;have h2:=congrArg (fun s:ByteArray=>s.data.toList) h;simp only[aj]at h2;have ln:∀x:Nat,x<65536→lowN (x:Int)=x:=fun x hx=>by unfold lowN;omega
 unfold kD;rw[if_neg (by decide)];show(dR 16 [lowN a,lowN b,lowN c,lowN e],(0:Int))=_;rw[ln a ha,ln b hb,ln c hc,ln e he,h2]
theorem jZ(w:World){A:Option Addr}{m cp al:Nat}{l:List Int}{d:Int}(hZ:Zs w A m l)(hm:0<m)(hm2:m≤1000)(hal:al<65536):
 Calls prog 182 #[d,.slice A m cp,al] w (R1z (.tuple #[.string (px4 (aZ (l.getD (0%m) 0) d) (aZ (l.getD (1%m) 0) d) (aZ (l.getD (2%m) 0) d) al),(0:Int)]) w):=by
 have hB1:=(But.refl [] w).alloc (.cells #[d] 3);have hI1:=Is.fresh w 3 #[d];obtain⟨wa,hwa⟩:=E1 (w.alloc (.cells #[d] 3));rw[←hwa]at hB1 hI1;have hB2:=hB1.alloc (.cells #[.slice A m cp] 36);have hI2:=Is.fresh wa 36 #[.slice A m cp];have hI3:=hI1.alloc (.cells #[.slice A m cp] 36);obtain⟨wb,hwb⟩:=E1 (wa.alloc (.cells #[.slice A m cp] 36));rw[←hwb]at hB2 hI2 hI3;obtain⟨bd,hbd⟩:=E1 w.heap.size;obtain⟨bc,hbc⟩:=E1 wa.heap.size;have hbc2:bc=w.heap.size+1:=by rw[hbc,hwa];simp
 rw[←hbd]at hI3;rw[←hbc]at hI2;have hZ2:=hZ.but hB2;obtain⟨W0,hW0⟩:=E1 (aZ (l.getD (0%m) 0) d);obtain⟨W1,hW1⟩:=E1 (aZ (l.getD (1%m) 0) d);obtain⟨W2,hW2⟩:=E1 (aZ (l.getD (2%m) 0) d);have l0:W0<65536:=by rw[hW0];exact nC _ _
 have l1:W1<65536:=by rw[hW1];exact nC _ _
 have l2:W2<65536:=by rw[hW2];exact nC _ _
 have H0:Hid (∀v,But [] wb v→Calls prog 215 #[(0:Int),.pointer bc,.pointer bd] v (R1z (.int .i64 (W0:Nat)) v)):=qhz fun v hv=>by
  rw[hW0];exact lf v (i:=0) (hI2.but hv (by simp)) (hI3.but hv (by simp)) (hZ2.but hv) hm hm2 (by omega)
 have H1:Hid (∀v,But [] wb v→Calls prog 215 #[(1:Int),.pointer bc,.pointer bd] v (R1z (.int .i64 (W1:Nat)) v)):=qhz fun v hv=>by
  rw[hW1];exact lf v (i:=1) (hI2.but hv (by simp)) (hI3.but hv (by simp)) (hZ2.but hv) hm hm2 (by omega)
 have H2:Hid (∀v,But [] wb v→Calls prog 215 #[(2:Int),.pointer bc,.pointer bd] v (R1z (.int .i64 (W2:Nat)) v)):=qhz fun v hv=>by
  rw[hW2];exact lf v (i:=2) (hI2.but hv (by simp)) (hI3.but hv (by simp)) (hZ2.but hv) hm hm2 (by omega)
 have HB2:=qhz hB2;have HPK:Hid (∀(v:World) (g:Nat),Is v g 3 #[W0,W1,W2,al]→Calls prog 216 #[(16:Int),.slice (some ⟨g,0,none⟩) 4 4] v (R1z (.tuple #[.string (px4 W0 W1 W2 al),(0:Int)]) v)):=qhz fun v g hg=>by
  have h:=Kb v (d:=16) (cp:=4) (n:=4) (l:=[(W0:Int),(W1:Int),(W2:Int),(al:Int)]) (Zs.is (l:=[(W0:Int),(W1:Int),(W2:Int),(al:Int)]) hg) (by decide);rw[F8 l0 l1 l2 hal]at h;exact h
 obtain⟨R,hR⟩:=E1 (px4 W0 W1 W2 al);rw[←hW0,←hW1,←hW2];rw[←hR]at HPK⊢;clear hZ hB1 hI1 hB2 hI2 hI3 hZ2 hW0 hW1 hW2 hR
 go_enter func182,ntmps182
 go_upto_region 2 with(fail)
 rw[←hwa,←hwb,←hbc2,←hbd];clear hwa hwb hbc hbc2 hbd
 go_wp2_with fail
 refine(H0.out _ (But.refl [] _)).mono ?_;rintro e w1 ⟨rfl,hB1⟩;have HB1:=qhz hB1;clear hB1
 go_wp2_with fail
 refine(H1.out _ HB1.out).mono ?_;rintro e w2 ⟨rfl,hB2⟩;have HB3:=qt HB1 hB2;clear hB2 HB1
 go_wp2_with fail
 refine(H2.out _ HB3.out).mono ?_;rintro e w3 ⟨rfl,hB3⟩;have HB4:=qhz (HB2.out.trans (HB3.out.trans hB3));clear hB3 HB3
 go_wp2_with fail
 refine(HPK.out _ _ (Is.fresh _ _ _)).mono ?_;rintro e w4 ⟨rfl,hB4⟩;have HB5:=qhz ((HB4.out.alloc _).trans hB4);clear hB4 HB4;go_wp2
 go_ret2
 exact⟨rfl,HB5.out⟩
theorem Fa{tr:ByteArray}{n:Nat}(hn:n≤4096)(h:tr.size=2*n):gE tr 16 n=(eu tr.data.toList 16 n,0):=by
 unfold gE;rw[if_neg (by rintro(h|h|h);exact absurd h (by decide);omega;omega),if_neg (by omega)];rfl
theorem Jo{D n i:Nat}{tr:ByteArray}{l:List Int}(hD:D≤16){x y:Int}{v:Nat}(hi:i<n)(hv:(eu tr.data.toList 16 n)[i]? =some v)(hx:l[i]? =some x)(hy:((v:Nat):Int)%2^D=y):nX D tr l i=decide (y=x):=by
 have e:v=cX tr.data.toList 16 i:=by
  unfold eu at hv;rw[List.getElem?_map,List.getElem?_range hi]at hv;exact(Option.some.inj hv).symm
 unfold nX;rw[←uS,←e,p7 hx,←hy]
 congr 1
theorem vj(w:World){a b c e0:Int}{D:Nat}{pal tr:ByteArray}{has:Bool}{A:Option Addr}{n cp:Nat}{l:List Int}(hD16:D≤16)(hZ:Zs w A n l)(hn:n≤1000)(ht:tr.size≤140737488351232):
 Calls prog 184 #[.agg #[a,b,D,c,e0,pal,tr,has],.slice A n cp] w fun r w'=>r=.returned (.bool (mU D tr has l))∧But [] w w':=by
 have hln:=hZ.1;have hA:=(But.refl [] w).alloc (.cells #[a,b,D,c,e0,pal,tr,has] 35);obtain⟨b0,hb0⟩:=E1 w.heap.size;obtain⟨w1,hw1⟩:=E1 (w.alloc (.cells #[a,b,D,c,e0,pal,tr,has] 35));have hI:Is w1 b0 35 #[a,b,D,c,e0,pal,tr,has]:=by rw[hw1,hb0];exact Is.fresh _ _ _
 rw[←hw1]at hA;have HA:=qhz hA;have HC:Hid (∀v,But [] w1 v→v.cell? ⟨b0,0,none⟩=some (.int .i64 a)∧v.cell? ⟨b0,1,none⟩=some (.int .i64 b)∧v.cell? ⟨b0,2,none⟩=some (.int .i64 D)∧v.cell? ⟨b0,3,none⟩=some (.int .i64 c)∧v.cell? ⟨b0,4,none⟩=some (.int .i64 e0)∧v.cell? ⟨b0,5,none⟩=some (.string pal)∧v.cell? ⟨b0,6,none⟩=some (.string tr)∧v.cell? ⟨b0,7,none⟩=some (.bool has)∧b0<v.heap.size):=qhz fun v hv=>by
  have hh:=hI.but hv (by simp);exact⟨hh.cell 0,hh.cell 1,hh.cell 2,hh.cell 3,hh.cell 4,hh.cell 5,hh.cell 6,hh.cell 7,hh.lt⟩
 have HZ:Hid (∀v,But [] w1 v→Zs v A n l):=qhz fun v hv=>hZ.but (hA.trans hv);have HLq:Hid (∀W (x:Int),Calls prog 214 #[.int .i64 x,D] W fun e w'=>e=.returned (.int .i64 (x%2^D))∧w'=W):=qhz fun W x=>(ot W x hD16).mono fun _ _ ⟨h1,h2⟩=>⟨h1,h2.symm⟩
 cases has with
 |false=>
  have HR:=qhz (DL (D:=D) (tr:=tr) (l:=l) (.inl (rfl:false=false)));rw[HR.out];clear hln hZ;have c0:=hI.cell 0;have c6:=hI.cell 6;have c7:=hI.cell 7;clear hA hI
  go_enter func184,ntmps184
  go_upto_region 1 with(fail)
  rw[←hw1,←hb0];clear c0 c6 c7 hw1 hb0;obtain⟨c0,c1,c2,c3,c4,c5,c6,c7,hgl⟩:=HC.out w1 (But.refl [] _);go_wp2;go_ret;exact⟨rfl,HA.out⟩
 |true=>
  by_cases hsz:tr.size=2*n
  ·have HSZ:=qhz hsz;have HLN:=qhz hln;have b1:((tr.size:Int) !=2*(n:Int))=false:=by simp;omega
   have b2:(tr.size:Int)=2*(n:Int):=by omega
   have HR:Hid ((∀i,i<n→nX D tr l i=true)→mU D tr true l=true):=qhz fun h=>by
    unfold mU;rw[decide_eq_true (by rw[HLN.out];exact hsz),Bool.true_and,Bool.true_and,List.all_eq_true];intro i hi;exact h i (by rw[←HLN.out];exact List.mem_range.1 hi)
   have HRF:Hid (∀i,i<n→nX D tr l i=false→mU D tr true l=false):=qhz fun i hi h=>by
    unfold mU;rw[Bool.and_eq_false_iff];right;rw[List.all_eq_false];exact⟨i,List.mem_range.2 (by rw[HLN.out];exact hi),by rw[h];decide⟩
   obtain⟨R,hR⟩:=E1 (mU D tr true l);rw[←hR]at HR HRF⊢;obtain⟨L,hL⟩:=E1 (eu tr.data.toList 16 n);have hLn:L.length=n:=by rw[hL];exact iW _ _ _
   have HUN:Hid (∀v,Calls prog 146 #[tr,(16:Int),n] v fun e w'=>∃A cap,e=.returned (.tuple #[.slice A n cap,(0:Int)])∧Nums w' A n L∧n≤cap∧But [] v w'):=qhz fun v=>by
    have h:=sM v (s:=tr) (d:=16) (n:=(n:Int)) ht;rw[Fa (by omega) hsz,←hL]at h;unfold Pm at h;rw[hLn]at h;exact h
   have HSA:Hid (∀(i:Nat) (x y:Int) (v:Nat),i<n→L[i]? =some v→l[i]? =some x→((v:Nat):Int)%2^D=y→nX D tr l i=decide (y=x)):=qhz fun i x y v hi hv hx hy=>Jo hD16 hi (by rw[←hL];exact hv) hx hy;clear hln hZ hsz hR hL hLn;have c0:=hI.cell 0;have c6:=hI.cell 6;have c7:=hI.cell 7;clear hA hI
   go_enter func184,ntmps184
   go_upto_region 1 with(fail)
   rw[←hw1,←hb0];clear c0 c6 c7 hw1 hb0;obtain⟨c0,c1,c2,c3,c4,c5,c6,c7,hgl⟩:=HC.out w1 (But.refl [] _)
   go_wp2_with fail
   refine(HUN.out _).mono ?_;rintro e w2 ⟨A2,cap2,rfl,hN2,hcap2,hB2⟩;have HN2:=qhz hN2;have HB2:=qhz hB2;clear hN2 hB2 c0 c1 c2 c3 c4 c5 c6 c7 hgl b1 b2
   go_wp2_with fail
   go_loopw [31] (fun iv wr=>∃i:Nat,i≤n∧iv=.int .i64 i∧Hid (∀j,j<i→nX D tr l j=true)∧Hid (But [] w2 wr)) (fun iv _=>n-(intOf iv).toNat)
   case atStart=>exact⟨0,Nat.zero_le _,rfl,qhz (fun j h=>absurd h (by omega)),qhz (But.refl [] _)⟩
   case round=>
    obtain⟨i,hi,rfl,HJ,HB⟩:=hrel
    by_cases hlt:i<n
    ·obtain⟨g,o,x,hAx,hg,hx,k0⟩:=(HZ.out _ (HB2.out.trans HB.out)).at hlt;subst hAx;obtain⟨g2,o2,v,hAv,hg2,hv,k2⟩:=(HN2.out.but HB.out).at hlt;subst hAv;obtain⟨y,hy⟩:=E1 ((v:Int)%2^D);have HLx:Hid (∀W,Calls prog 214 #[.int .i64 (v:Nat),D] W fun e w'=>e=.returned (.int .i64 y)∧w'=W):=qhz fun W=>by rw[hy];exact HLq.out W (v:Int)
     have HS:=qhz (HSA.out i x y v hlt hv hx hy.symm);obtain⟨c0,c1,c2,c3,c4,c5,c6,c7,hgl⟩:=HC.out _ (HB2.out.trans HB.out);have i0:(0:Int)≤(i:Int):=by omega
     have i1:(i:Int)<(n:Int):=by omega
     have HBd:Hid (∀N,But [] w2 (wr.drewN N)):=qhz fun N=>HB.out.drewN N;clear hy hx hv
     by_cases hxy:y=x
     ·subst hxy;have HJ2:Hid (∀j,j<i+1→nX D tr l j=true):=qhz fun j hj=>by
       by_cases e:j=i
       ·rw[e,HS.out];exact decide_eq_true rfl
       ·exact HJ.out j (by omega)
      clear HJ HB HS
      go_upto_region 7 with(fail)
      go_quiet ((go_at_call 214;exact Calls.quiet_of_same (HLx.out _)))
      go_wp2
      go_roundw
      case rel=>exact⟨i+1,by omega,by go_num,HJ2,HBd.out _⟩
      case measure=>simp[intOf]<;>omega
     ·have HE:=qhz (HRF.out i hlt (by rw[HS.out];exact decide_eq_false hxy));have q1:(y !=x)=true:=by simpa using hxy
      clear HJ HB HS
      go_upto_region 7 with(fail)
      go_quiet ((go_at_call 214;exact Calls.quiet_of_same (HLx.out _)))
      go_wp2;go_ret;exact⟨by rw[HE.out];rfl,HA.out.trans (HB2.out.trans (HBd.out _))⟩
    ·obtain rfl:n=i:=by omega
     have HE:=qhz (HR.out HJ.out);go_wp2;go_ret;exact⟨by rw[HE.out];rfl,HA.out.trans (HB2.out.trans HB.out)⟩
  ·have HR:=qhz (DL (D:=D) (tr:=tr) (has:=true) (l:=l) (.inr (by rw[hln];exact hsz)));rw[HR.out];have b1:((tr.size:Int) !=2*(n:Int))=true:=by simp;omega
   have b2:¬(tr.size:Int)=2*(n:Int):=by omega
   clear hln hZ;have c0:=hI.cell 0;have c6:=hI.cell 6;have c7:=hI.cell 7;clear hA hI
   go_enter func184,ntmps184
   go_upto_region 1 with(fail)
   rw[←hw1,←hb0];clear c0 c6 c7 hw1 hb0;obtain⟨c0,c1,c2,c3,c4,c5,c6,c7,hgl⟩:=HC.out w1 (But.refl [] _);go_wp2;go_ret;exact⟨rfl,HA.out⟩
theorem LZ(s:ByteArray){i:Nat}(W:World)(hi:i≤s.size):(Instr.slice 9 (.string s) (some (.int .i64 (i:Int))) none none).run prog W=.ok (.string (strL (s.data.toList.drop i))) W:=by
 rw[run_slice_string_from_if W 9 s .i64 (i:Int) underlying9,if_pos (by omega),Int.toNat_natCast,gO,List.take_of_length_le (by rw[Array.length_toList];exact Nat.le_refl _)]
theorem tS{s:ByteArray}{i j:Nat}(h:i+j<s.size)(w:World):(Instr.index 9 (.string (strL (s.data.toList.drop i))) (.int .i64 (j:Int))).run prog w=.ok (.int .u8 (s[i+j].toNat:Nat)) w:=by
 have hl:j<(strL (s.data.toList.drop i)).size:=by rw[ac,List.length_drop,Array.length_toList];show j<s.size-i;omega
 rw[iw hl w,←bN _ hl,aj,←bN s h,List.getD_eq_getElem?_getD,List.getElem?_drop,←List.getD_eq_getElem?_getD]
theorem Calls.tup{P:Program}{f:FuncId}{args:Array Value}{w:World}{s s':ByteArray}{e e':Int}(h:Calls P f args w fun r w'=>r=.returned (.tuple #[s,e])∧But [] w w')(h1:s=s')(h2:e=e'):Calls P f args w fun r w'=>r=.returned (.tuple #[s',e'])∧But [] w w':=by
 subst h1 h2;exact h
def palA(pal tr:ByteArray)(has:Bool)(k:Nat):ByteArray×Int:=
 if pal.size<3*k+3 then(⟨#[]⟩,29) else
 (px4 (257*(pal.data.toList.getD (3*k) 0).toNat) (257*(pal.data.toList.getD (3*k+1) 0).toNat) (257*(pal.data.toList.getD (3*k+2) 0).toNat) (o8 tr has k),0)
theorem MF(tr:ByteArray)(has:Bool)(k:Nat):o8 tr has k<65536:=by
 unfold o8;split
 ·have:=(tr.data.toList.getD k 0).toNat_lt;omega
 ·decide
theorem qA(w:World){a b c d e0:Int}{pal tr:ByteArray}{has:Bool}{k:Nat}(hk:k<65536)(hp:pal.size≤140737488351232)(ht:tr.size≤140737488351232):
 Calls prog 181 #[.agg #[a,b,d,c,e0,pal,tr,has],k] w fun r w'=>r=.returned (.tuple #[.string (palA pal tr has k).1,.int .i64 (palA pal tr has k).2])∧But [] w w':=by
 have hA:=(But.refl [] w).alloc (.cells #[a,b,d,c,e0,pal,tr,has] 35);obtain⟨b0,hb0⟩:=E1 w.heap.size;obtain⟨w1,hw1⟩:=E1 (w.alloc (.cells #[a,b,d,c,e0,pal,tr,has] 35));have hI:Is w1 b0 35 #[a,b,d,c,e0,pal,tr,has]:=by rw[hw1,hb0];exact Is.fresh _ _ _
 rw[←hw1]at hA;have HA:=qhz hA;have HC:Hid (∀v,But [] w1 v→v.cell? ⟨b0,0,none⟩=some (.int .i64 a)∧v.cell? ⟨b0,1,none⟩=some (.int .i64 b)∧v.cell? ⟨b0,2,none⟩=some (.int .i64 d)∧v.cell? ⟨b0,3,none⟩=some (.int .i64 c)∧v.cell? ⟨b0,4,none⟩=some (.int .i64 e0)∧v.cell? ⟨b0,5,none⟩=some (.string pal)∧v.cell? ⟨b0,6,none⟩=some (.string tr)∧v.cell? ⟨b0,7,none⟩=some (.bool has)∧b0<v.heap.size):=qhz fun v hv=>by
  have hh:=hI.but hv (by simp);exact⟨hh.cell 0,hh.cell 1,hh.cell 2,hh.cell 3,hh.cell 4,hh.cell 5,hh.cell 6,hh.cell 7,hh.lt⟩
 obtain⟨k3,hk3⟩:∃z,z=3*k:=⟨_,rfl⟩
 have e1:(3:Int)*(k:Int)=(k3:Int):=by omega
 obtain⟨k6,hk6⟩:=E1 (k3+3);have e6:(k3:Int)+3=(k6:Int):=by omega
 have v0:=af (show k<1000000000000000 by omega);have v1:=af (show k3<1000000000000000 by omega);have v6:=af (show k6<1000000000000000 by omega)
 by_cases hsh:pal.size<k6
 ·have HR:Hid (palA pal tr has k=(⟨#[]⟩,29)):=qhz (by unfold palA;rw[if_pos (by omega)]);rw[HR.out];clear hk3 hk6;have c0:=hI.cell 0;have c6:=hI.cell 6;have c7:=hI.cell 7;clear hA hI
  go_enter func181,ntmps181
  go_upto_region 1 with(fail)
  rw[←hw1,←hb0];clear c0 c6 c7 hw1 hb0;obtain⟨c0,c1,c2,c3,c4,c5,c6,c7,hgl⟩:=HC.out w1 (But.refl [] _);go_wp2
  go_ret2
  exact⟨rfl,HA.out⟩
 have hl3:k3+0<pal.size:=by omega
 have hl4:k3+1<pal.size:=by omega
 have hl5:k3+2<pal.size:=by omega
 obtain⟨p0,hp0⟩:=E1 (pal[k3+0].toNat);have y0:p0<256:=by rw[hp0];exact pal[k3+0].toNat_lt
 have wp0:=af (show p0<1000000000000000 by omega);obtain⟨p1,hp1⟩:=E1 (pal[k3+1].toNat);have y1:p1<256:=by rw[hp1];exact pal[k3+1].toNat_lt
 have wp1:=af (show p1<1000000000000000 by omega);obtain⟨p2,hp2⟩:=E1 (pal[k3+2].toNat);have y2:p2<256:=by rw[hp2];exact pal[k3+2].toNat_lt
 have wp2:=af (show p2<1000000000000000 by omega);obtain⟨E,hE⟩:=E1 (strL (pal.data.toList.drop k3));have hEs:3≤E.size:=by rw[hE,ac,List.length_drop,Array.length_toList];show 3≤pal.size-k3;omega
 have kc:∀W,(Instr.slice 9 (.string pal) (some (.int .i64 (k3:Int))) none none).run prog W=.ok (.string E) W:=fun W=>by rw[hE];exact LZ pal W (by omega)
 have i0:∀W,(Instr.index 9 (.string E) (.int .i64 0)).run prog W=.ok (.int .u8 (p0:Nat)) W:=fun W=>by rw[hE,hp0];exact tS (j:=0) hl3 W
 have i1:∀W,(Instr.index 9 (.string E) (.int .i64 1)).run prog W=.ok (.int .u8 (p1:Nat)) W:=fun W=>by rw[hE,hp1];exact tS (j:=1) hl4 W
 have i2:∀W,(Instr.index 9 (.string E) (.int .i64 2)).run prog W=.ok (.int .u8 (p2:Nat)) W:=fun W=>by rw[hE,hp2];exact tS (j:=2) hl5 W
 obtain⟨al,hal⟩:=E1 (o8 tr has k);have HAL:=qhz hal;have hall:al<65536:=by rw[hal];exact MF _ _ _
 obtain⟨R,hR⟩:=E1 (palA pal tr has k);have hR2:R=(px4 (257*p0) (257*p1) (257*p2) al,0):=by
  rw[hR];unfold palA;rw[if_neg (by omega),←hk3,show pal.data.toList.getD k3 0=pal[k3+0]from bN pal hl3,bN pal hl4,bN pal hl5,←hp0,←hp1,←hp2,←hal]
 have HCOL:Hid (∀(v:World) (g:Nat),Is v g 3 #[p0,p1,p2]→Calls prog 182 #[(8:Int),.slice (some ⟨g,0,none⟩) 3 3,al] v (R1z (.tuple #[R.1,R.2]) v)):=qhz fun v g hg=>
  Calls.tup (jZ v (d:=8) (m:=3) (cp:=3) (al:=al) (l:=[(p0:Int),(p1:Int),(p2:Int)]) (Zs.is (l:=[(p0:Int),(p1:Int),(p2:Int)]) hg) (by decide) (by decide) hall) (by
   rw[hR2];show px4 (aZ (p0:Int) 8) (aZ (p1:Int) 8) (aZ (p2:Int) 8) al=_;rw[wn y0,wn y1,wn y2]) (by rw[hR2])
 rw[←hR];obtain⟨R1,R2⟩:=R;clear hk3 hk6 hp0 hp1 hp2 hE hal hR hR2;obtain⟨r,hr⟩:=E1 ((has&&decide (k<tr.size)));have Hr:=qhz hr;have HF65:Hid (r=false→al=65535):=qhz fun h=>by
  rw[HAL.out];unfold o8;rw[if_neg];rintro⟨h1,h2⟩;rw[hr,h1,decide_eq_true h2]at h;cases h
 have HTR:Hid (r=true→k<tr.size∧al=257*(tr.data.toList.getD k 0).toNat):=qhz fun h=>by
  rw[hr,Bool.and_eq_true]at h;have h2:=of_decide_eq_true h.2;refine⟨h2,?_⟩;rw[HAL.out];unfold o8;rw[if_pos ⟨h.1,h2⟩]
 clear hr;have c0:=hI.cell 0;have c6:=hI.cell 6;have c7:=hI.cell 7;clear hA hI
 go_enter func181,ntmps181
 go_upto_region 1 with(fail)
 rw[←hw1,←hb0];clear c0 c6 c7 hw1 hb0;obtain⟨c0,c1,c2,c3,c4,c5,c6,c7,hgl⟩:=HC.out w1 (But.refl [] _)
 go_upto_region 4 with(fail)
 go_cut [23]from 15 to 24 (fun v wx=>v=.bool r∧w1=wx)
 case first=>
  cases has with
  |false=>
   obtain rfl:false=r:=by rw[Hr.out];rfl
   go_wp2
   go_meet
   exact⟨rfl,rfl⟩
  |true=>
   by_cases htr:k<tr.size
   ·obtain rfl:true=r:=by rw[Hr.out,decide_eq_true htr];rfl
    go_wp2
    go_meet
    exact⟨rfl,rfl⟩
   ·obtain rfl:false=r:=by rw[Hr.out,decide_eq_false htr];rfl
    go_wp2
    go_meet
    exact⟨rfl,rfl⟩
 case rest=>
 obtain⟨rfl,rfl⟩:=hcut
 go_upto_if 23 with(fail)
 go_cut [6]from 24 to 30 (fun v wx=>v=.int .i64 (al:Nat)∧w1=wx)
 case first=>
  cases r with
  |false=>
   have eal:=HF65.out rfl;go_wp2
   go_meet
   exact⟨by rw[eal];rfl,rfl⟩
  |true=>
   obtain⟨htr,hal⟩:=HTR.out rfl;obtain⟨pa,hpa⟩:=E1 (tr[k].toNat);have ba:pa<256:=by rw[hpa];exact tr[k].toNat_lt
   have ia:∀w,(Instr.index 9 (.string tr) (.int .i64 (k:Int))).run prog w=.ok (.int .u8 (pa:Int)) w:=fun w=>by rw[hpa];exact iw htr w
   have wpa:=af (show pa<1000000000000000 by omega);have HW:Hid (∀v,Calls prog 183 #[pa,(8:Int)] v fun e w'=>e=.returned (.int .i64 (al:Nat))∧v=w'):=qhz fun v=>by
    have h:=nP v (pa:Int) 8;rw[wn ba]at h;rw[hal,bN tr htr,←hpa];exact h
   clear hpa hal
   go_wp2_with fail
   refine(HW.out _).mono ?_;rintro e w3 ⟨rfl,rfl⟩;go_wp2
   go_meet
   exact⟨rfl,rfl⟩
 case rest=>
 obtain⟨rfl,rfl⟩:=hcut;clear HF65 HTR Hr
 go_upto_region 7 with(fail)
 refine bw (S:=fun v=>But [] w1 v) (R:=fun v v'=>But [] v v') (fun w=>But.refl [] w) (by kernel_rfl) ((But.refl [] w1).drew) ?_;refine rdk 0 (.string E) ?_;refine rdk 1 (.int .u8 (p0:Nat)) ?_;refine rdk 2 (.int .i64 (p0:Nat)) ?_;refine rdk 3 (.string E) ?_;refine rdk 4 (.int .u8 (p1:Nat)) ?_;refine rdk 5 (.int .i64 (p1:Nat)) ?_;refine rdk 6 (.string E) ?_;refine rdk 7 (.int .u8 (p2:Nat)) ?_;refine rdk 8 (.int .i64 (p2:Nat)) ?_;refine rdk 10 (.int .i64 (al:Nat)) ?_;refine cI (i:=9) rfl (by kernel_rfl) fun w6 hR6 hS6 K' hK=>?_;have HS6:=qhz hS6;have HI6:=qhz (Is.fresh w6 3 #[p0,p1,p2]);clear hR6 hS6;go_simp;refine hK _ _ ⟨HS6.out.alloc _,?_⟩;clear hK K' HS6;obtain⟨g6,hg6⟩:=E1 w6.heap.size;rw[←hg6]at HI6⊢;clear hg6;refine cI (i:=11) rfl (by kernel_rfl) fun w7 hR7 hS7 K' hK=>?_;go_simp;refine(HCOL.out w7 g6 (HI6.out.but hR7 (by simp))).mono ?_;rintro e w8 ⟨rfl,hB8⟩;refine hK _ _ ⟨hS7.trans hB8,?_⟩;clear hK K' hR7 hS7 hB8 HI6;refine rdk 12 (.string R1) ?_;refine rdk 13 (.int .i64 R2) ?_;refine rdk 14 (.string R1) ?_;refine rdk 15 (.int .i64 R2) ?_;refine⟨by kernel_rfl,fun w9 hR9 hS9=>?_⟩;have HB9:=qhz hS9;clear hR9 hS9;go_simp;go_wp2
 go_ret2
 exact⟨rfl,HA.out.trans HB9.out⟩
section
theorem NT{D:Nat}{c:Int}{pal tr:ByteArray}{has:Bool}{l:List Int}{k:Nat}(hc:c=3)(h:l.getD 0 0=(k:Int)):pixA D c pal tr has l=palA pal tr has k:=by
 subst hc;unfold pixA palA;rw[if_neg (by decide),if_neg (by decide),if_neg (by decide),if_neg (by decide),h];rfl
theorem AZ(D:Nat)(tr:ByteArray)(has:Bool)(l:List Int):fk D tr has l<65536:=by
 unfold fk;split<;>decide
theorem u7{w:World}{A:Option Addr}{n:Nat}{l:List Int}(h:Zs w A n l){k:Nat}(hk:k≤n):Zs w A k (l.take k):=by
 refine⟨by rw[List.length_take,h.1];omega,fun hp=>?_⟩;obtain⟨g,o,e,hg,hc⟩:=h.2 (by omega);refine⟨g,o,e,hg,fun i hi=>?_⟩;rw[List.getElem_take];exact hc i _
attribute [local irreducible] pixA palA fk
theorem NF(w:World){a b c d e0:Int}{pal tr:ByteArray}{has:Bool}{A:Option Addr}{n cp:Nat}{l:List Int}(hx:¬(c=4∨c=6))(hZ:Zs w A n l)(hn:n≤1000)(hcp:n≤cp)(hp:pal.size≤140737488351232)(ht:tr.size≤140737488351232):
 Calls prog 147 #[.agg #[a,b,d,c,e0,pal,tr,has],.slice A n cp] w fun r w'=>r=.returned (.tuple #[.string (kZ d c pal tr has l).1,.int .i64 (kZ d c pal tr has l).2])∧But [] w w':=by
 have hln:=hZ.1;have hA:=(But.refl [] w).alloc (.cells #[a,b,d,c,e0,pal,tr,has] 35);obtain⟨b0,hb0⟩:=E1 w.heap.size;obtain⟨w1,hw1⟩:=E1 (w.alloc (.cells #[a,b,d,c,e0,pal,tr,has] 35));have hI:Is w1 b0 35 #[a,b,d,c,e0,pal,tr,has]:=by rw[hw1,hb0];exact Is.fresh _ _ _
 rw[←hw1]at hA;have HA:=qhz hA;have HC:Hid (∀v,But [] w1 v→v.cell? ⟨b0,0,none⟩=some (.int .i64 a)∧v.cell? ⟨b0,1,none⟩=some (.int .i64 b)∧v.cell? ⟨b0,2,none⟩=some (.int .i64 d)∧v.cell? ⟨b0,3,none⟩=some (.int .i64 c)∧v.cell? ⟨b0,4,none⟩=some (.int .i64 e0)∧v.cell? ⟨b0,5,none⟩=some (.string pal)∧v.cell? ⟨b0,6,none⟩=some (.string tr)∧v.cell? ⟨b0,7,none⟩=some (.bool has)∧b0<v.heap.size):=qhz fun v hv=>by
  have hh:=hI.but hv (by simp);exact⟨hh.cell 0,hh.cell 1,hh.cell 2,hh.cell 3,hh.cell 4,hh.cell 5,hh.cell 6,hh.cell 7,hh.lt⟩
 have HZ:Hid (∀v,But [] w1 v→Zs v A n l):=qhz fun v hv=>hZ.but (hA.trans hv);have HSM:Hid (∀v,Calls prog 144 #[c] v fun e w'=>e=.returned (.int .i64 (aW c))∧v=w'):=qhz fun v=>iK v c;have HDP:Hid (∀v,Calls prog 178 #[d] v fun e w'=>e=.returned (.bool (depB d))∧v=w'):=qhz fun v=>dP v d
 by_cases h2:n=0
 ·subst h2;have HR:=qhz (fc (d:=d) (c:=c) (pal:=pal) (tr:=tr) (has:=has) (l:=l) (.inr (.inl hln)));rw[HR.out];clear hln hZ;have c0:=hI.cell 0;have c6:=hI.cell 6;have c7:=hI.cell 7;clear hA hI
  go_enter func147,ntmps147
  go_upto_region 1 with(fail)
  rw[←hw1,←hb0];clear c0 c6 c7 hw1 hb0;obtain⟨c0,c1,c2,c3,c4,c5,c6,c7,hgl⟩:=HC.out w1 (But.refl [] _)
  go_wp2_with (first|(refine(HSM.out _).mono ?_;rintro e wz ⟨rfl,rfl⟩)|(refine(HDP.out _).mono ?_;rintro e wz ⟨rfl,rfl⟩))
  go_ret2
  exact⟨rfl,HA.out⟩
 have t2:((n:Int)==0)=false:=by simp;exact h2
 have t2b:¬(n:Int)=0:=by omega
 obtain⟨sc,hsc⟩:=E1 (aW c);rw[←hsc]at HSM
 by_cases h1:sc=(n:Int)
 ·subst h1;have HSC:=qhz hsc;have t1:((n:Int) !=(n:Int))=false:=by simp
  by_cases hd:depB d=false
  ·have HR:=qhz (fc (d:=d) (c:=c) (pal:=pal) (tr:=tr) (has:=has) (l:=l) (.inr (.inr (.inl hd))));rw[HR.out];rw[hd]at HDP;clear hln hZ hsc hd;have c0:=hI.cell 0;have c6:=hI.cell 6;have c7:=hI.cell 7;clear hA hI
   go_enter func147,ntmps147
   go_upto_region 1 with(fail)
   rw[←hw1,←hb0];clear c0 c6 c7 hw1 hb0;obtain⟨c0,c1,c2,c3,c4,c5,c6,c7,hgl⟩:=HC.out w1 (But.refl [] _)
   go_wp2_with (first|(refine(HSM.out _).mono ?_;rintro e wz ⟨rfl,rfl⟩)|(refine(HDP.out _).mono ?_;rintro e wz ⟨rfl,rfl⟩))
   go_ret2
   exact⟨rfl,HA.out⟩
  have hd:depB d=true:=by simpa using hd
  rw[hd]at HDP;obtain⟨D,rfl,hdep,hD1,hD16⟩:=kj hd;have HWI:Hid (∀v,But [] w1 v→Calls prog 180 #[D,.slice A n cp] v fun e w'=>e=.returned (.bool (inR D l))∧v=w'):=qhz fun v hv=>(sL v (cp:=cp) (HZ.out v hv) hn hD16).mono fun _ _ ⟨h1,h2⟩=>⟨h1,h2.symm⟩
  by_cases hin:inR D l=false
  ·have HR:=qhz (fc (d:=(D:Int)) (c:=c) (pal:=pal) (tr:=tr) (has:=has) (l:=l) (.inr (.inr (.inr hin))));rw[HR.out];rw[hin]at HWI;clear hln hZ hsc hd hdep hin;have c0:=hI.cell 0;have c6:=hI.cell 6;have c7:=hI.cell 7;clear hA hI
   go_enter func147,ntmps147
   go_upto_region 1 with(fail)
   rw[←hw1,←hb0];clear c0 c6 c7 hw1 hb0;obtain⟨c0,c1,c2,c3,c4,c5,c6,c7,hgl⟩:=HC.out w1 (But.refl [] _)
   go_wp2_with (first|(refine(HSM.out _).mono ?_;rintro e wz ⟨rfl,rfl⟩)|(refine(HDP.out _).mono ?_;rintro e wz ⟨rfl,rfl⟩)|(refine(HWI.out _ (But.refl [] _)).mono ?_;rintro e wz ⟨rfl,rfl⟩))
   go_ret2
   exact⟨rfl,HA.out⟩
  have hin:inR D l=true:=by simpa using hin
  rw[hin]at HWI;have HIN:=qhz hin;have HR:=qhz (sQ (c:=c) (pal:=pal) (tr:=tr) (has:=has) hln hsc.symm (by omega) hd hin);rw[HR.out];have HC4:=qhz (mw hsc.symm (by omega));have HLN:=qhz hln;have HDE:=qhz hd;have HIND:Hid (∀(v:World) (k:Nat),k<65536→Calls prog 181 #[.agg #[a,b,D,c,e0,pal,tr,has],.int .i64 k] v fun r w'=>r=.returned (.tuple #[.string (palA pal tr has k).1,.int .i64 (palA pal tr has k).2])∧But [] v w'):=qhz fun v k hk=>qA v hk hp ht;have HCOL:Hid (∀(v:World) (m al:Nat) (l':List Int),Zs v A m l'→0<m→m≤1000→al<65536→Calls prog 182 #[D,.slice A m cp,.int .i64 al] v (R1z (.tuple #[.string (px4 (aZ (l'.getD (0%m) 0) D) (aZ (l'.getD (1%m) 0) D) (aZ (l'.getD (2%m) 0) D) al),(0:Int)]) v)):=qhz fun v m al l' h1 h2 h3 h4=>jZ v h1 h2 h3 h4;have HCL:Hid (∀v,But [] w1 v→Calls prog 184 #[.agg #[a,b,D,c,e0,pal,tr,has],.slice A n cp] v fun r w'=>r=.returned (.bool (mU D tr has l))∧But [] v w'):=qhz fun v hv=>vj v hD16 (HZ.out v hv) hn ht;obtain⟨R,hR⟩:=E1 (pixA D c pal tr has l);rw[←hR];have HRR:=qhz hR;clear hln hZ hsc hd hdep hin hR HR;rcases HC4.out with⟨hcc,hnn⟩|⟨hcc,hnn⟩|⟨hcc,hnn⟩|⟨hcc,hnn⟩|⟨hcc,hnn⟩
  ·subst hcc hnn;obtain⟨x0,hx0⟩:∃x,l[0]? =some x:=⟨_,List.getElem?_eq_getElem (by rw[HLN.out];decide)⟩
   have HX0:=qhz hx0;clear hx0;obtain⟨sv,hsv⟩:=E1 (mU D tr has l);have HSV:=qhz hsv;rw[←hsv]at HCL;clear hsv;have HPX:Hid (∀al,al=fk D tr has l→R=(px4 (aZ (l.getD (0%1) 0) D) (aZ (l.getD (1%1) 0) D) (aZ (l.getD (2%1) 0) D) al,0)):=qhz fun al hal=>by
    rw[HRR.out,hal];unfold pixA;rw[if_pos rfl]
   have HCA:Hid (∀al,al=fk D tr has l→∀v,But [] w1 v→Calls prog 182 #[D,.slice A 1 cp,.int .i64 al] v (R1z (.tuple #[R.1,R.2]) v)):=qhz fun al hal v hv=>by
    have h:=HCOL.out v 1 al l (HZ.out v hv) (by decide) (by decide) (by rw[hal];exact AZ _ _ _ _);rw[HPX.out al hal];exact h
   have HAT:Hid (sv=true→(0:Nat)=fk D tr has l):=qhz fun h=>by unfold fk;rw[←HSV.out,if_pos h]
   have HAF:Hid (sv=false→(65535:Nat)=fk D tr has l):=qhz fun h=>by unfold fk;rw[←HSV.out,if_neg (by rw[h];decide)]
   obtain⟨R1,R2⟩:=R;clear HCOL HIND HPX;have c0:=hI.cell 0;have c6:=hI.cell 6;have c7:=hI.cell 7;clear hA hI
   go_enter func147,ntmps147
   go_upto_region 1 with(fail)
   rw[←hw1,←hb0];clear c0 c6 c7 hw1 hb0;obtain⟨c0,c1,c2,c3,c4,c5,c6,c7,hgl⟩:=HC.out w1 (But.refl [] _)
   go_wp2_with (first|(refine(HSM.out _).mono ?_;rintro e wz ⟨rfl,rfl⟩)|(refine(HDP.out _).mono ?_;rintro e wz ⟨rfl,rfl⟩)|(refine(HWI.out _ (But.refl [] _)).mono ?_;rintro e wz ⟨rfl,rfl⟩))
   refine(HCL.out _ (But.refl [] _)).mono ?_;rintro e w2 ⟨rfl,hB2⟩;have HB2:=qhz hB2;clear hB2 c0 c1 c2 c3 c4 c5 c6 c7 hgl;obtain⟨c0,c1,c2,c3,c4,c5,c6,c7,hgl⟩:=HC.out w2 HB2.out;cases sv with
   |true=>
    have HCC:Hid (∀v,But [] w1 v→Calls prog 182 #[D,.slice A 1 cp,(0:Int)] v (R1z (.tuple #[R1,R2]) v)):=qhz fun v hv=>HCA.out 0 (HAT.out rfl) v hv;clear HCA HAT HAF
    go_wp2_with fail
    refine(HCC.out _ HB2.out).mono ?_;rintro e w3 ⟨rfl,hB3⟩;have HB3:=qt HB2 hB3;clear hB3;go_wp2
    go_ret2
    exact⟨rfl,HA.out.trans HB3.out⟩
   |false=>
    have HCC:Hid (∀v,But [] w1 v→Calls prog 182 #[D,.slice A 1 cp,(65535:Int)] v (R1z (.tuple #[R1,R2]) v)):=qhz fun v hv=>HCA.out 65535 (HAF.out rfl) v hv;clear HCA HAT HAF
    go_wp2_with fail
    refine(HCC.out _ HB2.out).mono ?_;rintro e w3 ⟨rfl,hB3⟩;have HB3:=qt HB2 hB3;clear hB3;go_wp2
    go_ret2
    exact⟨rfl,HA.out.trans HB3.out⟩
  ·subst hcc hnn;obtain⟨x0,hx0⟩:∃x,l[0]? =some x:=⟨_,List.getElem?_eq_getElem (by rw[HLN.out];decide)⟩
   have HX0:=qhz hx0;clear hx0;obtain⟨x1,hx1⟩:∃x,l[1]? =some x:=⟨_,List.getElem?_eq_getElem (by rw[HLN.out];decide)⟩
   have HX1:=qhz hx1;clear hx1;obtain⟨x2,hx2⟩:∃x,l[2]? =some x:=⟨_,List.getElem?_eq_getElem (by rw[HLN.out];decide)⟩
   have HX2:=qhz hx2;clear hx2;obtain⟨sv,hsv⟩:=E1 (mU D tr has l);have HSV:=qhz hsv;rw[←hsv]at HCL;clear hsv;have HPX:Hid (∀al,al=fk D tr has l→R=(px4 (aZ (l.getD (0%3) 0) D) (aZ (l.getD (1%3) 0) D) (aZ (l.getD (2%3) 0) D) al,0)):=qhz fun al hal=>by
    rw[HRR.out,hal];unfold pixA;rw[if_neg (by decide)];rw[if_pos rfl]
   have HCA:Hid (∀al,al=fk D tr has l→∀v,But [] w1 v→Calls prog 182 #[D,.slice A 3 cp,.int .i64 al] v (R1z (.tuple #[R.1,R.2]) v)):=qhz fun al hal v hv=>by
    have h:=HCOL.out v 3 al l (HZ.out v hv) (by decide) (by decide) (by rw[hal];exact AZ _ _ _ _);rw[HPX.out al hal];exact h
   have HAT:Hid (sv=true→(0:Nat)=fk D tr has l):=qhz fun h=>by unfold fk;rw[←HSV.out,if_pos h]
   have HAF:Hid (sv=false→(65535:Nat)=fk D tr has l):=qhz fun h=>by unfold fk;rw[←HSV.out,if_neg (by rw[h];decide)]
   obtain⟨R1,R2⟩:=R;clear HCOL HIND HPX;have c0:=hI.cell 0;have c6:=hI.cell 6;have c7:=hI.cell 7;clear hA hI
   go_enter func147,ntmps147
   go_upto_region 1 with(fail)
   rw[←hw1,←hb0];clear c0 c6 c7 hw1 hb0;obtain⟨c0,c1,c2,c3,c4,c5,c6,c7,hgl⟩:=HC.out w1 (But.refl [] _)
   go_wp2_with (first|(refine(HSM.out _).mono ?_;rintro e wz ⟨rfl,rfl⟩)|(refine(HDP.out _).mono ?_;rintro e wz ⟨rfl,rfl⟩)|(refine(HWI.out _ (But.refl [] _)).mono ?_;rintro e wz ⟨rfl,rfl⟩))
   refine(HCL.out _ (But.refl [] _)).mono ?_;rintro e w2 ⟨rfl,hB2⟩;have HB2:=qhz hB2;clear hB2 c0 c1 c2 c3 c4 c5 c6 c7 hgl;obtain⟨c0,c1,c2,c3,c4,c5,c6,c7,hgl⟩:=HC.out w2 HB2.out;cases sv with
   |true=>
    have HCC:Hid (∀v,But [] w1 v→Calls prog 182 #[D,.slice A 3 cp,(0:Int)] v (R1z (.tuple #[R1,R2]) v)):=qhz fun v hv=>HCA.out 0 (HAT.out rfl) v hv;clear HCA HAT HAF
    go_wp2_with fail
    refine(HCC.out _ HB2.out).mono ?_;rintro e w3 ⟨rfl,hB3⟩;have HB3:=qt HB2 hB3;clear hB3;go_wp2
    go_ret2
    exact⟨rfl,HA.out.trans HB3.out⟩
   |false=>
    have HCC:Hid (∀v,But [] w1 v→Calls prog 182 #[D,.slice A 3 cp,(65535:Int)] v (R1z (.tuple #[R1,R2]) v)):=qhz fun v hv=>HCA.out 65535 (HAF.out rfl) v hv;clear HCA HAT HAF
    go_wp2_with fail
    refine(HCC.out _ HB2.out).mono ?_;rintro e w3 ⟨rfl,hB3⟩;have HB3:=qt HB2 hB3;clear hB3;go_wp2
    go_ret2
    exact⟨rfl,HA.out.trans HB3.out⟩
  ·subst hcc hnn;obtain⟨x0,hx0⟩:∃x,l[0]? =some x:=⟨_,List.getElem?_eq_getElem (by rw[HLN.out];decide)⟩
   have HX0:=qhz hx0;clear hx0;obtain⟨k,rfl⟩:∃k:Nat,x0=(k:Int):=⟨x0.toNat,by have:=PA HIN.out HX0.out;omega⟩
   have hk:k<65536:=by
    have h1:=(PA HIN.out HX0.out).2;have h2:2^D≤2^16:=Nat.pow_le_pow_right (by decide) hD16;have h3:(2:Nat)^16=65536:=by decide
    omega
   have HRP:Hid (R=palA pal tr has k):=qhz (by rw[HRR.out];exact NT rfl (p7 HX0.out));have HIK:Hid (∀(v:World),Calls prog 181 #[.agg #[a,b,D,(3:Int),e0,pal,tr,has],.int .i64 k] v fun r w'=>r=.returned (.tuple #[R.1,R.2])∧But [] v w'):=qhz fun v=>by rw[HRP.out];exact HIND.out v k hk
   have HEL:Hid (∀v,But [] w1 v→∃g o,A=some ⟨g,o,none⟩∧v.cell? ⟨g,o,none⟩=some (.int .i64 (k:Nat))):=qhz fun v hv=>by
    obtain⟨g,o,y,hA0,hg,hy,k0⟩:=(HZ.out v hv).at (i:=0) (by decide);rw[HX0.out]at hy;obtain rfl:(k:Int)=y:=Option.some.inj hy;rw[Nat.add_zero]at k0;exact⟨g,o,hA0,k0⟩
   obtain⟨g,o,hA0,_⟩:=HEL.out w1 (But.refl [] _);subst hA0;have HEC:Hid (∀v,But [] w1 v→v.cell? ⟨g,o,none⟩=some (.int .i64 (k:Nat))):=qhz fun v hv=>by
    obtain⟨g',o',e,h⟩:=HEL.out v hv;injection e with e;injection e with e1 e2;rw[e1,e2];exact h
   obtain⟨R1,R2⟩:=R;clear HCOL HCL HRP HIND HRR HEL;have c0:=hI.cell 0;have c6:=hI.cell 6;have c7:=hI.cell 7;clear hA hI
   go_enter func147,ntmps147
   go_upto_region 1 with(fail)
   rw[←hw1,←hb0];clear c0 c6 c7 hw1 hb0;obtain⟨c0,c1,c2,c3,c4,c5,c6,c7,hgl⟩:=HC.out w1 (But.refl [] _)
   go_upto_region 6 with(first|(refine(HSM.out _).mono ?_;rintro e wz ⟨rfl,rfl⟩)|(refine(HDP.out _).mono ?_;rintro e wz ⟨rfl,rfl⟩)|(refine(HWI.out _ (But.refl [] _)).mono ?_;rintro e wz ⟨rfl,rfl⟩))
   clear c0 c1 c2 c3 c4 c5 c6 c7 hgl;refine bw (S:=fun v=>But [] w1 v) (R:=fun v v'=>But [] v v') (fun w=>But.refl [] w) (by kernel_rfl) ((But.refl [] w1).drew) ?_;refine rdq 0 (.agg #[a,b,D,(3:Int),e0,pal,tr,has]) (fun w hS=>?_) ?_
   ·obtain⟨c0,c1,c2,c3,c4,c5,c6,c7,hgl⟩:=HC.out w hS;go_simp
   refine rdk 1 (.slice (some ⟨g,o,none⟩) 1 cp) ?_;refine rdk 2 (.pointer (some ⟨g,o,none⟩)) ?_;refine rdq 3 (.int .i64 (k:Nat)) (fun w hS=>?_) ?_
   ·have y:=HEC.out w hS;go_simp
   refine cr (fun w=>But.refl [] w) (fun x y z h k=>h.trans k) (i:=4) (v:=.tuple #[R1,R2]) rfl (by kernel_rfl) (by kernel_rfl) (by kernel_rfl) (fun _ _ _ h=>h) (.inl ⟨?_,fun w hS=>.inr ⟨_,_,?_,(HIK.out w).mono ?_⟩⟩) ?_
   ·go_simp
   ·go_simp
   ·rintro e wy ⟨rfl,hB⟩;exact⟨rfl,hS.trans hB,hB⟩
   refine rdk 5 (.string R1) ?_;refine rdk 6 (.int .i64 R2) ?_;refine rdk 7 (.string R1) ?_;refine rdk 8 (.int .i64 R2) ?_;refine⟨by kernel_rfl,fun w9 hR9 hS9=>?_⟩;have HB9:=qhz hS9;clear hR9 hS9;go_simp;go_wp2
   go_ret2
   exact⟨rfl,HA.out.trans HB9.out⟩
  ·omega
  ·omega
 ·have HR:=qhz (fc (d:=d) (c:=c) (pal:=pal) (tr:=tr) (has:=has) (l:=l) (.inl (by rw[hln,←hsc];exact h1)));rw[HR.out];have t1:((n:Int) !=sc)=true:=by simp;exact fun e=>h1 e.symm
  have t3:((n:Int)=sc)=False:=by simp;exact fun e=>h1 e.symm
  clear hln hZ hsc;have c0:=hI.cell 0;have c6:=hI.cell 6;have c7:=hI.cell 7;clear hA hI
  go_enter func147,ntmps147
  go_upto_region 1 with(fail)
  rw[←hw1,←hb0];clear c0 c6 c7 hw1 hb0;obtain⟨c0,c1,c2,c3,c4,c5,c6,c7,hgl⟩:=HC.out w1 (But.refl [] _)
  go_wp2_with (first|(refine(HSM.out _).mono ?_;rintro e wz ⟨rfl,rfl⟩)|(refine(HDP.out _).mono ?_;rintro e wz ⟨rfl,rfl⟩))
  go_ret2
  exact⟨rfl,HA.out⟩
end
end Go.Proofs.YtbanopnofpjnbaaGreatDoor
