/- Own texts in one: HdB, LzF, PkA, PkB. -/
import Derived.Test.YtbanopnofpjnbaaGreatDoorU18
import Derived.Test.YtbanopnofpjnbaaGreatDoorU50
set_option maxRecDepth 1000000
set_option linter.unusedVariables false
set_option maxHeartbeats 4000000
namespace Go.Proofs.YtbanopnofpjnbaaGreatDoor
open Go Go.RowKit Tryz
section
theorem GS(w:World)(n:Int):
 Calls prog 43 #[n] w (R1z (.string (strL (jA n))) w):=by
 have kc:=fun W:World=>vU W n;have HB:=qhz ((But.refl [] w).alloc (.cells #[.int .u8 (IntKind.u8.wrap (n/16777216)),.int .u8 (IntKind.u8.wrap (n/65536)),.int .u8 (IntKind.u8.wrap (n/256)),.int .u8 (IntKind.u8.wrap n)] 5));obtain⟨a,ha⟩:=E1 (IntKind.u8.wrap (n/16777216));obtain⟨b,hb⟩:=E1 (IntKind.u8.wrap (n/65536));obtain⟨c,hc⟩:=E1 (IntKind.u8.wrap (n/256));obtain⟨d,hd⟩:=E1 (IntKind.u8.wrap n);rw[←ha,←hb,←hc,←hd]at HB;simp only[←ha,←hb,←hc,←hd]at kc;have ea:=ha.symm;have eb:=hb.symm;have ec:=hc.symm;have ed:=hd.symm
 clear ha hb hc hd
 go_enter func43,ntmps43
 go_wp2;go_ret;exact⟨rfl,HB.out⟩
attribute [local irreducible] strL br jA eh
def LayS(w:World)(g1 g2:Nat)(a b d c l:Int)(v:World):Prop:=Is v g1 33 #[a,b,d,c,l]∧(∃x y,Is v g2 42 #[x,y])∧But [] w v
section
variable {w v v':World} {g1 g2:Nat} {a b d c l:Int}
theorem LayS.but(h:LayS w g1 g2 a b d c l v)(k:But [] v v'):LayS w g1 g2 a b d c l v':=⟨h.1.but k (by simp),h.2.1.imp fun x=>Exists.imp fun y h=>h.but k (by simp),h.2.2.trans k⟩
theorem LayS.alloc(h:LayS w g1 g2 a b d c l v)(o:Obj):LayS w g1 g2 a b d c l (v.alloc o):=h.but ((But.refl [] v).alloc o)
end
theorem LJ(w:World)(a b d c l:Int):
 Calls prog 19 #[.agg #[a,b,d,c,l]] w (R1z (uc (layI a b d c l)) w):=by
 obtain⟨F,hF⟩:∃F:Int→ByteArray,∀n,F n=strL (jA n):=⟨fun n=>strL (jA n),fun _=>rfl⟩
 have H1:Hid (∀v n,Calls prog 43 #[.int .i64 n] v (R1z (.string (F n)) v)):=qhz (fun v n=>by rw[hF];exact GS v n)
 go_enter func19,ntmps19
 go_upto_region 1 with(fail)
 obtain⟨w0,hw0⟩:=E1 ((w.alloc (.cells #[a,b,d,c,l] 33)).alloc (.cells #[.string ⟨#[]⟩,.string ⟨#[]⟩] 42));have hB0:But [] w w0:=by rw[hw0];exact((But.refl [] w).alloc _).alloc _
 have hI0:Is w0 w.heap.size 33 #[a,b,d,c,l]:=by rw[hw0];exact(Is.fresh _ _ _).alloc _
 have hJ0:Is w0 (w.heap.size+1) 42 #[strL [],strL []]:=by
  have h:=Is.fresh (w.alloc (.cells #[a,b,d,c,l] 33)) 42 #[strL [],strL []];rw[show(w.alloc (.cells #[a,b,d,c,l] 33)).heap.size=w.heap.size+1 by simp]at h;rw[hw0];rw[yP]at h⊢;exact h
 rw[←hw0];obtain⟨g1,hg1⟩:=E1 w.heap.size;obtain⟨g2,hg2⟩:=E1 (w.heap.size+1);rw[←hg2]at hJ0⊢;rw[←hg1]at hI0⊢;have HG1:=qhz hg1;have HG2:=qhz hg2;have hS0:LayS w g1 g2 a b d c l w0:=⟨hI0,⟨_,_,hJ0⟩,hB0⟩
 have HS0:=qhz hS0;have k5:∀(W:World) (g:Nat),Is W g 5 #[.int .u8 (IntKind.u8.wrap d),.int .u8 (IntKind.u8.wrap c),.int .u8 0,.int .u8 0,.int .u8 (IntKind.u8.wrap l)]→(convert 47 9 (.slice (some ⟨g,0,none⟩) 5 5)).run prog W=.ok (.string (strL [eh d,eh c,0,0,eh l])) W:=fun W g h=>tY d c l h;obtain⟨x1,hx1⟩:=E1 (IntKind.u8.wrap d);obtain⟨x2,hx2⟩:=E1 (IntKind.u8.wrap c);obtain⟨x3,hx3⟩:=E1 (IntKind.u8.wrap l);simp only[←hx1,←hx2,←hx3]at k5;have q1:=hx1.symm;have q2:=hx2.symm;have q3:=hx3.symm;have sA:(F a).size=4:=by rw[hF,ac,fg]
 have sB:(F b).size=4:=by rw[hF,ac,fg]
 obtain⟨Y,hY⟩:=E1 (strL [eh d,eh c,0,0,eh l]);have sY:Y.size=5:=by rw[hY,ac];rfl
 simp only[←hY]at k5;have HY:=qhz hY;have K5:=qhz k5;clear k5;have HF:=qhz hF;clear hw0 hB0 hI0 hJ0 hg1 hg2 hx1 hx2 hx3 hF hY hS0;refine bw (S:=LayS w g1 g2 a b d c l) (R:=fun v v'=>But [] v v') (fun w=>But.refl [] w) (by kernel_rfl) (HS0.out.but ((But.refl [] w0).drew)) ?_;refine rdk 0 (.pointer g1) ?_;refine rdq 1 (.int .i64 a) (fun w hS=>?_) ?_
 ·have c:=hS.1.cell 0;go_simp
 refine rdk 3 (.pointer (some ⟨g1,1,none⟩)) ?_;refine rdq 4 (.int .i64 b) (fun w hS=>?_) ?_
 ·have c:=hS.1.cell 1;go_simp
 refine rdk 7 (.pointer (some ⟨g1,2,none⟩)) ?_;refine rdq 8 (.int .i64 d) (fun w hS=>?_) ?_
 ·have c:=hS.1.cell 2;go_simp
 refine rdk 9 (.int .u8 x1) ?_;refine rdk 10 (.pointer (some ⟨g1,3,none⟩)) ?_;refine rdq 11 (.int .i64 c) (fun w hS=>?_) ?_
 ·have c:=hS.1.cell 3;go_simp
 refine rdk 12 (.int .u8 x2) ?_;refine rdk 13 (.pointer (some ⟨g1,4,none⟩)) ?_;refine rdq 14 (.int .i64 l) (fun w hS=>?_) ?_
 ·have c:=hS.1.cell 4;go_simp
 refine rdk 15 (.int .u8 x3) ?_;refine cr (fun w=>But.refl [] w) (fun x y z h k=>h.trans k) (i:=2) (v:=.string (F a)) rfl (by kernel_rfl) (by kernel_rfl) (by kernel_rfl) (fun _ _ _ h=>h) (.inl ⟨?_,fun w hS=>.inr ⟨_,_,?_,(H1.out w a).mono ?_⟩⟩) ?_
 ·go_simp
 ·go_simp
 ·rintro e w1 ⟨rfl,hB⟩;exact⟨rfl,hS.but hB,hB⟩
 refine cr (fun w=>But.refl [] w) (fun x y z h k=>h.trans k) (i:=5) (v:=.string (F b)) rfl (by kernel_rfl) (by kernel_rfl) (by kernel_rfl) (fun _ _ _ h=>h) (.inl ⟨?_,fun w hS=>.inr ⟨_,_,?_,(H1.out w b).mono ?_⟩⟩) ?_
 ·go_simp
 ·go_simp
 ·rintro e w1 ⟨rfl,hB⟩;exact⟨rfl,hS.but hB,hB⟩
 refine rdk 6 (.string (F a++F b)) ?_;refine cI (i:=16) rfl (by kernel_rfl) fun w1 hR hS K' hK=>?_;go_simp;refine hK _ _ ⟨hS.alloc _,?_⟩;clear hK K';have hI5:=Is.fresh w1 5 #[.int .u8 x1,.int .u8 x2,.int .u8 0,.int .u8 0,.int .u8 x3];refine cI (i:=17) rfl (by kernel_rfl) fun w2 hR2 hS2 K' hK=>?_;have k5:=K5.out w2 _ (hI5.but hR2 (by simp));go_simp;refine hK _ _ ⟨hS2,?_⟩;clear hK K' k5 hI5;refine rdk 18 (.string (F a++F b++Y)) ?_;refine rdk 19 (.agg #[.string ⟨#[73,72,68,82]⟩,.string (F a++F b++Y)]) ?_;refine cI (i:=20) rfl (by kernel_rfl) fun w3 hR3 hS3 K' hK=>?_;obtain⟨h1,⟨x,y,h2⟩,h3⟩:=hS3;obtain⟨e0,e1,_⟩:=h2.c2;obtain⟨f0,f1⟩:=h2.f2;go_simp;have hI6:=(h2.put 0 (.string ⟨#[73,72,68,82]⟩)).put 1 (.string (F a++F b++Y));have hB6:=(h3.setCell (p:=⟨g2,0,none⟩) (.inr (by rw[HG2.out];dsimp only;omega)) (.string ⟨#[73,72,68,82]⟩)).setCell (p:=⟨g2,1,none⟩) (.inr (by rw[HG2.out];dsimp only;omega)) (.string (F a++F b++Y));have hne:g1≠g2:=by rw[HG1.out,HG2.out];omega
 refine hK _ _ ⟨⟨(h1.far (by exact hne) _).far (by exact hne) _,⟨_,_,hI6⟩,hB6⟩,?_⟩;clear hK K' e0 e1 f0 f1;refine⟨by kernel_rfl,fun w4 hR4 hS4=>?_⟩;have hI7:=hI6.but hR4 (by simp);obtain⟨e0,e1,_⟩:=hI7.c2;go_wp2;refine bodyPost_ret (v:=.agg #[.string ⟨#[73,72,68,82]⟩,.string (F a++F b++Y)]) (by simp[results,results19,go_sem,e0,e1]) rfl ?_;refine⟨?_,hS4.2.2⟩;unfold uc layI;rw[HF.out,HF.out,HY.out];show _=Ending.returned (.agg #[strL fp,(strL (jA a++(jA b++[eh d,eh c,0,0,eh l])))]);rw[fR,fR,show strL fp=⟨#[73,72,68,82]⟩from yG,ByteArray.append_assoc]
end
theorem sq(w:World){s:ByteArray}(hs:s.size≤1000000):
 Calls prog 122 #[s] w (GotK w ((toks s.data.toList).map tkI)):=by
 obtain⟨i0,hi0,hz0,hz1,hz2⟩:=info_parts Ey;have HLL:=qhz (bP s)
 go_enter func122,ntmps122
 go_wp2
 go_loopw [3,4] (fun tv av wr=>∃(i:Nat) (L:List T3),i≤s.size∧av=.int .i64 i∧L.length≤i∧Hid (L++(eE s.data.toList (s.data.toList.length-i) i).map tkI=(toks s.data.toList).map tkI)∧Hid (OwnK wr w.heap.size tv L)∧Hid (But [] w wr)) (fun _ av _=>s.size-(intOf av).toNat)
 case atStart=>exact⟨0,[],Nat.zero_le _,rfl,Nat.le_refl _,qhz rfl,qhz (OwnK.nil _ _),qhz (But.refl _ _)⟩
 case round=>
  obtain⟨i,L,hi,rfl,hL,HM,HO,HB⟩:=hrel;have hsz:=HB.out.size
  by_cases hlt:i<s.size
  ·obtain⟨mn,hmn⟩:=E1 (min 512 i);have HMN:=qhz hmn;have hmn5:mn≤512:=by omega
   have hmni:mn≤i:=by omega
   have hbb:∀D,(cN s.data.toList i D).1≤258:=fun D=>by
    have:=Dd (l:=s.data.toList) (i:=i) (D:=D) (by rw[HLL.out];omega);omega
   have hbd:∀D,(cN s.data.toList i D).2≤D:=fun D=>by
    rcases mf s.data.toList i D with h|⟨_,h,_⟩
    ·rw[h];exact Nat.zero_le _
    ·exact h
   have HBB:=qhz hbb;have HBD:=qhz hbd;clear hmn hbb hbd;go_wp2
   go_loopw [5,6,7] (fun bv fv dv wx=>∃(D n:Nat),D≤mn∧dv=.int .i64 ((D:Int)+1)∧bv=.int .i64 (cN s.data.toList i D).1∧fv=.int .i64 (cN s.data.toList i D).2∧wx=wr.drewN n) (fun _ _ dv _=>600-(intOf dv).toNat)
   case atStart=>exact⟨0,0,Nat.zero_le _,rfl,rfl,rfl,rfl⟩
   case round=>
    obtain⟨D,q,hD,rfl,rfl,rfl,rfl⟩:=hrel;obtain⟨B,hB⟩:=E1 ((cN s.data.toList i D).1);obtain⟨F,hF⟩:=E1 ((cN s.data.toList i D).2);have hB1:B≤258:=by rw[hB];exact HBB.out D
    have hF1:F≤D:=by rw[hF];exact HBD.out D
    rw[←hB,←hF];have HBE:=qhz hB;have HFE:=qhz hF;clear hB hF
    by_cases hcont:D+1≤mn
    ·go_upto_region 7 with(fail)
     go_cut [19]from 13 to 19 (fun v wx=>v=.bool true∧wx=wr.drewN q)
     case first=>
      have d1:decide ((D:Int)+1≤512)=true:=by simp;omega
      have d2:decide ((D:Int)+1≤(i:Int))=true:=by simp;omega
      go_wp2
      all_goals (go_meet;exact⟨rfl,rfl⟩)
     case rest=>
     obtain⟨rfl,rfl⟩:=hcut;go_wp2
     go_loopw [8] (fun nv wx=>∃(n q2:Nat),n≤258∧i+n≤s.size∧nv=.int .i64 n∧Hid (runG s.data.toList i (D+1) (258-n) n=dN s.data.toList i (D+1))∧wx=wr.drewN (q+q2)) (fun nv _=>600-(intOf nv).toNat)
     case atStart=>exact⟨0,0,Nat.zero_le _,by omega,rfl,qhz rfl,rfl⟩
     case round=>
      obtain⟨n,q2,hn,hin,rfl,HR,rfl⟩:=hrel
      by_cases hmore:(n<258∧i+n<s.size)∧s.data.toList.getD (i+n) 0=s.data.toList.getD (i+n-(D+1)) 0
      ·obtain⟨⟨hn1,hn2⟩,he⟩:=hmore;obtain⟨z,hz⟩:=E1 (i+n);obtain⟨y,hy⟩:=E1 (i+n-(D+1));have zl:z<s.size:=by omega
       have yl:y<s.size:=by omega
       have ez:(i:Int)+(n:Int)=(z:Int):=by omega
       have ey:(z:Int)-((D:Int)+1)=(y:Int):=by omega
       have wz:IntKind.i64.wrap (z:Int)=(z:Int):=IntWalk.i64_in _ (by omega);have wy:IntKind.i64.wrap (y:Int)=(y:Int):=IntWalk.i64_in _ (by omega);have d1:decide ((n:Int)<258)=true:=by simp;omega
       have d2:decide ((z:Int)<(s.size:Int))=true:=by simp;omega
       have d2':decide (z<s.size)=true:=by simpa using zl
       have hq:n+1≤258:=hn1;have hq2:i+(n+1)≤s.size:=by omega
       have HN:=qhz (show runG s.data.toList i (D+1) (258-(n+1)) (n+1)=dN s.data.toList i (D+1) by
        rw[←HR.out,show 258-n=258-(n+1)+1 from by omega,runG,if_pos ⟨by rw[HLL.out];exact hq2,he⟩])
       have de:((s[z].toNat:Int)==(s[y].toNat:Int))=true:=by
        rw[←hy,←hz,gw s zl,gw s yl]at he;rw[he];simp
       clear he hz hy hn2 hin;go_wp2
       go_quiet (fail)
       go_wp2
       go_roundw
       case rel=>exact⟨n+1,q2+nq,hq,hq2,by go_num,HN,by rw[Nat.add_assoc]⟩
       case measure=>simp[intOf];omega
      ·have HN:=qhz (show dN s.data.toList i (D+1)=n by
        rw[←HR.out]
        by_cases h1:n<258
        ·rw[show 258-n=258-(n+1)+1 from by omega,runG,if_neg (fun h=>hmore ⟨⟨h1,by rw[←HLL.out];exact h.1⟩,h.2⟩)]
        ·rw[show 258-n=0 from by omega];rfl)
       have HMO:=qhz hmore;clear hmore
       go_upto_region 10 with(fail)
       go_cut [46]from 22 to 46 (fun v wx=>v=.bool false∧∃q3,wx=wr.drewN q3)
       case first=>
        by_cases h1:n<258
        ·have d1:decide ((n:Int)<258)=true:=by simp;omega
         obtain⟨z,hz⟩:=E1 (i+n);have ez:(i:Int)+(n:Int)=(z:Int):=by omega
         have wz:IntKind.i64.wrap (z:Int)=(z:Int):=IntWalk.i64_in _ (by omega)
         by_cases h2:z<s.size
         ·obtain⟨y,hy⟩:=E1 (i+n-(D+1));have yl:y<s.size:=by omega
          have ey:(z:Int)-((D:Int)+1)=(y:Int):=by omega
          have wy:IntKind.i64.wrap (y:Int)=(y:Int):=IntWalk.i64_in _ (by omega);have d2:decide ((z:Int)<(s.size:Int))=true:=by simp;omega
          have d2':decide (z<s.size)=true:=by simpa using h2
          have he:¬s[z]=s[y]:=fun h=>HMO.out ⟨⟨h1,by omega⟩,by rw[←hy,←hz,gw s h2,gw s yl];exact h⟩;have de:((s[z].toNat:Int)==(s[y].toNat:Int))=false:=by simpa using PU he
          clear he hz hy
          go_quiet (fail)
          go_wp2
          all_goals (go_meet;exact⟨rfl,q+q2+nq,wr.drewN_drewN (q+q2) nq⟩)
         ·have d2:decide ((z:Int)<(s.size:Int))=false:=by simp;omega
          have d2':decide (z<s.size)=false:=by simp;omega
          clear hz
          go_quiet (fail)
          go_wp2
          all_goals (go_meet;exact⟨rfl,q+q2+nq,wr.drewN_drewN (q+q2) nq⟩)
        ·have d1:decide ((n:Int)<258)=false:=by simp;omega
         go_quiet (fail)
         go_wp2
         all_goals (go_meet;exact⟨rfl,q+q2+nq,wr.drewN_drewN (q+q2) nq⟩)
       case rest=>
       obtain⟨rfl,q3,hw⟩:=hcut;subst hw
       by_cases hgt:B<n
       ·have HG:=qhz (show cN s.data.toList i (D+1)=(n,D+1)by rw[cN,if_pos (by rw[HN.out,←HBE.out];exact hgt),HN.out]);go_wp2
        go_roundw
        case rel=>exact⟨D+1,q3,hcont,by go_num,by rw[HG.out],by rw[HG.out];go_num,rfl⟩
        case measure=>simp[intOf];omega
       ·have HG:=qhz (show cN s.data.toList i (D+1)=cN s.data.toList i D by rw[cN,if_neg (by rw[HN.out,←HBE.out];exact hgt)]);go_wp2
        go_roundw
        case rel=>exact⟨D+1,q3,hcont,by go_num,by rw[HG.out,←HBE.out],by rw[HG.out,←HFE.out],rfl⟩
        case measure=>simp[intOf];omega
    ·have hDe:D=mn:=by omega
     have HBA:=qhz (show(be s.data.toList i)=(B,F) by
      show cN s.data.toList i (min 512 i)=(B,F)
      rw[←HMN.out,←hDe,HBE.out,HFE.out])
     have HDE:=qhz hDe;clear HBB HBD hDe
     go_upto_region 7 with(fail)
     go_cut [19]from 13 to 19 (fun v wx=>v=.bool false∧wx=wr.drewN q)
     case first=>
      rcases Nat.lt_or_ge 512 (D+1)with h5|h5
      ·have d1:decide ((D:Int)+1≤512)=false:=by simp;omega
       go_wp2
       all_goals (go_meet;exact⟨rfl,rfl⟩)
      ·have d1:decide ((D:Int)+1≤512)=true:=by simp;omega
       have d2:decide ((D:Int)+1≤(i:Int))=false:=by have:=HMN.out;have:=HDE.out;simp;omega
       go_wp2
       all_goals (go_meet;exact⟨rfl,rfl⟩)
     case rest=>
     obtain⟨rfl,rfl⟩:=hcut;have HBw:=qhz (HB.out.drewN q);have HOw:=qhz (HO.out.but ((But.refl [] wr).drewN q));obtain⟨w1,hw1⟩:=E1 (wr.drewN q);rw[←hw1]at HBw HOw⊢;have hsz1:=HBw.out.size;clear hw1
     by_cases h3:3≤B
     ·have hb3:3≤(be s.data.toList i).1:=by rw[HBA.out];exact h3
      have HST:=qhz (rP (l:=s.data.toList) (i:=i) (by rw[HLL.out];exact hlt) hb3);obtain⟨b1,b2,b3,b4,b5,b6⟩:=g7 (l:=s.data.toList) (i:=i) (by rw[HLL.out];exact hlt) hb3;rw[HBA.out]at HST b5;rw[HLL.out]at b5;dsimp only at HST b5;clear b1 b2 b3 b4 b6 hb3
      go_wp2_with (at_builtin;refine wpList_append_own _ rfl _ _ 136 rfl w.heap.size 149 i0 (.agg #[(0:Int),(0:Int),(0:Int)]) 3 24 underlying136 hi0 hz0 hz1 hz2 rfl (by decide) _ L.length (dC L) rfl (World.ownsRow.alloc HOw.out _) ⟨w1.heap.size,0,none⟩ 1 1 [.int .i64 0,.int .i64 B,.int .i64 F] rfl rfl ?c1 ?c2 ?c3 ?c4 ?c5 ?_)
      case c1=>exact World.news_of_block (cs:=#[.int .i64 0,.int .i64 B,.int .i64 F]) (t:=149) (fr:=(0,0)) (heap_alloc_new w1 _)
      case c2=>simp[Value.oneCell']
      case c3=>unfold maxLen;omega
      case c4=>omega
      case c5=>simp;omega
      intro v' w2 hown2 hgrow2 _;have HP:=qhz (OwnK.pushed (x:=((B:Int),(F:Int),(0:Int))) HBw.out HOw.out hown2 hgrow2);clear hown2 hgrow2;go_wp2
      go_roundw
      case rel=>exact⟨i+B,L++[((B:Int),(F:Int),(0:Int))],by omega,by go_num,by rw[List.length_append,List.length_singleton];omega,qhz (by rw[←HM.out,HST.out,List.append_assoc];rfl),qhz HP.out.1,qhz HP.out.2⟩
      case measure=>simp[intOf];omega
     ·have HST:=qhz (rQ (l:=s.data.toList) (i:=i) (by rw[HLL.out];exact hlt) (by rw[HBA.out];exact h3));have HBY:=qhz (gw s hlt);have hwr:wrap64 (s[i].toNat:Int)=(s[i].toNat:Int):=by have:=s[i].toNat_lt;unfold wrap64;omega
      have hi1:(0:Int)≤(i:Int):=by omega
      go_wp2_with (at_builtin;refine wpList_append_own _ rfl _ _ 136 rfl w.heap.size 149 i0 (.agg #[(0:Int),(0:Int),(0:Int)]) 3 24 underlying136 hi0 hz0 hz1 hz2 rfl (by decide) _ L.length (dC L) rfl (World.ownsRow.alloc HOw.out _) ⟨w1.heap.size,0,none⟩ 1 1 [.int .i64 s[i].toNat,.int .i64 0,.int .i64 0] rfl rfl ?d1 ?d2 ?d3 ?d4 ?d5 ?_)
      case d1=>exact World.news_of_block (cs:=#[.int .i64 s[i].toNat,.int .i64 0,.int .i64 0]) (t:=149) (fr:=(0,0)) (heap_alloc_new w1 _)
      case d2=>simp[Value.oneCell']
      case d3=>unfold maxLen;omega
      case d4=>omega
      case d5=>simp;omega
      intro v' w2 hown2 hgrow2 _;have HP:=qhz (OwnK.pushed (x:=((0:Int),(0:Int),(s[i].toNat:Int))) HBw.out HOw.out hown2 hgrow2);clear hown2 hgrow2;go_wp2
      go_roundw
      case rel=>exact⟨i+1,L++[((0:Int),(0:Int),(s[i].toNat:Int))],by omega,by go_num,by rw[List.length_append,List.length_singleton];omega,qhz (by rw[←HM.out,HST.out,HBY.out,List.append_assoc];rfl),qhz HP.out.1,qhz HP.out.2⟩
      case measure=>simp[intOf];omega
  ·go_wp2
   (try rw[Exit.noGoto_ret])
   go_ret;have e:i=s.size:=by omega
   refine⟨_,rfl,?_,HB.out⟩;have h:=HM.out;rw[rR (by rw[HLL.out];exact hlt),List.append_nil]at h;rw[←h];exact HO.out
def KeepT(w w':World):Prop:=∀b t cs,t≠5→Is w b t cs→Is w' b t cs
theorem Ew{w w':World}{base:Nat}{v:Value}{L:List UInt8}(hO:OwnF w base v L)(hg:w.grownBy w' v.ownBlock):KeepT w w':=fun b t cs ht hI=>by
 refine hI.grown hg ?_;intro e;rcases hO.2 with⟨rfl,_⟩|⟨g,cap,cur,rfl,_,hh,_⟩
 ·cases e
 ·have e2:b=g:=Option.some.inj e;subst e2;have h2:some (Obj.cells cur 5 (0,0))=some (Obj.cells cs t (0,0)):=hh.symm.trans hI;exact ht (Obj.cells.inj (Option.some.inj h2)).2.1.symm
theorem kw{w0:World}(w:World){ops:Array Oper}{rest:List Oper}{o:Oper}{a:Act}{Q:Exit→Act→World→Prop}(hgd:o.guard=none)(sl x:Operand)
 (ho:o.op=.call {callee:=.builtin .append,args:=#[sl,x],argTypes:=#[47,47]})
 (v:Value) (L:List UInt8) (hs:a.eval sl=v) (hO:OwnF w w0.heap.size v L) (hB:But [] w0 w) (y:UInt8) {g:Nat} (hx:a.eval x=.slice g 1 1) (hI:Is w g 5 #[.int .u8 (y.toNat:Int)]) (hbound:L.length<140737488355328)
 (h:∀A c w',Hid (OwnF w' w0.heap.size (.slice A (L.length+1) c) (L++[y]))→Hid (But [] w0 w')→Hid (KeepT w w')→wpList prog ops Q rest (a.put o.dst (.slice A (L.length+1) c)) w'):wpList prog ops Q (o::rest) a w:=by
 obtain⟨i0,hi0,hz0,hz1,hz2⟩:=info_parts l8;refine wpList_append_own_at w hgd sl x 47 ho w0.heap.size 5 i0 _ 1 1 underlying47 hi0 hz0 hz1 hz2 rfl (by decide) v L.length (cM L) hs hO ⟨g,0,none⟩ 1 1 [.int .u8 (y.toNat:Int)] hx rfl (Cn hI) (by simp[Value.oneCell']) (by unfold maxLen;omega) (by omega) hB.size ?_;intro v' w' hown hgrow _ hat;have hO2:OwnF w' w0.heap.size v' (L++[y]):=by
  unfold OwnF;rw[List.length_append,gP];exact hown
 obtain⟨A,c,rfl⟩:=hO2.shape;have key:=h A c w';rw[List.length_append]at hO2⊢;exact key (qhz hO2) (qhz (hB.grown hgrow (fun k e=>.inr (hO.lt k e)))) (qhz (Ew hO hgrow))
theorem ko{w0:World}(w:World){ops:Array Oper}{rest:List Oper}{o:Oper}{a:Act}{Q:Exit→Act→World→Prop}(hgd:o.guard=none)(sl x:Operand)
 (ho:o.op=.call {callee:=.builtin .append,args:=#[sl,x],argTypes:=#[47,9]})
 (v:Value) (L:List UInt8) (hs:a.eval sl=v) (hO:OwnF w w0.heap.size v L) (hB:But [] w0 w) (s:ByteArray) (hx:a.eval x=.string s) (hbound:L.length+s.size≤140737488355328)
 (h:∀A c w',Hid (OwnF w' w0.heap.size (.slice A (L.length+s.size) c) (L++s.data.toList))→Hid (But [] w0 w')→Hid (KeepT w w')→wpList prog ops Q rest (a.put o.dst (.slice A (L.length+s.size) c)) w'):wpList prog ops Q (o::rest) a w:=by
 obtain⟨i0,hi0,hz0,hz1,hz2⟩:=info_parts l8;refine Lib.wpList_append_own_string w hgd sl x 47 9 ho w0.heap.size 5 i0 underlying47 underlying9 hi0 hz0 hz1 hz2 v L.length (cM L) hs hO s hx (by unfold maxLen;omega) hbound hB.size ?_;intro v' w' hown hgrow _;have hs:s.data.toList.length=s.size:=by rw[Array.length_toList];rfl
 have hO2:OwnF w' w0.heap.size v' (L++s.data.toList):=by
  unfold OwnF;rw[List.length_append,gP,hs];exact hown
 obtain⟨A,c,rfl⟩:=hO2.shape;have key:=h A c w';rw[List.length_append,hs]at hO2⊢;exact key (qhz hO2) (qhz (hB.grown hgrow (fun k e=>.inr (hO.lt k e)))) (qhz (Ew hO hgrow))
theorem qP{w0:World}(w:World){ops:Array Oper}{rest:List Oper}{o:Oper}{a:Act}{Q:Exit→Act→World→Prop}(hgd:o.guard=none)(sl x:Operand)
 (ho:o.op=.call {callee:=.builtin .append,args:=#[sl,x],argTypes:=#[36,36]})
 (v:Value) (L:List Nat) (hs:a.eval sl=v) (hO:OwnN w w0.heap.size v L) (hB:But [] w0 w) {g o2 m c:Nat} {M:List Nat} (hx:a.eval x=.slice (some ⟨g,o2,none⟩) m c) (hM:Nums w (some ⟨g,o2,none⟩) m M) (hm:0<m) (hbound:L.length+m<1000000000)
 (h:∀A c w',Hid (OwnN w' w0.heap.size (.slice A (L.length+m) c) (L++M))→Hid (But [] w0 w')→wpList prog ops Q rest (a.put o.dst (.slice A (L.length+m) c)) w'):wpList prog ops Q (o::rest) a w:=by
 obtain⟨i0,hi0,hz0,hz1,hz2⟩:=info_parts tG;have hl:=hM.1;refine wpList_append_own_at w hgd sl x 36 ho w0.heap.size 3 i0 _ 1 8 underlying36 hi0 hz0 hz1 hz2 rfl (by decide) v L.length (fK L) hs hO ⟨g,o2,none⟩ m c (fK M) hx (by rw[xy,hl,Nat.mul_one]) ?_ ?_ (by unfold maxLen;omega) (by omega) hB.size ?_
 ·intro j u hj;obtain⟨g',o',e,_,hc⟩:=hM.2 hm;injection e with e;injection e with e1 e2;subst e1 e2;unfold fK at hj;rw[List.getElem?_map]at hj;cases hq:M[j]? with
  |none=>rw[hq]at hj;cases hj
  |some q=>
   rw[hq]at hj;have hj:Value.int .i64 (q:Nat)=u:=Option.some.inj hj;obtain⟨hlt,hqe⟩:=List.getElem?_eq_some_iff.1 hq;have hcj:=hc j hlt;rw[hqe,hj]at hcj;have e2:(⟨g,o2,none⟩:Addr).add j=⟨g,o2+j,none⟩:=by unfold Addr.add;split<;>simp_all
   rw[e2];exact hcj
 ·intro u hu;unfold fK at hu;obtain⟨q,_,rfl⟩:=List.mem_map.1 hu;simp[Value.oneCell']
 ·intro v' w' hown hgrow _ hat;have hO2:OwnN w' w0.heap.size v' (L++M):=by
   unfold OwnN;rw[List.length_append,fA,hl];exact hown
  obtain⟨A,c2,rfl,_⟩:=hO2.shape;have key:=h A c2 w';rw[List.length_append,hl]at hO2⊢;exact key (qhz hO2) (qhz (hB.grown hgrow (fun k e=>.inr (hO.lt k e))))
def sC(S:ShP)(v:List Nat)(j:RowJ)(x:Nat):List Nat:=((List.range x).map fun i=>(j.x+i*j.dx,j.y)).flatMap fun p=>dp S v p.1 p.2
theorem zg(S:ShP)(v:List Nat)(j:RowJ):sC S v j j.n=rowV S v j:=rfl
theorem FA(S:ShP)(v:List Nat)(j:RowJ)(x:Nat):sC S v j (x+1)=sC S v j x++dp S v (j.x+x*j.dx) j.y:=by
 unfold sC;rw[List.range_succ,List.map_append,List.flatMap_append];simp
theorem kT(S:ShP)(v:List Nat)(j:RowJ)(x:Nat):(sC S v j x).length=ai S.c*x:=by
 have h:=cY S v ⟨j.x,j.dx,j.y,x,j.first⟩;exact h
theorem Io{S:ShP}{v:List Nat}{a b:Nat}(h:ai S.c*(b*S.w+a)+ai S.c≤v.length):dp S v a b=(v.drop (ai S.c*(b*S.w+a))).take (ai S.c):=by
 unfold dp;apply List.ext_getElem
 ·rw[List.length_map,List.length_range,List.length_take,List.length_drop];omega
 ·intro i h1 h2;rw[List.length_map,List.length_range]at h1;rw[List.getElem_map,List.getElem_range,List.getElem_take,List.getElem_drop,List.getD_eq_getElem?_getD,List.getElem?_eq_getElem (by omega)];rfl
theorem MX{S:ShP}{v:List Nat}(hv:∀k,v.getD k 0<65536)(a b:Nat):∀q∈dp S v a b,q<65536:=by
 intro q hq;unfold dp at hq;obtain⟨i,_,rfl⟩:=List.mem_map.1 hq;exact hv _
theorem JA{S:ShP}{v:List Nat}(hv:∀k,v.getD k 0<65536)(j:RowJ):∀q∈rowV S v j,q<65536:=by
 intro q hq;unfold rowV at hq;obtain⟨p,_,hp⟩:=List.mem_flatMap.1 hq;exact MX hv _ _ q hp
theorem Em{L:List Nat}(h:∀q∈L,q<65536):(L.map fun x=>((x:Nat):Int)).map lowN=L:=by
 rw[List.map_map]
 induction L with
 |nil=>rfl
 |cons q L ih=>
  rw[List.map_cons,ih fun q hq=>h q (List.mem_cons_of_mem _ hq)];have hq:=h q (List.mem_cons_self ..)
  congr 1
  show lowN (q:Int)=q;unfold lowN;omega
theorem Dj{L:List Nat}(h:∀q∈L,q<65536):ZFit (L.map fun x=>((x:Nat):Int)):=by
 intro x hx;obtain⟨q,hq,rfl⟩:=List.mem_map.1 hx;have:=h q hq;omega
theorem Cd{S:ShP}{v:List Nat}{kind:Nat→Int}{js:List RowJ}(h:∀j,js.head? =some j→j.first=true)(k:Nat)(A B:List UInt8):dF S v kind js k A=dF S v kind js k B:=by
 cases js with
 |nil=>rfl
 |cons j js=>
  have hj:=h j rfl;rw[dF,dF,hj];rfl
theorem vp{S:ShP}{v:List Nat}{kind:Nat→Int}{j:RowJ}{js:List RowJ}{k:Nat}{ab:List UInt8}(hab:j.first=true→ab=[]):
 dF S v kind (j::js) k ab=UInt8.ofNat (ni S kind k (dR S.d (rowV S v j)) ab)::(doF (ni S kind k (dR S.d (rowV S v j)) ab:Nat) (bppN S) (dR S.d (rowV S v j)) ab++dF S v kind js (k+1) (dR S.d (rowV S v j))):=by
 rw[dF];have e:(if j.first=true then []else ab)=ab:=by
  by_cases h:j.first=true
  ·rw[if_pos h,hab h]
  ·rw[if_neg h]
 rw[e]
section
def jW:Code→Option Code
 |.loop c=>some c
 |.seq a b=>match jW a with
  |some c=>some c
  |none=>jW b
 |.block _ c=>jW c
 |.scope c=>jW c
 |.cond _ a b=>match jW a with
  |some c=>some c
  |none=>jW b
 |_=>none
noncomputable def Qu:Code:=(Tryz.f18.body.bind jW).getD .skip
noncomputable def pM:Code:=(jW Qu).getD .skip
noncomputable def xn:Code:=(jW pM).getD .skip
structure SkX(wb:World)(b3 b12 nV cV S y W H D C px py dx dy Wp Hp:Nat)(l:Int)(A1:Option Addr)(V:List Nat)(SS:ShP)(j:RowJ):Prop where
 head:Is wb b3 33 #[W,H,D,C,l]
 pas:Is wb b12 64 #[px,py,dx,dy,Wp,Hp]
 num:Nums wb A1 nV V
 nvc:nV≤cV
 nvE:nV=S*(W*H)
 sE:ai SS.c=S
 s1:1≤S
 s4:S≤4
 jj:j.n=Wp∧j.x=px∧j.dx=dx∧j.y=py+y*dy
 pl:∀x,x<Wp→px+x*dx<W∧py+y*dy<H
 wl:Wp≤1024
 ww:W≤1024∧H≤1024∧W*H≤4096
 ssw:SS.w=W
structure LkX(wb:World)(Wp:Nat)(V:List Nat)(SS:ShP)(j:RowJ)(x:Nat)(RA:Option Addr)(rl rc:Nat)(wr:World):Prop where
 le:x≤Wp
 rlE:rl=(sC SS V j x).length
 own:OwnN wr wb.heap.size (.slice RA rl rc) (sC SS V j x)
 but:But [] wb wr
def MkX(n:Nat)(a:Act)(_:World):Nat:=n-(intOf (a.tmps.getD 16 undef)).toNat
theorem zq{W H a b S nV:Nat}(ha:a<W)(hb:b<H)(h:nV=S*(W*H)):S*(b*W+a)+S≤nV:=by
 have h1:(b+1)*W≤H*W:=Nat.mul_le_mul_right _ hb;rw[Nat.add_mul,Nat.one_mul]at h1;have h2:S*(b*W+a+1)≤S*(W*H):=Nat.mul_le_mul_left _ (by rw[Nat.mul_comm W];omega);rw[Nat.mul_add,Nat.mul_one]at h2;omega
def KIX(wb:World)(b3 b12 nV cV S y Wp:Nat)(A1:Option Addr)(V:List Nat)(SS:ShP)(j:RowJ)(c0 c2 c4 c5 c6 c7 c9 c10 c11 c13 c18 c19 c20 c21 c22 c23 c24 c25 c26 c27 c28 c29 c30 c31 c32 c33 c34 c35 c36 c37 c38 c39 c40 c41 c42 c43 c78 c79 c80 c81 c82 c83 c84 c85 c86 c87 c88 c89 c90 c91 c92 c93 c94 c95 c96 c97 c98 c99 c100 c101 c102 c103 c104 c105 c106 c107 c108 c109 c110 c111 c112 c113 c114 c115 c116 c117 c118 c119 c120 c121 c122 c123:Value)(act:Act)(w1:World):Prop:=
 ∃(u17 u44 u45 u46 u47 u48 u49 u50 u51 u52 u53 u54 u55 u56 u57 u58 u59 u60 u61 u62 u63 u64 u65 u66 u67 u68 u69 u70 u71 u72 u73 u74 u75 u76 u77:Value) (x:Nat) (RA:Option Addr) (rl rc:Nat),LkX wb Wp V SS j x RA rl rc w1∧act=⟨#[c0,.slice A1 nV cV,c2,.pointer b3,c4,c5,c6,c7,.int .i64 (S:Nat),c9,c10,c11,.pointer b12,c13,.int .i64 (y:Nat),.slice RA rl rc,.int .i64 (x:Nat),u17,c18,c19,c20,c21,c22,c23,c24,c25,c26,c27,c28,c29,c30,c31,c32,c33,c34,c35,c36,c37,c38,c39,c40,c41,c42,c43,u44,u45,u46,u47,u48,u49,u50,u51,u52,u53,u54,u55,u56,u57,u58,u59,u60,u61,u62,u63,u64,u65,u66,u67,u68,u69,u70,u71,u72,u73,u74,u75,u76,u77,c78,c79,c80,c81,c82,c83,c84,c85,c86,c87,c88,c89,c90,c91,c92,c93,c94,c95,c96,c97,c98,c99,c100,c101,c102,c103,c104,c105,c106,c107,c108,c109,c110,c111,c112,c113,c114,c115,c116,c117,c118,c119,c120,c121,c122,c123],[]⟩
def KXX(wb:World)(b3 b12 nV cV S y Wp:Nat)(A1:Option Addr)(V:List Nat)(SS:ShP)(j:RowJ)(c0 c2 c4 c5 c6 c7 c9 c10 c11 c13 c18 c19 c20 c21 c22 c23 c24 c25 c26 c27 c28 c29 c30 c31 c32 c33 c34 c35 c36 c37 c38 c39 c40 c41 c42 c43 c78 c79 c80 c81 c82 c83 c84 c85 c86 c87 c88 c89 c90 c91 c92 c93 c94 c95 c96 c97 c98 c99 c100 c101 c102 c103 c104 c105 c106 c107 c108 c109 c110 c111 c112 c113 c114 c115 c116 c117 c118 c119 c120 c121 c122 c123:Value)(act:Act)(w1:World):Prop:=
 ∃(u17 u44 u45 u46 u47 u48 u49 u50 u51 u52 u53 u54 u55 u56 u57 u58 u59 u60 u61 u62 u63 u64 u65 u66 u67 u68 u69 u70 u71 u72 u73 u74 u75 u76 u77:Value) (RA:Option Addr) (rl rc:Nat),LkX wb Wp V SS j Wp RA rl rc w1∧act=⟨#[c0,.slice A1 nV cV,c2,.pointer b3,c4,c5,c6,c7,.int .i64 (S:Nat),c9,c10,c11,.pointer b12,c13,.int .i64 (y:Nat),.slice RA rl rc,.int .i64 (Wp:Nat),u17,c18,c19,c20,c21,c22,c23,c24,c25,c26,c27,c28,c29,c30,c31,c32,c33,c34,c35,c36,c37,c38,c39,c40,c41,c42,c43,u44,u45,u46,u47,u48,u49,u50,u51,u52,u53,u54,u55,u56,u57,u58,u59,u60,u61,u62,u63,u64,u65,u66,u67,u68,u69,u70,u71,u72,u73,u74,u75,u76,u77,c78,c79,c80,c81,c82,c83,c84,c85,c86,c87,c88,c89,c90,c91,c92,c93,c94,c95,c96,c97,c98,c99,c100,c101,c102,c103,c104,c105,c106,c107,c108,c109,c110,c111,c112,c113,c114,c115,c116,c117,c118,c119,c120,c121,c122,c123],[]⟩
section
variable {wb wr:World} {b3 b12 nV cV S y W H D C px py dx dy Wp Hp:Nat} {l:Int} {A1:Option Addr} {V:List Nat} {SS:ShP} {j:RowJ} {Q0:Exit→Act→World→Prop} {x:Nat} {RA:Option Addr} {rl rc:Nat}
variable {c0 c2 c4 c5 c6 c7 c9 c10 c11 c13 c18 c19 c20 c21 c22 c23 c24 c25 c26 c27 c28 c29 c30 c31 c32 c33 c34 c35 c36 c37 c38 c39 c40 c41 c42 c43 c78 c79 c80 c81 c82 c83 c84 c85 c86 c87 c88 c89 c90 c91 c92 c93 c94 c95 c96 c97 c98 c99 c100 c101 c102 c103 c104 c105 c106 c107 c108 c109 c110 c111 c112 c113 c114 c115 c116 c117 c118 c119 c120 c121 c122 c123:Value}
variable {u17 u44 u45 u46 u47 u48 u49 u50 u51 u52 u53 u54 u55 u56 u57 u58 u59 u60 u61 u62 u63 u64 u65 u66 u67 u68 u69 u70 u71 u72 u73 u74 u75 u76 u77:Value}
theorem Qt(hT:SkX wb b3 b12 nV cV S y W H D C px py dx dy Wp Hp l A1 V SS j)(hS:LkX wb Wp V SS j x RA rl rc wr)(hx:Hid (¬x<Wp))(hexit:∀act w1,KXX wb b3 b12 nV cV S y Wp A1 V SS j c0 c2 c4 c5 c6 c7 c9 c10 c11 c13 c18 c19 c20 c21 c22 c23 c24 c25 c26 c27 c28 c29 c30 c31 c32 c33 c34 c35 c36 c37 c38 c39 c40 c41 c42 c43 c78 c79 c80 c81 c82 c83 c84 c85 c86 c87 c88 c89 c90 c91 c92 c93 c94 c95 c96 c97 c98 c99 c100 c101 c102 c103 c104 c105 c106 c107 c108 c109 c110 c111 c112 c113 c114 c115 c116 c117 c118 c119 c120 c121 c122 c123 act w1→Q0 (.exit 4) act w1):
 Code.wp prog xn (Exit.then (fun act w1=>KIX wb b3 b12 nV cV S y Wp A1 V SS j c0 c2 c4 c5 c6 c7 c9 c10 c11 c13 c18 c19 c20 c21 c22 c23 c24 c25 c26 c27 c28 c29 c30 c31 c32 c33 c34 c35 c36 c37 c38 c39 c40 c41 c42 c43 c78 c79 c80 c81 c82 c83 c84 c85 c86 c87 c88 c89 c90 c91 c92 c93 c94 c95 c96 c97 c98 c99 c100 c101 c102 c103 c104 c105 c106 c107 c108 c109 c110 c111 c112 c113 c114 c115 c116 c117 c118 c119 c120 c121 c122 c123 act w1∧MkX Wp act w1<MkX Wp ⟨#[c0,.slice A1 nV cV,c2,.pointer b3,c4,c5,c6,c7,.int .i64 (S:Nat),c9,c10,c11,.pointer b12,c13,.int .i64 (y:Nat),.slice RA rl rc,.int .i64 (x:Nat),u17,c18,c19,c20,c21,c22,c23,c24,c25,c26,c27,c28,c29,c30,c31,c32,c33,c34,c35,c36,c37,c38,c39,c40,c41,c42,c43,u44,u45,u46,u47,u48,u49,u50,u51,u52,u53,u54,u55,u56,u57,u58,u59,u60,u61,u62,u63,u64,u65,u66,u67,u68,u69,u70,u71,u72,u73,u74,u75,u76,u77,c78,c79,c80,c81,c82,c83,c84,c85,c86,c87,c88,c89,c90,c91,c92,c93,c94,c95,c96,c97,c98,c99,c100,c101,c102,c103,c104,c105,c106,c107,c108,c109,c110,c111,c112,c113,c114,c115,c116,c117,c118,c119,c120,c121,c122,c123],[]⟩ wr) Q0) ⟨#[c0,.slice A1 nV cV,c2,.pointer b3,c4,c5,c6,c7,.int .i64 (S:Nat),c9,c10,c11,.pointer b12,c13,.int .i64 (y:Nat),.slice RA rl rc,.int .i64 (x:Nat),u17,c18,c19,c20,c21,c22,c23,c24,c25,c26,c27,c28,c29,c30,c31,c32,c33,c34,c35,c36,c37,c38,c39,c40,c41,c42,c43,u44,u45,u46,u47,u48,u49,u50,u51,u52,u53,u54,u55,u56,u57,u58,u59,u60,u61,u62,u63,u64,u65,u66,u67,u68,u69,u70,u71,u72,u73,u74,u75,u76,u77,c78,c79,c80,c81,c82,c83,c84,c85,c86,c87,c88,c89,c90,c91,c92,c93,c94,c95,c96,c97,c98,c99,c100,c101,c102,c103,c104,c105,c106,c107,c108,c109,c110,c111,c112,c113,c114,c115,c116,c117,c118,c119,c120,c121,c122,c123],[]⟩ wr:=by
 conv=>arg 2;whnf
 have HT:=qhz hT;have HS:=qhz hS;have hp12:=hT.pas.but hS.but (by simp);obtain⟨p0,p1,p2,p3,p4,p5,hgp⟩:=hp12.c6;have wl:=hT.wl;clear hT hS hp12;have i1:¬(x:Int)<(Wp:Int):=by have:=hx.out;omega
 obtain rfl:Wp=x:=by have:=hx.out;have:=HS.out.le;omega
 clear hx;go_wp2;unfold KXX;exact⟨_,_,_,_,_,_,_,_,_,_,_,_,_,_,_,_,_,_,_,_,_,_,_,_,_,_,_,_,_,_,_,_,_,_,_,RA,rl,rc,HS.out,rfl⟩
theorem Rx(hT:SkX wb b3 b12 nV cV S y W H D C px py dx dy Wp Hp l A1 V SS j)(hS:LkX wb Wp V SS j x RA rl rc wr)(hx:Hid (x<Wp)):
 Code.wp prog xn (Exit.then (fun act w1=>KIX wb b3 b12 nV cV S y Wp A1 V SS j c0 c2 c4 c5 c6 c7 c9 c10 c11 c13 c18 c19 c20 c21 c22 c23 c24 c25 c26 c27 c28 c29 c30 c31 c32 c33 c34 c35 c36 c37 c38 c39 c40 c41 c42 c43 c78 c79 c80 c81 c82 c83 c84 c85 c86 c87 c88 c89 c90 c91 c92 c93 c94 c95 c96 c97 c98 c99 c100 c101 c102 c103 c104 c105 c106 c107 c108 c109 c110 c111 c112 c113 c114 c115 c116 c117 c118 c119 c120 c121 c122 c123 act w1∧MkX Wp act w1<MkX Wp ⟨#[c0,.slice A1 nV cV,c2,.pointer b3,c4,c5,c6,c7,.int .i64 (S:Nat),c9,c10,c11,.pointer b12,c13,.int .i64 (y:Nat),.slice RA rl rc,.int .i64 (x:Nat),u17,c18,c19,c20,c21,c22,c23,c24,c25,c26,c27,c28,c29,c30,c31,c32,c33,c34,c35,c36,c37,c38,c39,c40,c41,c42,c43,u44,u45,u46,u47,u48,u49,u50,u51,u52,u53,u54,u55,u56,u57,u58,u59,u60,u61,u62,u63,u64,u65,u66,u67,u68,u69,u70,u71,u72,u73,u74,u75,u76,u77,c78,c79,c80,c81,c82,c83,c84,c85,c86,c87,c88,c89,c90,c91,c92,c93,c94,c95,c96,c97,c98,c99,c100,c101,c102,c103,c104,c105,c106,c107,c108,c109,c110,c111,c112,c113,c114,c115,c116,c117,c118,c119,c120,c121,c122,c123],[]⟩ wr) Q0) ⟨#[c0,.slice A1 nV cV,c2,.pointer b3,c4,c5,c6,c7,.int .i64 (S:Nat),c9,c10,c11,.pointer b12,c13,.int .i64 (y:Nat),.slice RA rl rc,.int .i64 (x:Nat),u17,c18,c19,c20,c21,c22,c23,c24,c25,c26,c27,c28,c29,c30,c31,c32,c33,c34,c35,c36,c37,c38,c39,c40,c41,c42,c43,u44,u45,u46,u47,u48,u49,u50,u51,u52,u53,u54,u55,u56,u57,u58,u59,u60,u61,u62,u63,u64,u65,u66,u67,u68,u69,u70,u71,u72,u73,u74,u75,u76,u77,c78,c79,c80,c81,c82,c83,c84,c85,c86,c87,c88,c89,c90,c91,c92,c93,c94,c95,c96,c97,c98,c99,c100,c101,c102,c103,c104,c105,c106,c107,c108,c109,c110,c111,c112,c113,c114,c115,c116,c117,c118,c119,c120,c121,c122,c123],[]⟩ wr:=by
 conv=>arg 2;whnf
 have HT:=qhz hT;have HS:=qhz hS;have hp12:=hT.pas.but hS.but (by simp);obtain⟨p0,p1,p2,p3,p4,p5,hgp⟩:=hp12.c6;have wl:=hT.wl;clear hT hS hp12;have hh3:=HT.out.head.but HS.out.but (by simp);have c0:=hh3.cell 0;have hg3:=hh3.lt;clear hh3;have hxl:=hx.out;have ww:=HT.out.ww.1;have s1:=HT.out.s1;have s4:=HT.out.s4;have nvc:=HT.out.nvc;obtain⟨yd,hyd⟩:=E1 (y*dy);have eyd:(y:Int)*(dy:Int)=(yd:Int):=by rw[hyd,Int.natCast_mul]
 obtain⟨yy,hyy⟩:=E1 (py+yd);have eyy:(py:Int)+(yd:Int)=(yy:Int):=by rw[hyy];omega
 have hyl:yy<H:=by have h:=(HT.out.pl x hxl).2;omega
 obtain⟨xd,hxd⟩:=E1 (x*dx);have exd:(x:Int)*(dx:Int)=(xd:Int):=by rw[hxd,Int.natCast_mul]
 have hxxl:px+xd<W:=by have h:=(HT.out.pl x hxl).1;omega
 obtain⟨yw,hyw⟩:=E1 (yy*W);have eyw:(yy:Int)*(W:Int)=(yw:Int):=by rw[hyw,Int.natCast_mul]
 obtain⟨a1,ha1⟩:=E1 (yw+px);have ea1:(yw:Int)+(px:Int)=(a1:Int):=by rw[ha1];omega
 obtain⟨a2,ha2⟩:=E1 (a1+xd);have ea2:(a1:Int)+(xd:Int)=(a2:Int):=by rw[ha2];omega
 obtain⟨k,hk⟩:=E1 (S*a2);have ek:(S:Int)*(a2:Int)=(k:Int):=by rw[hk,Int.natCast_mul]
 obtain⟨k1,hk1⟩:=E1 (k+S);have ek1:(k:Int)+(S:Int)=(k1:Int):=by omega
 have hroom:k1≤nV:=by
  have h:=zq hxxl hyl HT.out.nvE;rw[hk1,hk,ha2,ha1,hyw];rw[←Nat.add_assoc]at h;exact h
 have hn8:nV≤16384:=by
  have h1:=HT.out.nvE;have h3:S*(W*H)≤4*4096:=Nat.mul_le_mul s4 HT.out.ww.2.2;omega
 have vyd:=af (show yd<1000000000000000 by have:=HT.out.ww.2.1;omega);have vyy:=af (show yy<1000000000000000 by have:=HT.out.ww.2.1;omega);have vxd:=af (show xd<1000000000000000 by omega);have vyw:IntKind.i64.wrap (yw:Int)=(yw:Int):=af (by
  have h3:yy*W≤1024*1024:=Nat.mul_le_mul (by have:=HT.out.ww.2.1;omega) ww;omega)
 have va1:=af (show a1<1000000000000000 by
  have h3:yy*W≤1024*1024:=Nat.mul_le_mul (by have:=HT.out.ww.2.1;omega) ww;omega)
 have va2:=af (show a2<1000000000000000 by
  have h3:yy*W≤1024*1024:=Nat.mul_le_mul (by have:=HT.out.ww.2.1;omega) ww;omega)
 have vk:=af (show k<1000000000000000 by omega);have vk1:=af (show k1<1000000000000000 by omega);obtain⟨g,o,hA,hpart⟩:=(HT.out.num.but HS.out.but).part (lo:=k) (k:=S) (by omega) (by omega);subst hA;have HPART:Hid (Nums wr (some ⟨g,o+k,none⟩) S (dp SS V (j.x+x*j.dx) j.y)):=qhz (by
  rw[Io (by rw[HT.out.sE,HT.out.ssw,HT.out.jj.2.2.2,HT.out.jj.2.1,HT.out.jj.2.2.1,HT.out.num.1];have h:=zq hxxl hyl HT.out.nvE;rw[hyy,hyd,hxd]at h;exact h),HT.out.sE,HT.out.ssw,HT.out.jj.2.2.2,HT.out.jj.2.1,HT.out.jj.2.2.1];have e:S*((py+y*dy)*W+(px+x*dx))=k:=by rw[hk,ha2,ha1,hyw,hyy,hyd,hxd,Nat.add_assoc]
  rw[e];exact hpart)
 have ks:∀v,(Instr.slice 36 (.slice (some ⟨g,o,none⟩) nV cV) (some (.int .i64 (k:Int))) (some (.int .i64 (k1:Int))) none).run prog v=.ok (.slice (some ⟨g,o+k,none⟩) S (cV-k)) v:=fun v=>by
  have h:=yU v g o nV cV k k1 (by omega) (by omega);rw[show k1-k=S by omega]at h;exact h
 have hrl:(sC SS V j x).length≤4096:=by
  rw[kT,HT.out.sE];have h3:S*x≤4*1024:=Nat.mul_le_mul s4 (by omega);exact h3
 have HRL:=qhz hrl;have HRE:=qhz HS.out.rlE;have i1:(x:Int)<(Wp:Int):=by omega
 have HSI:=qhz s1;clear hyd hyy hxd hyw ha1 ha2 hk hk1 hroom hpart hx hrl hxxl hyl
 go_wp2_with (at_builtin;refine qP (w0:=wb) _ rfl (Operand.tmp 70) (Operand.tmp 76) rfl (.slice RA rl rc) (sC SS V j x) (by kernel_rfl) HS.out.own HS.out.but (g:=g) (o2:=o+k) (m:=S) (c:=cV-k) (by kernel_rfl) HPART.out (by have:=HSI.out;omega) (by have:=HRL.out;omega) ?_)
 intro A9 c9 w9 HO9 HB9;have HE9:Hid ((sC SS V j x).length+S=(sC SS V j (x+1)).length):=qhz (by rw[kT,kT,HT.out.sE,Nat.mul_add,Nat.mul_one]);rw[←FA]at HO9;go_wp2;refine⟨?_,?_⟩
 ·unfold KIX;exact⟨_,_,_,_,_,_,_,_,_,_,_,_,_,_,_,_,_,_,_,_,_,_,_,_,_,_,_,_,_,_,_,_,_,_,_,x+1,A9,_,c9,⟨by omega,HE9.out,HO9.out,HB9.out⟩,rfl⟩
 ·show Wp-(intOf (.int .i64 ((x:Int)+1))).toNat<Wp-(intOf (.int .i64 (x:Int))).toNat;simp[intOf];omega
theorem Kf{act:Act}(hT:SkX wb b3 b12 nV cV S y W H D C px py dx dy Wp Hp l A1 V SS j)(hexit:∀act w1,KXX wb b3 b12 nV cV S y Wp A1 V SS j c0 c2 c4 c5 c6 c7 c9 c10 c11 c13 c18 c19 c20 c21 c22 c23 c24 c25 c26 c27 c28 c29 c30 c31 c32 c33 c34 c35 c36 c37 c38 c39 c40 c41 c42 c43 c78 c79 c80 c81 c82 c83 c84 c85 c86 c87 c88 c89 c90 c91 c92 c93 c94 c95 c96 c97 c98 c99 c100 c101 c102 c103 c104 c105 c106 c107 c108 c109 c110 c111 c112 c113 c114 c115 c116 c117 c118 c119 c120 c121 c122 c123 act w1→Q0 (.exit 4) act w1)(hI:KIX wb b3 b12 nV cV S y Wp A1 V SS j c0 c2 c4 c5 c6 c7 c9 c10 c11 c13 c18 c19 c20 c21 c22 c23 c24 c25 c26 c27 c28 c29 c30 c31 c32 c33 c34 c35 c36 c37 c38 c39 c40 c41 c42 c43 c78 c79 c80 c81 c82 c83 c84 c85 c86 c87 c88 c89 c90 c91 c92 c93 c94 c95 c96 c97 c98 c99 c100 c101 c102 c103 c104 c105 c106 c107 c108 c109 c110 c111 c112 c113 c114 c115 c116 c117 c118 c119 c120 c121 c122 c123 act wr):
 Code.wp prog xn (Exit.then (fun act' w1=>KIX wb b3 b12 nV cV S y Wp A1 V SS j c0 c2 c4 c5 c6 c7 c9 c10 c11 c13 c18 c19 c20 c21 c22 c23 c24 c25 c26 c27 c28 c29 c30 c31 c32 c33 c34 c35 c36 c37 c38 c39 c40 c41 c42 c43 c78 c79 c80 c81 c82 c83 c84 c85 c86 c87 c88 c89 c90 c91 c92 c93 c94 c95 c96 c97 c98 c99 c100 c101 c102 c103 c104 c105 c106 c107 c108 c109 c110 c111 c112 c113 c114 c115 c116 c117 c118 c119 c120 c121 c122 c123 act' w1∧MkX Wp act' w1<MkX Wp act wr) Q0) act wr:=by
 unfold KIX at hI;cases hI with
 |intro u17 hI=>
 cases hI with
 |intro u44 hI=>
 cases hI with
 |intro u45 hI=>
 cases hI with
 |intro u46 hI=>
 cases hI with
 |intro u47 hI=>
 cases hI with
 |intro u48 hI=>
 cases hI with
 |intro u49 hI=>
 cases hI with
 |intro u50 hI=>
 cases hI with
 |intro u51 hI=>
 cases hI with
 |intro u52 hI=>
 cases hI with
 |intro u53 hI=>
 cases hI with
 |intro u54 hI=>
 cases hI with
 |intro u55 hI=>
 cases hI with
 |intro u56 hI=>
 cases hI with
 |intro u57 hI=>
 cases hI with
 |intro u58 hI=>
 cases hI with
 |intro u59 hI=>
 cases hI with
 |intro u60 hI=>
 cases hI with
 |intro u61 hI=>
 cases hI with
 |intro u62 hI=>
 cases hI with
 |intro u63 hI=>
 cases hI with
 |intro u64 hI=>
 cases hI with
 |intro u65 hI=>
 cases hI with
 |intro u66 hI=>
 cases hI with
 |intro u67 hI=>
 cases hI with
 |intro u68 hI=>
 cases hI with
 |intro u69 hI=>
 cases hI with
 |intro u70 hI=>
 cases hI with
 |intro u71 hI=>
 cases hI with
 |intro u72 hI=>
 cases hI with
 |intro u73 hI=>
 cases hI with
 |intro u74 hI=>
 cases hI with
 |intro u75 hI=>
 cases hI with
 |intro u76 hI=>
 cases hI with
 |intro u77 hI=>
 cases hI with
 |intro x hI=>
 cases hI with
 |intro RA hI=>
 cases hI with
 |intro rl hI=>
 cases hI with
 |intro rc hI=>
 have hS:=hI.1;have he:=hI.2;subst he
 by_cases hx:x<Wp
 ·exact Rx hT hS (qhz hx)
 ·exact Qt hT hS (qhz hx) hexit
theorem D6(hT:SkX wb b3 b12 nV cV S y W H D C px py dx dy Wp Hp l A1 V SS j)(hexit:∀act w1,KXX wb b3 b12 nV cV S y Wp A1 V SS j c0 c2 c4 c5 c6 c7 c9 c10 c11 c13 c18 c19 c20 c21 c22 c23 c24 c25 c26 c27 c28 c29 c30 c31 c32 c33 c34 c35 c36 c37 c38 c39 c40 c41 c42 c43 c78 c79 c80 c81 c82 c83 c84 c85 c86 c87 c88 c89 c90 c91 c92 c93 c94 c95 c96 c97 c98 c99 c100 c101 c102 c103 c104 c105 c106 c107 c108 c109 c110 c111 c112 c113 c114 c115 c116 c117 c118 c119 c120 c121 c122 c123 act w1→Q0 (.exit 4) act w1)(hS:LkX wb Wp V SS j x RA rl rc wr):
 Code.wp prog (Code.loop xn) Q0 ⟨#[c0,.slice A1 nV cV,c2,.pointer b3,c4,c5,c6,c7,.int .i64 (S:Nat),c9,c10,c11,.pointer b12,c13,.int .i64 (y:Nat),.slice RA rl rc,.int .i64 (x:Nat),u17,c18,c19,c20,c21,c22,c23,c24,c25,c26,c27,c28,c29,c30,c31,c32,c33,c34,c35,c36,c37,c38,c39,c40,c41,c42,c43,u44,u45,u46,u47,u48,u49,u50,u51,u52,u53,u54,u55,u56,u57,u58,u59,u60,u61,u62,u63,u64,u65,u66,u67,u68,u69,u70,u71,u72,u73,u74,u75,u76,u77,c78,c79,c80,c81,c82,c83,c84,c85,c86,c87,c88,c89,c90,c91,c92,c93,c94,c95,c96,c97,c98,c99,c100,c101,c102,c103,c104,c105,c106,c107,c108,c109,c110,c111,c112,c113,c114,c115,c116,c117,c118,c119,c120,c121,c122,c123],[]⟩ wr:=by
 refine wp_loop (KIX wb b3 b12 nV cV S y Wp A1 V SS j c0 c2 c4 c5 c6 c7 c9 c10 c11 c13 c18 c19 c20 c21 c22 c23 c24 c25 c26 c27 c28 c29 c30 c31 c32 c33 c34 c35 c36 c37 c38 c39 c40 c41 c42 c43 c78 c79 c80 c81 c82 c83 c84 c85 c86 c87 c88 c89 c90 c91 c92 c93 c94 c95 c96 c97 c98 c99 c100 c101 c102 c103 c104 c105 c106 c107 c108 c109 c110 c111 c112 c113 c114 c115 c116 c117 c118 c119 c120 c121 c122 c123) (MkX Wp) ?_ (fun act w1 hI=>Kf hT hexit hI);unfold KIX;exact⟨_,_,_,_,_,_,_,_,_,_,_,_,_,_,_,_,_,_,_,_,_,_,_,_,_,_,_,_,_,_,_,_,_,_,_,x,RA,rl,rc,hS,rfl⟩
theorem Ev{act:Act}{G:Act→World→Prop}(hX:KXX wb b3 b12 nV cV S y Wp A1 V SS j c0 c2 c4 c5 c6 c7 c9 c10 c11 c13 c18 c19 c20 c21 c22 c23 c24 c25 c26 c27 c28 c29 c30 c31 c32 c33 c34 c35 c36 c37 c38 c39 c40 c41 c42 c43 c78 c79 c80 c81 c82 c83 c84 c85 c86 c87 c88 c89 c90 c91 c92 c93 c94 c95 c96 c97 c98 c99 c100 c101 c102 c103 c104 c105 c106 c107 c108 c109 c110 c111 c112 c113 c114 c115 c116 c117 c118 c119 c120 c121 c122 c123 act wr)
 (k:∀(u17 u44 u45 u46 u47 u48 u49 u50 u51 u52 u53 u54 u55 u56 u57 u58 u59 u60 u61 u62 u63 u64 u65 u66 u67 u68 u69 u70 u71 u72 u73 u74 u75 u76 u77:Value) (RA:Option Addr) (rl rc:Nat),LkX wb Wp V SS j Wp RA rl rc wr→G ⟨#[c0,.slice A1 nV cV,c2,.pointer b3,c4,c5,c6,c7,.int .i64 (S:Nat),c9,c10,c11,.pointer b12,c13,.int .i64 (y:Nat),.slice RA rl rc,.int .i64 (Wp:Nat),u17,c18,c19,c20,c21,c22,c23,c24,c25,c26,c27,c28,c29,c30,c31,c32,c33,c34,c35,c36,c37,c38,c39,c40,c41,c42,c43,u44,u45,u46,u47,u48,u49,u50,u51,u52,u53,u54,u55,u56,u57,u58,u59,u60,u61,u62,u63,u64,u65,u66,u67,u68,u69,u70,u71,u72,u73,u74,u75,u76,u77,c78,c79,c80,c81,c82,c83,c84,c85,c86,c87,c88,c89,c90,c91,c92,c93,c94,c95,c96,c97,c98,c99,c100,c101,c102,c103,c104,c105,c106,c107,c108,c109,c110,c111,c112,c113,c114,c115,c116,c117,c118,c119,c120,c121,c122,c123],[]⟩ wr):G act wr:=by
 unfold KXX at hX;cases hX with
 |intro u17 hX=>
 cases hX with
 |intro u44 hX=>
 cases hX with
 |intro u45 hX=>
 cases hX with
 |intro u46 hX=>
 cases hX with
 |intro u47 hX=>
 cases hX with
 |intro u48 hX=>
 cases hX with
 |intro u49 hX=>
 cases hX with
 |intro u50 hX=>
 cases hX with
 |intro u51 hX=>
 cases hX with
 |intro u52 hX=>
 cases hX with
 |intro u53 hX=>
 cases hX with
 |intro u54 hX=>
 cases hX with
 |intro u55 hX=>
 cases hX with
 |intro u56 hX=>
 cases hX with
 |intro u57 hX=>
 cases hX with
 |intro u58 hX=>
 cases hX with
 |intro u59 hX=>
 cases hX with
 |intro u60 hX=>
 cases hX with
 |intro u61 hX=>
 cases hX with
 |intro u62 hX=>
 cases hX with
 |intro u63 hX=>
 cases hX with
 |intro u64 hX=>
 cases hX with
 |intro u65 hX=>
 cases hX with
 |intro u66 hX=>
 cases hX with
 |intro u67 hX=>
 cases hX with
 |intro u68 hX=>
 cases hX with
 |intro u69 hX=>
 cases hX with
 |intro u70 hX=>
 cases hX with
 |intro u71 hX=>
 cases hX with
 |intro u72 hX=>
 cases hX with
 |intro u73 hX=>
 cases hX with
 |intro u74 hX=>
 cases hX with
 |intro u75 hX=>
 cases hX with
 |intro u76 hX=>
 cases hX with
 |intro u77 hX=>
 cases hX with
 |intro RA hX=>
 cases hX with
 |intro rl hX=>
 cases hX with
 |intro rc hX=>
 have he:=hX.2;subst he;exact k _ _ _ _ _ _ _ _ _ _ _ _ _ _ _ _ _ _ _ _ _ _ _ _ _ _ _ _ _ _ _ _ _ _ _ RA rl rc hX.1
end
end
end Go.Proofs.YtbanopnofpjnbaaGreatDoor
