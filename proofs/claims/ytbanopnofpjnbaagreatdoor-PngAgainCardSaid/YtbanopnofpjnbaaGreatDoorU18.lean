/- Own texts in one: LzD, LzE. -/
import Derived.Test.YtbanopnofpjnbaaGreatDoorU05
import Derived.Test.YtbanopnofpjnbaaGreatDoorU10
set_option maxRecDepth 1000000
set_option linter.unusedVariables false
set_option maxHeartbeats 4000000
namespace Go.Proofs.YtbanopnofpjnbaaGreatDoor
open Go Go.RowKit Tryz
theorem P7{l:List UInt8}{i d b:Nat}(hi:i+b<l.length)(hb:b<258)(h:l.getD (i+b) 0≠l.getD (i+b-d) 0):dN l i d≤b:=by
 refine Nat.le_of_not_lt fun hlt=>h ?_;exact so l i d 258 0 b (Nat.zero_le _) hlt
theorem Cs(w:World){s:ByteArray}{i:Nat}(hi:i<s.size)(hs:s.size≤1000000):
 Calls prog 156 #[s,i] w (R1z (qQ (lgAt s.data.toList i)) w):=by
 obtain⟨m,hm⟩:=E1 (min 258 (s.size-i));have hm1:i+m≤s.size:=by omega
 have hm2:m≤258:=by omega
 have HM:=qhz hm;have HB0:Hid (But [] w (w.alloc (.cells #[(0:Int),(0:Int),(0:Int)] 149))):=qhz ((But.refl [] w).alloc _);have HI0:Hid (Is (w.alloc (.cells #[(0:Int),(0:Int),(0:Int)] 149)) w.heap.size 149 #[(0:Int),(0:Int),(0:Int)]):=qhz (Is.fresh w _ _);obtain⟨b,hb⟩:=E1 (s.extract i (i+m));have hbs:b.size=m:=by rw[hb,ByteArray.size_extract];omega
 have HBE:=qhz hb;have hll:=bP s;have HLL:=qhz hll;clear hll hb hm
 go_enter func156,ntmps156
 go_upto_region 1 with(fail)
 go_cut [5]from 10 to 17 (fun v wx=>v=.string b∧wx=w.alloc (.cells #[(0:Int),(0:Int),(0:Int)] 149))
 case first=>
  by_cases hc:i+258≤s.size
  ·have e:m=258:=by have:=HM.out;omega
   have hsl:∀w,(Instr.slice 9 (.string s) (some (.int .i64 (i:Int))) (some (.int .i64 ((i:Int)+258))) none).run prog w=.ok (.string b) w:=fun w=>by
    rw[run_slice_string w 9 s .i64 .i64 _ _ underlying9 (by omega) (by omega) (by omega),HBE.out,e];rfl
   clear e;go_wp2
   all_goals (go_meet;exact⟨rfl,rfl⟩)
  ·have hsl:∀w,(Instr.slice 9 (.string s) (some (.int .i64 (i:Int))) (some (.int .i64 (s.size:Int))) none).run prog w=.ok (.string b) w:=fun w=>by
    rw[run_slice_string w 9 s .i64 .i64 _ _ underlying9 (by omega) (by omega) (by omega),HBE.out,show i+m=s.size by have:=HM.out;omega];rfl
   go_wp2
   all_goals (go_meet;exact⟨rfl,rfl⟩)
 case rest=>
 obtain⟨rfl,rfl⟩:=hcut
 by_cases h3:m<3
 ·go_wp2;refine bodyPost_ret (results_cell_row rfl _ _ w.heap.size _ _ _ _ rfl HI0.out underlying149 rfl (by kernel_rfl)) rfl ?_;refine⟨?_,HB0.out⟩;have hz:¬3≤(be s.data.toList i).1:=by
   have h:=Dd (l:=s.data.toList) (i:=i) (D:=min 512 i) (by rw[HLL.out];omega);rw[HLL.out,←HM.out]at h;show ¬3≤(cN s.data.toList i (min 512 i)).1;omega
  unfold lgAt;rw[if_neg hz];rfl
 ·have HB1:Hid (But [] w ((w.alloc (.cells #[(0:Int),(0:Int),(0:Int)] 149)).alloc (.cells #[(0:Int),(2:Int),(0:Int)] 149))):=qhz (HB0.out.alloc _);have HI1:Hid (Is ((w.alloc (.cells #[(0:Int),(0:Int),(0:Int)] 149)).alloc (.cells #[(0:Int),(2:Int),(0:Int)] 149)) w.heap.size 149 #[(0:Int),(0:Int),(0:Int)]):=qhz (HI0.out.alloc _);have HJ1:Hid (Is ((w.alloc (.cells #[(0:Int),(0:Int),(0:Int)] 149)).alloc (.cells #[(0:Int),(2:Int),(0:Int)] 149)) (w.heap.size+1) 149 #[(0:Int),(2:Int),(0:Int)]):=qhz (by
   have h:=Is.fresh (w.alloc (.cells #[(0:Int),(0:Int),(0:Int)] 149)) 149 #[(0:Int),(2:Int),(0:Int)];simpa using h)
  have HS0:Hid (bst s.data.toList i 0=(2,0)):=qhz (by unfold bst;rw[if_neg (by show ¬3≤(0:Nat);omega)]);obtain⟨mn,hmn⟩:=E1 (min 512 i);have HMN:=qhz hmn;have hmn5:mn≤512:=by omega
  have hmni:mn≤i:=by omega
  clear hmn;go_wp2
  go_loopw [7] (fun dv wr=>∃D:Nat,D≤mn∧dv=.int .i64 ((D:Int)+1)∧Hid (Is wr w.heap.size 149 #[(0:Int),(0:Int),(0:Int)])∧Hid (Is wr (w.heap.size+1) 149 #[(0:Int),.int .i64 (bst s.data.toList i D).1,.int .i64 (bst s.data.toList i D).2])∧Hid (But [] w wr)) (fun dv _=>600-(intOf dv).toNat)
  case atStart=>exact⟨0,Nat.zero_le _,rfl,HI1,by rw[HS0.out];exact HJ1,HB1⟩
  case round=>
   obtain⟨D,hD,rfl,hI,hJ,hB⟩:=hrel;have hbb:=Hq (l:=s.data.toList) (i:=i) (D:=D) (by rw[HLL.out];omega);have hb2:=Re (l:=s.data.toList) (i:=i) (D:=D);obtain⟨bl,hbl⟩:=E1 ((bst s.data.toList i D).1);obtain⟨bd,hbd⟩:=E1 ((bst s.data.toList i D).2);rw[←hbl,←hbd]at hJ hbb;rw[←hbl]at hb2;have HBL:=qhz hbl;have HBD:=qhz hbd;obtain⟨hb3,hb4⟩:=hbb;have c1:wr.cell? ⟨w.heap.size+1,1,none⟩=some (.int .i64 bl):=hJ.out.cell 1;have c2:wr.cell? ⟨w.heap.size+1,2,none⟩=some (.int .i64 bd):=hJ.out.cell 2;clear hbl hbd HI1 HJ1 HB1 HI0 HB0 HS0
   by_cases hcont:D+1≤mn∧bl<m
   ·obtain⟨hD1,hblm⟩:=hcont
    go_upto_region 6 with(fail)
    go_cut [33]from 23 to 33 (fun v wx=>v=.bool true∧wr=wx)
    case first=>
     rcases Nat.lt_or_ge 512 i with h5|h5
     ·have e:mn=512:=by have:=HMN.out;omega
      subst e;go_wp2
      all_goals (go_meet;exact⟨rfl,rfl⟩)
     ·have e:mn=i:=by have:=HMN.out;omega
      subst e;go_wp2
      all_goals (go_meet;exact⟨rfl,rfl⟩)
    case rest=>
    obtain⟨rfl,rfl⟩:=hcut;obtain⟨a,ha⟩:=E1 (s.extract (i-(D+1)) s.size);have hcuts:Cuts s a b i (D+1) m:=by
     rw[ha,HBE.out];exact Q6 s (by omega) (by omega)
    have has:bl<a.size:=by rw[hcuts.la];omega
    have hsl:∀w,(Instr.slice 9 (.string s) (some (.int .i64 ((i:Int)-((D:Int)+1)))) none none).run prog w=.ok (.string a) w:=fun w=>by
     rw[run_slice_string_from_if w 9 s .i64 _ underlying9,if_pos (by omega),ha,show((i:Int)-((D:Int)+1)).toNat=i-(D+1)by omega]
    have hbbs:bl<b.size:=by omega
    have e1:s.data.toList.getD (i+bl-(D+1)) 0=a[bl]:=hcuts.ga bl has;have e2:s.data.toList.getD (i+bl) 0=b[bl]:=hcuts.gb bl hbbs;have HC:=qhz hcuts;clear ha hcuts
    by_cases he:a[bl]=b[bl]
    ·have hn2:((a[bl].toNat:Int) !=(b[bl].toNat:Int))=false:=by rw[he];simp
     clear he e1 e2;go_wp2
     go_quiet (fail)
     go_wp2_with fail
     refine(Hh (wr.drewN nq) HC.out (by omega) (by omega) hi HM.out hs).mono ?_;rintro e w2 ⟨rfl,n2,rfl⟩;have hrl:=wP (l:=s.data.toList) (i:=i) (D+1) (by rw[HLL.out];omega);obtain⟨rl,hrl2⟩:=E1 (dN s.data.toList i (D+1));rw[←hrl2]at hrl⊢;have HRL:=qhz hrl2;have hrl3:rl≤258:=by omega
     clear hrl hrl2
     by_cases hgt:bl<rl
     ·have HTK:=qhz (show bst s.data.toList i (D+1)=(rl,D+1)by rw[HRL.out];exact O9 (by rw[←HBL.out,←HRL.out];exact hgt));have c0:wr.cell? ⟨w.heap.size+1,0,none⟩=some (.int .i64 0):=hJ.out.cell 0;have f0:wr.frozen? ⟨w.heap.size+1,0,none⟩=false:=hJ.out.free 0;have f1:wr.frozen? ⟨w.heap.size+1,1,none⟩=false:=hJ.out.free 1;have f2:wr.frozen? ⟨w.heap.size+1,2,none⟩=false:=hJ.out.free 2;go_wp2
      go_roundw
      case rel=>
       have hJ2:Hid (Is ((((wr.drewN (nq+n2)).setCell ⟨w.heap.size+1,0,none⟩ (.int .i64 0)).setCell ⟨w.heap.size+1,1,none⟩ (.int .i64 rl)).setCell ⟨w.heap.size+1,2,none⟩ (.int .i64 ((D:Int)+1))) (w.heap.size+1) 149 #[(0:Int),rl,((D+1:Nat):Int)]):=
        qhz ((((hJ.out.drewN (nq+n2)).put 0 (.int .i64 0)).put 1 (.int .i64 rl)).put 2 (.int .i64 ((D:Int)+1)))
       refine⟨D+1,hD1,by go_num,qhz ((((hI.out.drewN (nq+n2)).far (by simp) _).far (by simp) _).far (by simp) _),?_,qhz ((((hB.out.drewN (nq+n2)).setCell (.inr (by simp)) _).setCell (.inr (by simp)) _).setCell (.inr (by simp)) _)⟩;rw[HTK.out];exact hJ2
      case measure=>simp[intOf];omega
     ·have HSK:=qhz (show bst s.data.toList i (D+1)=bst s.data.toList i D from ym (by rw[←HBL.out,←HRL.out];omega));go_wp2
      go_roundw
      case rel=>exact⟨D+1,hD1,by go_num,qhz (hI.out.drewN (nq+n2)),by rw[HSK.out,←HBL.out,←HBD.out];exact qhz (hJ.out.drewN (nq+n2)),qhz (hB.out.drewN (nq+n2))⟩
      case measure=>simp[intOf];omega
    ·have hn2:((a[bl].toNat:Int) !=(b[bl].toNat:Int))=true:=by simpa using PU he
     have HSK:=qhz (show bst s.data.toList i (D+1)=bst s.data.toList i D from ym (by rw[←HBL.out];exact P7 (by rw[HLL.out];omega) (by omega) (by rw[e1,e2];exact fun h=>he h.symm)));clear he e1 e2;go_wp2
     go_quiet (fail)
     go_wp2
     go_roundw
     case rel=>exact⟨D+1,hD1,by go_num,qhz (hI.out.drewN nq),by rw[HSK.out,←HBL.out,←HBD.out];exact qhz (hJ.out.drewN nq),qhz (hB.out.drewN nq)⟩
     case measure=>simp[intOf];omega
   ·have HEND:=qhz (show lgAt s.data.toList i=if bd=0 then(0,0,0)else((bl:Int),(bd:Int),0) by
     rw[QE,←HMN.out];have:bst s.data.toList i mn=bst s.data.toList i D:=by
      by_cases h:D+1≤mn
      ·have:=EX (l:=s.data.toList) (i:=i) (D:=D) (by rw[HLL.out];omega) (by rw[HLL.out,←HM.out,←HBL.out];omega) (mn-D);rw[show D+(mn-D)=mn by omega]at this;exact this
      ·rw[show mn=D by omega]
     rw[this,←HBL.out,←HBD.out])
    go_upto_region 6 with(fail)
    go_cut [33]from 23 to 33 (fun v wx=>v=.bool false∧wr=wx)
    case first=>
     rcases Nat.lt_or_ge 512 i with h5|h5
     ·have e:mn=512:=by have:=HMN.out;omega
      subst e
      by_cases h6:D+1≤512
      ·have h7:¬bl<m:=fun h=>hcont ⟨h6,h⟩;go_wp2
       all_goals (go_meet;exact⟨rfl,rfl⟩)
      ·go_wp2
       all_goals (go_meet;exact⟨rfl,rfl⟩)
     ·have e:mn=i:=by have:=HMN.out;omega
      subst e
      by_cases h6:D+1≤mn
      ·have h7:¬bl<m:=fun h=>hcont ⟨h6,h⟩;go_wp2
       all_goals (go_meet;exact⟨rfl,rfl⟩)
      ·go_wp2
       all_goals (go_meet;exact⟨rfl,rfl⟩)
    case rest=>
    obtain⟨rfl,rfl⟩:=hcut
    by_cases hz:bd=0
    ·have hz':((bd:Int)==0)=true:=by subst hz;rfl
     have HE2:=qhz (show lgAt s.data.toList i=(0,0,0)by rw[HEND.out,if_pos hz]);clear hz;have g0:wr.cell? ⟨w.heap.size,0,none⟩=some (.int .i64 0):=hI.out.cell 0;have g1:wr.cell? ⟨w.heap.size,1,none⟩=some (.int .i64 0):=hI.out.cell 1;have g2:wr.cell? ⟨w.heap.size,2,none⟩=some (.int .i64 0):=hI.out.cell 2;have f0:wr.frozen? ⟨w.heap.size,0,none⟩=false:=hI.out.free 0;have f1:wr.frozen? ⟨w.heap.size,1,none⟩=false:=hI.out.free 1;have f2:wr.frozen? ⟨w.heap.size,2,none⟩=false:=hI.out.free 2;go_wp2
     (try simp only[Exit.inBlock,Exit.then])
     refine bodyPost_ret (results_cell_row rfl _ _ w.heap.size _ _ _ _ rfl (((hI.out.put 0 (.int .i64 0)).put 1 (.int .i64 0)).put 2 (.int .i64 0)) underlying149 rfl (by kernel_rfl)) rfl ?_;exact⟨by rw[HE2.out];rfl,((hB.out.setCell (.inr (by simp)) _).setCell (.inr (by simp)) _).setCell (.inr (by simp)) _⟩
    ·have hz':((bd:Int)==0)=false:=by simp;omega
     have HE2:=qhz (show lgAt s.data.toList i=((bl:Int),(bd:Int),0)by rw[HEND.out,if_neg hz]);clear hz;have c0:wr.cell? ⟨w.heap.size+1,0,none⟩=some (.int .i64 0):=hJ.out.cell 0;have g0:wr.cell? ⟨w.heap.size,0,none⟩=some (.int .i64 0):=hI.out.cell 0;have g1:wr.cell? ⟨w.heap.size,1,none⟩=some (.int .i64 0):=hI.out.cell 1;have g2:wr.cell? ⟨w.heap.size,2,none⟩=some (.int .i64 0):=hI.out.cell 2;have f0:wr.frozen? ⟨w.heap.size,0,none⟩=false:=hI.out.free 0;have f1:wr.frozen? ⟨w.heap.size,1,none⟩=false:=hI.out.free 1;have f2:wr.frozen? ⟨w.heap.size,2,none⟩=false:=hI.out.free 2;go_wp2
     (try simp only[Exit.inBlock,Exit.then])
     refine bodyPost_ret (results_cell_row rfl _ _ w.heap.size _ _ _ _ rfl (((hI.out.put 0 (.int .i64 0)).put 1 (.int .i64 bl)).put 2 (.int .i64 bd)) underlying149 rfl (by kernel_rfl)) rfl ?_;exact⟨by rw[HE2.out];rfl,((hB.out.setCell (.inr (by simp)) _).setCell (.inr (by simp)) _).setCell (.inr (by simp)) _⟩
theorem OwnK.pushed{w wr w':World}{v v':Value}{L:List T3}{x:T3}{cs:Array Value}{t:TypeId}(hB:But [] w wr)(hO:OwnK wr w.heap.size v L)
 (h1:w'.ownsRow w.heap.size 149 3 v' (L.length+1) (dC L++[.int .i64 x.2.2,.int .i64 x.1,.int .i64 x.2.1])) (hg:(wr.alloc (.cells cs t)).grownBy w' v.ownBlock):
 OwnK w' w.heap.size v' (L++[x])∧But [] w w':=by
 refine⟨?_,(hB.alloc _).grown hg (fun g e=>.inr (hO.lt g e).1)⟩;unfold OwnK;rw[List.length_append,ur];simpa[dC]using h1
def GotK(w:World)(L:List T3)(e:Ending)(w':World):Prop:=∃v,e=.returned v∧OwnK w' w.heap.size v L∧But [] w w'
theorem rP{l:List UInt8}{i:Nat}(hi:i<l.length)(h:3≤(be l i).1):(eE l (l.length-i) i).map tkI=(((be l i).1:Int),((be l i).2:Int),(0:Int))::(eE l (l.length-(i+(be l i).1)) (i+(be l i).1)).map tkI:=by
 obtain⟨f,hf⟩:∃f,l.length-i=f+1:=⟨l.length-i-1,by omega⟩
 rw[hf,eE,if_pos hi,if_pos h,List.map_cons,lJ l (l.length-(i+(be l i).1)) f _ (by omega) (by omega)];rfl
theorem rQ{l:List UInt8}{i:Nat}(hi:i<l.length)(h:¬3≤(be l i).1):(eE l (l.length-i) i).map tkI=((0:Int),(0:Int),((l.getD i 0).toNat:Int))::(eE l (l.length-(i+1)) (i+1)).map tkI:=by
 obtain⟨f,hf⟩:∃f,l.length-i=f+1:=⟨l.length-i-1,by omega⟩
 rw[hf,eE,if_pos hi,if_neg h,List.map_cons,lJ l (l.length-(i+1)) f _ (by omega) (by omega)];rfl
theorem rR{l:List UInt8}{i:Nat}(hi:¬i<l.length):(eE l (l.length-i) i).map tkI=[]:=by
 rw[show l.length-i=0 by omega];rfl
theorem Fb(w:World){s:ByteArray}(hs:s.size≤1000000):
 Calls prog 112 #[s] w (GotK w ((toks s.data.toList).map tkI)):=by
 obtain⟨i0,hi0,hz0,hz1,hz2⟩:=info_parts Ey;have he:=PW;have HLL:=qhz (bP s)
 go_enter func112,ntmps112
 go_wp2
 go_step3
 go_wp2
 go_step3
 go_wp2
 go_loopw [3,4] (fun tv av wr=>∃(i:Nat) (L:List T3),i≤s.size∧av=.int .i64 i∧L.length≤i∧Hid (L++(eE s.data.toList (s.data.toList.length-i) i).map tkI=(toks s.data.toList).map tkI)∧Hid (OwnK wr w.heap.size tv L)∧Hid (But [] w wr)) (fun _ av _=>s.size-(intOf av).toNat)
 case atStart=>exact⟨0,[],Nat.zero_le _,rfl,Nat.le_refl _,qhz rfl,qhz (OwnK.nil _ _),qhz (But.refl _ _)⟩
 case round=>
  obtain⟨i,L,hi,rfl,hL,HM,HO,HB⟩:=hrel;have hsz:=HB.out.size
  by_cases hlt:i<s.size
  ·go_wp2_with fail
   refine(Cs wr hlt hs).mono ?_;rintro e w1 ⟨rfl,hB1⟩;have HB1:=qhz (HB.out.freshZ hB1 (by simp));have HO1:=qhz (HO.out.but hB1);have hsz1:=HB1.out.size;clear hB1
   by_cases h3:3≤(be s.data.toList i).1
   ·have HST:=qhz (rP (l:=s.data.toList) (i:=i) (by rw[HLL.out];exact hlt) h3);obtain⟨b1,b2,b3,b4,b5,b6⟩:=g7 (l:=s.data.toList) (i:=i) (by rw[HLL.out];exact hlt) h3;have hlg:lgAt s.data.toList i=(((be s.data.toList i).1:Int),((be s.data.toList i).2:Int),(0:Int)):=by unfold lgAt;rw[if_pos h3]
    rw[hlg];rw[HLL.out]at b5;generalize(be s.data.toList i).1=n at*;generalize(be s.data.toList i).2=d at*;clear hlg b6;unfold qQ;have hd0:decide ((0:Int)=0∧(n:Int)=0∧(d:Int)=0)=false:=by simp;omega
    have hd1:decide ((n:Int)=0∧(d:Int)=0)=false:=by simp;omega
    have HB2:=qhz (HB1.out.alloc (.cells #[(0:Int),n,d] 149));have HO2:Hid (OwnK (w1.alloc (.cells #[(0:Int),n,d] 149)) w.heap.size u3 L):=qhz (HO1.out.but ((But.refl [] w1).alloc _));have HI2:Hid (Is (w1.alloc (.cells #[(0:Int),n,d] 149)) w1.heap.size 149 #[(0:Int),n,d]):=qhz (Is.fresh w1 _ _)
    go_wp2_with (at_builtin;refine wpList_append_own _ rfl _ _ 136 rfl w.heap.size 149 i0 (.agg #[(0:Int),(0:Int),(0:Int)]) 3 24 underlying136 hi0 hz0 hz1 hz2 rfl (by decide) _ L.length (dC L) rfl (World.ownsRow.alloc HO2.out _) ⟨w1.heap.size+1,0,none⟩ 1 1 [.int .i64 0,.int .i64 n,.int .i64 d] rfl rfl ?c1 ?c2 ?c3 ?c4 ?c5 ?_)
    case c1=>exact World.news_of_block (cs:=#[.int .i64 0,.int .i64 n,.int .i64 d]) (t:=149) (fr:=(0,0)) (heap_alloc2_new w1 _ _)
    case c2=>simp[Value.oneCell']
    case c3=>unfold maxLen;omega
    case c4=>omega
    case c5=>simp;omega
    intro v' w2 hown2 hgrow2 _;have hP:=OwnK.pushed (x:=((n:Int),(d:Int),(0:Int))) HB2.out HO2.out hown2 hgrow2;have HP:=qhz hP;have hI3:Is w2 w1.heap.size 149 #[(0:Int),n,d]:=(HI2.out.alloc _).grown hgrow2 (by
     intro e;have:=(HO1.out.lt _ e.symm).2;omega)
    have c1:w2.cell? ⟨w1.heap.size,1,none⟩=some (.int .i64 n):=hI3.cell 1;clear hown2 hgrow2 hP hI3;go_wp2
    go_roundw
    case rel=>exact⟨i+n,L++[((n:Int),(d:Int),(0:Int))],by omega,by go_num,by rw[List.length_append,List.length_singleton];omega,qhz (by rw[←HM.out,HST.out,List.append_assoc];rfl),qhz HP.out.1,qhz HP.out.2⟩
    case measure=>simp[intOf];omega
   ·have HST:=qhz (rQ (l:=s.data.toList) (i:=i) (by rw[HLL.out];exact hlt) h3);have hlg:lgAt s.data.toList i=((0:Int),(0:Int),(0:Int)):=by unfold lgAt;rw[if_neg h3]
    have HBA:=qhz (gw s hlt);have hwr:wrap64 (s[i].toNat:Int)=(s[i].toNat:Int):=by have:=s[i].toNat_lt;unfold wrap64;omega
    rw[hlg];unfold qQ;have hd0:decide ((0:Int)=0∧(0:Int)=0∧(0:Int)=0)=true:=by simp
    have hi1:(0:Int)≤(i:Int):=by omega
    clear hlg h3;have HB2:=qhz (HB1.out.alloc (.cells #[(0:Int),(0:Int),(0:Int)] 149));have HO2:Hid (OwnK (w1.alloc (.cells #[(0:Int),(0:Int),(0:Int)] 149)) w.heap.size u3 L):=qhz (HO1.out.but ((But.refl [] w1).alloc _))
    go_wp2_with (at_builtin;refine wpList_append_own _ rfl _ _ 136 rfl w.heap.size 149 i0 (.agg #[(0:Int),(0:Int),(0:Int)]) 3 24 underlying136 hi0 hz0 hz1 hz2 rfl (by decide) _ L.length (dC L) rfl (World.ownsRow.alloc HO2.out _) ⟨w1.heap.size+1,0,none⟩ 1 1 [.int .i64 s[i].toNat,.int .i64 0,.int .i64 0] rfl rfl ?d1 ?d2 ?d3 ?d4 ?d5 ?_)
    case d1=>exact World.news_of_block (cs:=#[.int .i64 s[i].toNat,.int .i64 0,.int .i64 0]) (t:=149) (fr:=(0,0)) (heap_alloc2_new w1 _ _)
    case d2=>simp[Value.oneCell']
    case d3=>unfold maxLen;omega
    case d4=>omega
    case d5=>simp;omega
    intro v' w2 hown2 hgrow2 _;have hP:=OwnK.pushed (x:=((0:Int),(0:Int),(s[i].toNat:Int))) HB2.out HO2.out hown2 hgrow2;have HP:=qhz hP;clear hown2 hgrow2 hP;go_wp2
    go_roundw
    case rel=>exact⟨i+1,L++[((0:Int),(0:Int),(s[i].toNat:Int))],by omega,by go_num,by rw[List.length_append,List.length_singleton];omega,qhz (by rw[←HM.out,HST.out,HBA.out,List.append_assoc];rfl),qhz HP.out.1,qhz HP.out.2⟩
    case measure=>simp[intOf];omega
  ·go_wp2
   (try rw[Exit.noGoto_ret])
   go_ret;have e:i=s.size:=by omega
   refine⟨_,rfl,?_,HB.out⟩;have h:=HM.out;rw[rR (by rw[HLL.out];exact hlt),List.append_nil]at h;rw[←h];exact HO.out
end Go.Proofs.YtbanopnofpjnbaaGreatDoor
