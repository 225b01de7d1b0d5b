/- Own texts in one: PiN, HdA, PxA, RfM, ThingM, Things, LawI. -/
import Derived.Test.YtbanopnofpjnbaaGreatDoorU12
import Derived.Test.YtbanopnofpjnbaaGreatDoorU51
set_option maxRecDepth 1000000
set_option linter.unusedVariables false
set_option maxHeartbeats 4000000
namespace Go.Proofs.YtbanopnofpjnbaaGreatDoor
open Go Go.RowKit Tryz
theorem ny(pix:List UInt8):(ck pix).length=pix.length/2:=by unfold ck;rw[List.length_map,List.length_range]
theorem qH(w:World)(c:Int):Calls prog 16 #[c] w fun e w'=>e=.returned (.int .i64 (aW c))∧w=w':=by
 obtain⟨r,hr⟩:=E1 (aW c);rw[←hr];have HR:=qhz hr;clear hr
 go_enter func16,ntmps16
 go_wp2
 all_goals
  go_ret;refine⟨?_,rfl⟩;rw[HR.out];unfold aW;clear HR;simp at *
  try simp[*]
theorem EC(w:World)(a b d c l:Int):Calls prog 15 #[.agg #[a,b,d,c,l]] w (R1z (.int .i64 (ak a b d c l)) w):=by
 obtain⟨r,hr⟩:=E1 (ak a b d c l);rw[←hr];have HR:=qhz hr;have hI:=Is.fresh w 33 #[a,b,d,c,l];have HB:=qhz ((But.refl [] w).alloc (.cells #[a,b,d,c,l] 33));have HI:=qhz hI;clear hr hI
 go_enter func15,ntmps15
 go_upto_region 2 with(fail)
 go_cut [4] (fun v wx=>v=.bool (decide (d=1∨d=2∨d=4))∧Hid (But [] w wx)∧Hid (Is wx w.heap.size 33 #[a,b,d,c,l]))
 case first=>
  have p1:(d=1)=True∨(d=1)=False:=by by_cases h:d=1<;>simp[h]
  have p2:(d=2)=True∨(d=2)=False:=by by_cases h:d=2<;>simp[h]
  have p4:(d=4)=True∨(d=4)=False:=by by_cases h:d=4<;>simp[h]
  rcases p1 with p1|p1
  ·go_wp2
   go_meet
   exact⟨by simp[p1],HB,HI⟩
  rcases p2 with p2|p2
  ·go_wp2
   go_meet
   exact⟨by simp[p2],HB,HI⟩
  rcases p4 with p4|p4
  ·go_wp2
   go_meet
   exact⟨by simp[p4],HB,HI⟩
  ·go_wp2
   go_meet
   exact⟨by simp[p1,p2,p4],HB,HI⟩
 case rest=>
 obtain⟨hv,HB1,HI⟩:=hcut;obtain⟨sm,hs⟩:=E1 (decide (d=1∨d=2∨d=4));rw[←hs]at hv;subst hv;have HS:=qhz hs;clear hs HB;obtain⟨w1,rfl⟩:=E1 (wc:World);have q0:w1.cell? ⟨w.heap.size,0,none⟩=some (.int .i64 a):=HI.out.cell 0;have q1:w1.cell? ⟨w.heap.size,1,none⟩=some (.int .i64 b):=HI.out.cell 1;have q3:w1.cell? ⟨w.heap.size,3,none⟩=some (.int .i64 c):=HI.out.cell 3;have q4:w1.cell? ⟨w.heap.size,4,none⟩=some (.int .i64 l):=HI.out.cell 4
 go_upto_block 0 with(fail)
 go_cut [5] (fun v wx=>v=.bool (bD d c)∧wx=w1)
 case first=>
  have P:∀x y:Int,((x=y)=True∧(x==y)=true)∨((x=y)=False∧(x==y)=false):=fun x y=>by by_cases h:x=y<;>simp[h]
  have PP:=qhz P;have p8:=P d 8;have p16:=P d 16;clear P;have hg:bD d c=decide (c=0∧(decide (d=1∨d=2∨d=4)=true∨d=8∨d=16)∨c=3∧(decide (d=1∨d=2∨d=4)=true∨d=8)∨(c=2∨c=4∨c=6)∧(d=8∨d=16)):=by
   unfold bD;simp only[decide_eq_true_eq];exact decide_eq_decide.mpr (by simp only[or_assoc])
  rw[←HS.out]at hg;have HG:=qhz hg;clear hg;rcases PP.out c 0 with⟨p0,r0⟩|⟨p0,r0⟩
  ·rcases p8 with⟨p8,r8⟩|⟨p8,r8⟩<;>rcases p16 with⟨p16,r16⟩|⟨p16,r16⟩<;>cases sm
   all_goals
    go_wp2
    go_meet
    refine⟨?_,rfl⟩;rw[HG.out];simp[p0,p8,p16]
  rcases PP.out c 3 with⟨p3,r3⟩|⟨p3,r3⟩
  ·rcases p8 with⟨p8,r8⟩|⟨p8,r8⟩<;>cases sm
   all_goals
    go_wp2
    go_meet
    refine⟨?_,rfl⟩;rw[HG.out];simp[p0,p3,p8]
    try (have e3:c=3:=of_eq_true p3;omega)
  rcases PP.out c 2 with⟨p2,r2⟩|⟨p2,r2⟩
  ·rcases p8 with⟨p8,r8⟩|⟨p8,r8⟩<;>rcases p16 with⟨p16,r16⟩|⟨p16,r16⟩
   all_goals
    go_wp2
    go_meet
    refine⟨?_,rfl⟩;rw[HG.out];simp[p0,p3,p2,p8,p16]
  rcases PP.out c 4 with⟨p4,r4⟩|⟨p4,r4⟩
  ·rcases p8 with⟨p8,r8⟩|⟨p8,r8⟩<;>rcases p16 with⟨p16,r16⟩|⟨p16,r16⟩
   all_goals
    go_wp2
    go_meet
    refine⟨?_,rfl⟩;rw[HG.out];simp[p0,p3,p2,p4,p8,p16]
  rcases PP.out c 6 with⟨p6,r6⟩|⟨p6,r6⟩
  ·rcases p8 with⟨p8,r8⟩|⟨p8,r8⟩<;>rcases p16 with⟨p16,r16⟩|⟨p16,r16⟩
   all_goals
    go_wp2
    go_meet
    refine⟨?_,rfl⟩;rw[HG.out];simp[p0,p3,p2,p4,p6,p8,p16]
  ·go_wp2
   go_meet
   refine⟨?_,rfl⟩;rw[HG.out];simp[p0,p3,p2,p4,p6]
 case rest=>
 obtain⟨hv,rfl⟩:=hcut;obtain⟨g,hg⟩:=E1 (bD d c);rw[←hg]at hv;subst hv;have HG:=qhz hg;clear hg
 go_upto_region 13 with(fail)
 go_cut [79] (fun v wx=>v=.bool (decide (a<1∨2147483647<a∨b<1∨2147483647<b∨g=false∨(l≠0∧l≠1)))∧wx=wc)
 case first=>
  have p0:(l=0)=True∨(l=0)=False:=by by_cases h:l=0<;>simp[h]
  have p1:(l=1)=True∨(l=1)=False:=by by_cases h:l=1<;>simp[h]
  by_cases h1:a<1
  ·go_wp2
   go_meet
   exact⟨by simp[h1],rfl⟩
  by_cases h2:2147483647<a
  ·go_wp2
   go_meet
   exact⟨by simp[h2],rfl⟩
  by_cases h3:b<1
  ·go_wp2
   go_meet
   exact⟨by simp[h3],rfl⟩
  by_cases h4:2147483647<b
  ·go_wp2
   go_meet
   exact⟨by simp[h4],rfl⟩
  cases g
  ·go_wp2
   go_meet
   exact⟨by simp,rfl⟩
  rcases p0 with p0|p0
  ·go_wp2
   go_meet
   exact⟨congrArg Value.bool (decide_eq_false (by have e0:l=0:=of_eq_true p0;simp;omega)).symm,rfl⟩
  rcases p1 with p1|p1
  ·go_wp2
   go_meet
   exact⟨congrArg Value.bool (Eq.trans (show(l !=0&&l !=1)=false by have e1:l=1:=of_eq_true p1;rw[e1];rfl) (decide_eq_false (by have e1:l=1:=of_eq_true p1;intro h;rcases h with h|h|h|h|h|h;all_goals first|omega|cases h)).symm),rfl⟩
  ·go_wp2
   go_meet
   exact⟨by simp[p0,p1],rfl⟩
 case rest=>
 obtain⟨hv,rfl⟩:=hcut
 by_cases hb:a<1∨2147483647<a∨b<1∨2147483647<b∨g=false∨(l≠0∧l≠1)
 ·rw[decide_eq_true hb]at hv;subst hv;have HBAD:=qhz hb;clear hb;go_wp2;go_ret;refine⟨?_,HB1.out⟩;rw[HR.out];unfold ak;rw[if_pos (by rw[←HG.out];exact HBAD.out)];rfl
 ·rw[decide_eq_false hb]at hv;subst hv;have HBAD:=qhz hb;have a1:1≤a:=by omega
  have b1:1≤b:=by omega
  have HRE:Hid (r=if 1024<a∨1024<b∨4096<a*b then 5 else 0):=qhz (by
   rw[HR.out];unfold ak;rw[if_neg (by rw[←HG.out];exact HBAD.out)])
  clear hb HR
  by_cases h1:1024<a
  ·go_wp2;go_ret;exact⟨by rw[HRE.out,if_pos (Or.inl h1)];rfl,HB1.out⟩
  by_cases h2:1024<b
  ·go_wp2;go_ret;exact⟨by rw[HRE.out,if_pos (Or.inr (Or.inl h2))];rfl,HB1.out⟩
  obtain⟨m,hm⟩:=E1 (a*b);have m1:0≤m:=by rw[hm];exact Int.mul_nonneg (by omega) (by omega)
  have m2:m≤1048576:=by rw[hm];exact Int.le_trans (Int.mul_le_mul (by omega:a≤1024) (by omega:b≤1024) (by omega) (by omega)) (by omega)
  have hm':=hm.symm;have HM:=qhz hm;clear hm
  by_cases h3:4096<m
  ·go_wp2;go_ret;exact⟨by rw[HRE.out,if_pos (Or.inr (Or.inr (by rw[←HM.out];exact h3)))];rfl,HB1.out⟩
  ·go_wp2;go_ret;exact⟨by rw[HRE.out,if_neg (by rw[←HM.out];omega)];rfl,HB1.out⟩
theorem GW(w:World){a b c l:Int}{D S:Nat}(hs:aW c=(S:Int))(hD:D≤16)(hS:S≤4):
 Calls prog 41 #[.agg #[a,b,D,c,l]] w (R1z (.int .i64 (max 1 (D*S/8):Nat)) w):=by
 have HB:=qhz ((But.refl [] w).alloc (.cells #[a,b,D,c,l] 33));have hI:=Is.fresh w 33 #[a,b,D,c,l];have c2:=hI.cell 2;have c3:=hI.cell 3;obtain⟨p,hp⟩:=E1 (D*S);have hpl:p≤64:=by rw[hp];show _≤16*4;exact Nat.mul_le_mul hD hS
 have e0:(D:Int)*(S:Int)=(p:Int):=by rw[hp,Int.natCast_mul]
 obtain⟨q,hq⟩:=E1 (p/8);have e1:(p:Int).tdiv 8=(q:Int):=by rw[Int.tdiv_eq_ediv_of_nonneg (by omega)];omega
 have e2:(p:Int)/8=(q:Int):=by omega
 have t1:=af (show p<1000000000000000 by omega);have t2:=af (show q<1000000000000000 by omega);have HS:Hid (∀W,Calls prog 16 #[c] W fun e w'=>e=.returned (.int .i64 (S:Nat))∧w'=W):=qhz fun W=>(qH W c).mono fun _ _ ⟨h1,h2⟩=>⟨by rw[h1,hs],h2.symm⟩
 rw[←hp,←hq];obtain⟨m,hm⟩:=E1 (max 1 q);rw[←hm];clear hp hq hI hs
 by_cases h0:q=0
 ·obtain rfl:1=m:=by omega
  subst h0;clear hm
  go_enter func41,ntmps41
  go_upto_region 1 with(fail)
  go_quiet ((go_at_call 16;exact Calls.quiet_of_same (HS.out _)))
  go_wp2;go_ret;exact⟨rfl,HB.out.drewN _⟩
 ·obtain rfl:q=m:=by omega
  clear hm
  go_enter func41,ntmps41
  go_upto_region 1 with(fail)
  go_quiet ((go_at_call 16;exact Calls.quiet_of_same (HS.out _)))
  all_goals go_wp2
  all_goals go_ret
  all_goals refine⟨?_,HB.out.drewN _⟩
  all_goals first|rfl|((have e:(q:Int)=1:=by omega);rw[e];rfl)
theorem GV(w:World){a b:Int}{pix:ByteArray}(hp:pix.size≤140737488351232):
 Calls prog 73 #[.agg #[a,b,pix]] w (R1z (.int .i64 (aA a b pix)) w):=by
 have HB:=qhz ((But.refl [] w).alloc (.cells #[a,b,pix] 23));have hI:=Is.fresh w 23 #[a,b,pix];obtain⟨r,hr⟩:=E1 (ak a b 16 6 0);have HE:Hid (∀W,Calls prog 15 #[.agg #[a,b,(16:Int),(6:Int),(0:Int)]] W (R1z (.int .i64 r) W)):=qhz fun W=>by rw[hr];exact EC W a b 16 6 0
 have HC:Hid (∀v,But [] (w.alloc (.cells #[a,b,pix] 23)) v→v.cell? ⟨w.heap.size,0,none⟩=some (.int .i64 a)∧v.cell? ⟨w.heap.size,1,none⟩=some (.int .i64 b)∧v.cell? ⟨w.heap.size,2,none⟩=some (.string pix)∧w.heap.size<v.heap.size):=qhz fun v hv=>by
  have hh:=hI.but hv (by simp);exact⟨hh.cell 0,hh.cell 1,hh.cell 2,hh.lt⟩
 obtain⟨c0,c1,c2,hgl⟩:=HC.out _ (But.refl [] _)
 by_cases h0:r=0
 ·have hright:=hr.symm.trans h0;obtain⟨W,H,D,C,R⟩:=dA hright;obtain⟨x,hx⟩:∃x,x=8*(W*H):=⟨_,rfl⟩
  have hxl:x≤32768:=by have:=R.area;omega
  obtain⟨y,hy⟩:∃y,y=8*W:=⟨_,rfl⟩
  have e1:8*a=(y:Int):=by rw[R.wa,hy];omega
  have e2:(y:Int)*b=(x:Int):=by
   rw[R.hb,hy,hx,←Int.natCast_mul,Nat.mul_assoc]
  have e3:8*a*b=(x:Int):=by rw[e1,e2]
  have t1:=af (show y<1000000000000000 by have:=R.w2;omega);have t2:=af (show x<1000000000000000 by omega);subst h0
  by_cases hs:pix.size=x
  ·have HR:Hid (aA a b pix=0):=qhz (by unfold aA;rw[if_neg (by rw[←hr];decide),e3,if_neg (by rw[hs];exact fun h=>h rfl)]);rw[HR.out];have q1:((x:Int) !=(x:Int))=false:=by simp
   clear hI hr hright R hx hy e3
   go_enter func73,ntmps73
   go_wp2_with fail
   refine(HE.out _).mono ?_;rintro e w1 ⟨rfl,hB⟩;have HB1:=qhz hB;clear hB c0 c1 c2 hgl;obtain⟨c0,c1,c2,hgl⟩:=HC.out _ HB1.out;go_wp2;go_ret;exact⟨rfl,HB.out.trans HB1.out⟩
  ·have HR:Hid (aA a b pix=24):=qhz (by unfold aA;rw[if_neg (by rw[←hr];decide),e3,if_pos (by omega)]);rw[HR.out];have q1:((pix.size:Int) !=(x:Int))=true:=by simp;omega
   have q2:¬(pix.size:Int)=(x:Int):=by omega
   clear hI hr hright R hx hy e3
   go_enter func73,ntmps73
   go_wp2_with fail
   refine(HE.out _).mono ?_;rintro e w1 ⟨rfl,hB⟩;have HB1:=qhz hB;clear hB c0 c1 c2 hgl;obtain⟨c0,c1,c2,hgl⟩:=HC.out _ HB1.out;go_wp2;go_ret;exact⟨rfl,HB.out.trans HB1.out⟩
 ·have HR:Hid (aA a b pix=r):=qhz (by unfold aA;rw[←hr,if_pos h0]);rw[HR.out];have q1:(r !=0)=true:=by simpa using h0
  clear hI hr
  go_enter func73,ntmps73
  go_wp2_with fail
  refine(HE.out _).mono ?_;rintro e w1 ⟨rfl,hB⟩;have HB1:=qhz hB;clear hB;go_wp2;go_ret;exact⟨rfl,HB.out.trans HB1.out⟩
def NewRT(lo:Nat)(w:World)(b:Nat)(l:List Int):Prop:=
 ∃Al cl Ac cc,Is w b 198 #[.slice Al l.length cl,.slice Ac l.length cc]∧Ints w Al l.length l∧Ints w Ac l.length (fI l)∧lo≤b∧(∀a,Al=some a→lo≤a.block)∧(∀a,Ac=some a→lo≤a.block)
theorem NewRT.rt{lo b:Nat}{w:World}{l:List Int}(h:NewRT lo w b l):RT w b l:=by
 obtain⟨Al,cl,Ac,cc,h1,h2,h3,_⟩:=h;exact⟨Al,cl,Ac,cc,h1,h2,h3⟩
theorem NewRT.but{lo b:Nat}{w w':World}{l:List Int}{S:List Nat}(h:NewRT lo w b l)(hw:But S w w')(hS:∀k∈S,k<lo):NewRT lo w' b l:=by
 obtain⟨Al,cl,Ac,cc,h1,h3,h4,h5,h7,h8⟩:=h;have off:∀A:Option Addr,(∀a,A=some a→lo≤a.block)→∀k∈S,Off A k:=fun A hA k hk a e=>by
  have:=hA a e;have:=hS k hk;omega
 exact⟨Al,cl,Ac,cc,h1.but hw (fun hb=>by have:=hS b hb;omega),h3.but hw (off _ h7),h4.but hw (off _ h8),h5,h7,h8⟩
def Rl(w:World)(l:List Int)(e:Ending)(w':World):Prop:=
 ∃b,e=.returned (.tuple #[.pointer (some ⟨b,0,none⟩),(0:Int)])∧NewRT w.heap.size w' b l∧But [] w w'
theorem kU{w:World}{A:Option Addr}{len cap:Nat}{l:List Int}(hl:Ints w A len l)(hb8:len*8≤140737488351232)(hnil:A=none→cap=0)(hc:chk l=0):
 Calls prog 120 #[.slice A len cap] w (Rl w l):=by
 have hm:len≤maxLen:=by unfold maxLen;omega
 obtain⟨i0,hi0,hz0,hz1,hz2⟩:=info_parts cG;have HC:=qhz (JI (cap:=cap) hl hm hc);have HLEN:=qhz hl.1;have hclen:(fI l).length=l.length:=by unfold fI;exact gX _ _
 have HCL:=qhz hclen;clear hc hclen
 go_enter func120,ntmps120
 go_wp2_with fail
 refine HC.out.mono ?_;rintro e w1 ⟨rfl,hOc,hB1⟩;have hIc:=hOc.ints_of (by rw[HCL.out,HLEN.out]);have hl1:=hl.but hB1 (by simp);have HIC:=qhz hIc;have HB1:=qhz hB1;have hsz1:=hB1.size;clear hOc hIc hB1 HC hl;rcases A with _|ad
 ·obtain rfl:=hnil rfl;have h0:len=0:=by
   apply Classical.byContradiction;intro h
   obtain⟨g,o,e,_⟩:=hl1.2 (by omega);cases e
  subst h0;have HL1:=qhz hl1;clear hl1;go_wp2
  go_ret2
  refine⟨w1.heap.size,rfl,⟨none,0,some ⟨w.heap.size,0,none⟩,_,by rw[HLEN.out];exact Is.fresh w1 _ _,by rw[HLEN.out];exact HL1.out.but ((But.refl [] w1).alloc _) (by simp),by rw[HLEN.out];exact HIC.out.but ((But.refl [] w1).alloc _) (by simp),hsz1,?_,?_⟩,HB1.out.alloc _⟩
  ·intro a e;cases e
  ·intro a e;cases e;exact Nat.le_refl _
 ·have hnw:∀j u,(l.map (Value.int .i64))[j]? =some u→w1.cell? (ad.add j)=some u:=by
   by_cases h0:0<len
   ·obtain⟨g,o,e,_⟩:=hl1.2 h0;obtain rfl:ad=⟨g,o,none⟩:=by injection e
    exact hl1.news h0
   ·intro j u hu;have:l=[]:=List.eq_nil_of_length_eq_zero (by have:=HLEN.out;omega);subst this;simp at hu
  have HNW:=qhz hnw;have HNIL:=qhz hnil;clear hnw hnil hl1
  go_wp2_with (at_builtin;refine wpList_append_own _ rfl _ _ 36 rfl w1.heap.size 3 i0 (.int .i64 0) 1 8 underlying36 hi0 hz0 hz1 hz2 rfl (by decide) (.slice none 0 0) 0 [] rfl (World.ownsRow_nil _ _ _ _) ad len cap (l.map (.int .i64)) rfl (by simp;exact HLEN.out) HNW.out ?c2 ?c3 ?c4 ?c5 ?_)
  case c2=>intro u hu;obtain⟨x,_,rfl⟩:=List.mem_map.1 hu;rfl
  case c3=>unfold maxLen at*;omega
  case c4=>omega
  case c5=>simp
  intro v' w2 hown hgrow _;obtain⟨Al,cl,rfl⟩:∃Al cl,v'=.slice Al len cl:=by
   rcases hown.2 with⟨e,e2⟩|⟨g4,c4,cur,e,_⟩
   ·exact⟨none,0,by rw[e];congr 1;omega⟩
   ·exact⟨_,c4,by simpa using e⟩
  have hOw:OwnI w2 w1.heap.size (.slice Al len cl) l:=by
   unfold OwnI;rw[HLEN.out];simpa using hown
  have hI2:=hOw.ints_of HLEN.out.symm;have hB2:But [] w1 w2:=(But.refl [] w1).grown hgrow (fun g e=>by cases e);have hlow2:∀a,Al=some a→w.heap.size≤a.block:=fun a e=>by
   subst e;have hb:=(World.ownsRow.lt hOw a.block rfl).1;omega
  have HLOW2:=qhz hlow2;have hsz2:=hB2.size;have HI2:=qhz hI2;have HB2:=qhz hB2;clear hown hgrow hOw hI2 hB2 hlow2;go_wp2
  go_ret2
  refine⟨w2.heap.size,rfl,⟨Al,cl,some ⟨w.heap.size,0,none⟩,_,by rw[HLEN.out];exact Is.fresh w2 _ _,by rw[HLEN.out];exact HI2.out.but ((But.refl [] w2).alloc _) (by simp),by rw[HLEN.out];exact HIC.out.but (HB2.out.alloc _) (by simp),by omega,HLOW2.out,?_⟩,(HB1.out.trans HB2.out).alloc _⟩;intro a e;cases e;exact Nat.le_refl _
section
section
variable {α β:Type}
def vt(key:α→Nat)(c:α)(f:List α→List α):List α→List α
 |[]=>c::f []
 |p::ps=>if key p<key c then p::vt key c f ps else c::f (p::ps)
def mrgG(key:α→Nat):List α→List α→List α
 |[],ps=>ps
 |c::cs,ps=>vt key c (mrgG key cs) ps
theorem Ei(key:α→Nat)(ps:List α):mrgG key [] ps=ps:=rfl
theorem fB(key:α→Nat):∀cs:List α,mrgG key cs []=cs
 |[]=>rfl
 |c::cs=>by show c::mrgG key cs []=_;rw[fB key cs]
theorem pQ{key:α→Nat}{c p:α}{cs ps:List α}(h:key p<key c):mrgG key (c::cs) (p::ps)=p::mrgG key (c::cs) ps:=by
 show vt key c (mrgG key cs) (p::ps)=_;rw[vt,if_pos h];rfl
theorem pR{key:α→Nat}{c p:α}{cs ps:List α}(h:¬key p<key c):mrgG key (c::cs) (p::ps)=c::mrgG key cs (p::ps):=by
 show vt key c (mrgG key cs) (p::ps)=_;rw[vt,if_neg h]
theorem xA{key:α→Nat}{P:List α→List α→Prop}(h1:∀ps,P [] ps)(h2:∀cs,P cs [])(h3:∀c cs p ps,key p<key c→P (c::cs) ps→P (c::cs) (p::ps))(h4:∀c cs p ps,¬key p<key c→P cs (p::ps)→P (c::cs) (p::ps)):
 ∀cs ps,P cs ps:=by
 intro cs ps
 induction h:cs.length+ps.length generalizing cs ps with
 |zero=>
  cases cs with
  |nil=>exact h1 ps
  |cons c cs=>simp at h
 |succ n ih=>
  cases cs with
  |nil=>exact h1 ps
  |cons c cs=>
   cases ps with
   |nil=>exact h2 _
   |cons p ps=>
    by_cases hp:key p<key c
    ·exact h3 _ _ _ _ hp (ih _ _ (by simp at h⊢;omega))
    ·exact h4 _ _ _ _ hp (ih _ _ (by simp at h⊢;omega))
theorem Ej{key:α→Nat}{key2:β→Nat}(f:α→β)(hk:∀a,key2 (f a)=key a)(cs ps:List α):(mrgG key cs ps).map f=mrgG key2 (cs.map f) (ps.map f):=by
 induction cs,ps using xA (key:=key) with
 |h1 ps=>rfl
 |h2 cs=>rw[fB,List.map_nil,fB]
 |h3 c cs p ps h ih=>rw[pQ h,List.map_cons,ih,List.map_cons,List.map_cons,pQ (by rw[hk,hk];exact h)]
 |h4 c cs p ps h ih=>rw[pR h,List.map_cons,ih,List.map_cons,List.map_cons,pR (by rw[hk,hk];exact h)]
theorem rn{key:α→Nat}{cs ps:List α}{x:α}:x∈mrgG key cs ps→x∈cs∨x∈ps:=by
 induction cs,ps using xA (key:=key) with
 |h1 ps=>exact .inr
 |h2 cs=>rw[fB];exact .inl
 |h3 c cs p ps h ih=>
  rw[pQ h];intro hx
  rcases List.mem_cons.1 hx with rfl|hx
  ·exact .inr (by simp)
  ·rcases ih hx with h|h
   ·exact .inl h
   ·exact .inr (by simp[h])
 |h4 c cs p ps h ih=>
  rw[pR h];intro hx
  rcases List.mem_cons.1 hx with rfl|hx
  ·exact .inl (by simp)
  ·rcases ih hx with h|h
   ·exact .inl (by simp[h])
   ·exact .inr h
theorem KI{key:α→Nat}{C P:List α}{i k:Nat}(hi:i<C.length)(h:P.length≤k∨∃hk:k<P.length,key C[i]≤key P[k]):mrgG key (C.drop i) (P.drop k)=C[i]::mrgG key (C.drop (i+1)) (P.drop k):=by
 rw[List.drop_eq_getElem_cons hi];rcases h with h|⟨hk,h⟩
 ·rw[List.drop_of_length_le h,fB,fB]
 ·rw[List.drop_eq_getElem_cons hk,pR (by omega)]
theorem KG{key:α→Nat}{C P:List α}{i k:Nat}(hk:k<P.length)(h:C.length≤i∨∃hi:i<C.length,key P[k]<key C[i]):mrgG key (C.drop i) (P.drop k)=P[k]::mrgG key (C.drop i) (P.drop (k+1)):=by
 rw[List.drop_eq_getElem_cons hk];rcases h with h|⟨hi,h⟩
 ·rw[List.drop_of_length_le h];rfl
 ·rw[List.drop_eq_getElem_cons hi,pQ h]
end
abbrev Tg:=Nat×List Int
def addV(u v:List Int):List Int:=List.zipWith (· + ·) u v
theorem uo{u v:List Int}{s:Nat}(h:u.length=v.length):(addV u v).getD s 0=u.getD s 0+v.getD s 0:=by
 unfold addV;rw[List.getD_eq_getElem?_getD,List.getD_eq_getElem?_getD,List.getD_eq_getElem?_getD,List.getElem?_zipWith]
 by_cases hs:s<u.length
 ·rw[List.getElem?_eq_getElem hs,List.getElem?_eq_getElem (by omega)];rfl
 ·rw[List.getElem?_eq_none (by omega),List.getElem?_eq_none (by omega)];rfl
def prT:List Tg→List Tg
 |a::b::l=>(a.1+b.1,addV a.2 b.2)::prT l
 |_=>[]
def prN:List Nat→List Nat
 |a::b::l=>(a+b)::prN l
 |_=>[]
theorem BN:∀l:List (Nat×Bool),prs l=prN (l.map (·.1))
 |[]=>rfl
 |[_]=>rfl
 |a::b::l=>by show _::prs l=_::prN (l.map (·.1));rw[BN l]
theorem xi:∀l:List Tg,(prT l).map (·.1)=prN (l.map (·.1))
 |[]=>rfl
 |[_]=>rfl
 |a::b::l=>by show _::(prT l).map (·.1)=_::prN (l.map (·.1));rw[xi l]
theorem gW:∀l:List Tg,(prT l).length=l.length/2
 |[]=>rfl
 |[_]=>by simp[prT]
 |a::b::l=>by simp[prT,gW l];omega
theorem Pw:∀(l:List Tg) (i:Nat) (h:2*i+1<l.length),(prT l)[i]'(by rw[gW];omega)=(l[2*i].1+l[2*i+1].1,addV l[2*i].2 l[2*i+1].2)
 |[],i,h=>by simp at h
 |[_],i,h=>by simp at h
 |a::b::l,0,h=>by simp[prT]
 |a::b::l,i+1,h=>by
  have:=Pw l i (by simp at h;omega);simpa[prT,show 2*(i+1)=2*i+1+1 from by omega]using this
def rowT(cs:List Tg):Nat→List Tg
 |0=>cs
 |k+1=>mrgG (·.1) cs (prT (rowT cs k))
theorem KH:∀(cs ps:List Nat),mrgG id cs ps=(mrg cs ps).map (·.1):=by
 intro cs ps
 induction cs,ps using m9 with
 |h1 ps=>rw[j6,List.map_map];simp[Ei,Function.comp_def]
 |h2 cs=>rw[cZ,fB,List.map_map];simp[Function.comp_def]
 |h3 c cs p ps h ih=>rw[oC h,pQ (by exact h),ih];rfl
 |h4 c cs p ps h ih=>rw[mD h,pR (by exact h),ih];rfl
theorem sD(cs:List Tg):∀k,(rowT cs k).map (·.1)=(rowN (cs.map (·.1)) k).map (·.1)
 |0=>by
  show cs.map (·.1)=(mrg (cs.map (·.1)) []).map (·.1);rw[cZ,List.map_map];simp[Function.comp_def]
 |k+1=>by
  show(mrgG (·.1) cs (prT (rowT cs k))).map (·.1)=(mrg (cs.map (·.1)) (prs (rowN (cs.map (·.1)) k))).map (·.1);rw[←KH,Ej (key:=fun x:Tg=>x.1) (key2:=id) (fun x:Tg=>x.1) (fun _=>rfl),xi,sD cs k,BN]
theorem nf(cs:List Tg)(k:Nat):(rowT cs k).length=(rowN (cs.map (·.1)) k).length:=by
 have:=congrArg List.length (sD cs k);simpa using this
theorem Gf(cs ps:List Tg)(g:Tg→Int):∀a,a≤cs.length+ps.length→(((mrgG (·.1) cs ps).take a).map g).sum=((cs.take (tk (mrg (cs.map (·.1)) (ps.map (·.1))) a)).map g).sum+((ps.take (a-tk (mrg (cs.map (·.1)) (ps.map (·.1))) a)).map g).sum:=by
 induction cs,ps using xA (key:=fun x:Tg=>x.1) with
 |h1 ps=>
  intro a ha;have h0:tk (mrg [] (ps.map (·.1))) a=0:=by
   unfold tk gH;rw[j6,←List.map_take,List.filter_map];simp
  rw[List.map_nil,h0,Ei];simp
 |h2 cs=>
  intro a ha;simp only[List.length_nil,Nat.add_zero]at ha;have h0:tk (mrg (cs.map (·.1)) []) a=a:=by
   unfold tk gH;rw[cZ,←List.map_take,List.filter_map,List.length_map]
   rw[List.filter_eq_self.2 (by simp),List.length_take,List.length_map];omega
  rw[List.map_nil,h0,fB];simp
 |h3 c cs p ps h ih=>
  intro a ha;have hm:mrg ((c::cs).map (·.1)) ((p::ps).map (·.1))=(p.1,true)::mrg ((c::cs).map (·.1)) (ps.map (·.1)):=oC h;rw[pQ (key:=fun x:Tg=>x.1) h,hm];cases a with
  |zero=>simp[mN]
  |succ a=>
   have:=ih a (by simp at ha⊢;omega);rw[kO];have hle:=Ix (mrg ((c::cs).map (·.1)) (ps.map (·.1))) a;generalize tk (mrg ((c::cs).map (·.1)) (ps.map (·.1))) a=T at*;simp only[if_true,Nat.zero_add];rw[show a+1-T=(a-T)+1 from by omega];simp only[List.take_succ_cons,List.map_cons,List.sum_cons];rw[this];omega
 |h4 c cs p ps h ih=>
  intro a ha;have hm:mrg ((c::cs).map (·.1)) ((p::ps).map (·.1))=(c.1,false)::mrg (cs.map (·.1)) ((p::ps).map (·.1)):=mD h;rw[pR (key:=fun x:Tg=>x.1) h,hm];cases a with
  |zero=>simp[mN]
  |succ a=>
   have:=ih a (by simp at ha⊢;omega);rw[kO];generalize tk (mrg (cs.map (·.1)) ((p::ps).map (·.1))) a=T at*;simp only[Bool.false_eq_true,if_false];rw[show a+1-(1+T)=a-T from by omega,Nat.add_comm 1];simp only[List.take_succ_cons,List.map_cons,List.sum_cons];rw[this];omega
def Wide(n:Nat)(L:List Tg):Prop:=∀x∈L,x.2.length=n
theorem D3{n:Nat}:∀{l:List Tg},Wide n l→Wide n (prT l)
 |[],_=>by intro x hx;simp[prT]at hx
 |[_],_=>by intro x hx;simp[prT]at hx
 |a::b::l,h=>by
  intro x hx;simp only[prT,List.mem_cons]at hx;rcases hx with rfl|hx
  ·have h1:=h a (by simp);have h2:=h b (by simp);simp[addV,h1,h2]
  ·exact D3 (l:=l) (fun y hy=>h y (by simp[hy])) x hx
theorem oa{n:Nat}{cs:List Tg}(h:Wide n cs):∀k,Wide n (rowT cs k)
 |0=>h
 |k+1=>fun x hx=>by
  rcases rn hx with h1|h1
  ·exact h x h1
  ·exact D3 (oa h k) x h1
theorem J8{n s:Nat}:∀(l:List Tg) (q:Nat),Wide n l→2*q≤l.length→(((prT l).take q).map fun x=>x.2.getD s 0).sum=((l.take (2*q)).map fun x=>x.2.getD s 0).sum
 |_,0,_,_=>by simp
 |[],q+1,_,h=>by simp at h
 |[_],q+1,_,h=>by simp at h;omega
 |a::b::l,q+1,hw,h=>by
  have:=J8 (s:=s) l q (fun y hy=>hw y (by simp[hy])) (by simp at h;omega);rw[show 2*(q+1)=2*q+1+1 from by omega];simp only[prT,List.take_succ_cons,List.sum_cons,List.map_cons,this];rw[uo ((hw a (by simp)).trans (hw b (by simp)).symm)];omega
theorem DU{n s:Nat}{cs:List Tg}(hw:Wide n cs):∀k a,a≤(rowN (cs.map (·.1)) k).length→(((rowT cs k).take a).map fun x=>x.2.getD s 0).sum=((cc (cs.map (·.1)) k a).map fun t=>((cs.take t).map fun x=>x.2.getD s 0).sum).sum
 |0,a,h=>by
  have hl:(rowN (cs.map (·.1)) 0).length=cs.length:=by simp[rowN,bF]
  have h0:tk (rowN (cs.map (·.1)) 0) a=a:=by
   unfold tk gH;rw[rowN,cZ,←List.map_take,List.filter_map,List.length_map]
   rw[List.filter_eq_self.2 (by simp),List.length_take,List.length_map];omega
  simp[cc,h0,rowT]
 |k+1,a,h=>by
  have hp:=fe (cs.map (·.1)) k a h;have e:rowN (cs.map (·.1)) (k+1)=mrg (cs.map (·.1)) ((prT (rowT cs k)).map (·.1)):=by
   rw[xi,sD,←BN];rfl
  have hl:a≤cs.length+(prT (rowT cs k)).length:=by
   rw[e,bF]at h;simpa using h
  have h1:=Gf cs (prT (rowT cs k)) (fun x=>x.2.getD s 0) a hl;rw[←e]at h1;have h2:=J8 (n:=n) (s:=s) (rowT cs k) (a-tk (rowN (cs.map (·.1)) (k+1)) a) (oa hw k) (by rw[nf];exact hp);rw[h2,DU hw k _ hp]at h1;simp only[cc,List.map_cons,List.sum_cons];exact h1
def mJ(n s:Nat):List Int:=(List.replicate n (0:Int)).set s 1
def ms(n:Nat)(c:Nat×Nat):Tg:=(c.2,mJ n c.1)
theorem lI(n s t:Nat):(mJ n s).getD t 0=if s=t∧t<n then 1 else 0:=by
 unfold mJ;rw[oM,gQ,List.length_replicate]
theorem qi(n:Nat)(cs:List (Nat×Nat)):Wide n (cs.map (ms n)):=by
 intro x hx;obtain⟨c,_,rfl⟩:=List.mem_map.1 hx;simp[ms,mJ]
theorem gY(n:Nat)(cs:List (Nat×Nat)):(cs.map (ms n)).map (·.1)=cs.map (·.2):=by rw[List.map_map];rfl
theorem Dw{n:Nat}{cs:List (Nat×Nat)}(hd:(cs.map (·.1)).Nodup)(hlt:∀c∈cs,c.1<n){r:Nat}(hr:r<cs.length):∀t,(((cs.map (ms n)).take t).map fun x=>x.2.getD cs[r].1 0).sum=if r<t then 1 else 0
 |0=>by simp
 |t+1=>by
  have ih:=Dw hd hlt hr t
  by_cases ht:t<cs.length
  ·rw[List.take_succ_eq_append_getElem (by simpa using ht),List.map_append,List.sum_append,ih];simp only[List.getElem_map,List.map_cons,List.map_nil,List.sum_cons,List.sum_nil,ms,lI]
   by_cases e:t=r
   ·subst e;rw[if_neg (by omega),if_pos ⟨rfl,hlt _ (List.getElem_mem hr)⟩,if_pos (by omega)];rfl
   ·rw[if_neg (c:=_∧_) (fun h=>e (Eg hd ht hr h.1))]
    by_cases h1:r<t
    ·rw[if_pos h1,if_pos (by omega)];rfl
    ·rw[if_neg h1,if_neg (by omega)];rfl
  ·rw[List.take_of_length_le (by simp;omega)]at ih⊢;rw[ih,if_pos (by omega),if_pos (by omega)]
theorem Ir{n s:Nat}{cs:List (Nat×Nat)}(hs:s∉cs.map (·.1))(t:Nat):(((cs.map (ms n)).take t).map fun x=>x.2.getD s 0).sum=0:=by
 have:∀L:List (Nat×Nat),s∉L.map (·.1)→((L.map (ms n)).map fun x=>x.2.getD s 0).sum=0:=by
  intro L
  induction L with
  |nil=>intro _;rfl
  |cons c L ih=>
   intro h;simp only[List.map_cons,List.mem_cons,not_or]at h;simp only[List.map_cons,List.sum_cons,ms,lI];rw[if_neg (fun e=>h.1 e.1.symm)];have:=ih h.2;rw[Int.zero_add];exact this
 rw[←List.map_take];refine this _ fun h=>hs ?_;rw[List.map_take]at h;exact List.mem_of_mem_take h
theorem Ps(r:Nat):∀ts:List Nat,(ts.map fun t=>if r<t then(1:Int)else 0).sum=(rl ts r:Nat)
 |[]=>rfl
 |t::ts=>by
  rw[List.map_cons,List.sum_cons,Ps r ts,rl];split<;>simp
def outs(M:Nat)(l:List Int)(i:Nat)(s:Nat):Int:=(((rowT ((csOf l l.length).map (ms l.length)) (M-1)).take i).map fun x=>x.2.getD s 0).sum
theorem Ku{M:Nat}{l:List Int}(hM1:1≤M)(hp:(csOf l l.length).length≤2^M)(h1:(csOf l l.length).length≠1)(s:Nat):outs M l (2*(csOf l l.length).length-2) s=(lims M l).getD s 0:=by
 by_cases h0:(csOf l l.length).length=0
 ·rw[td rfl rfl h0,gQ,h0];unfold outs;simp
 ·have hn:2≤(csOf l l.length).length:=by omega
  unfold outs;have he:=jg ((csOf l l.length).map (·.2)) (M-1) (by rw[show M-1+1=M from by omega,List.length_map];exact hp) (by rw[List.length_map];exact hn);rw[List.length_map]at he;rw[DU (qi l.length (csOf l l.length)) (M-1) _ (by rw[gY];exact he),gY]
  by_cases hs:s∈(csOf l l.length).map (·.1)
  ·obtain⟨r,hr,e⟩:=List.getElem_of_mem hs;have hr':r<(csOf l l.length).length:=by simpa using hr
   have e':(csOf l l.length)[r].1=s:=by simpa using e
   rw[←e',te hr'];have:(fun t=>(((csOf l l.length).map (ms l.length)).take t |>.map fun x=>x.2.getD (csOf l l.length)[r].1 0).sum)=fun t=>if r<t then(1:Int)else 0:=
    funext fun t=>Dw (vR l _) (fun c hc=>(gL.1 hc).1) hr' t
   rw[this,Ps];unfold rk fD;rw[if_neg h1,List.length_map]
  ·rw[En hs];have:(fun t=>(((csOf l l.length).map (ms l.length)).take t |>.map fun x=>x.2.getD s 0).sum)=fun _=>(0:Int):=
    funext fun t=>Ir hs t
   rw[this];generalize cc _ _ _=ts
   induction ts with
   |nil=>rfl
   |cons t ts ih=>rw[List.map_cons,List.sum_cons,ih];rfl
def Bnd(B W:Nat)(L:List Tg):Prop:=∀x∈L,x.1≤W∧∀s,0≤x.2.getD s 0∧x.2.getD s 0≤(B:Int)
theorem J9{n B W:Nat}:∀{l:List Tg},Wide n l→Bnd B W l→Bnd (2*B) (2*W) (prT l)
 |[],_,_=>by intro x hx;simp[prT]at hx
 |[_],_,_=>by intro x hx;simp[prT]at hx
 |a::b::l,hw,h=>by
  intro x hx;simp only[prT,List.mem_cons]at hx;rcases hx with rfl|hx
  ·have h1:=h a (by simp);have h2:=h b (by simp);refine⟨by dsimp only;omega,fun s=>?_⟩;dsimp only;rw[uo ((hw a (by simp)).trans (hw b (by simp)).symm)];have:=h1.2 s;have:=h2.2 s;omega
  ·exact J9 (l:=l) (fun y hy=>hw y (by simp[hy])) (fun y hy=>h y (by simp[hy])) x hx
theorem Bnd.more{B B' W W':Nat}{L:List Tg}(h:Bnd B W L)(hB:B≤B')(hW:W≤W'):Bnd B' W' L:=fun x hx=>⟨by have:=(h x hx).1;omega,fun s=>by have:=(h x hx).2 s;omega⟩
theorem DV{n W:Nat}{cs:List Tg}(hw:Wide n cs)(h:Bnd 1 W cs):∀k,Bnd (2^k) (2^k*W) (rowT cs k)
 |0=>h.more (Nat.le_refl _) (by simp)
 |k+1=>fun x hx=>by
  have hp:=Nat.two_pow_pos k;rcases rn hx with h1|h1
  ·refine h.more ?_ ?_ x h1
   ·rw[Nat.pow_succ];omega
   ·exact Nat.le_trans (by simp) (Nat.mul_le_mul_right W (show 1≤2^(k+1)by rw[Nat.pow_succ];omega))
  ·refine(J9 (oa hw k) (DV hw h k)).more ?_ ?_ x h1
   ·rw[Nat.pow_succ];omega
   ·rw[Nat.pow_succ,Nat.mul_comm (2^k) 2,Nat.mul_assoc];exact Nat.le_refl _
theorem Mb{l:List Int}(hok:cu l=true)(k:Nat):Bnd 1 1000000000 ((csOf l k).map (ms l.length)):=by
 intro x hx;obtain⟨c,hc,rfl⟩:=List.mem_map.1 hx;refine⟨EK hok _ (List.mem_map_of_mem hc),fun s=>?_⟩;simp only[ms,lI];split<;>omega
theorem IJ{B W:Nat}{L:List Tg}(h:Bnd B W L)(s:Nat):∀i,0≤((L.take i).map fun x=>x.2.getD s 0).sum∧((L.take i).map fun x=>x.2.getD s 0).sum≤((i*B:Nat):Int)
 |0=>by simp
 |i+1=>by
  have ih:=IJ h s i
  by_cases hi:i<L.length
  ·rw[List.take_succ_eq_append_getElem hi,List.map_append,List.sum_append];have:=(h _ (List.getElem_mem hi)).2 s;simp only[List.map_cons,List.map_nil,List.sum_cons,List.sum_nil];rw[Nat.add_mul,Nat.one_mul];omega
  ·rw[List.take_of_length_le (by omega)]at ih⊢;rw[Nat.add_mul];omega
end
structure Th where
 n:Nat
 b:Bool
 a:Option Addr
 c:Nat
 v:List Int
def Th.t(x:Th):Tg:=(x.n,x.v)
def aM(len:Nat)(L:List Th):List Value:=L.flatMap fun x=>[.int .i64 x.n,.bool x.b,.slice x.a len x.c]
theorem mu(len:Nat)(L M:List Th):aM len (L++M)=aM len L++aM len M:=by simp[aM]
theorem pm(len:Nat):∀(L:List Th) (i:Nat) (h:i<L.length),(aM len L)[i*3]? =some (.int .i64 L[i].n)∧(aM len L)[i*3+1]? =some (.bool L[i].b)∧(aM len L)[i*3+2]? =some (.slice L[i].a len L[i].c)
 |x::L,0,_=>by simp[aM]
 |x::L,i+1,h=>by
  have:=pm len L i (by simpa using h);have e:aM len (x::L)=.int .i64 x.n:: .bool x.b:: .slice x.a len x.c::aM len L:=by simp[aM]
  rw[e,show(i+1)*3=i*3+1+1+1 from by omega,show i*3+1+1+1+1=i*3+1+1+1+1 from rfl];simpa using this
theorem iY(len:Nat)(L:List Th):(aM len L).length=L.length*3:=by
 induction L with
 |nil=>rfl
 |cons x L ih=>simp only[aM,List.flatMap_cons,List.length_append]at ih⊢;rw[ih];simp;omega
def Vecs(w:World)(len:Nat)(L:List Th):Prop:=∀x∈L,Ints w x.a len x.v
theorem Vecs.but{w w':World}{len:Nat}{L:List Th}(h:Vecs w len L)(hw:But [] w w'):Vecs w' len L:=fun x hx=>(h x hx).but hw (by simp)
def Things(w:World)(A:Option Addr)(n len:Nat)(L:List Th):Prop:=
 L.length=n∧(0<n→∃g o,A=some ⟨g,o,none⟩∧g<w.heap.size∧∀(i:Nat) (h:i<L.length),w.cell? ⟨g,o+i*3,none⟩=some (.int .i64 L[i].n)∧w.cell? ⟨g,o+i*3+1,none⟩=some (.bool L[i].b)∧w.cell? ⟨g,o+i*3+2,none⟩=some (.slice L[i].a len L[i].c))∧Vecs w len L
theorem Things.but{w w':World}{A:Option Addr}{n len:Nat}{L:List Th}(h:Things w A n len L)(hw:But [] w w'):Things w' A n len L:=
 ⟨h.1,fun hn=>by
  obtain⟨g,o,e,hg,hc⟩:=h.2.1 hn;exact⟨g,o,e,Nat.lt_of_lt_of_le hg hw.size,fun i hi=>⟨hw.cell (hc i hi).1 (by simp),hw.cell (hc i hi).2.1 (by simp),hw.cell (hc i hi).2.2 (by simp)⟩⟩,h.2.2.but hw⟩
theorem Things.at{w:World}{A:Option Addr}{n len:Nat}{L:List Th}(h:Things w A n len L){i:Nat}(hi:i<n):
 ∃g o,A=some ⟨g,o,none⟩∧g<w.heap.size∧w.cell? ⟨g,o+i*3,none⟩=some (.int .i64 (L[i]'(by have:=h.1;omega)).n)∧w.cell? ⟨g,o+i*3+1,none⟩=some (.bool (L[i]'(by have:=h.1;omega)).b)∧w.cell? ⟨g,o+i*3+2,none⟩=some (.slice (L[i]'(by have:=h.1;omega)).a len (L[i]'(by have:=h.1;omega)).c):=by
 obtain⟨g,o,e,hg,hc⟩:=h.2.1 (by omega);exact⟨g,o,e,hg,hc i (by have:=h.1;omega)⟩
theorem Things.nil(w:World)(A:Option Addr)(len:Nat):Things w A 0 len []:=⟨rfl,fun h=>absurd h (by omega),fun x hx=>by cases hx⟩
theorem Things.news{w:World}{g o n len:Nat}{L:List Th}(h:Things w (some ⟨g,o,none⟩) n len L)(hn:0<n):∀j u,(aM len L)[j]? =some u→w.cell? ((⟨g,o,none⟩:Addr).add j)=some u:=by
 intro j u hu;obtain⟨g',o',e,_,hc⟩:=h.2.1 hn;injection e with e;injection e with e1 e2;subst e1 e2;have hj:j<L.length*3:=by
  have:=(List.getElem?_eq_some_iff.1 hu).1
  rwa [iY]at this
 obtain⟨h0,h1,h2⟩:=pm len L (j/3) (by omega);obtain⟨c0,c1,c2⟩:=hc (j/3) (by omega);rw[Go.WideShapes.add_plain];have hr:j=j/3*3∨j=j/3*3+1∨j=j/3*3+2:=by omega
 rcases hr with e|e|e
 ·rw[←e]at h0 c0;rw[c0,←h0,hu]
 ·rw[←e]at h1;rw[Nat.add_assoc,←e]at c1;rw[c1,←h1,hu]
 ·rw[←e]at h2;rw[Nat.add_assoc,←e]at c2;rw[c2,←h2,hu]
def OwnT(w:World)(base len:Nat)(v:Value)(L:List Th):Prop:=w.ownsRow base 201 3 v L.length (aM len L)
theorem pT:(prog.info? 201).map (fun i=>(i.zero,i.size,i.bytes))=some (some (.agg #[(0:Int),false,.slice none 0 0]),3,40):=by kernel_rfl
theorem OwnT.nil(w:World)(base len:Nat):OwnT w base len (.slice none 0 0) []:=World.ownsRow_nil _ _ _ _
theorem OwnT.but{w w':World}{base len:Nat}{v:Value}{L:List Th}(h:OwnT w base len v L)(hw:But [] w w'):OwnT w' base len v L:=by
 unfold OwnT at h⊢;refine⟨h.1,?_⟩;rcases h.2 with h2|⟨g,cap,cur,hv,hg,hh,r⟩
 ·exact .inl h2
 ·refine .inr ⟨g,cap,cur,hv,hg,?_,r⟩;have hlt:g<w.heap.size:=(h.lt g (by rw[hv];rfl)).2;rw[hw.block g hlt (by simp)];exact hh
theorem OwnT.open{w:World}{base len:Nat}{v:Value}{L:List Th}(h:OwnT w base len v L)(hv:Vecs w len L):∃A c,v=.slice A L.length c∧Things w A L.length len L:=by
 unfold OwnT at h;rcases h.2 with⟨rfl,e⟩|⟨g,cap,cur,rfl,hg,hh,r⟩
 ·have:L=[]:=List.eq_nil_of_length_eq_zero e;subst this;exact⟨none,0,rfl,Things.nil _ _ _⟩
 ·refine⟨some ⟨g,0,none⟩,cap,rfl,rfl,fun hn=>⟨g,0,rfl,(h.lt g rfl).2,fun i hi=>?_⟩,hv⟩;obtain⟨h0,h1,h2⟩:=pm len L i hi;have c0:=h.cells (g:=g) rfl (i*3) _ h0;have c1:=h.cells (g:=g) rfl (i*3+1) _ h1;have c2:=h.cells (g:=g) rfl (i*3+2) _ h2;rw[Go.WideShapes.add_plain]at c0 c1 c2;exact⟨c0,c1,c2⟩
theorem OwnT.pushed{w wr w':World}{len:Nat}{v v':Value}{L:List Th}{x:Th}{cs:Array Value}{t:TypeId}(hB:But [] w wr)(hO:OwnT wr w.heap.size len v L)
 (h1:w'.ownsRow w.heap.size 201 3 v' (L.length+1) (aM len L++[.int .i64 x.n,.bool x.b,.slice x.a len x.c])) (hg:(wr.alloc (.cells cs t)).grownBy w' v.ownBlock):
 OwnT w' w.heap.size len v' (L++[x])∧But [] w w':=by
 refine⟨?_,(hB.alloc _).grown hg (fun g e=>.inr (hO.lt g e).1)⟩;unfold OwnT;rw[List.length_append,mu];simpa[aM]using h1
def oI(x:Th):Nat:=x.n
def MN(w:World)(len:Nat)(L:List Th)(e:Ending)(w':World):Prop:=∃v,e=.returned v∧OwnT w' w.heap.size len v L∧But [] w w'
theorem Qe{w:World}{A B:Option Addr}{n m c d len:Nat}{C P:List Th}(hC:Things w A n len C)(hP:Things w B m len P)(hn:n≤600)(hm:m≤600):
 Calls prog 169 #[.slice A n c,.slice B m d] w (MN w len (mrgG oI C P)):=by
 obtain⟨i0,hi0,hz0,hz1,hz2⟩:=info_parts pT;have hCl:=hC.1;have hPl:=hP.1;have HC:=qhz hC;have HP:=qhz hP;have HCL:=qhz hCl;have HPL:=qhz hPl;clear hC hP hCl hPl
 go_enter func169,ntmps169
 go_wp2
 go_loopw [5,6,7] (fun ov iv kv wr=>∃(i k:Nat) (L:List Th),i≤n∧k≤m∧iv=.int .i64 i∧kv=.int .i64 k∧L.length=i+k∧L++mrgG oI (C.drop i) (P.drop k)=mrgG oI C P∧OwnT wr w.heap.size len ov L∧But [] w wr) (fun _ iv kv _=>2000-(intOf iv).toNat-(intOf kv).toNat)
 case atStart=>exact⟨0,0,[],Nat.zero_le _,Nat.zero_le _,rfl,rfl,rfl,rfl,OwnT.nil _ _ _,But.refl _ _⟩
 case round=>
  obtain⟨i,k,L,hi,hk,rfl,rfl,hL,hm2,hO,hB⟩:=hrel;have hsz:=hB.size;have HO:=qhz hO;have HB:=qhz hB;have HM:=qhz hm2;have HLL:=qhz hL;have hLb:L.length≤1200:=by omega
  clear hO hB hm2 hL
  by_cases hend:i=n∧k=m
  ·obtain⟨rfl,rfl⟩:=hend;go_wp2;go_ret;refine⟨_,rfl,?_,HB.out⟩;have h:=HM.out;rw[List.drop_of_length_le (by have:=HCL.out;omega),List.drop_of_length_le (by have:=HPL.out;omega),fB,List.append_nil]at h;rw[←h];exact HO.out
  ·by_cases hcoin:i<n∧(k=m∨∃(h1:i<C.length) (h2:k<P.length),C[i].n≤P[k].n)
   ·obtain⟨hin,hcc⟩:=hcoin;obtain⟨g,o,rfl,hg,c0,c1,c2⟩:=HC.out.at hin;have hnext:=KI (key:=oI) (C:=C) (P:=P) (i:=i) (k:=k) (by have:=HCL.out;omega) (by
     rcases hcc with h|⟨h1,h2,h3⟩
     ·left;have:=HPL.out;omega
     ·right;exact⟨h2,h3⟩)
    have hN:(L++[C[i]'(by have:=HCL.out;omega)])++mrgG oI (C.drop (i+1)) (P.drop k)=mrgG oI C P:=by
     rw[←HM.out,hnext];simp
    have HNX:=qhz hN;have i0':(0:Int)≤(i:Int):=by omega
    have i1':(i:Int)<(n:Int):=by omega
    have din:decide (i<n)=true:=by simpa using hin
    have e0:=HB.out.cell c0 (by simp);have e1:=HB.out.cell c1 (by simp);have e2:=HB.out.cell c2 (by simp)
    go_upto_region 5 with(fail)
    go_cut [40] (fun v wx=>v=.bool true∧But [] w wx∧OwnT wx w.heap.size len u5 L)
    case first=>
     rcases hcc with h|⟨h1,h2,h3⟩
     ·have dk:((k:Int)==(m:Int))=true:=by simp;omega
      clear hnext hN h
      go_quiet (fail)
      go_wp2
      go_meet
      exact⟨rfl,HB.out.drewN _,HO.out.but ((But.refl [] wr).drewN _)⟩
     ·have hkm:k<m:=by have:=HPL.out;omega
      have dk:((k:Int)==(m:Int))=false:=by simp;omega
      obtain⟨g2,o2,rfl,hg2,p0,_,_⟩:=HP.out.at hkm;have q0:=HB.out.cell p0 (by simp);generalize C[i].n=X at*;generalize P[k].n=Y at*;have k0':(0:Int)≤(k:Int):=by omega
      have k1':(k:Int)<(m:Int):=by omega
      have dxy:decide (X≤Y)=true:=by simpa using h3
      clear hnext hN c0 c1 c2 p0
      go_quiet (fail)
      go_wp2
      go_meet
      exact⟨rfl,HB.out.drewN _,HO.out.but ((But.refl [] wr).drewN _)⟩
    case rest=>
     obtain⟨rfl,hB2,hO2⟩:=hcut;clear e0 e1 e2 hnext hN hcc;have e0:=hB2.cell c0 (by simp);have e1:=hB2.cell c1 (by simp);have e2:=hB2.cell c2 (by simp);obtain⟨x,hx⟩:∃x,x=C[i]'(by have:=HCL.out;omega):=⟨_,rfl⟩
     rw[←hx]at e0 e1 e2;have HX:=qhz hx;have HO2:=qhz hO2;have HB2:=qhz hB2;have hsz2:=hB2.size;clear hx hO2 hB2 c0 c1 c2
     go_wp2_with (at_builtin;refine wpList_append_own _ rfl _ _ 199 rfl w.heap.size 201 i0 (.agg #[(0:Int),false,.slice none 0 0]) 3 40 underlying199 hi0 hz0 hz1 hz2 rfl (by decide) _ L.length (aM len L) rfl (World.ownsRow.alloc HO2.out _) ⟨wc.heap.size,0,none⟩ 1 1 [.int .i64 x.n,.bool x.b,.slice x.a len x.c] rfl rfl ?c1 ?c2 ?c3 ?c4 ?c5 ?_)
     case c1=>exact World.news_of_block (cs:=#[.int .i64 x.n,.bool x.b,.slice x.a len x.c]) (t:=201) (fr:=(0,0)) (heap_alloc_new wc _)
     case c2=>simp[Value.oneCell']
     case c3=>unfold maxLen;omega
     case c4=>omega
     case c5=>simp;omega
     intro v' w1 hown1 hgrow _;have HN:=qhz (OwnT.pushed HB2.out HO2.out hown1 hgrow);clear hown1 hgrow e0 e1 e2;go_wp2
     go_roundw
     case rel=>exact⟨i+1,k,L++[x],by omega,hk,by go_num,rfl,by have:=HLL.out;simp;omega,by rw[HX.out];exact HNX.out,HN.out.1,HN.out.2⟩
     case measure=>simp[intOf];omega
   ·have hkm:k<m:=by
     apply Classical.byContradiction;intro h
     have hkm:k=m:=by omega
     exact hcoin ⟨by omega,.inl hkm⟩
    have hpk:n≤i∨∃(h1:i<C.length) (h2:k<P.length),P[k].n<C[i].n:=by
     by_cases hin:i<n
     ·right;have h1:i<C.length:=by have:=HCL.out;omega
      have h2:k<P.length:=by have:=HPL.out;omega
      refine⟨h1,h2,?_⟩;apply Classical.byContradiction;intro h
      exact hcoin ⟨hin,.inr ⟨h1,h2,by omega⟩⟩
     ·left;omega
    obtain⟨g,o,rfl,hg,c0,c1,c2⟩:=HP.out.at hkm;have hnext:=KG (key:=oI) (C:=C) (P:=P) (i:=i) (k:=k) (by have:=HPL.out;omega) (by
     rcases hpk with h|⟨h1,h2,h3⟩
     ·left;have:=HCL.out;omega
     ·right;exact⟨h1,h3⟩)
    have hN:(L++[P[k]'(by have:=HPL.out;omega)])++mrgG oI (C.drop i) (P.drop (k+1))=mrgG oI C P:=by
     rw[←HM.out,hnext];simp
    have HNX:=qhz hN;have k0':(0:Int)≤(k:Int):=by omega
    have k1':(k:Int)<(m:Int):=by omega
    have dkm:decide (k<m)=true:=by simpa using hkm
    have dk:((k:Int)==(m:Int))=false:=by simp;omega
    have e0:=HB.out.cell c0 (by simp);have e1:=HB.out.cell c1 (by simp);have e2:=HB.out.cell c2 (by simp);clear hcoin hend;rcases hpk with h|⟨h1,h2,h3⟩
    ·have din:decide (i<n)=false:=by simp;omega
     clear h
     go_upto_region 5 with(fail)
     go_cut [40] (fun v wx=>v=.bool false∧But [] w wx∧OwnT wx w.heap.size len u5 L)
     case first=>
      clear hnext hN
      go_quiet (fail)
      go_wp2
      go_meet
      exact⟨rfl,HB.out.drewN _,HO.out.but ((But.refl [] wr).drewN _)⟩
     case rest=>
      obtain⟨rfl,hB2,hO2⟩:=hcut;clear e0 e1 e2 hnext hN;have e0:=hB2.cell c0 (by simp);have e1:=hB2.cell c1 (by simp);have e2:=hB2.cell c2 (by simp);obtain⟨x,hx⟩:∃x,x=P[k]'(by have:=HPL.out;omega):=⟨_,rfl⟩
      rw[←hx]at e0 e1 e2;have HX:=qhz hx;have HO2:=qhz hO2;have HB2:=qhz hB2;have hsz2:=hB2.size;clear hx hO2 hB2 c0 c1 c2
      go_wp2_with (at_builtin;refine wpList_append_own _ rfl _ _ 199 rfl w.heap.size 201 i0 (.agg #[(0:Int),false,.slice none 0 0]) 3 40 underlying199 hi0 hz0 hz1 hz2 rfl (by decide) _ L.length (aM len L) rfl (World.ownsRow.alloc HO2.out _) ⟨wc.heap.size,0,none⟩ 1 1 [.int .i64 x.n,.bool x.b,.slice x.a len x.c] rfl rfl ?c1 ?c2 ?c3 ?c4 ?c5 ?_)
      case c1=>exact World.news_of_block (cs:=#[.int .i64 x.n,.bool x.b,.slice x.a len x.c]) (t:=201) (fr:=(0,0)) (heap_alloc_new wc _)
      case c2=>simp[Value.oneCell']
      case c3=>unfold maxLen;omega
      case c4=>omega
      case c5=>simp;omega
      intro v' w1 hown1 hgrow _;have HN:=qhz (OwnT.pushed HB2.out HO2.out hown1 hgrow);clear hown1 hgrow e0 e1 e2;go_wp2
      go_roundw
      case rel=>exact⟨i,k+1,L++[x],hi,by omega,rfl,by go_num,by have:=HLL.out;simp;omega,by rw[HX.out];exact HNX.out,HN.out.1,HN.out.2⟩
      case measure=>simp[intOf];omega
    ·have hin:i<n:=by have:=HCL.out;omega
     have din:decide (i<n)=true:=by simpa using hin
     go_upto_region 5 with(fail)
     go_cut [40] (fun v wx=>v=.bool false∧But [] w wx∧OwnT wx w.heap.size len u5 L)
     case first=>
      obtain⟨g2,o2,rfl,hg2,p0,_,_⟩:=HC.out.at hin;have q0:=HB.out.cell p0 (by simp);generalize C[i].n=X at*;generalize P[k].n=Y at*;have i0':(0:Int)≤(i:Int):=by omega
      have i1':(i:Int)<(n:Int):=by omega
      have dxy:decide (X≤Y)=false:=by simpa using h3
      clear hnext hN c0 c1 c2 p0
      go_quiet (fail)
      go_wp2
      go_meet
      exact⟨rfl,HB.out.drewN _,HO.out.but ((But.refl [] wr).drewN _)⟩
     case rest=>
      obtain⟨rfl,hB2,hO2⟩:=hcut;clear e0 e1 e2 hnext hN;have e0:=hB2.cell c0 (by simp);have e1:=hB2.cell c1 (by simp);have e2:=hB2.cell c2 (by simp);obtain⟨x,hx⟩:∃x,x=P[k]'(by have:=HPL.out;omega):=⟨_,rfl⟩
      rw[←hx]at e0 e1 e2;have HX:=qhz hx;have HO2:=qhz hO2;have HB2:=qhz hB2;have hsz2:=hB2.size;clear hx hO2 hB2 c0 c1 c2
      go_wp2_with (at_builtin;refine wpList_append_own _ rfl _ _ 199 rfl w.heap.size 201 i0 (.agg #[(0:Int),false,.slice none 0 0]) 3 40 underlying199 hi0 hz0 hz1 hz2 rfl (by decide) _ L.length (aM len L) rfl (World.ownsRow.alloc HO2.out _) ⟨wc.heap.size,0,none⟩ 1 1 [.int .i64 x.n,.bool x.b,.slice x.a len x.c] rfl rfl ?c1 ?c2 ?c3 ?c4 ?c5 ?_)
      case c1=>exact World.news_of_block (cs:=#[.int .i64 x.n,.bool x.b,.slice x.a len x.c]) (t:=201) (fr:=(0,0)) (heap_alloc_new wc _)
      case c2=>simp[Value.oneCell']
      case c3=>unfold maxLen;omega
      case c4=>omega
      case c5=>simp;omega
      intro v' w1 hown1 hgrow _;have HN:=qhz (OwnT.pushed HB2.out HO2.out hown1 hgrow);clear hown1 hgrow e0 e1 e2;go_wp2
      go_roundw
      case rel=>exact⟨i,k+1,L++[x],hi,by omega,rfl,by go_num,by have:=HLL.out;simp;omega,by rw[HX.out];exact HNX.out,HN.out.1,HN.out.2⟩
      case measure=>simp[intOf];omega
theorem tW{l:List Int}(h:cu l=true)(i:Nat):0≤l.getD i 0∧l.getD i 0≤1000000000:=by
 rw[List.getD_eq_getElem?_getD]
 by_cases hi:i<l.length
 ·rw[List.getElem?_eq_getElem hi];have:=List.all_eq_true.1 h _ (List.getElem_mem hi);simpa[m7]using this
 ·rw[List.getElem?_eq_none (by omega)];simp
theorem lz{l:List Int}{n:Nat}(h:n<l.length):l.getD n 0=l[n]:=by rw[List.getD_eq_getElem?_getD,List.getElem?_eq_getElem h];rfl
theorem pg(x:Int)(h0:0≤x)(h1:x≤100000000000000):IntKind.i64.wrap x=x:=IntWalk.i64_in _ (by omega)
end Go.Proofs.YtbanopnofpjnbaaGreatDoor
