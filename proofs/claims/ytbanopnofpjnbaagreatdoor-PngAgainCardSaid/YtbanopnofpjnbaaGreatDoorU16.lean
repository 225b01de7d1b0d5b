/- Own texts in one: StableB, LawI, RLimit. -/
import Derived.Test.YtbanopnofpjnbaaGreatDoorU12
set_option maxRecDepth 1000000
set_option linter.unusedVariables false
set_option maxHeartbeats 4000000
namespace Go.Proofs.YtbanopnofpjnbaaGreatDoor
open Go Go.RowKit Tryz
section
def Di(d d':List (Nat×Nat))(a b:Nat):Prop:=d'.length=d.length∧Srt (slc d' a b)∧(slc d' a b).Perm (slc d a b)∧(∀lo hi,hi≤a→slc d' lo hi=slc d lo hi)∧(∀lo hi,b≤lo→slc d' lo hi=slc d lo hi)
theorem D7{d:List (Nat×Nat)}{a b:Nat}{S:List (Nat×Nat)}(hab:a≤b)(hb:b≤d.length)(hs:Srt S)(hp:S.Perm (slc d a b)):Di d (d.take a++S++d.drop b) a b:=by
 have hl:=hp.length_eq;rw[jw d a b hab hb]at hl;have h1:(d.take a).length=a:=by simp;omega
 have hsp:=sg d a b hab;have e:slc (d.take a++S++d.drop b) a b=S:=Rs _ _ _ _ _ h1.symm (by omega);refine⟨by simp;omega,by rw[e];exact hs,by rw[e];exact hp,fun lo hi h=>?_,fun lo hi h=>?_⟩
 ·conv=>rhs;rw[hsp]
  rw[List.append_assoc,List.append_assoc,DI _ _ _ _ (by omega),DI _ _ _ _ (by omega)]
 ·conv=>rhs;rw[hsp]
  exact Jd _ _ _ _ _ (by simp;omega) (by simp[jw d a b hab hb];omega)
def E5(w:World)(g o:Nat)(d:List (Nat×Nat))(a b:Nat)(e:Ending)(w':World):Prop:=e=.returned (.tuple #[])∧But [g] w w'∧∃d',Di d d' a b∧CL w' g o d'
theorem lu{w:World}{g o n cap a b:Nat}{d:List (Nat×Nat)}(hd:CL w g o d)(hdl:d.length=n)(hn:n≤1000)(hgl:g<w.heap.size)(hab:a≤b)(hb:b≤n)(hX:(slc d a b).Pairwise fun x y=>x.1<y.1):
 Calls prog 249 #[.slice (some ⟨g,o,none⟩) n cap,a,b,.func (.func 238) #[] #[]] w (E5 w g o d a b):=by
 have hsp:=sg d a b hab;have h1:(d.take a).length=a:=by simp;omega
 refine(xQ (A:=d.take a) (X:=slc d a b) (B:=d.drop b) (by rw[←hsp];exact hd) (by rw[←hsp];exact hdl) hn hgl h1.symm (by rw[jw d a b hab (by omega)];omega) hX).mono ?_;rintro e w' ⟨he,⟨S,hS,hp,hc⟩,hB⟩;exact⟨he,hB,_,D7 hab (by omega) hS hp,hc⟩
theorem yJ{w:World}{g o n cap a m b:Nat}{d:List (Nat×Nat)}(hd:CL w g o d)(hdl:d.length=n)(hn:n≤1000)(hgl:g<w.heap.size)(ham:a<m)(hmb:m<b)(hb:b≤n)
 (hX:Srt (slc d a m)) (hY:Srt (slc d m b)) (hc:Crs (slc d a m) (slc d m b)):
 Calls prog 250 #[.slice (some ⟨g,o,none⟩) n cap,a,m,b,.func (.func 238) #[] #[]] w (E5 w g o d a b):=by
 have hsp:=sg d a b (by omega);have hj:=q8 d a m b (by omega) (by omega);have h1:(d.take a).length=a:=by simp;omega
 have l1:=jw d a m (by omega) (by omega);have l2:=jw d m b (by omega) (by omega);have e:d.take a++slc d a m++slc d m b++d.drop b=d:=by
  conv=>rhs;rw[hsp,hj]
  simp only[List.append_assoc]
 refine(IE _ w g o n cap a m b (d.take a) (slc d a m) (slc d m b) (d.drop b) (Nat.le_refl _) (by rw[e];exact hd) (by rw[e];exact hdl) hn hgl h1.symm (by omega) (by omega) (by omega) (by omega) hX hY hc).mono ?_;rintro e w' ⟨he,⟨S,hS,hp,hc⟩,hB⟩;exact⟨he,hB,_,D7 (by omega) (by omega) hS (by rw[hj];exact hp),hc⟩
def Fst(d0 d:List (Nat×Nat))(a:Nat):Prop:=d.length=d0.length∧Done 20 d0 d a∧∀lo hi,a≤lo→slc d lo hi=slc d0 lo hi
theorem Fst.next{d0 d d':List (Nat×Nat)}{a:Nat}(h:Fst d0 d a)(hp:Di d d' a (a+20)):Fst d0 d' (a+20):=by
 obtain⟨h1,h2,h3⟩:=h;obtain⟨p1,p2,p3,p4,p5⟩:=hp;exact⟨p1.trans h1,(h2.of p4).more ⟨p2,by rw[←h3 a (a+20) (Nat.le_refl _)];exact p3⟩,fun lo hi hl=>(p5 lo hi hl).trans (h3 lo hi (by omega))⟩
theorem Fst.last{d0 d d':List (Nat×Nat)}{a n:Nat}(h:Fst d0 d a)(ha:a≤n)(hn:n≤a+20)(hp:Di d d' a n):d'.length=d0.length∧Rest 20 d0 d' n 0:=by
 obtain⟨h1,h2,h3⟩:=h;obtain⟨p1,p2,p3,p4,p5⟩:=hp;exact⟨p1.trans h1,(h2.of p4).join ha (.last hn ⟨p2,by rw[←h3 a n (Nat.le_refl _)];exact p3⟩)⟩
theorem Fst.pair{d0 d:List (Nat×Nat)}{a b:Nat}(h:Fst d0 d a)(h0:d0.Pairwise fun x y=>x.1<y.1):(slc d a b).Pairwise fun x y=>x.1<y.1:=by
 rw[h.2.2 a b (Nat.le_refl _)];unfold slc;exact List.Pairwise.sublist ((List.take_sublist _ _).trans (List.drop_sublist _ _)) h0
def Snd(B:Nat)(d0 d:List (Nat×Nat))(n a:Nat):Prop:=d.length=d0.length∧Done (2*B) d0 d a∧Rest B d0 d n a
theorem Rest.good{B n:Nat}{d0 d:List (Nat×Nat)}{a:Nat}(h:Rest B d0 d n a)(hn:a+B<n):Good d0 d a (a+B)∧Rest B d0 d n (a+B):=by
 cases h with
 |last h _=>omega
 |more _ h1 h2=>exact⟨h1,h2⟩
theorem Rest.end'{B n:Nat}{d0 d:List (Nat×Nat)}{a:Nat}(h:Rest B d0 d n a)(hn:n≤a+B):Good d0 d a n:=by
 cases h with
 |last _ h=>exact h
 |more h h1 h2=>
  have e:a+B=n:=by omega
  rw[e]at h1;exact h1
theorem Li{d0 d:List (Nat×Nat)}(n:Nat):Good d0 d n n:=by
 unfold Good slc;rw[Nat.sub_self,List.take_zero,List.take_zero];exact⟨List.Pairwise.nil,List.Perm.refl _⟩
theorem Rest.two{B n:Nat}{d0 d:List (Nat×Nat)}{a:Nat}(h:Rest B d0 d n a)(hB:0<B)(hn:a+2*B≤n):Good d0 d a (a+B)∧Good d0 d (a+B) (a+2*B)∧Rest B d0 d n (a+2*B):=by
 obtain⟨h1,h2⟩:=h.good (by omega);have e:a+B+B=a+2*B:=by omega
 by_cases h3:a+B+B<n
 ·obtain⟨h4,h5⟩:=h2.good h3;rw[e]at h4 h5;exact⟨h1,h4,h5⟩
 ·have e2:n=a+2*B:=by omega
  have:=h2.end' (by omega);rw[e2]at this⊢;exact⟨h1,this,.last (by omega) (Li _)⟩
theorem Am{d0 d d':List (Nat×Nat)}{a m b:Nat}(h1:Good d0 d a m)(h2:Good d0 d m b)(ham:a≤m)(hmb:m≤b)(hp:Di d d' a b):Good d0 d' a b:=by
 obtain⟨p1,p2,p3,p4,p5⟩:=hp;refine⟨p2,p3.trans ?_⟩;rw[q8 d a m b ham hmb,q8 d0 a m b ham hmb];exact h1.2.append h2.2
theorem Snd.next{B n:Nat}{d0 d d':List (Nat×Nat)}{a:Nat}(h:Snd B d0 d n a)(hB:0<B)(hn:a+2*B≤n)(hp:Di d d' a (a+2*B)):Snd B d0 d' n (a+2*B):=by
 obtain⟨h1,h2,h3⟩:=h;obtain⟨q1,q2,q3⟩:=h3.two hB hn;have hg:=Am q1 q2 (by omega) (by omega) hp;obtain⟨p1,p2,p3,p4,p5⟩:=hp;exact⟨p1.trans h1,(h2.of p4).more hg,q3.of p5⟩
theorem Snd.half{B n:Nat}{d0 d d':List (Nat×Nat)}{a:Nat}(h:Snd B d0 d n a)(h1:a+B<n)(h2:n≤a+2*B)(hp:Di d d' a n):d'.length=d0.length∧Rest (2*B) d0 d' n 0:=by
 obtain⟨k1,k2,k3⟩:=h;obtain⟨q1,q2⟩:=k3.good h1;have hg:=Am q1 (q2.end' (by omega)) (by omega) (by omega) hp;obtain⟨p1,p2,p3,p4,p5⟩:=hp;exact⟨p1.trans k1,(k2.of p4).join (by omega) (.last h2 hg)⟩
theorem Snd.none{B n:Nat}{d0 d:List (Nat×Nat)}{a:Nat}(h:Snd B d0 d n a)(ha:a≤n)(h1:n≤a+B):d.length=d0.length∧Rest (2*B) d0 d n 0:=
 ⟨h.1,h.2.1.join ha (.last (by omega) (h.2.2.end' h1))⟩
theorem Snd.crs{B n:Nat}{d0 d:List (Nat×Nat)}{a:Nat}(h0:d0.Pairwise fun x y=>x.1<y.1)(h:Snd B d0 d n a)(hB:0<B)(hn:a+2*B≤n):
 Srt (slc d a (a+B))∧Srt (slc d (a+B) (a+2*B))∧Crs (slc d a (a+B)) (slc d (a+B) (a+2*B)):=by
 obtain⟨q1,q2,q3⟩:=h.2.2.two hB hn;exact⟨q1.1,q2.1,Good.crs h0 q1 q2 (by omega) (by omega)⟩
theorem Snd.crs2{B n:Nat}{d0 d:List (Nat×Nat)}{a:Nat}(h0:d0.Pairwise fun x y=>x.1<y.1)(h:Snd B d0 d n a)(h1:a+B<n)(h2:n≤a+2*B):
 Srt (slc d a (a+B))∧Srt (slc d (a+B) n)∧Crs (slc d a (a+B)) (slc d (a+B) n):=by
 obtain⟨q1,q2⟩:=h.2.2.good h1;have q3:=q2.end' (by omega);exact⟨q1.1,q3.1,Good.crs h0 q1 q3 (by omega) (by omega)⟩
attribute [local irreducible] slc
theorem Fk{w:World}{g o n cap:Nat}{d:List (Nat×Nat)}(hd:CL w g o d)(hdl:d.length=n)(hn:n≤1000)(hgl:g<w.heap.size)(hs:d.Pairwise fun x y=>x.1<y.1):
 Calls prog 246 #[.slice (some ⟨g,o,none⟩) n cap,n,.func (.func 238) #[] #[]] w fun e w'=>e=.returned (.tuple #[])∧(∃S,Srt S∧S.Perm d∧CL w' g o S)∧But [g] w w':=by
 have HD:=qhz hd;have HDL:=qhz hdl;have HS:=qhz hs;clear hd hdl hs
 go_enter func246,ntmps246
 go_wp2
 go_loopw [7,8] (fun av bv wr=>∃(a b:Nat) (d1:List (Nat×Nat)),av=.int .i64 a∧bv=.int .i64 b∧Hid (b=a+20)∧a≤n∧Fst d d1 a∧CL wr g o d1∧But [g] w wr) (fun av _ _=>n-(intOf av).toNat)
 case atStart=>exact⟨0,20,d,rfl,rfl,qhz rfl,Nat.zero_le _,⟨rfl,.zero,fun _ _ _=>rfl⟩,HD.out,But.refl _ _⟩
 case round=>
  obtain⟨a,b,d1,rfl,rfl,hb,han,hF,hC,hB⟩:=hrel
  by_cases hlt:b≤n
  ·have hins:=lu (cap:=cap) (a:=a) (b:=b) hC (hF.1.trans HDL.out) hn (Nat.lt_of_lt_of_le hgl hB.size) (by have:=hb.out;omega) hlt (hF.pair HS.out);have HI:=qhz hins;have HF:=qhz hF;have HB:=qhz hB;clear hins hF hB hC
   go_wp2_with fail
   refine HI.out.mono ?_;rintro e w2 ⟨rfl,hB2,d2,hp,hC2⟩;have HP:=qhz hp;have HC2:=qhz hC2;have HB2:=qhz hB2;clear hp hC2 hB2;go_wp2
   go_roundw
   case rel=>exact⟨b,b+20,d2,rfl,by go_num,qhz rfl,hlt,by have:=HP.out;have h:=hb.out;rw[h]at this⊢;exact HF.out.next this,HC2.out,HB.out.trans HB2.out⟩
   case measure=>have:=hb.out;simp[intOf];omega
  ·have hins:=lu (cap:=cap) (a:=a) (b:=n) hC (hF.1.trans HDL.out) hn (Nat.lt_of_lt_of_le hgl hB.size) han (Nat.le_refl _) (hF.pair HS.out);have HI:=qhz hins;have HF:=qhz hF;have HB:=qhz hB;have HLT:=qhz hlt;clear hins hF hB hC
   go_wp2_with fail
   refine HI.out.mono ?_;rintro e w2 ⟨rfl,hB2,d2,hp,hC2⟩;have hr:=HF.out.last han (by have:=hb.out;have:=HLT.out;omega) hp;have HR:=qhz hr;have HC2:=qhz hC2;have HB2:=qt HB hB2;clear hp hC2 hB2 hr hlt;obtain⟨wo,rfl⟩:=E1 (w2:World);go_wp2
   go_loopw [6,7,8,9] (fun bv av b2v mv wr=>∃(B:Nat) (d1:List (Nat×Nat)),bv=.int .i64 B∧20≤B∧B≤2000∧d1.length=d.length∧Rest B d d1 n 0∧CL wr g o d1∧But [g] w wr) (fun bv _ _ _ _=>n-(intOf bv).toNat)
   case atStart=>exact⟨20,d2,rfl,by omega,by omega,HR.out.1,HR.out.2,HC2.out,HB2.out⟩
   case round=>
    obtain⟨B,d3,rfl,hB20,hB2k,hl3,hr3,hC3,hB3⟩:=hrel
    by_cases hBn:B<n
    ·have HL3:=qhz hl3;have HR3:=qhz hr3;have HC3:=qhz hC3;have HB3:=qhz hB3;clear hl3 hr3 hC3 hB3;obtain⟨wi,rfl⟩:=E1 (wr:World);go_wp2
     go_loopw [7,8] (fun av bv wr=>∃(a b:Nat) (d1:List (Nat×Nat)),av=.int .i64 a∧bv=.int .i64 b∧Hid (b=a+2*B)∧a≤n∧Snd B d d1 n a∧CL wr g o d1∧But [g] w wr) (fun av _ _=>n-(intOf av).toNat)
     case atStart=>exact⟨0,2*B,d3,rfl,by go_num,qhz (by omega),Nat.zero_le _,⟨HL3.out,.zero,HR3.out⟩,HC3.out,HB3.out⟩
     case round=>
      obtain⟨a,b,d4,rfl,rfl,hb4,han4,hS4,hC4,hB4⟩:=hrel;have hal:(a:Int)+(B:Int)=((a+B:Nat):Int):=by omega
      by_cases hbl:b≤n
      ·obtain⟨c1,c2,c3⟩:=hS4.crs HS.out (by omega) (by have:=hb4.out;omega);have hsy:=yJ (cap:=cap) (a:=a) (m:=a+B) (b:=a+2*B) hC4 (hS4.1.trans HDL.out) hn (Nat.lt_of_lt_of_le hgl hB4.size) (by omega) (by omega) (by have:=hb4.out;omega) c1 c2 c3;have e4:=hb4.out;rw[←e4]at hsy;obtain⟨ab,hab⟩:=E1 (a+B);rw[←hab]at hsy hal;have HSY:=qhz hsy;have HS4:=qhz hS4;have HB4:=qhz hB4;clear hsy hS4 hB4 hC4 c1 c2 c3 e4 hab
       go_wp2_with fail
       refine HSY.out.mono ?_;rintro e w5 ⟨rfl,hB5,d5,hp5,hC5⟩;have HP:=qhz hp5;have HC5:=qhz hC5;have HB5:=qhz hB5;clear hp5 hC5 hB5 hal;go_wp2
       go_roundw
       case rel=>exact⟨b,b+2*B,d5,rfl,by go_num,qhz rfl,hbl,by have:=HP.out;have h:=hb4.out;rw[h]at this⊢;exact HS4.out.next (by omega) (by omega) this,HC5.out,HB4.out.trans HB5.out⟩
       case measure=>have:=hb4.out;simp[intOf];omega
      ·obtain⟨ab,hab⟩:=E1 (a+B);rw[←hab]at hal
       by_cases hmn:ab<n
       ·obtain⟨c1,c2,c3⟩:=hS4.crs2 HS.out (by omega) (by have:=hb4.out;omega);have hsy:=yJ (cap:=cap) (a:=a) (m:=a+B) (b:=n) hC4 (hS4.1.trans HDL.out) hn (Nat.lt_of_lt_of_le hgl hB4.size) (by omega) (by omega) (Nat.le_refl _) c1 c2 c3;rw[←hab]at hsy;have HSY:=qhz hsy;have HS4:=qhz hS4;have HB4:=qhz hB4;have HBL:=qhz hbl;have HAB:=qhz hab;clear hsy hS4 hB4 hC4 c1 c2 c3 hab
        go_wp2_with fail
        refine HSY.out.mono ?_;rintro e w5 ⟨rfl,hB5,d5,hp5,hC5⟩;have hh:=HS4.out.half (by have:=HAB.out;omega) (by have:=hb4.out;have:=HBL.out;omega) hp5;have HH:=qhz hh;have HC5:=qhz hC5;have HB5:=qhz hB5;clear hp5 hC5 hB5 hh;go_wp2
        go_roundw
        case rel=>exact⟨2*B,d5,by go_num,by omega,by omega,HH.out.1,HH.out.2,HC5.out,HB4.out.trans HB5.out⟩
        case measure=>simp[intOf];omega
       ·have hh:=hS4.none han4 (by omega);have HH:=qhz hh;have HC5:=qhz hC4;have HB5:=qhz hB4;clear hh hC4 hB4 hS4 hab;go_wp2
        go_roundw
        case rel=>exact⟨2*B,d4,by go_num,by omega,by omega,HH.out.1,HH.out.2,HC5.out,HB5.out⟩
        case measure=>simp[intOf];omega
    ·have hg:=hr3.end' (n:=n) (by omega);have hw:=Good.whole hl3 (by have e:=HDL.out;rw[e];exact hg);have HW:=qhz hw;have HC3:=qhz hC3;have HB3:=qhz hB3;clear hl3 hr3 hC3 hB3 hg hw;go_wp2
     go_end0
     exact⟨rfl,⟨d3,HW.out.1,HW.out.2,HC3.out⟩,HB3.out⟩
theorem Jb:pf 1000:=No fun hd hdl hn hgl hs=>Fk hd hdl hn hgl hs
end
theorem Gl{w:World}{A:Option Addr}{len cap M:Nat}{l:List Int}(hl:Ints w A len l)(hM1:1≤M)(hM2:M≤15)(h288:len≤288)(hok:cu l=true)(hp:(csOf l len).length≤2^M){m:Int}(hm:(M:Int)=m):
 Calls prog 201 #[m,.slice A len cap] w (qo w len (lims M l)):=by
 subst hm;refine(Gm Jb hl hM1 hM2 h288 (by have:=dc l len;omega)).mono ?_;rintro e w' (⟨_,_,h⟩|⟨h,_⟩)
 ·exact h
 ·rcases h with h|h
  ·rw[hok]at h;cases h
  ·omega
def ap(n:Nat):Array Value:=madeCells (Value.int .i64 0).cells (n*1)
theorem eF(n:Nat)(hn:n≤1000)(w:World):(Instr.makeSlice 36 (.int .i64 (n:Int)) (.int .i64 (n:Int))).run prog w=.ok (.slice w.heap.size n n) (w.alloc (.cells (ap n) 3)):=by
 obtain⟨i0,hi0,hz0,hz1,hz2⟩:=info_parts cG;have h:=run_makeSlice (P:=prog) w 36 3 i0 (.int .i64 0) underlying36 hi0 hz0 .i64 .i64 (n:Int) (n:Int) (by omega) (by omega) (by rw[hz1];omega) (by rw[hz2];omega) (by omega);rw[hz1]at h;simpa[ap]using h
end Go.Proofs.YtbanopnofpjnbaaGreatDoor
