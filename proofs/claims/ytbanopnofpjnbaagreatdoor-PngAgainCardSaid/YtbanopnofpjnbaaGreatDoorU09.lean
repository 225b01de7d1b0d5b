/- Own texts in one: SortX, StableA, CoinsM, CoinsW, Pairs, RowsOf, Range, Backward. -/
import Derived.Test.YtbanopnofpjnbaaGreatDoorU08
set_option maxRecDepth 1000000
set_option linter.unusedVariables false
set_option maxHeartbeats 4000000
namespace Go.Proofs.YtbanopnofpjnbaaGreatDoor
open Go Go.RowKit Tryz
theorem But.grow{S:List Nat}{w W:World}(h:But S w W)(n:Nat)(os:Array Obj):But S w (Sort.grow (W.drewN n) os):=
 h.trans ⟨rfl,rfl,rfl,by simp[Sort.grow],fun k hk _=>Sort.heap_grow_old (W.drewN n) os hk⟩
theorem CL.grow{W:World}{b o:Nat}{d:List (Nat×Nat)}(h:CL W b o d)(hb:b<W.heap.size)(n:Nat)(os:Array Obj):CL (Sort.grow (W.drewN n) os) b o d:=h.heap (Sort.heap_grow_old (W.drewN n) os hb)
theorem lA{d:List (Nat×Nat)}{A B:List (Nat×Nat)}{x:Nat×Nat}{i:Nat}(h:d=A++x::B)(hi:i=A.length):d.getD i (0,0)=x:=by
 subst h hi;simp[List.getD_eq_getElem?_getD]
theorem CL.get{W:World}{b o i:Nat}{d:List (Nat×Nat)}{x:Nat×Nat}(h:CL W b o d)(hi:i<d.length)(hx:d.getD i (0,0)=x):
 W.cell? ⟨b,o+i*2,none⟩=some (.int .i64 x.1)∧W.cell? ⟨b,o+i*2+1,none⟩=some (.int .i64 x.2)∧W.frozen? ⟨b,o+i*2,none⟩=false∧W.frozen? ⟨b,o+i*2+1,none⟩=false:=by
 have e:d[i]=x:=by rw[←hx,List.getD_eq_getElem?_getD,List.getElem?_eq_getElem hi];rfl
 rw[←e];exact h i hi
theorem yj{x y:Int}(h:x<y):nm x y<0:=by unfold nm;rw[if_pos h];decide
theorem yi{x y:Int}(h:¬x<y):¬nm x y<0:=by unfold nm;rw[if_neg h];split<;>decide
theorem pu{S1 S2:List (Nat×Nat)}{x:Nat×Nat}(h:Srt (S1++S2))(h1:∀y,S1.getLast? =some y→lx y x)(h2:∀y∈S2,lx x y):Srt (S1++x::S2):=by
 have hs:=List.pairwise_append.1 h;refine List.pairwise_append.2 ⟨hs.1,List.pairwise_cons.2 ⟨h2,hs.2.1⟩,fun a ha b hb=>?_⟩;rcases List.mem_cons.1 hb with rfl|hb
 ·rcases List.eq_nil_or_concat S1 with e|⟨q,s,e⟩
  ·subst e;cases ha
  ·rw[List.concat_eq_append]at e;subst e;have hl:=h1 s (by simp);rcases List.mem_append.1 ha with h3|h3
   ·exact fC ((List.pairwise_append.1 hs.1).2.2 a h3 s (by simp)) hl
   ·have:a=s:=by simpa using h3
    subst this;exact hl
 ·exact hs.2.2 a ha b hb
theorem xQ{w:World}{g o n cap a b:Nat}{A X B:List (Nat×Nat)}(hd:CL w g o (A++X++B))(hdl:(A++X++B).length=n)(hn:n≤1000)(hgl:g<w.heap.size)
 (ha:a=A.length) (hb:b=A.length+X.length) (hX:X.Pairwise fun x y=>x.1<y.1):
 Calls prog 249 #[.slice (some ⟨g,o,none⟩) n cap,a,b,.func (.func 238) #[] #[]] w fun e w'=>e=.returned (.tuple #[])∧(∃S,Srt S∧S.Perm X∧CL w' g o (A++S++B))∧But [g] w w':=by
 have mixed:prog.follows .mixedOrders=true:=by kernel_rfl
 have hbn:b≤n:=by simp at hdl;omega
 have hab:a≤b:=by omega
 have HA:=qhz ha;have HBX:=qhz hb;have HDL:=qhz hdl;clear ha hb hdl
 by_cases hX0:X=[]
 ·subst hX0
  go_enter func249,ntmps249
  go_wp2
  go_loopw [8] (fun iv wr=>iv=.int .i64 ((a:Int)+1)∧wr=w) (fun _ _=>0)
  case atStart=>exact⟨rfl,rfl⟩
  case round=>
   obtain⟨rfl,rfl⟩:=hrel;have hlt:¬(a:Int)+1<(b:Int):=by have h1:=HA.out;have h2:=HBX.out;simp only[List.length_nil]at h2;omega
   go_wp2
   go_end0
   exact⟨rfl,⟨[],List.Pairwise.nil,rfl,by simpa using hd⟩,But.refl _ _⟩
 obtain⟨x0,X0,rfl⟩:∃x0 X0,X=x0::X0:=by
  cases X with
  |nil=>exact absurd rfl hX0
  |cons x X=>exact⟨x,X,rfl⟩
 go_enter func249,ntmps249
 go_wp2
 go_loopw [8] (fun iv wr=>∃(i:Nat) (S R:List (Nat×Nat)),iv=.int .i64 ((i:Int)+1)∧a≤i∧i+1≤b∧A.length+S.length=i+1∧Srt S∧(S++R).Perm (x0::X0)∧R.Pairwise (fun x y=>x.1<y.1)∧Crs S R∧CL wr g o (A++S++R++B)∧(A++S++R++B).length=n∧But [g] w wr) (fun iv _=>b-(intOf iv).toNat)
 case atStart=>
  refine⟨a,[x0],X0,rfl,Nat.le_refl _,by have:=HBX.out;have:=HA.out;simp at*;omega,by have:=HA.out;simp;omega,List.pairwise_singleton _ _,List.Perm.refl _,(List.pairwise_cons.1 hX).2,fun s hs y hy=>?_,by simpa using hd,by have:=HDL.out;simp at*;omega,But.refl _ _⟩;have:s=x0:=by simpa using hs
  subst this;exact(List.pairwise_cons.1 hX).1 y hy
 case round=>
  obtain⟨i,S,R,rfl,hai,hib,hSl,hS,hp,hR,hcr,hd',hL,hB⟩:=hrel;clear hd hX hX0
  by_cases hlt:i+1<b
  ·have hRne:0<R.length:=by
    have h1:=hp.length_eq;have h2:=HBX.out;rw[List.length_append]at h1;omega
   obtain⟨x,R,rfl⟩:∃x R',R=x::R':=by
    cases R with
    |nil=>simp at hRne
    |cons x R'=>exact⟨x,R',rfl⟩
   have hlt2:(i:Int)+1<(b:Int):=by omega
   have hRt:=(List.pairwise_cons.1 hR)
   obtain⟨wo,rfl⟩:=E1 (wr:World);go_wp2
   go_loopw [9] (fun jv wr=>∃(j:Nat) (S1 S2:List (Nat×Nat)),jv=.int .i64 j∧a≤j∧A.length+S1.length=j∧S1++S2=S∧(∀y∈S2,lx x y)∧CL wr g o (A++S1++x::S2++R++B)∧But [g] w wr) (fun jv _=>(intOf jv).toNat)
   case atStart=>exact⟨i+1,S,[],by go_num,by omega,hSl,by simp,by simp,by simpa using hd',hB⟩
   case round=>
    clear hd' hB;obtain⟨j,S1,S2,rfl,haj,hjl,hSe,h2,hdj,hBj⟩:=hrel;have hgj:g<wr.heap.size:=Nat.lt_of_lt_of_le hgl hBj.size;have hLj:(A++S1++x::S2++R++B).length=n:=by
     rw[←hL,←hSe];simp;omega
    have hout:∀(W:World),CL W g o (A++S1++x::S2++R++B)→But [g] w W→(∀y,S1.getLast? =some y→lx y x)→
     ∃(i':Nat) (S R':List (Nat×Nat)),Value.int .i64 ((i:Int)+1+1)=.int .i64 ((i':Int)+1)∧a≤i'∧i'+1≤b∧A.length+S.length=i'+1∧Srt S∧(S++R').Perm (x0::X0)∧R'.Pairwise (fun x y=>x.1<y.1)∧Crs S R'∧CL W g o (A++S++R'++B)∧(A++S++R'++B).length=n∧But [g] w W:=fun W hW hBW hl=>by
     refine⟨i+1,S1++x::S2,R,by go_num,by omega,by omega,by rw[←hSe]at hSl;simp at hSl⊢;omega,pu (by rw[hSe];exact hS) hl h2,?_,hRt.2,?_,by simpa using hW,by simpa using hLj,hBW⟩
     ·refine List.Perm.trans ?_ hp;rw[←hSe];have:(S1++x::S2).Perm (S1++S2++[x]):=by
       rw[List.append_assoc];exact List.Perm.append_left S1 (List.perm_append_singleton x S2).symm
      have h:=this.append_right R;simpa using h
     ·intro s hs y hy;rcases List.mem_append.1 hs with h|h
      ·exact hcr s (by rw[←hSe];exact List.mem_append_left _ h) y (List.mem_cons_of_mem _ hy)
      ·rcases List.mem_cons.1 h with rfl|h
       ·exact hRt.1 y hy
       ·exact hcr s (by rw[←hSe];exact List.mem_append_right _ h) y (List.mem_cons_of_mem _ hy)
    have HOUT:=qhz hout;clear hout;rcases List.eq_nil_or_concat S1 with e|⟨S1,y,e⟩
    ·subst e;have hja:j=a:=by have:=HA.out;simp at hjl;omega
     have hg1:decide ((a:Int)<(j:Int))=false:=by simp;omega
     have hg2:decide (a<j)=false:=by simp;omega
     have HD:=qhz hdj;have HBJ:=qhz hBj;clear hdj hBj hja haj hjl;go_wp2
     go_quiet (fail)
     go_wp2
     go_roundw
     case rel=>exact HOUT.out _ (HD.out.heap rfl) (HBJ.out.drewN _) (by simp)
     case measure=>simp[intOf];omega
    ·rw[List.concat_eq_append]at e;subst e;obtain⟨jp,rfl⟩:∃jp,j=jp+1:=⟨j-1,by simp at hjl;omega⟩
     have hjl2:A.length+S1.length=jp:=by simp at hjl;omega
     have hja:a≤jp:=by have:=HA.out;omega
     have hjn:jp+1<n:=by simp at hLj;omega
     have hx:=lA (d:=A++(S1++[y])++x::S2++R++B) (A:=A++(S1++[y])) (x:=x) (B:=S2++R++B) (i:=jp+1) (by simp) (by simp;omega);have hy:=lA (d:=A++(S1++[y])++x::S2++R++B) (A:=A++S1) (x:=y) (B:=x::S2++R++B) (i:=jp) (by simp) (by simp;omega);have hgx:∀n' os,_:=fun n' os=>(hdj.grow hgj n' os).get (i:=jp+1) (by omega) hx;have hgy:∀n' os,_:=fun n' os=>(hdj.grow hgj n' os).get (i:=jp) (by omega) hy;have x0':=fun n' os=>(hgx n' os).1;have x1':=fun n' os=>(hgx n' os).2.1;have y0':=fun n' os=>(hgy n' os).1;have y1':=fun n' os=>(hgy n' os).2.1;have hcg:=fun n' os=>oW x.1 x.2 y.1 y.2 (Sort.grow (wr.drewN n') os);have hg1:decide ((a:Int)<((jp:Int)+1))=true:=by simp;omega
     have hwp:IntKind.i64.wrap (jp:Int)=(jp:Int):=by rw[IntKind.wrap_i64];omega
     have jz:(jp:Int)+1<(n:Int):=by omega
     have jz1:(jp:Int)<(n:Int):=by omega
     have hjaz':(a:Int)<(jp:Int)+1:=by omega
     have p0:(0:Int)≤(jp:Int)+1:=by omega
     have p1:(0:Int)≤(jp:Int):=by omega
     have e0:((jp:Int)+1).toNat=jp+1:=by omega
     have H2:=qhz h2;have HX:=qhz hx;have HY:=qhz hy;have HD:=qhz hdj;have HBJ:=qhz hBj;have HSE:=qhz hSe;have HLJ:=qhz hLj;clear hx hy hdj hBj hgx hgy hSe hjl hja hLj
     by_cases hlv:(x.2:Int)<(y.2:Int)
     ·have hcv:=yj hlv;generalize nm (x.2:Int) (y.2:Int)=cv at *
      go_wp2_with fail
      go_quiet_grown (first|(go_at_call 238;refine Calls.grown_of (hcg _ _)))
      have hdq:=HD.out.grow hgj nq osq;have hbq:=HBJ.out.grow nq osq;clear x0' x1' y0' y1' hcg;generalize Sort.grow (wr.drewN nq) osq=wq at hdq hbq⊢;obtain⟨x0',x1',x2',x3'⟩:=hdq.get (i:=jp+1) (by have:=HLJ.out;omega) HX.out;obtain⟨y0',y1',y2',y3'⟩:=hdq.get (i:=jp) (by have:=HLJ.out;omega) HY.out;obtain⟨xs,xc⟩:=x;obtain⟨ys,yc⟩:=y;dsimp only at x0' x1' y0' y1' hlv;have HQ:=qhz hdq;have HBQ:=qhz hbq;have HLV:=qhz hlv;clear hdq hbq hlv hcv h2 hcr hRt hR hp hS;go_wp2
      go_region
      go_wp2
      go_roundw
      case rel=>
       refine⟨jp,S1,(ys,yc)::S2,rfl,by omega,hjl2,by rw[←HSE.out];simp,?_,?_,(HBQ.out.swap _ _ _ _).drew⟩
       ·intro z hz;rcases List.mem_cons.1 hz with rfl|hz
        ·exact .inl (by have:=HLV.out;show xc<yc;omega)
        ·exact H2.out z hz
       ·have e:sw (A++(S1++[(ys,yc)])++(xs,xc)::S2++R++B) (jp+1) jp=A++S1++(xs,xc)::(ys,yc)::S2++R++B:=by
         rw[IG _ _ _ (by omega)];have:=Bo (A++S1) (S2++R++B) (ys,yc) (xs,xc) jp (jp+1) (by simp;omega) rfl;simpa using this
        rw[←e];exact(HQ.out.swap (by have:=HLJ.out;omega) (by have:=HLJ.out;omega) (by omega) HX.out HY.out).heap rfl
      case measure=>simp[intOf];try omega
     ·have hcv:=yi hlv;generalize nm (x.2:Int) (y.2:Int)=cv at *
      go_wp2_with fail
      go_quiet_grown (first|(go_at_call 238;refine Calls.grown_of (hcg _ _)))
      go_wp2
      go_roundw
      case rel=>
       refine HOUT.out _ (HD.out.grow hgj nq osq) (HBJ.out.grow nq osq) ?_;intro z hz;have:y=z:=by simpa using hz
       subst this;have hy1:=hcr y (by rw[←HSE.out];simp) x (by simp);unfold lx;omega
      case measure=>simp[intOf];omega
  ·obtain rfl:i+1=b:=by omega
   have hRe:R=[]:=by
    have h1:=hp.length_eq;have h2:=HBX.out;rw[List.length_append]at h1;exact List.eq_nil_of_length_eq_zero (by omega)
   subst hRe;go_wp2
   go_end0
   exact⟨rfl,⟨S,hS,by simpa using hp,by simpa using hd'⟩,hB⟩
def pf(N:Nat):Prop:=∀(w:World) (g o n cap:Nat) (d:List (Nat×Nat)),CL w g o d→d.length=n→n≤N→g<w.heap.size→(d.Pairwise fun x y=>x.1<y.1)→
 Calls prog 237 #[.slice (some ⟨g,o,none⟩) n cap,.func (.func 238) #[] #[]] w fun e w'=>e=.returned (.tuple #[])∧(∃S,Srt S∧S.Perm d∧CL w' g o S)∧But [g] w w'
theorem No{N:Nat}(h:∀{w:World} {g o n cap:Nat} {d:List (Nat×Nat)},CL w g o d→d.length=n→n≤N→g<w.heap.size→(d.Pairwise fun x y=>x.1<y.1)→
 Calls prog 246 #[.slice (some ⟨g,o,none⟩) n cap,n,.func (.func 238) #[] #[]] w fun e w'=>e=.returned (.tuple #[])∧(∃S,Srt S∧S.Perm d∧CL w' g o S)∧But [g] w w'):pf N:=by
 intro w g o n cap d hd hdl hn hgl hs;have HI:=qhz (h (cap:=cap) hd hdl hn hgl hs);clear hd hdl
 go_enter func237,ntmps237
 go_wp2_with fail
 refine HI.out.mono ?_;rintro e w' ⟨rfl,hS,hB⟩;go_wp2
 go_end0
 exact⟨rfl,hS,hB⟩
theorem xP(w:World)(A:Option Addr)(cap:Nat)(f:Value):Calls prog 249 #[.slice A 0 cap,(0:Int),(0:Int),f] w fun e w'=>e=.returned (.tuple #[])∧w=w':=by
 go_enter func249,ntmps249
 go_wp2
 go_loopw [8] (fun iv wr=>iv=.int .i64 1∧wr=w) (fun _ _=>0)
 case atStart=>exact⟨rfl,rfl⟩
 case round=>
  obtain⟨rfl,rfl⟩:=hrel;go_wp2
  go_end0
  exact⟨rfl,rfl⟩
theorem Fj(w:World)(A:Option Addr)(cap:Nat)(f:Value):Calls prog 246 #[.slice A 0 cap,(0:Int),f] w fun e w'=>e=.returned (.tuple #[])∧w=w':=by
 go_enter func246,ntmps246
 go_wp2
 go_loopw [7,8] (fun av bv wr=>av=.int .i64 0∧bv=.int .i64 20∧wr=w) (fun _ _ _=>0)
 case atStart=>exact⟨rfl,rfl,rfl⟩
 case round=>
  obtain⟨rfl,rfl,rfl⟩:=hrel
  go_wp2_with fail
  refine(xP _ _ _ _).mono ?_;rintro e w' ⟨rfl,rfl⟩;obtain⟨w9,hw9⟩:∃w9:World,wr=w9:=⟨_,rfl⟩
  subst hw9;go_wp2
  go_loopw [6] (fun bv w2=>bv=.int .i64 20∧w2=wr) (fun _ _=>0)
  case atStart=>exact⟨rfl,rfl⟩
  case round=>
   obtain⟨rfl,rfl⟩:=hrel;go_wp2
   go_end0
   exact⟨rfl,rfl⟩
theorem Np(w:World)(A:Option Addr)(cap:Nat)(f:Value):Calls prog 237 #[.slice A 0 cap,f] w fun e w'=>e=.returned (.tuple #[])∧w=w':=by
 go_enter func237,ntmps237
 go_wp2_with (go_at_call 246;refine(Fj _ _ _ _).mono ?_;rintro e w' ⟨rfl,rfl⟩)
 go_end0
 exact⟨rfl,rfl⟩
def cw(l:List Int):Nat→List (Nat×Nat)
 |0=>[]
 |k+1=>if 0<l.getD k 0 then cw l k++[(k,(l.getD k 0).toNat)]else cw l k
def spot(c:Nat):List (Nat×Nat)→Nat
 |[]=>0
 |x::cs=>if x.2≤c then spot c cs+1 else 0
def ins(cs:List (Nat×Nat))(c:Nat×Nat):List (Nat×Nat):=cs.take (spot c.2 cs)++c::cs.drop (spot c.2 cs)
def csOf(l:List Int):Nat→List (Nat×Nat)
 |0=>[]
 |k+1=>if 0<l.getD k 0 then ins (csOf l k) (k,(l.getD k 0).toNat)else csOf l k
theorem ju{l:List Int}{x:Nat×Nat}:∀{k:Nat},x∈cw l k↔x.1<k∧0<l.getD x.1 0∧x.2=(l.getD x.1 0).toNat
 |0=>by simp[cw]
 |k+1=>by
  rw[cw];split
  ·rename_i h;rw[List.mem_append,ju,List.mem_singleton];constructor
   ·rintro(⟨h1,h2,h3⟩|rfl)
    ·exact⟨by omega,h2,h3⟩
    ·exact⟨by simp,h,rfl⟩
   ·rintro⟨h1,h2,h3⟩
    by_cases e:x.1=k
    ·right;cases x;simp at e h3⊢;subst e;exact⟨rfl,h3⟩
    ·left;exact⟨by omega,h2,h3⟩
  ·rename_i h;rw[ju];constructor
   ·rintro⟨h1,h2,h3⟩;exact⟨by omega,h2,h3⟩
   ·rintro⟨h1,h2,h3⟩;refine⟨?_,h2,h3⟩;have:x.1≠k:=fun e=>h (by rw[←e];exact h2);omega
theorem me(l:List Int):∀k,(cw l k).Pairwise fun x y=>x.1<y.1
 |0=>List.Pairwise.nil
 |k+1=>by
  rw[cw];split
  ·refine List.pairwise_append.2 ⟨me l k,List.pairwise_singleton _ _,fun a ha b hb=>?_⟩;have h1:=(ju.1 ha).1;have:b=(k,(l.getD k 0).toNat):=by simpa using hb
   subst this;exact h1
  ·exact me l k
theorem dc(l:List Int):∀k,(cw l k).length≤k
 |0=>Nat.le_refl _
 |k+1=>by rw[cw];have:=dc l k;split<;>simp<;>omega
theorem mQ(c:Nat):∀(cs:List (Nat×Nat)) (i:Nat) (h:i<cs.length),i<spot c cs→cs[i].2≤c
 |x::cs,i,h,hi=>by
  rw[spot]at hi;split at hi
  ·rename_i hx;cases i with
   |zero=>exact hx
   |succ i=>exact mQ c cs i (by simpa using h) (by omega)
  ·omega
theorem Bw(c:Nat):∀(cs:List (Nat×Nat)) (h:spot c cs<cs.length),c<cs[spot c cs].2
 |x::cs,h=>by
  by_cases hx:x.2≤c
  ·have e:spot c (x::cs)=spot c cs+1:=by rw[spot,if_pos hx]
   simp only[e]at h⊢;simpa using Bw c cs (by simpa using h)
  ·have e:spot c (x::cs)=0:=by rw[spot,if_neg hx]
   simp only[e]at h⊢;simp;omega
theorem Ox(cs:List (Nat×Nat))(c:Nat×Nat):(ins cs c).Perm (cs++[c]):=by
 unfold ins;have h:=List.take_append_drop (spot c.2 cs) cs
 conv=>rhs;rw[←h]
 rw[List.append_assoc];exact List.Perm.append_left _ (List.perm_append_singleton c _).symm
theorem QL{cs:List (Nat×Nat)}{c:Nat×Nat}(h:Srt cs)(hc:∀x∈cs,x.1<c.1):Srt (ins cs c):=by
 unfold ins;have hs:Srt (cs.take (spot c.2 cs)++cs.drop (spot c.2 cs)):=by rw[List.take_append_drop];exact h
 have hp:=List.pairwise_append.1 hs;refine List.pairwise_append.2 ⟨hp.1,List.pairwise_cons.2 ⟨fun y hy=>?_,hp.2.1⟩,fun a ha b hb=>?_⟩
 ·
  have hlt:spot c.2 cs<cs.length:=by
   apply Classical.byContradiction;intro hn
   rw[List.drop_of_length_le (by omega)]at hy;cases hy
  have hat:=Bw c.2 cs hlt;rw[List.drop_eq_getElem_cons hlt]at hy;rcases List.mem_cons.1 hy with rfl|hy
  ·exact .inl hat
  ·have h2:=hp.2.1;rw[List.drop_eq_getElem_cons hlt]at h2;have h3:=(List.pairwise_cons.1 h2).1 y hy;left;unfold lx at h3;omega
 ·rcases List.mem_cons.1 hb with rfl|hb
  ·obtain⟨i,hi,rfl⟩:=List.mem_take_iff_getElem.1 ha;have h1:=mQ b.2 cs i (by omega) (by omega);have h2:=hc _ (List.getElem_mem (show i<cs.length by omega));unfold lx;omega
  ·exact hp.2.2 a ha b hb
theorem lB(l:List Int):∀k,Srt (csOf l k)∧(csOf l k).Perm (cw l k)
 |0=>⟨List.Pairwise.nil,List.Perm.refl _⟩
 |k+1=>by
  obtain⟨h1,h2⟩:=lB l k;rw[csOf,cw];split
  ·refine⟨QL h1 (fun x hx=>(ju.1 (h2.mem_iff.1 hx)).1),(Ox _ _).trans (h2.append_right _)⟩
  ·exact⟨h1,h2⟩
theorem Q8{l:List Int}{k:Nat}{S:List (Nat×Nat)}(h:Srt S)(hp:S.Perm (cw l k)):S=csOf l k:=
 h.unique (lB l k).1 (hp.trans (lB l k).2.symm)
theorem gL{l:List Int}{x:Nat×Nat}{k:Nat}:x∈csOf l k↔x.1<k∧0<l.getD x.1 0∧x.2=(l.getD x.1 0).toNat:=by
 rw[(lB l k).2.mem_iff,ju]
theorem gi(l:List Int)(k:Nat):(csOf l k).length=(cw l k).length:=(lB l k).2.length_eq
def dw(r:List (Nat×Nat)):List Value:=r.flatMap fun x=>[.int .i64 x.1,.int .i64 x.2]
theorem uA(r:List (Nat×Nat))(x:Nat×Nat):dw (r++[x])=dw r++[.int .i64 x.1,.int .i64 x.2]:=by simp[dw]
theorem qL:∀(r:List (Nat×Nat)) (i:Nat) (h:i<r.length),(dw r)[i*2]? =some (.int .i64 r[i].1)∧(dw r)[i*2+1]? =some (.int .i64 r[i].2)
 |x::r,0,_=>by simp[dw]
 |x::r,i+1,h=>by
  have:=qL r i (by simpa using h);have e:dw (x::r)=.int .i64 x.1:: .int .i64 x.2::dw r:=by simp[dw]
  rw[e,show(i+1)*2=i*2+1+1 from by omega];simpa using this
def OwnC(w:World)(base:Nat)(v:Value)(r:List (Nat×Nat)):Prop:=w.ownsRow base 253 2 v r.length (dw r)
theorem K8:(prog.info? 253).map (fun i=>(i.zero,i.size,i.bytes))=some (some (.agg #[(0:Int),(0:Int)]),2,16):=by kernel_rfl
theorem OwnC.cl{w:World}{base g n c:Nat}{r:List (Nat×Nat)}(h:OwnC w base (.slice g n c) r):n=r.length∧CL w g 0 r:=by
 have hn:n=r.length:=by
  unfold OwnC at h;rcases h.2 with⟨e,_⟩|⟨g,cap,cur,e,_⟩
  ·cases e
  ·injection e
 subst hn;refine⟨rfl,fun i hi=>?_⟩;obtain⟨e1,e2⟩:=qL r i hi;have h1:=World.ownsRow.cells h (g:=g) rfl _ _ e1;have h2:=World.ownsRow.cells h (g:=g) rfl _ _ e2;rw[Go.WideShapes.add_plain]at h1 h2;exact⟨h1,by rw[Nat.add_assoc];exact h2,World.ownsRow.frozenAt h _,World.ownsRow.frozenAt h _⟩
theorem CL.coins{w:World}{g n:Nat}{r:List (Nat×Nat)}(h:CL w g 0 r)(hn:r.length=n)(hg:g<w.heap.size):Coins w (some ⟨g,0,none⟩) n r:=
 ⟨hn,fun _=>⟨g,0,rfl,hg,fun i hi=>⟨(h i hi).1,(h i hi).2.1⟩⟩⟩
theorem OwnC.pushed{w wr w':World}{v v':Value}{L:List (Nat×Nat)}{x y:Nat}(hB:But [] w wr)(hO:OwnC wr w.heap.size v L)
 (h1:w'.ownsRow w.heap.size 253 2 v' (L.length+1) (dw L++[.int .i64 x,.int .i64 y])) (hg:(wr.alloc (.cells #[x,y] 253)).grownBy w' v.ownBlock):
 OwnC w' w.heap.size v' (L++[(x,y)])∧But [] w w':=by
 refine⟨?_,(hB.alloc _).grown hg (fun g e=>.inr (hO.lt g e).1)⟩;unfold OwnC;rw[List.length_append,uA];exact h1
def Po(w:World)(l:List Int)(len:Nat)(e:Ending)(w':World):Prop:=
 ∃A c,e=.returned (.slice A (csOf l len).length c)∧Coins w' A (csOf l len).length (csOf l len)∧(∀a,A=some a→w.heap.size≤a.block)∧But [] w w'
theorem CY{N:Nat}(hN:pf N){w:World}{A:Option Addr}{len cap:Nat}{l:List Int}(hl:Ints w A len l)(h288:len≤288)(hcN:(cw l len).length≤N):
 Calls prog 224 #[.slice A len cap] w (Po w l len):=by
 obtain⟨i0,hi0,hz0,hz1,hz2⟩:=info_parts K8;have hlen:=hl.1
 go_enter func224,ntmps224
 go_wp2
 go_loopw [3,8] (fun v i wr=>∃(k n':Nat) (A':Option Addr) (c':Nat),k≤len∧i=.int .i64 k∧v=.slice A' n' c'∧n'=(cw l k).length∧OwnC wr w.heap.size (.slice A' n' c') (cw l k)∧But [] w wr) (fun _ i _=>len-(intOf i).toNat)
 case atStart=>exact⟨0,0,none,0,Nat.zero_le _,rfl,rfl,rfl,World.ownsRow_nil _ _ _ _,But.refl _ _⟩
 case round=>
  obtain⟨k,n',A',c',hk,rfl,rfl,hn',hO,hB⟩:=hrel;have HN':=qhz hn';clear hn'
  by_cases hlt:k<len
  ·obtain⟨g,o,rfl,hg,hc⟩:=hl.at hlt;replace hc:=hB.cell hc (by simp);have hgd:l.getD k 0=l[k]'(by omega):=by rw[List.getD_eq_getElem?_getD,List.getElem?_eq_getElem (by omega)];rfl
   have hs:cw l (k+1)=if 0<l.getD k 0 then cw l k++[(k,(l.getD k 0).toNat)]else cw l k:=rfl
   rw[←hgd]at hc;have hcl:=dc l k;have HS:=qhz hs;generalize l.getD k 0=x at*;clear hs hgd
   by_cases hx:0<x
   ·obtain⟨c,hcx⟩:=Int.eq_ofNat_of_zero_le (Int.le_of_lt hx);subst hcx;have HS2:=qhz (show cw l (k+1)=cw l k++[(k,c)]by rw[HS.out,if_pos hx];simp);have HO:=qhz hO;have HB:=qhz hB;have hsz:=hB.size;generalize hL:cw l k=L at*;have HL:=qhz hL;clear hL hO hB
    go_wp2_with (at_builtin;refine wpList_append_own _ rfl _ _ 250 rfl w.heap.size 253 i0 (.agg #[(0:Int),(0:Int)]) 2 16 underlying250 hi0 hz0 hz1 hz2 rfl (by decide) _ L.length (dw L) rfl (World.ownsRow.alloc HO.out _) ⟨wr.heap.size,0,none⟩ 1 1 [.int .i64 (k:Int),.int .i64 (c:Int)] rfl rfl ?c1 ?c2 ?c3 ?c4 ?c5 ?_)
    case c1=>exact World.news_of_block (cs:=#[.int .i64 (k:Int),.int .i64 (c:Int)]) (t:=253) (fr:=(0,0)) (heap_alloc_new wr _)
    case c2=>simp[Value.oneCell']
    case c3=>unfold maxLen;omega
    case c4=>omega
    case c5=>simp;omega
    intro v' w1 hown1 hgrow _;obtain⟨g4,c4,rfl⟩:∃g4 c4,v'=.slice (some ⟨g4,0,none⟩) (L.length+1) c4:=by
     rcases hown1.2 with⟨_,e⟩|⟨g4,c4,cur,e,_⟩
     ·omega
     ·exact⟨g4,c4,e⟩
    have HN:=qhz (OwnC.pushed HB.out HO.out hown1 hgrow);clear hown1 hgrow;go_wp2
    go_roundw
    case rel=>exact⟨k+1,L.length+1,_,_,by omega,by go_num,rfl,by rw[HS2.out,List.length_append];rfl,by rw[HS2.out];exact HN.out.1,HN.out.2⟩
    case measure=>simp[intOf];omega
   ·have HS2:=qhz (show cw l (k+1)=cw l k by rw[HS.out,if_neg hx]);go_wp2
    go_roundw
    case rel=>exact⟨k+1,_,_,_,by omega,by go_num,rfl,by rw[HS2.out];exact HN'.out,by rw[HS2.out];exact hO,hB⟩
    case measure=>simp[intOf];omega
  ·obtain rfl:k=len:=by omega
   have hcl:=dc l k;have hle:=gi l k
   by_cases h0:n'=0
   ·subst h0;have he:(csOf l k).length=0:=by rw[hle];exact HN'.out.symm
    have hce:csOf l k=[]:=List.eq_nil_of_length_eq_zero he;have HCE:=qhz hce;have hbase:∀a,A'=some a→w.heap.size≤a.block:=fun a e=>by subst e;exact(World.ownsRow.lt hO a.block rfl).1
    clear he hle hcl hO hce
    go_wp2_with (go_at_call 237;refine(Np _ _ _ _).mono ?_;rintro e w' ⟨rfl,rfl⟩)
    go_ret;refine⟨A',c',?_,?_,hbase,hB⟩
    ·rw[HCE.out];rfl
    ·rw[HCE.out];exact⟨rfl,fun h=>absurd h (by simp)⟩
   ·obtain⟨g,rfl⟩:∃g,A'=some ⟨g,0,none⟩:=by
     rcases hO.2 with⟨e,e2⟩|⟨g,cap',cur,e,_⟩
     ·exact absurd (HN'.out.trans e2) h0
     ·injection e with e1 e2 e3;exact⟨g,e1⟩
    have hcl2:=hO.cl.2;have hgl:=World.ownsRow.lt hO g rfl;have hs:=hN wr g 0 n' c' (cw l k) hcl2 HN'.out.symm (by rw[HN'.out];exact hcN) hgl.2 (me l k);have HSO:=qhz hs;have HLE:=qhz hle;have HB:=qhz hB;clear hs hcl2 hO hle hB
    go_wp2_with fail
    refine HSO.out.mono ?_;rintro e w' ⟨rfl,⟨S,hS,hSp,hSc⟩,hB'⟩;have hSe:=Q8 hS hSp;subst hSe;have hfin:Coins w' (some ⟨g,0,none⟩) (csOf l k).length (csOf l k):=hSc.coins rfl (Nat.lt_of_lt_of_le hgl.2 hB'.size);have HF:=qhz hfin;have HBB:=qhz (HB.out.fresh hB' (fun i hi=>by
     obtain rfl:i=g:=by simpa using hi
     exact hgl.1))
    have HSP:=qhz hSp;clear hfin hSc hSp hS hB';go_wp2;go_ret;refine⟨some ⟨g,0,none⟩,c',by rw[HLE.out,←HN'.out];rfl,HF.out,fun a e=>by injection e with e;subst e;exact hgl.1,HBB.out⟩
def Items(w:World)(A:Option Addr)(n:Nat)(r:List (Nat×Bool)):Prop:=
 r.length=n∧(0<n→∃g o,A=some ⟨g,o,none⟩∧g<w.heap.size∧∀(i:Nat) (h:i<r.length),w.cell? ⟨g,o+i*2,none⟩=some (.int .i64 r[i].1)∧w.cell? ⟨g,o+i*2+1,none⟩=some (.bool r[i].2))
theorem Items.but{w w':World}{A:Option Addr}{n:Nat}{l:List (Nat×Bool)}{S:List Nat}(h:Items w A n l)(hw:But S w w')(hA:∀k∈S,Off A k):Items w' A n l:=
 ⟨h.1,fun hn=>by
  obtain⟨g,o,e,hg,hc⟩:=h.2 hn;exact⟨g,o,e,Nat.lt_of_lt_of_le hg hw.size,fun i hi=>⟨hw.cell (hc i hi).1 (fun hS=>hA g hS _ e rfl),hw.cell (hc i hi).2 (fun hS=>hA g hS _ e rfl)⟩⟩⟩
theorem Items.at{w:World}{A:Option Addr}{n:Nat}{l:List (Nat×Bool)}(h:Items w A n l){i:Nat}(hi:i<n):
 ∃g o,A=some ⟨g,o,none⟩∧g<w.heap.size∧w.cell? ⟨g,o+i*2,none⟩=some (.int .i64 (l[i]'(by have:=h.1;omega)).1)∧w.cell? ⟨g,o+i*2+1,none⟩=some (.bool (l[i]'(by have:=h.1;omega)).2):=by
 obtain⟨g,o,e,hg,hc⟩:=h.2 (by omega);exact⟨g,o,e,hg,hc i (by have:=h.1;omega)⟩
theorem qE:∀(r:List (Nat×Bool)) (i:Nat) (h:i<r.length),(bZ r)[i*2]? =some (.int .i64 r[i].1)∧(bZ r)[i*2+1]? =some (.bool r[i].2)
 |x::r,0,_=>by simp[bZ]
 |x::r,i+1,h=>by
  have:=qE r i (by simpa using h);have e:bZ (x::r)=.int .i64 x.1:: .bool x.2::bZ r:=by simp[bZ]
  rw[e,show(i+1)*2=i*2+1+1 from by omega];simpa using this
theorem OwnR.items{w:World}{base g c n:Nat}{r:List (Nat×Bool)}(h:OwnR w base (.slice g n c) r):n=r.length∧Items w (some ⟨g,0,none⟩) n r:=by
 have hn:n=r.length:=by
  unfold OwnR at h;rcases h.2 with⟨e,_⟩|⟨g,cap,cur,e,_⟩
  ·cases e
  ·injection e
 subst hn;refine⟨rfl,rfl,fun _=>⟨g,0,rfl,(World.ownsRow.lt h g rfl).2,fun i hi=>?_⟩⟩;obtain⟨e1,e2⟩:=qE r i hi;have h1:=World.ownsRow.cells h (g:=g) rfl _ _ e1;have h2:=World.ownsRow.cells h (g:=g) rfl _ _ e2;rw[Go.WideShapes.add_plain]at h1 h2;exact⟨h1,by rw[Nat.add_assoc];exact h2⟩
def kA(r:List (Nat×Bool))(q j:Nat):List Int:=nats ((prs r).take j)++List.replicate (q-j) 0
theorem Cq{r:List (Nat×Bool)}{q j:Nat}(hj:j<q)(hq:(prs r).length=q):kA r q (j+1)=(kA r q j).set j (((prs r)[j]'(by omega):Nat):Int):=by
 unfold kA;have e:q-j=(q-(j+1))+1:=by omega
 rw[e,List.replicate_succ,List.set_append_right _ _ (by simp[nats];omega),List.take_succ_eq_append_getElem (by omega)];have e2:j-(nats ((prs r).take j)).length=0:=by simp[nats];omega
 rw[e2,List.set_cons_zero];simp only[nats,List.map_append,List.map_cons,List.map_nil,List.append_assoc,List.singleton_append]
theorem Kr{w:World}{A:Option Addr}{n cap:Nat}{r:List (Nat×Bool)}(hr:Items w A n r)(hn:n≤1000)(hM:∀x∈r,x.1≤1152921504606846976):
 Calls prog 242 #[.slice A n cap] w fun e w'=>e=.returned (.slice w.heap.size (n/2) (n/2))∧OwnI w' w.heap.size (.slice w.heap.size (n/2) (n/2)) (nats (prs r))∧But [] w w':=by
 obtain⟨i0,hi0,hz0,hz1,hz2⟩:=info_parts cG;have hrl:=hr.1;have hpl:(prs r).length=n/2:=by rw[gh,hrl]
 obtain⟨q,hq⟩:=E1 (n/2);have hqd:(n:Int)/2=(q:Int):=by omega
 rw[←hq]at hpl⊢;have HQ:=qhz hqd;have hq2:2*q≤n:=by omega
 have hq3:q≤500:=by omega
 clear hqd hq
 go_enter func242,ntmps242
 go_wp2_with (at_make;refine wpList_make_full _ rfl _ _ 36 rfl w.heap.size 3 i0 _ 1 underlying36 hi0 hz0 hz1 _ _ _ _ q rfl rfl (by have:=HQ.out;omega) (by have:=HQ.out;omega) (by rw[hz2];omega) (by unfold maxLen;omega) (by simp) ?_;intro w1 hown hgrow)
 have hO1:=OwnI.made hown;have hB1:But [] w w1:=(But.refl [] w).grown hgrow (by simp);clear hown hgrow
 go_loopw [11] (fun i wr=>∃j:Nat,j≤q∧i=.int .i64 j∧OwnI wr w.heap.size (.slice w.heap.size q q) (kA r q j)∧But [] w wr) (fun i _=>q-(intOf i).toNat)
 case atStart=>exact⟨0,Nat.zero_le _,rfl,by unfold kA;simpa[nats]using hO1,hB1⟩
 case round=>
  obtain⟨j,hj,rfl,hO,hB⟩:=hrel;clear hO1 hB1
  by_cases hlt:j<q
  ·obtain⟨g,o,rfl,hg,hc0,hd0⟩:=hr.at (show 2*j<n by omega);obtain⟨g',o',e,hg',hc1,hd1⟩:=hr.at (show 2*j+1<n by omega);injection e with e;injection e with e1 e2;subst e1 e2;clear hd0 hd1 hg';have hx:=hM _ (List.getElem_mem (show 2*j<r.length by omega));have hy:=hM _ (List.getElem_mem (show 2*j+1<r.length by omega));have hpe:(prs r)[j]'(by omega)=(r[2*j]'(by omega)).1+(r[2*j+1]'(by omega)).1:=by
    have h:=DZ r j (by have:=gh r;omega);simp only[List.getD_eq_getElem?_getD,List.getElem?_map]at h;rw[List.getElem?_eq_getElem (by omega),List.getElem?_eq_getElem (by omega),List.getElem?_eq_getElem (by omega)]at h;simpa using h
   have hms:=Cq hlt hpl;rw[hpe]at hms;generalize(r[2*j]'(by omega)).1=x at*;generalize(r[2*j+1]'(by omega)).1=y at*;have hml:(kA r q j).length=q:=by unfold kA nats;simp;omega
   have hce:=hO.cell (show j<(kA r q j).length by omega);have hcf:=hO.free j;generalize(kA r q j)[j]'_=cv at hce;replace hc0:=hB.cell hc0 (by simp);replace hc1:=hB.cell hc1 (by simp);have HMS:=qhz hms;have HO:=qhz hO;have HB:=qhz hB;clear hms hO hB hpe hml hpl hrl hr hM;have j0:0≤(j:Int):=by omega
   have j1:(j:Int)<(q:Int):=by omega
   have j2:2*(j:Int)<(n:Int):=by omega
   have j3:2*(j:Int)+1<(n:Int):=by omega
   have j4:0≤2*(j:Int):=by omega
   have j5:0≤2*(j:Int)+1:=by omega
   have t2:(2*(j:Int)).toNat=2*j:=by omega
   have t3:(2*(j:Int)+1).toNat=2*j+1:=by omega
   go_upto_region 5 with(fail)
   have d0:wr.drew.cell? ⟨g,o+2*j*2,none⟩=some (.int .i64 x):=hc0;have d1:wr.drew.cell? ⟨g,o+(2*j+1)*2,none⟩=some (.int .i64 y):=hc1;have de:wr.drew.cell? ⟨w.heap.size,j,none⟩=some (.int .i64 cv):=hce;have df:wr.drew.frozen? ⟨w.heap.size,j,none⟩=false:=hcf;have hsz:wr.heap.size=wr.drew.heap.size:=rfl;have HO2:Hid (OwnI wr.drew w.heap.size (.slice w.heap.size q q) (kA r q j)):=HO;have HB2:=qhz (HB.out.drew);have ew2:IntKind.i64.wrap (2*(j:Int))=2*(j:Int):=IntWalk.i64_in _ (by omega);have ew3:IntKind.i64.wrap (2*(j:Int)+1)=2*(j:Int)+1:=IntWalk.i64_in _ (by omega);have ew4:IntKind.i64.wrap ((x:Int)+(y:Int))=(x:Int)+(y:Int):=IntWalk.i64_in _ (by omega);refine wp_region_still_tail 17 (by kernel_rfl) (by kernel_rfl) ?_;simp only[List.take_succ_cons,List.take_zero,List.drop_succ_cons,List.drop_zero];change wpStill _ _ wr.drew (fun a'=>wpList _ _ _ _ a' wr.drew) _ _;clear hc0 hc1 hce hcf HO HB hsz;generalize wr.drew=W1 at *
   repeat still_step
   refine wpStill_nil ?_;clear ew2 ew3 ew4;go_wp2
   go_roundw
   case rel=>
    refine⟨j+1,by omega,by go_num,?_,HB2.out.setCell (.inr (Nat.le_refl _)) _⟩;rw[HMS.out];exact HO2.out.set j _
   case measure=>simp[intOf];omega
  ·obtain rfl:j=q:=by omega
   have he:kA r j j=nats (prs r):=by unfold kA;rw[List.take_of_length_le (by omega)];simp
   rw[he]at hO;go_wp2;go_ret;exact⟨rfl,hO,hB⟩
theorem ss(ws:List Nat)(M:Nat)(h:∀x∈ws,x≤M):∀k,∀x∈rowN ws k,x.1≤M*2^k
 |0,x,hx=>by
  rcases xz hx with⟨h1,_⟩|⟨h1,_⟩
  ·simpa using h _ h1
  ·cases h1
 |k+1,x,hx=>by
  have hp:=Nat.two_pow_pos k;have hM:M≤M*2^k:=Nat.le_mul_of_pos_right _ hp;rw[Nat.pow_succ];rcases xz hx with⟨h1,_⟩|⟨h1,_⟩
  ·have:=h _ h1;have e2:M*(2^k*2)=M*2^k+M*2^k:=by rw[←Nat.mul_assoc];omega
   rw[e2];omega
  ·obtain⟨a,ha,b,hb,e⟩:=BO h1;have h2:=ss ws M h k a ha;have h3:=ss ws M h k b hb;have e2:M*(2^k*2)=M*2^k+M*2^k:=by rw[←Nat.mul_assoc];omega
   rw[e,e2];omega
def OwnS(w:World)(base:Nat)(v:Value)(L:List Value):Prop:=w.ownsRow base 274 1 v L.length L
theorem Oz:(prog.info? 274).map (fun i=>(i.zero,i.size,i.bytes))=some (some (.slice none 0 0),1,24):=by kernel_rfl
def RowsAre(w:World)(base:Nat)(ws:List Nat)(L:List Value):Prop:=
 ∀k (h:k<L.length),∃g,L[k]=.slice (some ⟨g,0,none⟩) (rowN ws k).length (rowN ws k).length∧OwnR w base L[k] (rowN ws k)
theorem oy{w:World}{b1 b2 n1 n2 s1 s2:Nat}{e1 e2:TypeId}{v1 v2:Value}{x1 x2:List Value}(h1:w.ownsRow b1 e1 s1 v1 n1 x1)(h2:w.ownsRow b2 e2 s2 v2 n2 x2)(hne:e1≠e2){g:Nat}(hg:v1.ownBlock=some g):v2.ownBlock≠some g:=by
 intro hg2;rcases h1.2 with⟨rfl,_⟩|⟨g1,c1,cur1,rfl,_,hh1,_⟩
 ·cases hg
 rcases h2.2 with⟨rfl,_⟩|⟨g2,c2,cur2,rfl,_,hh2,_⟩
 ·cases hg2
 have e1':g1=g:=by simpa[Value.ownBlock]using hg
 have e2':g2=g:=by simpa[Value.ownBlock]using hg2
 rw[e1']at hh1;rw[e2',hh1]at hh2;exact hne (Obj.cells.inj (Option.some.inj hh2)).2.1
theorem RowsAre.but{w w':World}{base:Nat}{ws:List Nat}{L:List Value}(h:RowsAre w base ws L){S:List Nat}(hw:But S w w')(hS:∀v r,OwnR w base v r→∀k∈S,v.ownBlock≠some k):RowsAre w' base ws L:=by
 intro k hk;obtain⟨g,e,ho⟩:=h k hk;exact⟨g,e,ho.but hw (hS _ _ ho)⟩
theorem OwnS.made(w:World)(v:Value)(base:Nat)(hb:base≤w.heap.size):OwnS (w.alloc (.cells #[v] 274)) base (.slice w.heap.size 1 1) [v]:=
 ⟨rfl,.inr ⟨w.heap.size,1,#[v],rfl,hb,(Is.fresh w 274 #[v]),Nat.le_refl _,by unfold maxLen;decide,rfl,rfl⟩⟩
theorem OwnS.but{w w':World}{base:Nat}{v:Value}{l:List Value}(h:OwnS w base v l){S:List Nat}(hw:But S w w')(hS:∀k∈S,v.ownBlock≠some k):OwnS w' base v l:=by
 unfold OwnS at h⊢;refine⟨h.1,?_⟩;rcases h.2 with h2|⟨g,cap,cur,hv,hg,hh,r⟩
 ·exact .inl h2
 ·refine .inr ⟨g,cap,cur,hv,hg,?_,r⟩;have hlt:g<w.heap.size:=(h.lt g (by rw[hv];rfl)).2;rw[hw.block g hlt (fun hk=>hS g hk (by rw[hv];rfl))];exact hh
theorem OwnS.open{w:World}{base:Nat}{v:Value}{L:List Value}(h:OwnS w base v L)(h0:0<L.length):∃g c,v=.slice (some ⟨g,0,none⟩) L.length c∧g<w.heap.size∧∀i (hi:i<L.length),w.cell? ⟨g,i,none⟩=some L[i]:=by
 unfold OwnS at h;rcases h.2 with⟨_,e⟩|⟨g,cap,cur,rfl,hg,hh,r⟩
 ·omega
 ·refine⟨g,cap,rfl,(h.lt g rfl).2,fun i hi=>?_⟩;have hc:=h.cells (g:=g) rfl i L[i] (by simp[hi]);rw[Go.WideShapes.add_plain,Nat.zero_add]at hc;exact hc
def Rj(w:World)(most:Nat)(ws:List Nat)(e:Ending)(w':World):Prop:=
 ∃g c L,e=.returned (.slice (some ⟨g,0,none⟩) most c)∧L.length=most∧OwnS w' w.heap.size (.slice (some ⟨g,0,none⟩) most c) L∧RowsAre w' w.heap.size ws L∧But [] w w'
theorem RowsAre.snoc{w:World}{base k g:Nat}{ws:List Nat}{L:List Value}(h:RowsAre w base ws L)(hk:L.length=k){n:Nat}(hn:n=(rowN ws k).length)(ho:OwnR w base (.slice g n n) (rowN ws k)):
 RowsAre w base ws (L++[.slice g n n]):=by
 intro i hi;subst hk hn;rcases Nat.lt_or_ge i L.length with h1|h1
 ·rw[List.getElem_append_left h1];exact h i h1
 ·have:i=L.length:=by simp at hi;omega
  subst this;rw[List.getElem_append_right (Nat.le_refl _)];simp only[Nat.sub_self,List.getElem_cons_zero];exact⟨g,rfl,ho⟩
theorem OwnR.base{w:World}{b1 b2:Nat}{v:Value}{r:List (Nat×Bool)}(h:OwnR w b1 v r)(hb:b2≤b1):OwnR w b2 v r:=by
 refine⟨h.1,?_⟩;rcases h.2 with h2|⟨g,cap,cur,hv,hg,r⟩
 ·exact .inl h2
 ·exact .inr ⟨g,cap,cur,hv,by omega,r⟩
theorem Fy{w:World}{A:Option Addr}{n cap most:Nat}{cs:List (Nat×Nat)}{ws:List Nat}(hws:ws=cs.map (·.2))(hc:Coins w A n cs)(hn:n≤288)(hmo:1≤most)(hmo2:most≤15)(hM:∀x∈ws,x≤1000000000):
 Calls prog 226 #[most,.slice A n cap] w (Rj w most ws):=by
 obtain⟨i0,hi0,hz0,hz1,hz2⟩:=info_parts Oz;have hwl:ws.length=n:=by rw[hws,List.length_map,hc.1]
 have hmerge:=zM (cap:=cap) (ps:=[]) hws hc (Ints.empty w none) (by omega) (by omega) (Nat.le_refl _);have HM:=qhz hmerge;clear hmerge
 go_enter func226,ntmps226
 go_wp2_with fail
 refine HM.out.mono ?_;rintro e w1 ⟨rfl,hO,hB⟩;have hB1:=hB.alloc (.cells #[.slice w.heap.size n n] 274);have hS1:=OwnS.made w1 (.slice w.heap.size n n) w.heap.size hB.size;have hr0:(rowN ws 0).length=n:=by show(mrg ws []).length=n;rw[bF,hwl];rfl
 have hO1:OwnR (w1.alloc (.cells #[.slice w.heap.size n n] 274)) w.heap.size (.slice w.heap.size n n) (rowN ws 0):=hO.but ((But.refl [] w1).alloc _) (by simp);have hR1:RowsAre (w1.alloc (.cells #[.slice w.heap.size n n] 274)) w.heap.size ws [.slice w.heap.size n n]:=by
  have:RowsAre (w1.alloc (.cells #[.slice w.heap.size n n] 274)) w.heap.size ws []:=fun k hk=>absurd hk (by simp);simpa using this.snoc (k:=0) rfl hr0.symm hO1
 have HC:=qhz hc;have HWS:=qhz hws;have HWL:=qhz hwl;clear hr0 hO1 hO hB hc hws hwl HM;go_wp2
 go_loopw [5] (fun v wr=>∃(k g c:Nat) (L:List Value),1≤k∧k≤most∧v=.slice g k c∧L.length=k∧OwnS wr w.heap.size (.slice g k c) L∧RowsAre wr w.heap.size ws L∧But [] w wr)
  (fun v _=>match v with|.slice _ n _=>most-n|_=>0)
 case atStart=>exact⟨1,_,1,_,Nat.le_refl _,hmo,rfl,rfl,hS1,hR1,hB1⟩
 case round=>
  obtain⟨k,g,c,L,hk1,hk2,rfl,hL,hS,hR,hB⟩:=hrel;clear hS1 hR1 hB1
  by_cases hlt:k<most
  ·obtain⟨k0,rfl⟩:∃k0,k=k0+1:=⟨k-1,by omega⟩
   obtain⟨g2,c2,e,hg2,hcell⟩:=hS.open (by omega);rw[hL]at e;injection e with e1 e2 e3;injection e1 with e1;injection e1 with e1;subst e1 e3;have hck:=hcell k0 (by omega);obtain⟨g3,e4,hO3⟩:=hR k0 (by omega);rw[e4]at hck hO3;obtain⟨_,hI3⟩:=hO3.items;have hlr:=jx ws k0;have hlen3:(rowN ws k0).length≤1000:=by have:=hlr.2.1;have:=HWL.out;omega
   have hMk:∀x∈rowN ws k0,x.1≤1152921504606846976:=fun x hx=>by
    have:=ss ws _ hM k0 x hx;have h2:2^k0≤2^15:=Nat.pow_le_pow_right (by decide) (by omega);have h3:=Nat.mul_le_mul_left 1000000000 h2;omega
   have hpr:=Kr (cap:=(rowN ws k0).length) hI3 hlen3 hMk;have hq:=gh (rowN ws k0);have hrow:rowN ws (k0+1)=mrg ws (prs (rowN ws k0)):=rfl;have hrl:(rowN ws (k0+1)).length=n+(rowN ws k0).length/2:=by rw[hrow,bF,hq,HWL.out]
   have HROW:=qhz hrow;have HRL:=qhz hrl;have HPR:=qhz hpr;have HS:=qhz hS;have HR:=qhz hR;have HB:=qhz hB;have HL:=qhz hL;generalize hn3:(rowN ws k0).length=n3 at*;clear hn3 hcell e4 hO3 hI3 hlr hMk hpr hq hrow hrl hS hR hB hL e2;have k00:0≤(k0:Int):=by omega
   have kk:(k0:Int)<((k0+1:Nat):Int):=by omega
   go_wp2_with fail
   refine HPR.out.mono ?_;rintro e w2 ⟨rfl,hO2,hB2⟩;have hB2':=HB.out.trans hB2;have hm:=zM (cap:=cap) (cap2:=n3/2) HWS.out (HC.out.but hB2' (by simp)) hO2.ints (by omega) (by omega) (Nat.le_refl _);have HM:=qhz hm;have HB2:=qhz hB2;have HB2':=qhz hB2';have hbs:=HB.out.size;have hbs2:=hB2.size;clear hm hO2 hB2 hB2'
   go_wp2_with fail
   refine HM.out.mono ?_;rintro e w3 ⟨rfl,hO3,hB3⟩;have hBr:=HB2.out.trans hB3;have hBw:=HB.out.trans hBr;have hbs3:=hB3.size;have hS3:=HS.out.but hBr (by simp);have hR3:=HR.out.but hBr (by simp);rw[←HROW.out]at hO3;have hO4:OwnR w3 w.heap.size (.slice w2.heap.size (n+n3/2) (n+n3/2)) (rowN ws (k0+1)):=hO3.base (by omega);have hlt3:=(World.ownsRow.lt hO3 _ rfl).2;clear hO3 hB3 hBr HM;have HS3:=qhz hS3;have HR3:=qhz hR3;have HO4:=qhz hO4;have HBW:=qhz hBw;clear hS3 hR3 hO4 hBw HS HR HB HB2 HB2' HPR;have hL15:L.length=k0+1:=HL.out;have HL15:=qhz hL15;clear hL15;have hown:w3.ownsRow w.heap.size 274 1 (.slice g (k0+1) c) (k0+1) L:=by have:=HS3.out;unfold OwnS at this;rw[HL15.out]at this;exact this
   have HOWN:=qhz hown;clear hown
   go_wp2_with (at_builtin;refine wpList_append_own _ rfl _ _ 255 rfl w.heap.size 274 i0 (.slice none 0 0) 1 24 underlying255 hi0 hz0 hz1 hz2 rfl (by decide) _ (k0+1) L rfl (HOWN.out.alloc _) ⟨w3.heap.size,0,none⟩ 1 1 [.slice w2.heap.size (n+n3/2) (n+n3/2)] rfl rfl ?c1 ?c2 ?c3 ?c4 ?c5 ?_)
   case c1=>exact World.news_of_block (cs:=#[.slice w2.heap.size (n+n3/2) (n+n3/2)]) (t:=274) (fr:=(0,0)) (heap_alloc_new w3 _)
   case c2=>simp[Value.oneCell']
   case c3=>unfold maxLen;omega
   case c4=>omega
   case c5=>simp;omega
   intro v' w4 hown4 hgrow4 hnn;obtain⟨g4,c4,rfl⟩:∃g4 c4,v'=.slice (some ⟨g4,0,none⟩) (k0+1+1) c4:=by
    rcases hown4.2 with⟨_,e⟩|⟨g4,c4,cur,e,_⟩
    ·omega
    ·exact⟨g4,c4,e⟩
   have hBa:But [] w3 (w3.alloc (.cells #[.slice w2.heap.size (n+n3/2) (n+n3/2)] 274)):=(But.refl [] w3).alloc _;have hBg:But [g] (w3.alloc (.cells #[.slice w2.heap.size (n+n3/2) (n+n3/2)] 274)) w4:=(But.refl [g] _).grown hgrow4 (fun g' e=>by
    have:g=g':=by simpa[Value.ownBlock]using e
    subst this;exact .inl (by simp))
   have hap:∀v r,OwnR (w3.alloc (.cells #[.slice w2.heap.size (n+n3/2) (n+n3/2)] 274)) w.heap.size v r→∀k∈[g],v.ownBlock≠some k:=fun v r ho k hk=>by
    obtain rfl:k=g:=by simpa using hk
    exact oy (HOWN.out.alloc _) ho (by decide) rfl
   have hO5:=(HO4.out.but hBa (by simp))
   have hO6:=hO5.but hBg (hap _ _ hO5);have hR6:=(HR3.out.but hBa (by simp)).but hBg (hap);have hg0:w.heap.size≤g:=(World.ownsRow.lt HOWN.out g rfl).1;have HNEW:=qhz (show OwnS w4 w.heap.size (.slice (some ⟨g4,0,none⟩) (k0+1+1) c4) (L++[.slice w2.heap.size (n+n3/2) (n+n3/2)]) by
    unfold OwnS;rw[List.length_append,HL15.out];exact hown4)
   have HR7:=qhz (hR6.snoc HL15.out HRL.out.symm hO6);have HB7:=qhz ((HBW.out.trans hBa).fresh hBg (fun i hi=>by
    obtain rfl:i=g:=by simpa using hi
    exact hg0))
   clear hown4 hgrow4 hBa hBg hap hO5 hO6 hR6 hnn;go_wp2
   go_roundw
   case rel=>exact⟨k0+1+1,g4,c4,_,by omega,by omega,rfl,by rw[List.length_append,HL15.out];rfl,HNEW.out,HR7.out,HB7.out⟩
   case measure=>simp;try omega
  ·obtain rfl:k=most:=by omega
   go_wp2;go_ret;exact⟨g,c,L,rfl,hL,hS,hR,hB⟩
section
open Go.Shelf
def PJ(F:Fence)(m:Nat)(P:Program)(gf:Nat)(lb:Array Value)(encs:Nat→Array Value)(Kp:World→World→Prop)(N:Nat)(w:World):Prop:=
 ∀(l:Nat) (J:Nat→World→Prop) (W:World),Below w.heap.size w W→
  (∀k W1,J k W1→k<N→YieldAt F (m-1) P l (encs k) W1 fun e W'=>e=.returned (.bool true)∧J (k+1) W'∧Kp W1 W')→J 0 W→
  CallsIn F m P gf (#[.func (.yield l) #[] #[]]++lb) W fun e W'=>(∃v,e=.returned v)∧J N W'
def PE(Kp:World→World→Prop)(I:Nat→World→Prop)(k:Nat)(W:World):Exit→Act→World→Prop
 |.normal,_,W'=>KeepsOthers W W'∧Kp W W'∧I k W'
 |_,_,_=>False
theorem fi{D:Nat}{W:World}{l:Nat}{o:Obj}(o':Obj)(h:W.heap[l]? =some o)(hD:D≤l):Below D W (W.putObj l o'):=
 (Below.refl D W).grown (grownBy_putObj' W l o') (by have:=(Array.getElem?_eq_some_iff.1 h).1;omega) (fun k e=>by cases e;exact hD)
theorem zj{F:Fence}{n:Nat}{P:Program}{g:Operand}{ps:Array Tmp}{assign body:Code}{Q:Exit→Act→World→Prop}{a:Act}{w:World}
 (hro:F.round=none) (h1:1≤n) {gf:Nat} {lb:Array Value} (hg:a.eval g=.func (.func gf) #[] lb) (hF:F.fn gf) (eg:∀args w,(callFunc gf args).run P w=.ok (.enter gf args) w)
 {encs:Nat→Array Value} {Kp:World→World→Prop} {N:Nat} (hseq:PJ F (n-1) P gf lb encs Kp N w)
 (hKt:∀{A B C:World},Kp A B→Kp B C→Kp A C) (hKb:∀{A B:World},Below w.heap.size A B→Kp A B) (hps:∀k,(encs k).size=ps.size)
 (I:Nat→World→Prop) (hI:∀k W W',I k W→Below w.heap.size W W'→I k W') (h0:I 0 w) (a₁:Nat→Act)
 (hassign:∀(l k:Nat) (W:World) (K:Act→World→Prop),K (a₁ k) W→
  assign.wpIn (F.inRound l) (n-1-1) P (Exit.then K (fun _ _ _=>False)) {tmps:=(ps.zip (encs k)).foldl (fun t (p,v)=>t.setIfInBounds p v) a.tmps,defers:=[]} W)
 (hbody:∀(l k:Nat) (W:World),I k W→k<N→body.wpIn (F.inRound l) (n-1-1) P (PE Kp I (k+1) W) (a₁ k) W)
 (hdone:∀W:World,I N W→w.heap.size<W.heap.size→W.heap[w.heap.size]? =some (.deferred (some []))→Q .normal {a with defers:={target:=.collected w.heap.size,args:=#[]}::a.defers} W):
 (Code.rangeFunc g ps assign body).wpIn F n P Q a w:=by
 refine wpIn_rangeFunc fun fn hfn=>?_;rw[hro];obtain⟨D,hD⟩:=E1 w.heap.size;obtain⟨rc,hrc⟩:∃rc:_→Loop,rc=fun st=>{state:=st,pending:=none,fn,tmps:=a.tmps,params:=ps,assign,body,defers:=D}:=⟨_,rfl⟩
 have hb1:Below w.heap.size w ((w.alloc (.deferred (some []))).alloc (.loop (rc .ready))):=((Below.refl _ w).alloc (Nat.le_refl _) _).alloc (by simp) _;have hl1:((w.alloc (.deferred (some []))).alloc (.loop (rc .ready))).heap[D+1]? =some (.loop (rc .ready)):=by
  have h:=World.alloc_heap_new (w.alloc (.deferred (some []))) (.loop (rc .ready));rw[World.size_alloc,←hD]at h;exact h
 have hk1:((w.alloc (.deferred (some []))).alloc (.loop (rc .ready))).heap[D]? =some (.deferred (some [])):=by
  rw[Below.heap_alloc _ _ _ (by simp[hD]),hD];exact World.alloc_heap_new w _
 have he:(Instr.enterLoop fn a.tmps ps assign body none).run P w=.ok (D+1,[{target:=.collected D,args:=#[]}]) ((w.alloc (.deferred (some []))).alloc (.loop (rc .ready))):=by
  rw[hrc,hD];exact run_enterLoop_outer fn a.tmps ps assign body
 generalize(w.alloc (.deferred (some []))).alloc (.loop (rc .ready))=W1 at*;refine⟨D+1,_,W1,{target:=.fn (.func gf) lb,args:=#[.func (.yield (D+1)) #[] #[]]},W1,gf,#[.func (.yield (D+1)) #[] #[]]++lb,W1,he,by simp only[resolve,hg];simp[go_sem],fun f' hf'=>?_,by simp[invoke,go_sem,eg],fun _=>h1,?_⟩
 ·simp[Target.leads]at hf';subst hf';exact hF
 refine(hseq (D+1) (fun k W=>I k W∧W.heap[D+1]? =some (.loop (rc .ready))∧W.heap[D]? =some (.deferred (some []))) W1 hb1 ?_ ⟨hI 0 w W1 h0 hb1,hl1,hk1⟩).mono ?_
 ·rintro k W ⟨hi,hl,hk⟩ hkN;have hlt:D+1<W.heap.size:=(Array.getElem?_eq_some_iff.1 hl).1;have hy:=run_yield (P:=P) (args:=encs k) hl (by rw[hrc];exact hps k);rw[hrc]at hy;refine⟨fn,_,assign,body,hy,roundIn_of_wpIn hfn (hassign _ k W _ ⟨_,run_beginRound hl (by rw[hrc]),?_⟩)⟩;have hbb:Below w.heap.size W (W.putObj (D+1) (.loop {rc .ready with state:=.busy})):=fi _ hl (by omega);have hl2:(W.putObj (D+1) (.loop {rc .ready with state:=.busy})).heap[D+1]? =some (.loop {rc .ready with state:=.busy}):=World.putObj_heap_same hlt;have hk2:(W.putObj (D+1) (.loop {rc .ready with state:=.busy})).heap[D]? =some (.deferred (some [])):=(World.putObj_heap_other (by omega)).trans hk;refine wpIn_mono (hbody _ k _ (hI _ _ _ hi hbb) hkN) ?_;rintro e a3 W3 hp;cases e with
  |normal=>
   obtain⟨hk3,hkp3,hi3⟩:=hp;have hl3:=hk3.same _ _ hl2 rfl;have hk3':=hk3.same _ _ hk2 rfl;have hbe:Below w.heap.size W3 (W3.putObj (D+1) (.loop (rc .ready))):=fi _ hl3 (by omega);refine⟨.bool true,W3.putObj (D+1) (.loop (rc .ready)),?_,rfl,⟨hI _ _ _ hi3 hbe,World.putObj_heap_same (Array.getElem?_eq_some_iff.1 hl3).1,(World.putObj_heap_other (by omega)).trans hk3'⟩,hKt (hKt (hKb hbb) hkp3) (hKb hbe)⟩;have hr:=run_endRound (P:=P) none hl3;rw[hrc]at hr⊢;exact hr
  |ret=>exact hp.elim
  |exit id=>exact hp.elim
  |goto t=>exact hp.elim
  |panic ch=>exact hp.elim
  |outgrown=>exact hp.elim
 ·rintro e W2 ⟨⟨v,rfl⟩,hi,hl,hk⟩;have hlt:D+1<W2.heap.size:=(Array.getElem?_eq_some_iff.1 hl).1;have hr:=run_endLoop (P:=P) hl (by rw[hrc];simp);rw[hrc]at hr;refine⟨none,_,hr,?_⟩;have:=hdone _ (hI _ _ _ hi (fi (.loop {rc .ready with state:=.exhausted}) hl (by omega:w.heap.size≤D+1))) (by simp;omega) (by rw[←hD];exact(World.putObj_heap_other (by omega)).trans hk);rw[hrc,←hD]at this;exact this
end
section
open Go.Shelf
attribute [local go_sem] Oper.semAt_some
def Kept(R:Nat→Prop)(W W':World):Prop:=∀b,R b→W'.heap[b]? =W.heap[b]?
theorem Kept.trans{R:Nat→Prop}{A B C:World}(h:Kept R A B)(k:Kept R B C):Kept R A C:=fun b hb=>(k b hb).trans (h b hb)
theorem Kept.cell{R:Nat→Prop}{A B:World}(h:Kept R A B){a:Addr}(ha:R a.block):B.cell? a=A.cell? a:=World.cell?_of_block (h a.block ha)
theorem qT{F:Fence}{m:Nat}(hF:F.fn 248)(hro:F.round=none)(hm:1≤m){Bs g c N:Nat}{heads:List Value}(hN:heads.length=N)(hN15:N≤15){R:Nat→Prop}{w:World}
 (hBs:w.cell? ⟨Bs,0,none⟩=some (.slice g N c)) (hBl:Bs<w.heap.size) (hgl:g<w.heap.size) (hc:∀i (h:i<heads.length),w.cell? ⟨g,i,none⟩=some heads[i]) (hRB:R Bs) (hRg:R g):
 PJ F m prog 248 #[.pointer Bs] (fun k=>#[.int .i64 ((N:Int)-k-1),heads[N-k-1]?.getD undef]) (Kept R) N w:=by
 intro l J W hW hY h0;have hBs':W.cell? ⟨Bs,0,none⟩=some (.slice g N c):=(hW.cell (p:=⟨Bs,0,none⟩) hBl).trans hBs;have hc':∀i (h:i<heads.length),W.cell? ⟨g,i,none⟩=some heads[i]:=fun i h=>(hW.cell (p:=⟨g,i,none⟩) hgl).trans (hc i h);clear hBs hc;refine callsIn_of_wp func248 rfl hF ?_ hro;simp only[ntmps248,List.size_toArray,List.length_cons,List.length_nil,Nat.reduceAdd,Nat.reduceSub,Array.replicate_succ,Array.replicate_zero,List.push_toArray,List.append_toArray,List.nil_append,List.cons_append]
 gi_wp2
 gi_loopw [3] (fun i wr=>∃k:Nat,k≤N∧i=.int .i64 ((N:Int)-k-1)∧J k wr∧Kept R W wr) (fun i _=>(intOf i+1).toNat)
 case atStart=>exact⟨0,Nat.zero_le _,by go_num,h0,fun b _=>rfl⟩
 case round=>
  obtain⟨k,hk,rfl,hJ,hK⟩:=hrel
  by_cases hlt:k<N
  ·obtain⟨fn,tmps,assign,body,hy,hR⟩:=hY k wr hJ hlt;obtain⟨j,hj⟩:∃j,N-k-1=j:=⟨_,rfl⟩
   rw[hj]at hy;have hji:(N:Int)-k-1=(j:Int):=by omega
   rw[hji]at hy;have hjl:j<heads.length:=by omega
   have hgd:heads[j]?.getD undef=heads[j]:=by rw[List.getElem?_eq_getElem hjl];rfl
   rw[hgd]at hy;have c1:wr.cell? ⟨Bs,0,none⟩=some (.slice g N c):=(hK.cell hRB).trans hBs';have c2:wr.cell? ⟨g,j,none⟩=some heads[j]:=(hK.cell hRg).trans (hc' j hjl);generalize heads[j]=v at*;have j0:0≤(j:Int):=by omega
   have jN:(j:Int)<(N:Int):=by omega
   clear hc' hY hgd
   gi_wp2
   refine hR.mono ?_;rintro e W3 ⟨rfl,hJ3,hk3⟩
   gi_wp2
   go_roundw
   case rel=>exact⟨k+1,by omega,by congr 1;omega,hJ3,hK.trans hk3⟩
   case measure=>simp[intOf];omega
  ·obtain rfl:k=N:=by omega
   gi_wp2
   go_end0
   exact⟨⟨_,rfl⟩,hJ⟩
theorem Dg{F:Fence}{m:Nat}(hF:F.fn 240)(hro:F.round=none)(v:Value){A:Option Addr}{n c:Nat}(hv:v=.slice A n c)(w:World):
 CallsIn F m prog 240 #[v] w fun e w'=>e=.returned (.func (.func 248) #[] #[.pointer w.heap.size])∧w'=w.alloc (.cells #[v] 255):=by
 subst hv;refine callsIn_of_wp func240 rfl hF ?_ hro;simp only[ntmps240,List.size_toArray,List.length_cons,List.length_nil,Nat.reduceAdd,Nat.reduceSub,Array.replicate_succ,Array.replicate_zero,List.push_toArray,List.append_toArray,List.nil_append,List.cons_append]
 gi_wp2
 go_ret;exact⟨rfl,rfl⟩
end
end Go.Proofs.YtbanopnofpjnbaaGreatDoor
