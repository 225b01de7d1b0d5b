/- Own texts in one: Count, CountW, LimitW, LawD, Table, LayW, NextM, NextW. -/
import Derived.Test.YtbanopnofpjnbaaGreatDoorU09
set_option maxRecDepth 1000000
set_option linter.unusedVariables false
set_option maxHeartbeats 4000000
namespace Go.Proofs.YtbanopnofpjnbaaGreatDoor
open Go Go.RowKit Tryz
def aAt(ws:List Nat)(K a:Nat):Nat→Nat
 |0=>a
 |k+1=>2*(aAt ws K a k-tk (rowN ws (K-k)) (aAt ws K a k))
def tAt(ws:List Nat)(K a k:Nat):Nat:=tk (rowN ws (K-k)) (aAt ws K a k)
def bump(cs:List (Nat×Nat))(t:Nat)(l:List Int):List Int:=(cs.take t).foldl (fun l c=>l.set c.1 (l.getD c.1 0+1)) l
def iE(cs:List (Nat×Nat))(ts:List Nat)(l:List Int):List Int:=ts.foldl (fun l t=>bump cs t l) l
theorem A0(ws:List Nat)(K a:Nat):∀k,aAt ws (K+1) a (k+1)=aAt ws K (2*(a-tk (rowN ws (K+1)) a)) k
 |0=>rfl
 |k+1=>by rw[aAt,A0 ws K a k,aAt,Nat.add_sub_add_right]
theorem EU(ws:List Nat):∀K a,cc ws K a=(List.range (K+1)).map (tAt ws K a)
 |0,a=>rfl
 |K+1,a=>by
  rw[cc,EU ws K,List.range_succ_eq_map (n:=K+1),List.map_cons,List.map_map]
  congr 1
  apply List.map_congr_left;intro k _;simp only[tAt,Function.comp,Nat.succ_eq_add_one];rw[A0,Nat.add_sub_add_right]
theorem MH(ws:List Nat)(K a:Nat)(h:a≤(rowN ws K).length):∀k,k≤K→aAt ws K a k≤(rowN ws (K-k)).length
 |0,_=>h
 |k+1,hk=>by
  have ih:=MH ws K a h k (by omega);have e:K-k=(K-(k+1))+1:=by omega
  rw[aAt];rw[e]at ih⊢;exact fe ws _ _ ih
theorem ng(cs:List (Nat×Nat))(t:Nat)(l:List Int):(bump cs t l).length=l.length:=by
 unfold bump;have:∀(p:List (Nat×Nat)) (l:List Int),(p.foldl (fun l c=>l.set c.1 (l.getD c.1 0+1)) l).length=l.length:=by
  intro p
  induction p with
  |nil=>intro l;rfl
  |cons c p ih=>intro l;rw[List.foldl_cons,ih,List.length_set]
 exact this _ _
theorem o4(cs:List (Nat×Nat))(t:Nat)(l:List Int)(h:t<cs.length):bump cs (t+1) l=(bump cs t l).set cs[t].1 ((bump cs t l).getD cs[t].1 0+1):=by
 unfold bump;rw[List.take_succ_eq_append_getElem h,List.foldl_append];rfl
theorem zU(cs:List (Nat×Nat))(ts:List Nat)(l:List Int):(iE cs ts l).length=l.length:=by
 unfold iE
 induction ts generalizing l with
 |nil=>rfl
 |cons t ts ih=>rw[List.foldl_cons,ih,ng]
theorem vI(cs:List (Nat×Nat))(ts:List Nat)(t:Nat)(l:List Int):iE cs (ts++[t]) l=bump cs t (iE cs ts l):=by unfold iE;rw[List.foldl_append];rfl
def Small(B:Nat)(l:List Int):Prop:=∀x∈l,0≤x∧x≤(B:Int)
theorem Small.bumped{B:Nat}{l:List Int}(h:Small B l)(cs:List (Nat×Nat)):∀t,Small (B+t) (bump cs t l):=by
 intro t
 induction t with
 |zero=>simpa[bump]using h
 |succ t ih=>
  by_cases ht:t<cs.length
  ·rw[o4 cs t l ht];intro x hx;rcases List.mem_or_eq_of_mem_set hx with h1|h1
   ·have:=ih x h1;omega
   ·subst h1;rcases Nat.lt_or_ge cs[t].1 (bump cs t l).length with h2|h2
    ·have:=ih _ (List.getElem_mem h2);rw[List.getD_eq_getElem?_getD,List.getElem?_eq_getElem h2];simp only[Option.getD_some];omega
    ·rw[List.getD_eq_getElem?_getD,List.getElem?_eq_none h2];simp;omega
  ·have e:bump cs (t+1) l=bump cs t l:=by
    unfold bump;rw[List.take_of_length_le (by omega),List.take_of_length_le (by omega)]
   rw[e];intro x hx;have:=ih x hx;omega
theorem PX(row:List (Nat×Bool))(a:Nat)(h:a<row.length):tk row (a+1)=tk row a+(if row[a].2 then 0 else 1):=by
 unfold tk gH;rw[List.take_succ_eq_append_getElem h,List.filter_append,List.length_append]
 congr 1
 cases hb:row[a].2<;>simp[hb]
section
open Go.Shelf
attribute [local go_sem] Oper.semAt_some
theorem se(cs:List (Nat×Nat))(l0:List Int)(h:Small 0 l0)(B:Nat)(f:Nat→Nat)(hf:∀k,f k≤B):∀k,Small (B*k) (iE cs ((List.range k).map f) l0)
 |0=>by simpa[iE]using h
 |k+1=>by
  rw[List.range_succ,List.map_append,List.map_cons,List.map_nil,vI];intro x hx;have h1:=(se cs l0 h B f hf k).bumped cs (f k) x hx;have h2:=hf k;rw[Nat.mul_succ];omega
theorem Gs(cs:List (Nat×Nat))(f:Nat→Nat)(l0:List Int)(k:Nat):iE cs ((List.range (k+1)).map f) l0=bump cs (f k) (iE cs ((List.range k).map f) l0):=by
 rw[List.range_succ,List.map_append,List.map_cons,List.map_nil,vI]
theorem But.widen{S:List Nat}{w W W':World}(h:But S w W)(hb:Below w.heap.size W W'):But S w W':=
 ⟨hb.os.trans h.os,hb.tape.trans h.tape,hb.output.trans h.output,Nat.le_trans h.size hb.size,fun k hk hS=>(hb.block k hk).trans (h.block k hk hS)⟩
theorem OwnI.same{w w':World}{base g n c:Nat}{l:List Int}(h:OwnI w base (.slice g n c) l)(he:w'.heap[g]? =w.heap[g]?):OwnI w' base (.slice g n c) l:=by
 refine⟨h.1,?_⟩;rcases h.2 with⟨e,_⟩|⟨g',cap,cur,e,hg,hh,r⟩
 ·cases e
 ·injection e with e1 e2 e3;injection e1 with e1;injection e1 with e1;subst e1 e3;exact .inr ⟨g,c,cur,by rw[e2],hg,he.trans hh,r⟩
def MP(wL:World)(gl bf base m:Nat)(cs:List (Nat×Nat))(ws:List Nat)(K a:Nat)(l0:List Int)(k:Nat)(W:World):Prop:=
 But [gl,bf] wL W∧Is W bf 3 #[(aAt ws K a k:Nat)]∧OwnI W base (.slice gl m m) (iE cs ((List.range k).map (tAt ws K a)) l0)
theorem ye(F:Fence)(N:Nat)(hF:F.fn 225)(hF2:F.fn 240)(hF3:F.fn 248)(hro:F.round=none)(hN:3≤N)
 {w:World} {base gl m:Nat} {A:Option Addr} {n cap g c K R1:Nat} (hR1:R1=K+1) {cs:List (Nat×Nat)} {ws:List Nat} {L:List Value} {l0:List Int}
 (hws:ws=cs.map (·.2)) (hlen:OwnI w base (.slice gl m m) l0) (hc:Coins w A n cs) (hoff:Off A gl) (hn:n≤288) (hn2:2≤n) (hK:K<15) (hnK:n≤2^(K+1))
 (hL:L.length=R1) (hS:OwnS w base (.slice g R1 c) L) (hR:RowsAre w base ws L) (hsym:∀x∈cs,x.1<m) (hsm:Small 0 l0):
 CallsIn F N prog 225 #[.slice gl m m,.slice A n cap,.slice g R1 c] w fun e W'=>e=.returned (.tuple #[])∧
  OwnI W' base (.slice gl m m) (iE cs (cc ws K (2*n-2)) l0)∧But [gl] w W':=by
 have h1:1≤N:=by omega
 have hwl:ws.length=n:=by rw[hws,List.length_map,hc.1]
 have HWL:=qhz hwl;have HWS:=qhz hws;have HR1:=qhz hR1;have HLL:=qhz hL;have hR15:R1≤15:=by omega
 clear hR1 hL hws hwl;refine callsIn_of_wp_marks func225 rfl hF ?_ hro;simp only[ntmps225,List.size_toArray,List.length_cons,List.length_nil,Nat.reduceAdd,Nat.reduceSub,Array.replicate_succ,Array.replicate_zero,List.push_toArray,List.append_toArray,List.nil_append,List.cons_append]
 gi_wp2_with (gi_at_call 240;refine(Dg hF2 hro _ rfl _).mono ?_;rintro e w' ⟨rfl,rfl⟩)
 obtain⟨h0,hh0⟩:=E1 w.heap.size;rw[←hh0];have hbl:But [] w ((((w.alloc (.cells #[.slice gl m m] 36)).alloc (.cells #[.slice A n cap] 250)).alloc (.cells #[.int .i64 (2*(n:Int)-2)] 3)).alloc (.cells #[.slice g R1 c] 255)):=((((But.refl [] w).alloc _).alloc _).alloc _).alloc _;have i0:Is ((((w.alloc (.cells #[.slice gl m m] 36)).alloc (.cells #[.slice A n cap] 250)).alloc (.cells #[.int .i64 (2*(n:Int)-2)] 3)).alloc (.cells #[.slice g R1 c] 255)) h0 36 #[.slice gl m m]:=by
  rw[hh0];exact(((Is.fresh w _ _).alloc _).alloc _).alloc _
 have i1:Is ((((w.alloc (.cells #[.slice gl m m] 36)).alloc (.cells #[.slice A n cap] 250)).alloc (.cells #[.int .i64 (2*(n:Int)-2)] 3)).alloc (.cells #[.slice g R1 c] 255)) (h0+1) 250 #[.slice A n cap]:=by
  have:=Is.fresh (w.alloc (.cells #[.slice gl m m] 36)) 250 #[.slice A n cap];rw[World.size_alloc,←hh0]at this;exact(this.alloc _).alloc _
 have i2:Is ((((w.alloc (.cells #[.slice gl m m] 36)).alloc (.cells #[.slice A n cap] 250)).alloc (.cells #[.int .i64 (2*(n:Int)-2)] 3)).alloc (.cells #[.slice g R1 c] 255)) (h0+1+1) 3 #[.int .i64 (2*(n:Int)-2)]:=by
  have:=Is.fresh ((w.alloc (.cells #[.slice gl m m] 36)).alloc (.cells #[.slice A n cap] 250)) 3 #[.int .i64 (2*(n:Int)-2)];rw[World.size_alloc,World.size_alloc,←hh0]at this;exact this.alloc _
 have i3:Is ((((w.alloc (.cells #[.slice gl m m] 36)).alloc (.cells #[.slice A n cap] 250)).alloc (.cells #[.int .i64 (2*(n:Int)-2)] 3)).alloc (.cells #[.slice g R1 c] 255)) (h0+1+1+1) 255 #[.slice g R1 c]:=by
  have:=Is.fresh (((w.alloc (.cells #[.slice gl m m] 36)).alloc (.cells #[.slice A n cap] 250)).alloc (.cells #[.int .i64 (2*(n:Int)-2)] 3)) 255 #[.slice g R1 c];rw[World.size_alloc,World.size_alloc,World.size_alloc,←hh0]at this;exact this
 have isz:((((w.alloc (.cells #[.slice gl m m] 36)).alloc (.cells #[.slice A n cap] 250)).alloc (.cells #[.int .i64 (2*(n:Int)-2)] 3)).alloc (.cells #[.slice g R1 c] 255)).heap.size=h0+1+1+1+1:=by simp[hh0]
 generalize((((w.alloc (.cells #[.slice gl m m] 36)).alloc (.cells #[.slice A n cap] 250)).alloc (.cells #[.int .i64 (2*(n:Int)-2)] 3)).alloc (.cells #[.slice g R1 c] 255))=wL at*;have hgl:=World.ownsRow.lt hlen gl rfl;obtain⟨gS,cS,eS,hgS,hcS⟩:=hS.open (by have:=HLL.out;have:=HR1.out;omega);obtain⟨rfl,rfl⟩:g=gS∧c=cS:=by
  rw[HLL.out]at eS;injection eS with e1 e2 e3;injection e1 with e1;injection e1 with e1;exact⟨e1,e3⟩
 have HH0:=qhz hh0;have hcl:=qT (m:=N-1) (R:=fun b=>b<wL.heap.size∧b≠gl∧b≠h0+1+1) hF3 hro (by omega) HLL.out (by omega) (i3.cell 0) (by omega) (by omega) (fun i hi=>hbl.cell (hcS i hi) (by simp)) ⟨by omega,by omega,by omega⟩ ⟨by omega,?gne,by omega⟩
 case gne=>intro e;exact oy hS hlen (by decide) (g:=g) rfl (by rw[e];rfl)
 have ISZ:=qhz isz;clear hh0 isz;refine zj (Kp:=Kept fun b=>b<wL.heap.size∧b≠gl∧b≠h0+1+1) hro h1 (gf:=248) (lb:=#[.pointer (some ⟨h0+1+1+1,0,none⟩)]) rfl hF3 (enters_of func248 (by kernel_rfl) rfl)
  hcl
  (fun h k=>Kept.trans h k) (fun h b hb=>h.block b hb.1) (fun k=>rfl)
  (MP wL gl (h0+1+1) base m cs ws K (2*n-2) l0) ?hI ?hstart
  (fun k=>{tmps:=#[.slice gl m m,.slice A n cap,.slice g R1 c,.pointer h0,.pointer (some ⟨h0+1,0,none⟩),undef,.pointer (some ⟨h0+1+1,0,none⟩),undef,L[R1-k-1]?.getD undef,undef,undef,undef,
   .slice A n cap,.int .i64 n,.int .i64 (2*(n:Int)),.int .i64 (2*(n:Int)-2),.slice g R1 c,.func (.func 248) #[] #[.pointer (some ⟨h0+1+1+1,0,none⟩)],.int .i64 ((R1:Int)-k-1),L[R1-k-1]?.getD undef,
   undef,undef,undef,undef,undef,undef,undef,undef,undef,undef,undef,undef,undef,undef,undef,undef,undef,undef,undef,undef,undef,undef,undef,undef,undef,undef,undef,undef],defers:=[]}) ?assign ?body ?done
 case hI=>
  rintro k W W' ⟨hB,hi,hO⟩ hb;exact⟨hB.widen hb,(hb.block _ (by have:=ISZ.out;omega)).trans hi,hO.same (hb.block _ (by have:=hbl.size;omega))⟩
 case hstart=>
  refine⟨But.refl _ _,?_,hlen.same (hbl.block _ hgl.2 (by simp))⟩;have e:((aAt ws K (2*n-2) 0:Nat):Int)=2*(n:Int)-2:=by simp only[aAt];omega
  rw[e];exact i2
 case assign=>
  intro l k W K hK
  gi_wp2
  exact hK
 case body=>
  rintro l k W ⟨hB,hi,hO⟩ hk;have hkK:k≤K:=by have:=HR1.out;omega
  have hro2:=MH ws K (2*n-2) (by have:=jg ws K (by rw[HWL.out];exact hnK) (by rw[HWL.out];exact hn2);rw[HWL.out]at this;exact this) k hkK;obtain⟨gr,er,hOr⟩:=hR (K-k) (by have:=HLL.out;have:=HR1.out;omega);have egd:L[R1-k-1]?.getD undef=.slice gr (rowN ws (K-k)).length (rowN ws (K-k)).length:=by
   rw[←er,List.getElem?_eq_getElem (by have:=HLL.out;omega)];simp only[Option.getD_some]
   congr 1
   have:=HR1.out;omega
  rw[er]at hOr;have hgr:=oy hOr hlen (by decide) (g:=gr) rfl;have hgrl:=(World.ownsRow.lt hOr gr rfl).2;obtain⟨_,hIt⟩:=hOr.items;have hbs:=hbl.size;have HHX:=HH0.out;have hbW:But [gl,h0+1+1] w W:=⟨hB.os.trans hbl.os,hB.tape.trans hbl.tape,hB.output.trans hbl.output,Nat.le_trans hbs hB.size,fun b hb hS=>(hB.block b (by omega) hS).trans (hbl.block b hb (by simp))⟩
  have hIt2:=hIt.but hbW (fun b hb a e=>by
   injection e with e;subst e
   simp only[List.mem_cons,List.not_mem_nil,or_false]at hb;rcases hb with rfl|rfl
   ·intro e2;exact hgr (by rw[show gr=b from e2];rfl)
   ·show gr≠h0+1+1;omega)
  have hcA:∀a,A=some a→0<n→a.block<w.heap.size:=fun a e hp=>by
   obtain⟨g',o',e',hg',_⟩:=hc.2 hp;rw[e]at e';injection e' with e';rw[e'];exact hg'
  have hc2:=hc.but hbW (fun b hb a e=>by
   simp only[List.mem_cons,List.not_mem_nil,or_false]at hb;rcases hb with rfl|rfl
   ·exact hoff a e
   ·have:=hcA a e (by omega);omega)
  have c0:W.cell? ⟨h0,0,none⟩=some (.slice gl m m):=(i0.but hB (by simp;omega)).cell 0;have c1:W.cell? ⟨h0+1,0,none⟩=some (.slice A n cap):=(i1.but hB (by simp;omega)).cell 0;have c2:W.cell? ⟨h0+1+1,0,none⟩=some (.int .i64 (aAt ws K (2*n-2) k:Nat)):=hi.cell 0;have f2:=hi.free 0;rw[egd];have hrl:=jx ws (K-k);have HWL2:=HWL.out;have hrl2:(rowN ws (K-k)).length≤576:=by omega
  have HT:=qhz (show tAt ws K (2*n-2) k=tk (rowN ws (K-k)) (aAt ws K (2*n-2) k)from rfl);have HA:=qhz (show aAt ws K (2*n-2) (k+1)=2*(aAt ws K (2*n-2) k-tk (rowN ws (K-k)) (aAt ws K (2*n-2) k))from rfl);have htn:=fun b (hb:b≤(rowN ws (K-k)).length)=>nH ws (K-k) b hb;rw[HWL.out]at htn;have hsmall:=se cs l0 hsm 300 (fun k=>if k≤K then tAt ws K (2*n-2) k else 0) (fun k=>by
   split
   ·have h:=nH ws (K-k) (aAt ws K (2*n-2) k) (MH ws K (2*n-2) (by have:=jg ws K (by rw[HWL.out];exact hnK) (by rw[HWL.out];exact hn2);rw[HWL.out]at this;exact this) k (by omega));rw[HWL.out]at h;unfold tAt;omega
   ·omega) k
  have hfe:(List.range k).map (fun k=>if k≤K then tAt ws K (2*n-2) k else 0)=(List.range k).map (tAt ws K (2*n-2)):=List.map_congr_left (fun i hi=>if_pos (by have:=List.mem_range.1 hi;omega));rw[hfe]at hsmall;have HLK:=qhz (Gs cs (tAt ws K (2*n-2)) l0 k);generalize iE cs ((List.range k).map (tAt ws K (2*n-2))) l0=lk at*;generalize hrow:rowN ws (K-k)=row at*;generalize haa:aAt ws K (2*n-2) k=aa at*;clear hfe hgr er egd hrl hIt hc i0 i1 i2 i3 hrow haa hbl hR hS hcS hcl;have HOR:=qhz hOr;have HLEN:=qhz hlen;have HO:=qhz hO;have HBW:=qhz hB;have HIB:=qhz hi;have a0:(0:Int)≤(aa:Int):=by omega
  have a1:(aa:Int)≤(row.length:Int):=by omega
  have hg0:gl<h0∧gr<h0:=by omega
  clear hO hB hi HWL2 hOr HHX
  gi_wp2
  have hgrW:gr≠gl:=by
   intro e;subst e
   exact oy HOR.out HLEN.out (by decide) (g:=gr) rfl rfl
  gi_loopw [9,24] (fun tv iv wr=>∃j:Nat,j≤aa∧iv=.int .i64 j∧tv=.int .i64 (tk row j)∧But [gl] W wr∧KeepsOthers W wr∧OwnI wr base (.slice gl m m) (bump cs (tk row j) lk)) (fun _ iv _=>aa-(intOf iv).toNat)
  case atStart=>exact⟨0,Nat.zero_le _,rfl,rfl,But.refl _ _,KeepsOthers.refl _,HO.out⟩
  case round=>
   obtain⟨j,hj,rfl,rfl,hBj,hKj,hOj⟩:=hrel;have c0j:=hBj.cell c0 (by simp;omega);have c1j:=hBj.cell c1 (by simp;omega)
   by_cases hlt:j<aa
   ·have hjr:j<row.length:=by omega
    obtain⟨g',o',e',hg',hd0,hd1⟩:=hIt2.at hjr;injection e' with e';injection e' with e1 e2;subst e1 e2;rw[Nat.zero_add]at hd0 hd1;replace hd0:=hBj.cell hd0 (by simp;omega);replace hd1:=hBj.cell hd1 (by simp;omega);have htk:=PX row j hjr;generalize row[j].1=wt at*;generalize row[j].2=pb at*;cases pb
    ·have htk1:tk row (j+1)=tk row j+1:=by simpa using htk
     have htn1:=htn (j+1) (by omega);have htlt:tk row j<n:=by omega
     obtain⟨gc,oc,rfl,hgc,he0,_⟩:=hc2.at htlt;have hcsl:tk row j<cs.length:=by have:=hc2.1;omega
     have hsy:=hsym _ (List.getElem_mem hcsl);have hbs1:=o4 cs (tk row j) lk hcsl;have hgcl:gc≠gl:=fun e=>hoff _ rfl e;replace he0:=hBj.cell he0 (by simp;omega);generalize(cs[tk row j]'_).1=sy at*;have hml:=hOj.len;have hce:=hOj.cell (show sy<(bump cs (tk row j) lk).length by omega);have hcf:=hOj.free sy;have hvs:=(hsmall.bumped cs (tk row j)) _ (List.getElem_mem (show sy<(bump cs (tk row j) lk).length by omega));have hgd:(bump cs (tk row j) lk).getD sy 0=(bump cs (tk row j) lk)[sy]'(by omega):=by rw[List.getD_eq_getElem?_getD,List.getElem?_eq_getElem (by omega)];rfl
     rw[hgd]at hbs1;generalize(bump cs (tk row j) lk)[sy]'_=v at*;have HBS:=qhz hbs1;have HTK:=qhz htk1;have HOJ:=qhz hOj;have HBJ:=qhz hBj;have HKJ:=qhz hKj;clear hbs1 htk htk1 hgd hml hOj hBj hKj;generalize hT:tk row j=t at*;clear hT;have t0:(0:Int)≤(t:Int):=by omega
     have t1:(t:Int)<(n:Int):=by omega
     have s0:(0:Int)≤(sy:Int):=by omega
     have s1:(sy:Int)<(m:Int):=by omega
     gi_wp2
     have hwa:But [] wr (wr.alloc (.cells #[wt,false] 276)):=(But.refl [] wr).alloc _;have hka:KeepsOthers wr (wr.alloc (.cells #[wt,false] 276)):=KeepsOthers.alloc _ _;replace c0j:=hwa.cell c0j (by simp);replace c1j:=hwa.cell c1j (by simp);replace he0:=hwa.cell he0 (by simp);replace hce:=hwa.cell hce (by simp);have hcf2:(wr.alloc (.cells #[wt,false] 276)).frozen? ⟨gl,sy,none⟩=false:=(HOJ.out.but hwa (by simp)).free sy;have HWA:=qhz hwa;have HKA:=qhz hka;clear hwa hka hcf;generalize wr.alloc (.cells #[wt,false] 276)=wa at*;have hmix:prog.follows .mixedOrders=true:=by kernel_rfl
     gi_region_with_o (fail)
     all_goals (clear hmix)
     all_goals gi_wp2
     all_goals
      go_roundw
      case rel=>
       refine⟨j+1,by omega,by go_num,by rw[HTK.out];go_num,((HBJ.out.trans (HWA.out.more (by simp))).setCell (.inl (by simp)) _).drew,((HKJ.out.trans HKA.out).trans (KeepsOthers.setCell _ _ _)).trans ⟨Nat.le_refl _,fun _ _ h _=>h⟩,?_⟩;rw[HTK.out,HBS.out];exact((HOJ.out.but HWA.out (by simp)).set sy _).but ((But.refl [] _).drew) (by simp)
      case measure=>simp[intOf];omega
    ·have HTK:=qhz (show tk row (j+1)=tk row j by simpa using htk);clear htk
     gi_wp2
     go_roundw
     case rel=>exact⟨j+1,by omega,by go_num,by rw[HTK.out],hBj.alloc _,hKj.trans (KeepsOthers.alloc _ _),by rw[HTK.out];exact hOj.but ((But.refl [] _).alloc _) (by simp)⟩
     case measure=>simp[intOf];omega
   ·obtain rfl:j=aa:=by omega
    have d2:wr.cell? ⟨h0+1+1,0,none⟩=some (.int .i64 (j:Nat)):=hBj.cell c2 (by simp;omega);have e2:wr.frozen? ⟨h0+1+1,0,none⟩=false:=(HIB.out.but hBj (by simp;omega)).free 0;have htl:=Ix row j;have hib:=HIB.out.but hBj (by simp;omega);have hfin:MP wL gl (h0+1+1) base m cs ws K (2*n-2) l0 (k+1) (wr.setCell ⟨h0+1+1,0,none⟩ (.int .i64 (2*((j:Int)-(tk row j:Int))))):=by
     have ea:((aAt ws K (2*n-2) (k+1):Nat):Int)=2*((j:Int)-(tk row j:Int)):=by rw[HA.out];omega
     refine⟨(HBW.out.trans (hBj.more (by simp))).setCell (.inl (by simp)) _,?_,?_⟩
     ·rw[ea];simpa using hib.put 0 (.int .i64 (2*((j:Int)-(tk row j:Int))))
     ·rw[HLK.out,HT.out];exact hOj.but ((But.refl [h0+1+1] wr).setCell (.inl (by simp)) _) (by simp[Value.ownBlock];omega)
    have hkep:Kept (fun b=>b<wL.heap.size∧b≠gl∧b≠h0+1+1) W (wr.setCell ⟨h0+1+1,0,none⟩ (.int .i64 (2*((j:Int)-(tk row j:Int))))):=fun b hb=>by
     have h1:=(hBj.more (T:=[gl,h0+1+1]) (by simp)).setCell (p:=⟨h0+1+1,0,none⟩) (.inl (by simp)) (.int .i64 (2*((j:Int)-(tk row j:Int))));exact h1.block b (Nat.lt_of_lt_of_le hb.1 HBW.out.size) (by simp;omega)
    have HFIN:=qhz hfin;have HKEP:=qhz hkep;have HKO:=qhz (hKj.trans (KeepsOthers.setCell wr ⟨h0+1+1,0,none⟩ (.int .i64 (2*((j:Int)-(tk row j:Int))))));clear hfin hkep hib hOj
    gi_wp2
    exact⟨HKO.out,HKEP.out,HFIN.out⟩
 case done=>
  intro W hW hlt hD;obtain⟨hB,hi,hO⟩:=hW;rw[HR1.out,←EU]at hO;have hbs:=hbl.size;have hkk:=fi (D:=wL.heap.size) (.deferred none) hD (Nat.le_refl _);have hfin:But [gl] w (W.putObj wL.heap.size (.deferred none)):=by
   have h2:=hB.widen hkk;refine⟨h2.os.trans hbl.os,h2.tape.trans hbl.tape,h2.output.trans hbl.output,Nat.le_trans hbs h2.size,fun k hk hS=>?_⟩;rw[h2.block k (by omega) (by have:=HH0.out;simp at hS⊢;omega)];exact hbl.block k hk (by simp)
  have hO2:=hO.same (hkk.block gl (by omega));have HF:=qhz hfin;have HO2:=qhz hO2;clear hfin hO2 hO hkk hB hi
  gi_wp2
  refine⟨by simp,.inl ⟨_,_,rfl,run_takeDeferred hD,?_⟩⟩;exact⟨_,results_none rfl _ _ _,rfl,HO2.out,HF.out⟩
theorem uz{w:World}{base gl m:Nat}{A:Option Addr}{n cap g c K R1:Nat}(hR1:R1=K+1){cs:List (Nat×Nat)}{ws:List Nat}{L:List Value}{l0:List Int}
 (hws:ws=cs.map (·.2)) (hlen:OwnI w base (.slice gl m m) l0) (hc:Coins w A n cs) (hoff:Off A gl) (hn:n≤288) (hn2:2≤n) (hK:K<15) (hnK:n≤2^(K+1))
 (hL:L.length=R1) (hS:OwnS w base (.slice g R1 c) L) (hR:RowsAre w base ws L) (hsym:∀x∈cs,x.1<m) (hsm:Small 0 l0):
 Calls prog 225 #[.slice gl m m,.slice A n cap,.slice g R1 c] w fun e W'=>e=.returned (.tuple #[])∧
  OwnI W' base (.slice gl m m) (iE cs (cc ws K (2*n-2)) l0)∧But [gl] w W':=
 (callsIn_wide (n:=3)).1 (ye .wide 3 trivial trivial trivial rfl (Nat.le_refl _) hR1 hws hlen hc hoff hn hn2 hK hnK hL hS hR hsym hsm)
end
def m7(x:Int):Bool:=decide (0≤x∧x≤1000000000)
def cu(l:List Int):Bool:=l.all m7
def lims(M:Nat)(l:List Int):List Int:=
 let cs:=csOf l l.length
 if cs.length=0 then List.replicate l.length 0 else
 if cs.length=1 then(List.replicate l.length 0).set (cs.getD 0 (0,0)).1 1 else
 iE cs (cc (cs.map (·.2)) (M-1) (2*cs.length-2)) (List.replicate l.length 0)
theorem aV(M:Nat)(l:List Int):(lims M l).length=l.length:=by
 unfold lims;dsimp only;split
 ·simp
 ·split
  ·simp
  ·rw[zU];simp
def qo(w:World)(len:Nat)(r:List Int)(e:Ending)(w':World):Prop:=
 ∃g,e=.returned (.tuple #[.slice (some ⟨g,0,none⟩) len len,(0:Int)])∧OwnI w' w.heap.size (.slice (some ⟨g,0,none⟩) len len) r∧But [] w w'
def Rk(w:World)(e:Ending)(w':World):Prop:=e=.returned (.tuple #[.slice none 0 0,(1:Int)])∧But [] w w'
theorem OwnI.base{w:World}{b1 b2:Nat}{v:Value}{r:List Int}(h:OwnI w b1 v r)(hb:b2≤b1):OwnI w b2 v r:=by
 refine⟨h.1,?_⟩;rcases h.2 with h2|⟨g,cap,cur,hv,hg,r⟩
 ·exact .inl h2
 ·exact .inr ⟨g,cap,cur,hv,by omega,r⟩
theorem xt(l:List Int)(x:Int):cu (l++[x])=(cu l&&m7 x):=by simp[cu]
theorem H9{l:List Int}{x:Int}(h:x∈l)(hx:¬(0≤x∧x≤1000000000)):cu l=false:=by
 cases e:cu l with
 |false=>rfl
 |true=>
  have:=List.all_eq_true.1 e x h;simp only[m7,decide_eq_true_eq]at this;exact absurd this hx
theorem EK{l:List Int}(h:cu l=true){k:Nat}:∀x∈(csOf l k).map (·.2),x≤1000000000:=by
 intro x hx;obtain⟨c,hc,rfl⟩:=List.mem_map.1 hx;obtain⟨_,h2,h3⟩:=gL.1 hc;have hlt:c.1<l.length:=by
  apply Classical.byContradiction;intro hn
  rw[List.getD_eq_getElem?_getD,List.getElem?_eq_none (by omega)]at h2;simp at h2
 have:=List.all_eq_true.1 h l[c.1] (List.getElem_mem hlt);have e:l.getD c.1 0=l[c.1]:=by rw[List.getD_eq_getElem?_getD,List.getElem?_eq_getElem hlt];rfl
 rw[e]at h3;simp only[m7,decide_eq_true_eq]at this;omega
def MJ(w:World)(len M:Nat)(l:List Int)(e:Ending)(w':World):Prop:=
 (cu l=true∧(csOf l len).length≤2^M∧qo w len (lims M l) e w')∨((cu l=false∨2^M<(csOf l len).length)∧Rk w e w')
theorem td{M k n:Nat}{l:List Int}(hk:l.length=k)(hn:n=(csOf l k).length)(h:n=0):lims M l=List.replicate k 0:=by
 subst hk;unfold lims;dsimp only;rw[←hn,if_pos h]
theorem ro{M k n:Nat}{l:List Int}(hk:l.length=k)(hn:n=(csOf l k).length)(h:n=1):lims M l=(List.replicate k 0).set ((csOf l k).getD 0 (0,0)).1 1:=by
 subst hk;unfold lims;dsimp only;rw[←hn,if_neg (by omega),if_pos h]
theorem tg{M k n:Nat}{l:List Int}(hk:l.length=k)(hn:n=(csOf l k).length)(h:2≤n):lims M l=iE (csOf l k) (cc ((csOf l k).map (·.2)) (M-1) (2*n-2)) (List.replicate k 0):=by
 subst hk;unfold lims;dsimp only;rw[←hn,if_neg (by omega),if_neg (by omega)]
theorem Gm{N:Nat}(hN:pf N){w:World}{A:Option Addr}{len cap M:Nat}{l:List Int}(hl:Ints w A len l)(hM1:1≤M)(hM2:M≤15)(h288:len≤288)(hcN:(cw l len).length≤N):
 Calls prog 201 #[M,.slice A len cap] w (MJ w len M l):=by
 obtain⟨i0,hi0,hz0,hz1,hz2⟩:=info_parts cG;have hlen:=hl.1;have d1:decide ((M:Int)<1)=false:=by simp;omega
 have d2:decide ((15:Int)<(M:Int))=false:=by simp;omega
 go_enter func201,ntmps201
 go_wp2
 go_loop [23] (fun i=>∃k:Nat,k≤len∧cu (l.take k)=true∧i=.int .i64 k) (fun i=>len-(intOf i).toNat)
 case atStart=>exact⟨0,Nat.zero_le _,rfl,rfl⟩
 case round=>
  obtain⟨k,hk,hok,rfl⟩:=hrel
  by_cases hlt:k<len
  ·obtain⟨g,o,rfl,hg,hc⟩:=hl.at hlt;have hts:=oF (l:=l) (k:=k) (by omega);have HS:=qhz hts;have HX:=qhz (show l[k]'(by omega)∈l from List.getElem_mem _);generalize l[k]'(by omega)=x at*;clear hl hts
   by_cases hr:0≤x∧x≤1000000000
   ·have HO:=qhz (show cu (l.take (k+1))=true by rw[HS.out,xt,hok];simp[m7];omega);have n0:decide (x<0)=false:=by simp;omega
    have n1:decide ((1000000000:Int)<x)=false:=by simp;omega
    clear hr HS hok HX;go_wp2
    go_round
    case rel=>exact⟨k+1,by omega,HO.out,by go_num⟩
    case measure=>simp[intOf];omega
   ·have HF:=qhz (H9 HX.out hr);clear HS hok HX hlen
    by_cases hn:x<0
    ·go_wp2
     go_ret2
     exact .inr ⟨.inl HF.out,rfl,But.refl _ _⟩
    ·have n0:decide (x<0)=false:=by simp;omega
     have n1:1000000000<x:=by omega
     go_wp2
     go_ret2
     exact .inr ⟨.inl HF.out,rfl,But.refl _ _⟩
  ·obtain rfl:k=len:=by omega
   rw[List.take_of_length_le (by omega)]at hok;have hcoins:=CY (cap:=cap) hN hl h288 hcN;have HC:=qhz hcoins;clear hcoins
   go_wp2_with fail
   refine HC.out.mono ?_;rintro e w1 ⟨A1,c1,rfl,hC1,hA1,hB1⟩;obtain⟨n,hn⟩:=E1 ((csOf l k).length);rw[←hn]at hC1⊢;have hn288:n≤288:=by rw[hn,gi];have:=dc l k;omega
   have h2M:2^M≤2^15:=Nat.pow_le_pow_right (by decide) hM2;obtain⟨p,hp⟩:∃p:Nat,p=2^M:=⟨_,rfl⟩
   have hp15:p≤32768:=by rw[hp];exact h2M
   have hsh:(2:Int)^M=(p:Int):=by rw[hp];simp
   have HP:=qhz hp;have HN1:=qhz hn;clear hp hn h2M HC hl
   by_cases hbig:p<n
   ·have HF:=qhz (show 2^M<(csOf l k).length by rw[←HN1.out,←HP.out];exact hbig);have hd:decide (p<n)=true:=by simpa using hbig
    go_wp2
    go_ret2
    exact .inr ⟨.inr HF.out,rfl,hB1⟩
   ·have hd:decide (p<n)=false:=by simpa using hbig
    have HG:=qhz (show(csOf l k).length≤2^M by rw[←HN1.out,←HP.out];omega);have HOK:=qhz hok;have HLEN:=qhz hlen;have hbs1:=hB1.size;have hbig2:n≤p:=by omega
    clear hok hlen hbig
    by_cases hn0:n=0
    ·have HL0:=qhz (td (M:=M) HLEN.out HN1.out hn0);subst hn0
     go_wp2_with (at_make;refine wpList_make_full _ rfl _ _ 36 rfl w1.heap.size 3 i0 _ 1 underlying36 hi0 hz0 hz1 _ _ _ _ k rfl rfl (by omega) (by omega) (by rw[hz2];omega) (by unfold maxLen;omega) (by simp) ?_;intro w2 hown hgrow)
     have hO2:=OwnI.made hown;have hB2:But [] w1 w2:=(But.refl [] w1).grown hgrow (by simp)
     go_ret2
     exact .inl ⟨HOK.out,HG.out,w1.heap.size,rfl,by rw[HL0.out];exact hO2.base hbs1,hB1.trans hB2⟩
    ·by_cases hn1:n=1
     ·have HL1:=qhz (ro (M:=M) HLEN.out HN1.out hn1);subst hn1;obtain⟨g,o,rfl,hg,hc0,hc1⟩:=hC1.at (show 0<1 by omega);have hcl:=hC1.1;have hsy:=(gL.1 (List.getElem_mem (show 0<(csOf l k).length by omega))).1;have hgd:(csOf l k).getD 0 (0,0)=(csOf l k)[0]'(by omega):=by rw[List.getD_eq_getElem?_getD,List.getElem?_eq_getElem (by omega)];rfl
      rw[←hgd]at hc0 hc1 hsy;generalize((csOf l k).getD 0 (0,0)).1=sy at*;rw[Nat.zero_mul,Nat.add_zero]at hc0 hc1;have s0:(0:Int)≤(sy:Int):=by omega
      have s1:(sy:Int)<(k:Int):=by omega
      have hp1:decide ((p:Int)<1)=false:=by simp;omega
      clear hgd hcl hC1
      go_upto_region 13 with(at_make;refine wpList_make_full _ rfl _ _ 36 rfl w1.heap.size 3 i0 _ 1 underlying36 hi0 hz0 hz1 _ _ _ _ k rfl rfl (by omega) (by omega) (by rw[hz2];omega) (by unfold maxLen;omega) (by simp) ?_;intro w2 hown hgrow)
      have hO2:=OwnI.made hown;have hB2:But [] w1 w2:=(But.refl [] w1).grown hgrow (by simp);replace hc0:=hB2.cell hc0 (by simp);replace hc1:=hB2.cell hc1 (by simp);have hce:=hO2.cell (show sy<(List.replicate k (0:Int)).length by simp;omega);have hcf:=hO2.free sy;have HO2:=qhz hO2;have HB2:=qhz hB2;clear hown hgrow hO2 hB2;go_wp2
      go_ret2
      exact .inl ⟨HOK.out,HG.out,w1.heap.size,rfl,by rw[HL1.out];exact(HO2.out.set sy 1).base hbs1,(hB1.trans HB2.out).setCell (.inr hbs1) _⟩
     ·have hn2:2≤n:=by omega
      have HLM:=qhz (tg (M:=M) HLEN.out HN1.out hn2);obtain⟨K,rfl⟩:∃K,M=K+1:=⟨M-1,by omega⟩
      have hws:(csOf l k).map (·.2)=(csOf l k).map (·.2):=rfl;have hMb:∀x∈(csOf l k).map (·.2),x≤1000000000:=EK HOK.out
      go_upto_region 13 with(at_make;refine wpList_make_full _ rfl _ _ 36 rfl w1.heap.size 3 i0 _ 1 underlying36 hi0 hz0 hz1 _ _ _ _ k rfl rfl (by omega) (by omega) (by rw[hz2];omega) (by unfold maxLen;omega) (by simp) ?_;intro w2 hown hgrow)
      have hO2:=OwnI.made hown;have hB2:But [] w1 w2:=(But.refl [] w1).grown hgrow (by simp);have hC2:=hC1.but hB2 (by simp);have hbs2:=hB2.size;have hgl:=World.ownsRow.lt hO2 w1.heap.size rfl;have hoff:Off A1 w1.heap.size:=fun a e=>by
       obtain⟨g',o',e',hg',_⟩:=hC1.2 (by omega);rw[e]at e';injection e' with e';rw[e'];show g'≠_;omega
      have hrows:=Fy (cap:=c1) (most:=K+1) rfl hC2 hn288 (by omega) hM2 hMb;have HR:=qhz hrows;have HO2:=qhz hO2;have HB2:=qhz hB2;clear hown hgrow hO2 hB2 hrows hws
      go_wp2_with fail
      refine HR.out.mono ?_;rintro e w3 ⟨g3,c3,L,rfl,hL3,hS3,hRA3,hB3⟩;have hO3:=HO2.out.but hB3 (by simp);have hC3:=hC2.but hB3 (by simp);have hsym:∀x∈csOf l k,x.1<k:=fun x hx=>(gL.1 hx).1;have hS4:OwnS w3 w1.heap.size (.slice g3 (K+1) c3) L:=by
       refine⟨hS3.1,?_⟩;rcases hS3.2 with⟨e,_⟩|⟨g',cap',cur,e,hg',r⟩
       ·cases e
       ·exact .inr ⟨g',cap',cur,e,by omega,r⟩
      have hRA4:RowsAre w3 w1.heap.size ((csOf l k).map (·.2)) L:=fun q hq=>by
       obtain⟨g',e',ho'⟩:=hRA3 q hq;exact⟨g',e',ho'.base hbs2⟩
      have hcount:=uz (cap:=c1) (K:=K) (R1:=K+1) rfl rfl hO3 hC3 hoff hn288 hn2 (by omega) (by have:=HG.out;have:=HN1.out;omega) hL3 hS4 hRA4 hsym (fun x hx=>by
       have:=List.eq_of_mem_replicate hx;omega)
      have HCT:=qhz hcount;have HB3:=qhz hB3;clear hcount hO3 hC3 hC2 hS3 hS4 hRA3 hRA4 hL3 hB3 hsym hoff hMb HR
      go_wp2_with fail
      refine HCT.out.mono ?_;rintro e w4 ⟨rfl,hO4,hB4⟩;have hfin:But [] w w4:=((hB1.trans HB2.out).trans HB3.out).fresh hB4 (fun i hi=>by
       obtain rfl:i=w1.heap.size:=by simpa using hi
       exact hbs1)
      have HFIN:=qhz hfin;have HO4:=qhz hO4;clear hfin hO4 hB4 HCT;go_wp2
      go_ret2
      exact .inl ⟨HOK.out,HG.out,w1.heap.size,rfl,by rw[HLM.out];exact HO4.out.base hbs1,HFIN.out⟩
theorem Ints.news{w:World}{g o n:Nat}{l:List Int}(h:Ints w (some ⟨g,o,none⟩) n l)(hn:0<n):∀j u,(l.map (Value.int .i64))[j]? =some u→w.cell? ((⟨g,o,none⟩:Addr).add j)=some u:=by
 intro j u hu;obtain⟨g',o',e,_,hc⟩:=h.2 hn;injection e with e;injection e with e1 e2;subst e1 e2;have hj:j<l.length:=by
  have:=(List.getElem?_eq_some_iff.1 hu).1;simpa using this
 rw[Go.WideShapes.add_plain,hc j hj];simpa[hj]using hu
theorem OwnI.ints_of{w:World}{base n c:Nat}{A:Option Addr}{l:List Int}(h:OwnI w base (.slice A n c) l)(hn:n=l.length):Ints w A n l:=by
 obtain⟨A',c',e,hi,_⟩:=h.open;injection e with e1 e2 e3;subst e1 e2;exact hi
def cntW(l:List Int)(p:List Nat)(n:Nat):Nat:=(p.filter fun s=>decide ((l.getD s 0).toNat=n)).length
theorem Me(l:List Int)(p:List Nat)(s n:Nat):cntW l (p++[s]) n=cntW l p n+(if(l.getD s 0).toNat=n then 1 else 0):=by
 unfold cntW;rw[List.filter_append,List.length_append];congr 1
 by_cases h:(l.getD s 0).toNat=n
 ·rw[if_pos h,List.filter_cons,if_pos (by simpa using h)];rfl
 ·rw[if_neg h,List.filter_cons,if_neg (by simpa using h)];rfl
theorem Mf(l:List Int)(p:List Nat)(n:Nat):cntW l p n≤p.length:=List.length_filter_le _ _
def cW(vo vl vc:Value)(W:Nat→Nat)(last:Nat):Array Value:=(vo::((List.range 16).map fun n=>Value.int .i64 (W n:Nat))++[.int .i64 (last:Nat),vl,vc]).toArray
theorem DA(vo vl vc:Value)(W:Nat→Nat)(last n:Nat)(h:n<16):(cW vo vl vc W last)[1+n]? =some (.int .i64 (W n:Nat)):=by
 unfold cW;simp only[List.cons_append,List.getElem?_toArray,Nat.add_comm 1,List.getElem?_cons_succ];rw[List.getElem?_append_left (by simp;exact h)];simp[h]
theorem PZ(vo vl vc:Value)(W:Nat→Nat)(last n:Nat)(h:n<16)(x:Nat):(cW vo vl vc W last).setIfInBounds (1+n) (.int .i64 x)=cW vo vl vc (fun k=>if k=n then x else W k) last:=by
 unfold cW;apply Array.ext';simp only[List.cons_append,List.setIfInBounds_toArray,Nat.add_comm 1,List.set_cons_succ]
 congr 1
 rw[List.set_append_left _ _ (by simp;exact h)]
 congr 1
 apply List.ext_getElem
 ·simp
 ·intro i h1 h2;simp only[List.getElem_set,List.getElem_map,List.getElem_range]
  by_cases e:n=i
  ·subst e;simp
  ·rw[if_neg e,if_neg (Ne.symm e)]
theorem M9(vo vl vc:Value)(W:Nat→Nat)(last x:Nat):(cW vo vl vc W last).setIfInBounds 17 (.int .i64 x)=cW vo vl vc W x:=rfl
theorem IA(vo vl vc v:Value)(W:Nat→Nat)(last:Nat):(cW vo vl vc W last).setIfInBounds 19 v=cW vo vl v W last:=rfl
def TT(w:World)(b:Nat)(l:List Int):Prop:=
 ∃Ao co Al cl Ac cc,Is w b 241 (cW (.slice Ao (ord l).length co) (.slice Al l.length cl) (.slice Ac l.length cc) (cntW l (ord l)) (was l (ord l)))∧
  Ints w Ao (ord l).length ((ord l).map fun s:Nat=>(s:Int))∧Ints w Al l.length l∧Ints w Ac l.length (fI l)
def NewT(lo:Nat)(w:World)(b:Nat)(l:List Int):Prop:=
 ∃Ao co Al cl Ac cc,Is w b 241 (cW (.slice Ao (ord l).length co) (.slice Al l.length cl) (.slice Ac l.length cc) (cntW l (ord l)) (was l (ord l)))∧
  Ints w Ao (ord l).length ((ord l).map fun s:Nat=>(s:Int))∧Ints w Al l.length l∧Ints w Ac l.length (fI l)∧lo≤b∧
  (∀a,Ao=some a→lo≤a.block)∧(∀a,Al=some a→lo≤a.block)∧(∀a,Ac=some a→lo≤a.block)
theorem NewT.tt{lo b:Nat}{w:World}{l:List Int}(h:NewT lo w b l):TT w b l:=by
 obtain⟨Ao,co,Al,cl,Ac,cc,h1,h2,h3,h4,_⟩:=h;exact⟨Ao,co,Al,cl,Ac,cc,h1,h2,h3,h4⟩
theorem NewT.but{lo b:Nat}{w w':World}{l:List Int}{S:List Nat}(h:NewT lo w b l)(hw:But S w w')(hS:∀k∈S,k<lo):NewT lo w' b l:=by
 obtain⟨Ao,co,Al,cl,Ac,cc,h1,h2,h3,h4,h5,h6,h7,h8⟩:=h;have off:∀A:Option Addr,(∀a,A=some a→lo≤a.block)→∀k∈S,Off A k:=fun A hA k hk a e=>by
  have:=hA a e;have:=hS k hk;omega
 exact⟨Ao,co,Al,cl,Ac,cc,h1.but hw (fun hb=>by have:=hS b hb;omega),h2.but hw (off _ h6),h3.but hw (off _ h7),h4.but hw (off _ h8),h5,h6,h7,h8⟩
def R8(w:World)(l:List Int)(e:Ending)(w':World):Prop:=
 ∃b,e=.returned (.tuple #[.pointer (some ⟨b,0,none⟩),(0:Int)])∧NewT w.heap.size w' b l∧But [] w w'
theorem Pr{l:List Int}{p r:List Nat}(h:ord l=p++r):was l p≤15:=by
 unfold was;cases e:p.getLast? with
 |none=>exact Nat.zero_le _
 |some t=>
  have:=eU (l:=l) (s:=t) (h▸List.mem_append_left r (List.mem_of_getLast? e));show(l.getD t 0).toNat≤15;omega
theorem vA(l:List Int):(ord l).length≤l.length:=by
 have hnd:(ord l).Nodup:=gd l 15;have hm:∀s∈ord l,s<l.length:=fun s hs=>(eU hs).1;generalize ord l=p at*;have:=dL (fun _=>1) l.length p hnd hm;simp only[List.map_const',List.sum_replicate_nat,List.length_range,Nat.mul_one]at this;exact this
theorem Ints.but'{w w':World}{A:Option Addr}{n:Nat}{l:List Int}{S:List Nat}(h:Ints w A n l)(hw:But S w w')(hA:0<n→∀k∈S,Off A k):Ints w' A n l:=
 ⟨h.1,fun hn=>(h.but hw (hA hn)).2 hn⟩
theorem Ints.off{w:World}{A:Option Addr}{n b:Nat}{l:List Int}(h:Ints w A n l)(hb:w.heap.size≤b):0<n→Off A b:=fun hn a e=>by
 obtain⟨g,o,e',hg,_⟩:=h.2 hn;rw[e]at e';injection e' with e';subst e';show g≠b;omega
theorem lW{w:World}{A:Option Addr}{len cap:Nat}{l:List Int}(hl:Ints w A len l)(hb8:len*8≤140737488351232)(hnil:A=none→cap=0)(hc:chk l=0):
 Calls prog 196 #[.slice A len cap] w (R8 w l):=by
 obtain⟨h1,h2,hks,h4⟩:=iT hc;have hm:len≤maxLen:=by unfold maxLen;omega
 obtain⟨i0,hi0,hz0,hz1,hz2⟩:=info_parts cG;have hlen:=hl.1;have h288:len≤288:=by omega
 have hck:=AL (cap:=cap) hl hm;rw[hc]at hck;have HC:=qhz hck;have HLEN:=qhz hlen;have hord:=vA l;rw[hlen]at hord;clear hck h2 h4 h1 hlen hc
 go_enter func196,ntmps196
 go_wp2_with fail
 refine HC.out.mono ?_;rintro e w' ⟨rfl,rfl⟩
 go_upto_region 4 with(fail)
 go_cut [5] (fun pv w1=>∃(b:Nat) (Ao:Option Addr) (co:Nat) (Al:Option Addr) (cl:Nat),pv=.pointer b∧Is w1 b 241 (cW (.slice Ao (ord l).length co) (.slice Al len cl) (.slice none 0 0) (fun _=>0) 0)∧
  Ints w1 Ao (ord l).length ((ord l).map fun s:Nat=>(s:Int))∧Ints w1 Al len l∧w.heap.size≤b∧(0<(ord l).length→Off Ao b)∧(0<len→Off Al b)∧But [] w w1∧(∀a,Ao=some a→w.heap.size≤a.block)∧(∀a,Al=some a→w.heap.size≤a.block))
 case first=>
  go_wp2_with fail
  refine(Cf hl h288).mono ?_;rintro e w1 ⟨Ao,co,rfl,hIo,hB1,hlow⟩;have HLOW:=qhz hlow;clear hlow;have hl1:=hl.but hB1 (by simp);have HIO:=qhz hIo;have HB1:=qhz hB1;have hsz1:=hB1.size;clear hIo hB1 HC hl;rcases A with _|ad
  ·obtain rfl:=hnil rfl;have h0:len=0:=by
    apply Classical.byContradiction;intro h
    obtain⟨g,o,e,_⟩:=hl1.2 (by omega);cases e
   subst h0;have HL1:=qhz hl1;clear hl1;go_wp2
   go_meet
   exact⟨w1.heap.size,Ao,co,none,0,rfl,Is.fresh w1 _ _,HIO.out.but ((But.refl [] w1).alloc _) (by simp),HL1.out.but ((But.refl [] w1).alloc _) (by simp),hsz1,HIO.out.off (Nat.le_refl _),HL1.out.off (Nat.le_refl _),HB1.out.alloc _,HLOW.out,fun a e=>by cases e⟩
  ·have hnw:∀j u,(l.map (Value.int .i64))[j]? =some u→w1.cell? (ad.add j)=some u:=by
    by_cases h0:0<len
    ·obtain⟨g,o,e,_⟩:=hl1.2 h0;obtain rfl:ad=⟨g,o,none⟩:=by injection e
     exact hl1.news h0
    ·intro j u hu;have:l=[]:=List.eq_nil_of_length_eq_zero (by have:=HLEN.out;omega);subst this;simp at hu
   have HNW:=qhz hnw;have HNIL:=qhz hnil;clear hnw hnil hl1
   go_wp2_with (at_builtin;refine wpList_append_own _ rfl _ _ 36 rfl w1.heap.size 3 i0 (.int .i64 0) 1 8 underlying36 hi0 hz0 hz1 hz2 rfl (by decide) (.slice none 0 0) 0 [] rfl (World.ownsRow_nil _ _ _ _) ad len cap (l.map (.int .i64)) rfl (by simp;exact HLEN.out) HNW.out ?c2 ?c3 ?c4 ?c5 ?_)
   case c2=>intro u hu;obtain⟨x,_,rfl⟩:=List.mem_map.1 hu;rfl
   case c3=>unfold maxLen at*;omega
   case c4=>omega
   case c5=>simp
   intro v' w2 hown hgrow _;obtain⟨Al,cl,rfl⟩:∃Al cl,v'=.slice Al len cl:=by
    rcases hown.2 with⟨e,e2⟩|⟨g4,c4,cur,e,_⟩
    ·exact⟨none,0,by rw[e];congr 1;omega⟩
    ·exact⟨_,c4,by simpa using e⟩
   have hOw:OwnI w2 w1.heap.size (.slice Al len cl) l:=by
    unfold OwnI;rw[HLEN.out];simpa using hown
   have hI2:=hOw.ints_of HLEN.out.symm;have hlow2:∀a,Al=some a→w.heap.size≤a.block:=fun a e=>by
    subst e;have hb:=(World.ownsRow.lt hOw a.block rfl).1;omega
   have HLOW2:=qhz hlow2;clear hlow2;have hB2:But [] w1 w2:=(But.refl [] w1).grown hgrow (fun g e=>by cases e);have HI2:=qhz hI2;have HB2:=qhz hB2;have hsz2:=hB2.size;clear hown hgrow hOw hI2 hB2;go_wp2
   go_meet
   exact⟨w2.heap.size,Ao,co,Al,cl,rfl,Is.fresh w2 _ _,HIO.out.but (HB2.out.alloc _) (by simp),HI2.out.but ((But.refl [] w2).alloc _) (by simp),by omega,HIO.out.off hsz2,HI2.out.off (Nat.le_refl _),(HB1.out.trans HB2.out).alloc _,HLOW.out,HLOW2.out⟩
 case rest=>
  obtain⟨b,Ao,co,Al,cl,rfl,hT,hIo,hIl,hwb,hoffo,hoffl,hB,hlow,hlow2⟩:=hcut;have HLOW:=qhz hlow;have HLOW2:=qhz hlow2;clear hlow hlow2
  go_upto_region 5 with(fail)
  go_cut [] (fun w2=>∃(gc:Nat),Is w2 b 241 (cW (.slice Ao (ord l).length co) (.slice Al len cl) (.slice gc len len) (fun _=>0) 0)∧
   Ints w2 Ao (ord l).length ((ord l).map fun s:Nat=>(s:Int))∧Ints w2 Al len l∧Ints w2 (some ⟨gc,0,none⟩) len (fI l)∧gc≠b∧But [] w w2∧w.heap.size≤gc)
  case first=>
   have c0:wc.drew.cell? ⟨b,0,none⟩=some (.slice Ao (ord l).length co):=hT.cell 0;have c18:wc.drew.cell? ⟨b,18,none⟩=some (.slice Al len cl):=hT.cell 18;have d0:wc.cell? ⟨b,0,none⟩=some (.slice Ao (ord l).length co):=hT.cell 0;have d18:wc.cell? ⟨b,18,none⟩=some (.slice Al len cl):=hT.cell 18;have hcd:=CZ (w:=wc.drew) (cap:=cl) (cap2:=co) hIl hIo h288 hks;have HCD:=qhz hcd;have HT:=qhz hT;have HB:=qhz hB;have HIo:=qhz hIo;have HIl:=qhz hIl;have hbl:=hT.lt;clear hcd hT hB hIo hIl HC
   go_region_with (go_at_call 222;refine HCD.out.mono ?_;rintro e w2 ⟨rfl,hOc,hB2⟩;have f19:w2.frozen? ⟨b,19,none⟩=false:=(HT.out.but (((But.refl [] wc).drew).trans hB2) (by simp)).free 19;have c19:w2.cell? ⟨b,19,none⟩=some (.slice none 0 0):=(HT.out.but (((But.refl [] wc).drew).trans hB2) (by simp)).cell 19)
   all_goals
    (try go_wp2)
    go_meet
    have hbe:But [] wc w2:=((But.refl [] wc).drew).trans hB2;have hgcb:wc.heap.size≠b:=by omega
    have hpt:=(HT.out.but hbe (by simp)).put 19 (.slice wc.heap.size len len);rw[IA]at hpt;have hst:But [b] w2 (w2.setCell ⟨b,19,none⟩ (.slice wc.heap.size len len)):=(But.refl [b] w2).setCell (.inl (by simp)) _;exact⟨wc.heap.size,hpt,(HIo.out.but hbe (by simp)).but' hst (fun h k hk=>by
     obtain rfl:k=b:=by simpa using hk
     exact hoffo h),
     (HIl.out.but hbe (by simp)).but' hst (fun h k hk=>by
      obtain rfl:k=b:=by simpa using hk
      exact hoffl h),
     hOc.ints.but' hst (fun _ k hk a e=>by
      obtain rfl:k=b:=by simpa using hk
      injection e with e;subst e;exact hgcb),
     hgcb,(HB.out.trans hbe).setCell (.inr hwb) _,HB.out.size⟩
  case rest=>
   clear hT hIo hIl hB HC;obtain⟨gc,hT,hIo,hIl,hIc,hgcb,hB,hgcl⟩:=hcut;have c0:wc.cell? ⟨b,0,none⟩=some (.slice Ao (ord l).length co):=hT.cell 0;go_wp2;have hI0:cntW l ((ord l).take 0)=fun _=>0:=rfl;have hom:=hord
   go_loopw [36] (fun iv wr=>∃j:Nat,j≤(ord l).length∧iv=.int .i64 j∧Is wr b 241 (cW (.slice Ao (ord l).length co) (.slice Al len cl) (.slice gc len len) (cntW l ((ord l).take j)) (was l ((ord l).take j)))∧But [b] wc wr) (fun iv _=>(ord l).length-(intOf iv).toNat)
   case atStart=>exact⟨0,Nat.zero_le _,rfl,by rw[hI0];exact hT,But.refl _ _⟩
   case round=>
    obtain⟨j,hj,rfl,hTr,hBr⟩:=hrel;clear hT hI0
    by_cases hlt:j<(ord l).length
    ·have hsp:ord l=(ord l).take j++(ord l)[j]'hlt::(ord l).drop (j+1):=by
      rw[List.getElem_cons_drop,List.take_append_drop]
     have hts:(ord l).take (j+1)=(ord l).take j++[(ord l)[j]'hlt]:=List.take_succ_eq_append_getElem hlt;obtain⟨g,o,rfl,hg,hc⟩:=hIo.at hlt;replace hc:=hBr.cell hc (by
      have:=hoffo (by omega) _ rfl;simp;exact this)
     rw[List.getElem_map]at hc;have hsl:=eU (List.getElem_mem hlt);have h5:=Me l ((ord l).take j) ((ord l)[j]'hlt);have h6:=lG l ((ord l).take j) ((ord l)[j]'hlt);rw[←hts]at h5 h6;have hw15:=Pr hsp;have hcl:=Mf l ((ord l).take j);rw[List.length_take]at hcl;generalize(ord l)[j]'hlt=s at*;obtain⟨g2,o2,rfl,hg2,hc2⟩:=hIl.at (show s<len by have:=HLEN.out;omega);replace hc2:=hBr.cell hc2 (by
      have:=hoffl (by omega) _ rfl;simp;exact this)
     have hgd:l.getD s 0=l[s]'(by omega):=by rw[List.getD_eq_getElem?_getD,List.getElem?_eq_getElem (by omega)];rfl
     obtain⟨n,hn⟩:=E1 ((l.getD s 0).toNat);have hln:l[s]'(by omega)=(n:Int):=by rw[←hgd];omega
     rw[hln]at hc2;rw[←hn]at h5 h6;have hn15:n≤15:=by omega
     generalize hW:cntW l ((ord l).take j)=W at*;generalize hL:was l ((ord l).take j)=L at*;clear hW hL hsp hts hgd hln hn;have H5:=qhz (show cntW l ((ord l).take (j+1))=fun k=>if k=n then W n+1 else W k by
      funext k;rw[h5];by_cases e:n=k
      ·subst e;simp
      ·rw[if_neg e,if_neg (Ne.symm e)];rfl)
     have H6:=qhz h6;clear h5 h6;have hWn:=hcl n;have k0:wr.cell? ⟨b,0,none⟩=some (.slice (some ⟨g,o,none⟩) (ord l).length co):=hTr.cell 0;have k17:wr.cell? ⟨b,17,none⟩=some (.int .i64 (L:Nat)):=hTr.cell 17;have k18:wr.cell? ⟨b,18,none⟩=some (.slice (some ⟨g2,o2,none⟩) len cl):=hTr.cell 18;have f17:wr.frozen? ⟨b,17,none⟩=false:=hTr.free 17;have s0:(0:Int)≤(s:Int):=by omega
     have s1:(s:Int)<(len:Int):=by have:=HLEN.out;omega
     have hT1:Is (wr.setCell ⟨b,17,none⟩ (.int .i64 (n:Nat))) b 241 (cW (.slice (some ⟨g,o,none⟩) (ord l).length co) (.slice (some ⟨g2,o2,none⟩) len cl) (.slice gc len len) W n):=by
      have:=hTr.put 17 (.int .i64 (n:Nat));rw[M9]at this;exact this
     have hB1:But [b] wc (wr.setCell ⟨b,17,none⟩ (.int .i64 (n:Nat))):=hBr.setCell (.inl (by simp)) _;have HT1:=qhz hT1;have HB1:=qhz hB1;clear hT1 hB1 hTr hBr hcl hoffo hoffl hIo hIl
     go_upto_region 10 with(fail)
     generalize wr.setCell ⟨b,17,none⟩ (.int .i64 (n:Nat))=w1 at*;have q17:w1.drew.cell? ⟨b,17,none⟩=some (.int .i64 (n:Nat)):=HT1.out.cell 17;have qn:w1.drew.cell? ⟨b,1+n,none⟩=some (.int .i64 (W n:Nat)):=(HT1.out.cell (1+n)).trans (DA _ _ _ _ _ _ (by omega));have qf:w1.drew.frozen? ⟨b,1+n,none⟩=false:=HT1.out.free (1+n);have HT2:=qhz (show Is w1.drew b 241 _ from HT1.out);have HB2:=qhz (HB1.out.drew);clear HT1 HB1 k0 k17 k18 f17 hc hc2;have n0:(0:Int)≤(n:Int):=by omega
     have n1:(n:Int)<16:=by omega
     have ew:IntKind.i64.wrap ((W n:Nat)+1)=((W n:Nat):Int)+1:=IntWalk.i64_in _ (by omega);refine wp_region_still_tail 13 (by kernel_rfl) (by kernel_rfl) ?_;simp only[List.take_succ_cons,List.take_zero,List.drop_succ_cons,List.drop_zero];change wpStill _ _ w1.drew (fun a'=>wpList _ _ _ _ a' w1.drew) _ _;generalize w1.drew=W1 at *
     repeat still_step
     refine wpStill_nil ?_;clear ew;go_wp2
     go_roundw
     case rel=>
      refine⟨j+1,by omega,by go_num,?_,HB2.out.setCell (.inl (by simp)) _⟩;rw[H5.out,H6.out];have:=HT2.out.put (1+n) (.int .i64 ((W n+1:Nat):Int));rw[PZ _ _ _ _ _ _ (by omega)]at this;simpa using this
     case measure=>simp[intOf];omega
    ·obtain hje:j=(ord l).length:=by omega
     subst hje;rw[List.take_of_length_le (Nat.le_refl _)]at hTr;have hfin:NewT w.heap.size wr b l:=by
      refine⟨Ao,co,Al,cl,some ⟨gc,0,none⟩,len,?_,hIo.but' hBr (fun h k hk=>by
       obtain rfl:k=b:=by simpa using hk
       exact hoffo h),?_,?_,hwb,HLOW.out,HLOW2.out,fun a e=>by injection e with e;subst e;exact hgcl⟩
      ·rw[HLEN.out];exact hTr
      ·rw[HLEN.out];exact hIl.but' hBr (fun h k hk=>by
        obtain rfl:k=b:=by simpa using hk
        exact hoffl h)
      ·rw[HLEN.out];exact hIc.but' hBr (fun _ k hk a e=>by
        obtain rfl:k=b:=by simpa using hk
        injection e with e;subst e;exact hgcb)
     have HF:=qhz hfin;have HB:=qhz (hB.fresh hBr (fun i hi=>by
      obtain rfl:i=b:=by simpa using hi
      exact hwb))
     clear hfin hTr hBr;go_wp2
     go_ret2
     exact⟨b,rfl,HF.out,HB.out⟩
def layG(c:Int):Nat→Nat→Nat→Nat×Nat
 |0,X,N=>(X,N)
 |i+1,X,N=>layG c i (layX X N (c/2^i) 1) (layN N 1)
def has(l:List Int)(s:Int):Prop:=0≤s∧s<l.length∧l.getD s.toNat 0≠0
instance (l:List Int)(s:Int):Decidable (has l s):=by unfold has;infer_instance
def layS(l:List Int)(s:Int)(X N:Nat):Nat×Nat:=if has l s then layG ((fI l).getD s.toNat 0) (l.getD s.toNat 0).toNat X N else(X,N)
theorem ry(N:Nat):layN N 1=N+1:=by unfold layN;rw[if_neg (by omega)];rfl
theorem lZ(c:Int):∀(n X N:Nat),(layG c n X N).2=N+n
 |0,_,_=>rfl
 |n+1,X,N=>by rw[layG,lZ c n,ry];omega
theorem gv{l:List Int}{n:Nat}(h:n<l.length):l.getD n 0=l[n]:=by rw[List.getD_eq_getElem?_getD,List.getElem?_eq_getElem h];rfl
def tM(l:List Int)(n c:Nat):Option Nat:=(List.range l.length).find? fun s=>decide (l.getD s 0=(n:Int)∧(fI l).getD s 0=(c:Int))
def kE(l:List Int)(s:ByteArray):Nat→Nat→Nat→Nat→Nat×Int×Nat
 |0,_,_,p=>(0,12,p)
 |f+1,n,c,p=>if au s p 1≠0 then(0,au s p 1,p) else
  match tM l n (2*c+ax s p 1) with
  |some i=>(i,0,aK s p 1)
  |none=>kE l s f (n+1) (2*c+ax s p 1) (aK s p 1)
def bR(l:List Int):Nat:=if many l=0 then 0 else if many l=1∧top l=1 then 1 else 15
def gK(l:List Int)(s:ByteArray)(p:Nat):Nat×Int×Nat:=kE l s (bR l) 1 0 p
section
theorem oX{l:List Int}(h:chk l=0):∀x∈l,0≤x∧x≤15:=by
 obtain⟨h1,h2,h3,h4⟩:=iT h;unfold cL at h2;intro x hx;have:=List.all_eq_true.1 h2 x hx;unfold sZ at this;simpa using this
attribute [local irreducible] ord was cntW tM kE bR bG
end
end Go.Proofs.YtbanopnofpjnbaaGreatDoor
