/- Own texts in one: BestM, SymA, SymB, SymC. -/
import Derived.Test.YtbanopnofpjnbaaGreatDoorU10
set_option maxRecDepth 1000000
set_option linter.unusedVariables false
set_option maxHeartbeats 4000000
namespace Go.Proofs.YtbanopnofpjnbaaGreatDoor
open Go Go.RowKit Tryz
section
theorem oM(l:List Int)(i j:Nat)(x:Int):(l.set i x).getD j 0=if i=j∧j<l.length then x else l.getD j 0:=by
 rw[List.getD_eq_getElem?_getD,List.getD_eq_getElem?_getD]
 by_cases h:i=j
 ·subst h
  by_cases h2:i<l.length
  ·rw[List.getElem?_set_self h2,if_pos ⟨rfl,h2⟩];rfl
  ·rw[if_neg (by omega),List.getElem?_eq_none (by simp;omega),List.getElem?_eq_none (by omega)]
 ·rw[List.getElem?_set_ne h,if_neg (by omega)]
theorem Eg{cs:List (Nat×Nat)}(hd:(cs.map (·.1)).Nodup){r q:Nat}(hr:r<cs.length)(hq:q<cs.length)(h:cs[r].1=cs[q].1):r=q:=by
 have hp:=List.pairwise_iff_getElem.1 hd;apply Classical.byContradiction;intro hne
 rcases Nat.lt_or_gt_of_ne hne with h1|h1
 ·exact hp r q (by simpa using hr) (by simpa using hq) h1 (by simpa using h)
 ·exact hp q r (by simpa using hq) (by simpa using hr) h1 (by simpa using h.symm)
theorem Mo{cs:List (Nat×Nat)}(hd:(cs.map (·.1)).Nodup){l:List Int}(hlt:∀c∈cs,c.1<l.length){r:Nat}(hr:r<cs.length):∀t,(bump cs t l).getD cs[r].1 0=l.getD cs[r].1 0+if r<t then 1 else 0
 |0=>by simp[bump]
 |t+1=>by
  have ih:=Mo hd hlt hr t
  by_cases ht:t<cs.length
  ·rw[o4 cs t l ht,oM,ng]
   by_cases e:t=r
   ·subst e;rw[if_pos ⟨rfl,hlt _ (List.getElem_mem hr)⟩,ih,if_neg (by omega),if_pos (by omega)];omega
   ·rw[if_neg (fun h=>e (Eg hd ht hr h.1)),ih]
    by_cases h1:r<t
    ·rw[if_pos h1,if_pos (by omega)]
    ·rw[if_neg h1,if_neg (by omega)]
  ·have e:bump cs (t+1) l=bump cs t l:=by
    unfold bump;rw[List.take_of_length_le (by omega),List.take_of_length_le (by omega)]
   rw[e,ih,if_pos (by omega),if_pos (by omega)]
theorem EW{cs:List (Nat×Nat)}{l:List Int}{s:Nat}(hs:s∉cs.map (·.1)):∀t,(bump cs t l).getD s 0=l.getD s 0
 |0=>by simp[bump]
 |t+1=>by
  have ih:=EW hs t (l:=l)
  by_cases ht:t<cs.length
  ·rw[o4 cs t l ht,oM,if_neg,ih];rintro⟨h,_⟩;exact hs (h▸List.mem_map_of_mem (List.getElem_mem ht))
  ·have e:bump cs (t+1) l=bump cs t l:=by
    unfold bump;rw[List.take_of_length_le (by omega),List.take_of_length_le (by omega)]
   rw[e,ih]
theorem Eu{cs:List (Nat×Nat)}(hd:(cs.map (·.1)).Nodup){r:Nat}(hr:r<cs.length):∀(ts:List Nat) (l:List Int),(∀c∈cs,c.1<l.length)→(iE cs ts l).getD cs[r].1 0=l.getD cs[r].1 0+(rl ts r:Nat)
 |[],l,_=>by simp[iE,rl]
 |t::ts,l,h=>by
  have ih:=Eu hd hr ts (bump cs t l) (fun c hc=>by rw[ng];exact h c hc);have e:iE cs (t::ts) l=iE cs ts (bump cs t l):=rfl;rw[e,ih,Mo hd h hr,rl];split<;>simp<;>omega
theorem Ae{cs:List (Nat×Nat)}{s:Nat}(hs:s∉cs.map (·.1)):∀(ts:List Nat) (l:List Int),(iE cs ts l).getD s 0=l.getD s 0
 |[],l=>rfl
 |t::ts,l=>by
  have e:iE cs (t::ts) l=iE cs ts (bump cs t l):=rfl;rw[e,Ae hs ts,EW hs]
theorem vR(l:List Int)(k:Nat):((csOf l k).map (·.1)).Nodup:=by
 have h1:((cw l k).map (·.1)).Nodup:=by
  unfold List.Nodup;rw[List.pairwise_map];exact(me l k).imp (fun h=>by omega)
 exact((lB l k).2.map (·.1)).nodup_iff.2 h1
theorem EI(l:List Int)(k:Nat):Asc ((csOf l k).map (·.2)):=by
 unfold Asc;rw[List.pairwise_map];exact(lB l k).1.imp (fun h=>by unfold lx at h;omega)
theorem gQ(n s:Nat):(List.replicate n (0:Int)).getD s 0=0:=by
 rw[List.getD_eq_getElem?_getD]
 by_cases h:s<n
 ·rw[List.getElem?_eq_getElem (by simpa using h)];simp
 ·rw[List.getElem?_eq_none (by simpa using h)];rfl
def rk(M:Nat)(l:List Int)(r:Nat):Nat:=if(csOf l l.length).length=1 then 1 else rl (fD ((csOf l l.length).map (·.2)) (M-1)) r
section
variable {M:Nat} {l:List Int}
theorem te{r:Nat}(hr:r<(csOf l l.length).length):(lims M l).getD (csOf l l.length)[r].1 0=(rk M l r:Nat):=by
 have hlt:∀c∈csOf l l.length,c.1<(List.replicate l.length (0:Int)).length:=fun c hc=>by rw[List.length_replicate];exact(gL.1 hc).1
 unfold rk
 by_cases h1:(csOf l l.length).length=1
 ·rw[ro rfl rfl h1,if_pos h1,oM];have e:(csOf l l.length).getD 0 (0,0)=(csOf l l.length)[r]:=by
   obtain rfl:r=0:=by omega
   rw[List.getD_eq_getElem?_getD,List.getElem?_eq_getElem hr];rfl
  rw[e,if_pos ⟨rfl,hlt _ (List.getElem_mem hr)⟩];rfl
 ·rw[tg rfl rfl (by omega),if_neg h1,Eu (vR l _) hr _ _ hlt,gQ,Int.zero_add];unfold fD;rw[List.length_map]
theorem En{s:Nat}(hs:s∉(csOf l l.length).map (·.1)):(lims M l).getD s 0=0:=by
 by_cases h0:(csOf l l.length).length=0
 ·rw[td rfl rfl h0,gQ]
 ·by_cases h1:(csOf l l.length).length=1
  ·rw[ro rfl rfl h1,oM,if_neg,gQ];rintro⟨h,_⟩;refine hs (h▸List.mem_map_of_mem ?_);rw[List.getD_eq_getElem?_getD,List.getElem?_eq_getElem (by omega)];exact List.getElem_mem _
  ·rw[tg rfl rfl (by omega),Ae hs,gQ]
theorem Ql{i:Nat}(hi:i<l.length)(h:0<l.getD i 0):∃r,∃hr:r<(csOf l l.length).length,(csOf l l.length)[r]=(i,(l.getD i 0).toNat):=by
 obtain⟨r,hr,e⟩:=List.getElem_of_mem (gL.2 (show(i,(l.getD i 0).toNat).1<l.length∧_ from⟨hi,h,rfl⟩));exact⟨r,hr,e⟩
theorem N4{i:Nat}(h:¬0<l.getD i 0):i∉(csOf l l.length).map (·.1):=by
 intro hm;obtain⟨c,hc,rfl⟩:=List.mem_map.1 hm;exact h (gL.1 hc).2.1
variable (hM1:1≤M) (hp:(csOf l l.length).length≤2^M)
include hM1 hp
theorem wS{r:Nat}(hr:r<(csOf l l.length).length):1≤rk M l r∧rk M l r≤M:=by
 unfold rk
 by_cases h1:(csOf l l.length).length=1
 ·rw[if_pos h1];omega
 ·rw[if_neg h1];have e:M-1+1=M:=by omega
  have hpos:=Rv ((csOf l l.length).map (·.2)) (EI l _) (M-1) (by rw[e,List.length_map];exact hp) (by rw[List.length_map];omega) r (by rw[List.length_map];exact hr);have hmost:=JF ((csOf l l.length).map (·.2)) (M-1) r;omega
theorem xI{i:Nat}(hi:i<l.length)(h:0<l.getD i 0):1≤(lims M l).getD i 0∧(lims M l).getD i 0≤(M:Int):=by
 obtain⟨r,hr,e⟩:=Ql hi h;have h1:=te (M:=M) hr;rw[e]at h1;have h2:=wS hM1 hp hr;rw[h1];omega
omit hM1 hp in
theorem tf{i:Nat}(h:¬0<l.getD i 0):(lims M l).getD i 0=0:=En (N4 h)
omit hM1 hp in
theorem Nf(L:List Nat):L.sum=upTo L.length fun r=>L.getD r 0:=by
 have:=Ng L L.length (Nat.le_refl _)
 rwa [List.take_length]at this
omit hM1 hp in
theorem yM(l:List Int)(f:Nat→Nat):((List.range l.length).map fun i=>if 0<l.getD i 0 then f i else 0).sum=upTo (csOf l l.length).length fun r=>f ((csOf l l.length).getD r (0,0)).1:=by
 have h0:∀k,((cw l k).map fun c=>f c.1).sum=((List.range k).map fun i=>if 0<l.getD i 0 then f i else 0).sum:=by
  intro k
  induction k with
  |zero=>rfl
  |succ k ih=>
   rw[cw,List.range_succ,List.map_append,List.sum_append,←ih];split
   ·rename_i h;rw[List.map_append,List.sum_append]
    congr 1
    show f k+0=(if 0<l.getD k 0 then f k else 0)+0;rw[if_pos h]
   ·rename_i h;show _=_+((if 0<l.getD k 0 then f k else 0)+0)
    rw[if_neg h];rfl
 rw[←h0,←((lB l l.length).2.map fun c=>f c.1).sum_nat,Nf,List.length_map];apply eW;intro r hr;rw[List.getD_eq_getElem?_getD,List.getD_eq_getElem?_getD,List.getElem?_map,List.getElem?_eq_getElem hr];rfl
omit hM1 hp in
theorem DE(g:Int→Nat)(h0:g 0=0):((List.range l.length).map fun s=>g ((lims M l).getD s 0)).sum=upTo (csOf l l.length).length fun r=>g (rk M l r:Nat):=by
 have e:((List.range l.length).map fun s=>g ((lims M l).getD s 0))=(List.range l.length).map fun i=>if 0<l.getD i 0 then g ((lims M l).getD i 0)else 0:=by
  apply List.map_congr_left;intro i _
  by_cases h:0<l.getD i 0
  ·rw[if_pos h]
  ·rw[if_neg h,tf h,h0]
 rw[e,yM];apply eW;intro r hr;have e3:(csOf l l.length).getD r (0,0)=(csOf l l.length)[r]:=by rw[List.getD_eq_getElem?_getD,List.getElem?_eq_getElem hr];rfl
 rw[e3,te hr]
omit hM1 hp in
theorem Gj(L:List Int):many L=((List.range L.length).map fun s=>if 0<L.getD s 0 then 1 else 0).sum:=by
 have:((List.range L.length).map fun s=>if 0<L.getD s 0 then 1 else 0)=L.map fun x=>if 0<x then 1 else 0:=by
  apply List.ext_getElem
  ·simp
  ·intro i h1 h2;simp only[List.getElem_map,List.getElem_range];rw[List.getD_eq_getElem?_getD,List.getElem?_eq_getElem (by simpa using h2)];rfl
 rw[this];unfold many
 induction L with
 |nil=>rfl
 |cons x L ih=>
  rw[List.filter_cons,List.map_cons,List.sum_cons,←ih (by
   apply List.ext_getElem
   ·simp
   ·intro i h1 h2;simp only[List.getElem_map,List.getElem_range];rw[List.getD_eq_getElem?_getD,List.getElem?_eq_getElem (by simpa using h2)];rfl)]
  by_cases h:0<x
  ·rw[if_pos (by simpa using h),if_pos h,List.length_cons];omega
  ·rw[if_neg (by simpa using h),if_neg h];omega
theorem O6(hM2:M≤15)(h288:l.length≤288):chk (lims M l)=0:=by
 have hl:=aV M l;have hok:cL (lims M l)=true:=by
  unfold cL;rw[List.all_eq_true];intro x hx;obtain⟨i,hi,rfl⟩:=List.getElem_of_mem hx;have e:(lims M l)[i]=(lims M l).getD i 0:=by rw[List.getD_eq_getElem?_getD,List.getElem?_eq_getElem hi];rfl
  rw[e];unfold sZ;simp only[decide_eq_true_eq]
  by_cases h:0<l.getD i 0
  ·have:=xI hM1 hp (by omega) h;omega
  ·rw[tf h];omega
 have hm:many (lims M l)=(csOf l l.length).length:=by
  rw[Gj,hl,DE (fun x=>if 0<x then 1 else 0) (by simp)];rw[eW (g:=fun _=>1) (fun r hr=>by have:=wS hM1 hp hr;rw[if_pos (by omega)]),ja,Nat.mul_one]
 have hk:ksum (lims M l)=upTo (csOf l l.length).length fun r=>2^(15-rk M l r):=by
  rw[←sJ,hl,DE kr (by simp[kr])];apply eW;intro r hr;have:=wS hM1 hp hr;unfold kr;rw[if_pos (by omega),Int.toNat_natCast]
 unfold chk;rw[if_neg (by omega),hok,if_neg (by simp)]
 by_cases h0:(csOf l l.length).length=0
 ·rw[hm,hk,h0];simp[upTo]
 ·by_cases h1:(csOf l l.length).length=1
  ·have e:ksum (lims M l)=16384:=by
    rw[hk,h1];simp only[upTo,Nat.zero_add];unfold rk;rw[if_pos h1]
   rw[e,if_neg (by omega),if_neg];rw[hm,h1];simp
  ·have e:ksum (lims M l)=32768:=by
    rw[hk];have hf:=QS ((csOf l l.length).map (·.2)) (EI l _) (M-1) (by rw[show M-1+1=M from by omega,List.length_map];exact hp) (by rw[List.length_map];omega) (by omega);rw[List.length_map]at hf;have e2:∀r,rk M l r=rl (fD ((csOf l l.length).map (·.2)) (M-1)) r:=fun r=>by unfold rk;rw[if_neg h1]
    rw[eW (g:=fun r=>2^(15-rl (fD ((csOf l l.length).map (·.2)) (M-1)) r)) (fun r _=>by rw[e2]),hf]
   rw[e,if_neg (by omega),if_neg (by omega)]
end
end
theorem rA{d A X B:List (Nat×Nat)}{i:Nat}(h:d=A++X++B)(h1:A.length≤i)(h2:i<A.length+X.length):d.getD i (0,0)=X[i-A.length]'(by omega):=by
 subst h;rw[List.getD_eq_getElem?_getD,List.append_assoc,List.getElem?_append_right h1,List.getElem?_append_left (by omega),List.getElem?_eq_getElem (by omega)];rfl
theorem oH{X:List (Nat×Nat)}{k:Nat}(h:k<X.length):(X.take (k+1)).getLast? =some X[k]:=by
 rw[List.take_succ_eq_append_getElem h];exact List.getLast?_concat
theorem oL{X:List (Nat×Nat)}{k:Nat}(h:k<X.length):(X.drop k).head? =some X[k]:=by
 rw[List.drop_eq_getElem_cons h];rfl
theorem EA{X:List (Nat×Nat)}{x:Nat×Nat}(h:Srt X)(hh:∀y,X.head? =some y→lx x y):∀y∈X,lx x y:=by
 intro y hy;cases X with
 |nil=>cases hy
 |cons z X=>
  have hz:=hh z rfl;rcases List.mem_cons.1 hy with rfl|hy
  ·exact hz
  ·exact fC hz ((List.pairwise_cons.1 h).1 y hy)
theorem Nc{w:World}{g o n cap a m b:Nat}{A Y B:List (Nat×Nat)}{x:Nat×Nat}(hd:CL w g o (A++x::Y++B))(hdl:(A++x::Y++B).length=n)(hn:n≤1000)(hgl:g<w.heap.size)
 (ha:a=A.length) (hm:m=a+1) (hb:b=m+Y.length) (hY:Srt Y) (hc:∀y∈Y,x.1<y.1):
 Calls prog 250 #[.slice (some ⟨g,o,none⟩) n cap,a,m,b,.func (.func 238) #[] #[]] w fun e w'=>e=.returned (.tuple #[])∧(∃S,Srt S∧S.Perm (x::Y)∧CL w' g o (A++S++B))∧But [g] w w':=by
 have mixed:prog.follows .mixedOrders=true:=by kernel_rfl
 have hbn:b≤n:=by simp at hdl;omega
 have hma:(m:Int)-(a:Int)=1:=by omega
 have hma2:a<m:=by omega
 have hmb:m≤b:=by omega
 have HA:=qhz ha;have HM:=qhz hm;have HBB:=qhz hb;have HDL:=qhz hdl;have HSY:=qhz hY;clear ha hm hb hdl hY
 go_enter func250,ntmps250
 go_wp2
 go_loopw [10,11] (fun iv jv wr=>∃i j:Nat,m≤i∧i≤j∧j≤b∧iv=.int .i64 i∧jv=.int .i64 j∧(∀y,(Y.take (i-m)).getLast? =some y→lx y x)∧(∀y,(Y.drop (j-m)).head? =some y→lx x y)∧CL wr g o (A++x::Y++B)∧But [g] w wr) (fun iv jv _=>(intOf jv).toNat-(intOf iv).toNat)
 case atStart=>exact⟨m,b,Nat.le_refl _,hmb,Nat.le_refl _,rfl,rfl,by simp,by have:=HBB.out;rw[List.drop_of_length_le (by omega)];simp,hd,But.refl _ _⟩
 case round=>
  obtain⟨i,j,hmi,hij,hjb,rfl,rfl,h1,h2,hd',hB⟩:=hrel;clear hd hma;have hgj:g<wr.heap.size:=Nat.lt_of_lt_of_le hgl hB.size
  by_cases hlt:i<j
  ·obtain⟨h,hh⟩:=E1 ((i+j)/2);have hhi:((i:Int)+(j:Int))/2=(h:Int):=by omega
   have hih:i≤h∧h<j:=by omega
   have hhn:h<n:=by omega
   have hgx:=lA (d:=A++x::Y++B) (A:=A) (x:=x) (B:=Y++B) (i:=a) (by simp) HA.out;have hym:h-m<Y.length:=by have:=HBB.out;omega
   have hgy:(A++x::Y++B).getD h (0,0)=Y[h-m]'hym:=by
    have:=rA (d:=A++x::Y++B) (A:=A++[x]) (X:=Y) (B:=B) (i:=h) (by simp) (by have:=HA.out;have:=HM.out;simp;omega) (by have:=HA.out;have:=HM.out;have:=HBB.out;simp;omega);rw[this];congr 1;have:=HA.out;have:=HM.out;simp;omega
   have hlt1:=oH hym;have hhd1:=oL hym;have hcy:=hc _ (List.getElem_mem hym);generalize Y[h-m]'hym=y at*;have x0':=fun n' os=>((hd'.grow hgj n' os).get (i:=a) (by have:=HDL.out;omega) hgx).1;have x1':=fun n' os=>((hd'.grow hgj n' os).get (i:=a) (by have:=HDL.out;omega) hgx).2.1;have y0':=fun n' os=>((hd'.grow hgj n' os).get (i:=h) (by have:=HDL.out;omega) hgy).1;have y1':=fun n' os=>((hd'.grow hgj n' os).get (i:=h) (by have:=HDL.out;omega) hgy).2.1;have hcg:=fun n' os=>oW y.1 y.2 x.1 x.2 (Sort.grow (wr.drewN n') os);have hz0:(0:Int)≤(h:Int):=by omega
   have hz1:(h:Int)<(n:Int):=by omega
   have hz2:(0:Int)≤(a:Int):=by omega
   have hz3:(a:Int)<(n:Int):=by omega
   have HD:=qhz hd';have HB:=qhz hB;have H1:=qhz h1;have H2:=qhz h2;have HL1:=qhz hlt1;have HL2:=qhz hhd1;have HC:=qhz hc;have HCY:=qhz hcy;clear hd' hB h1 h2 hlt1 hhd1 hgx hgy hh hc hcy
   by_cases hlv:(y.2:Int)<(x.2:Int)
   ·have hcv:=yj hlv;generalize nm (y.2:Int) (x.2:Int)=cv at *
    go_wp2_with fail
    go_quiet_grown (first|(go_at_call 238;refine Calls.grown_of (hcg _ _)))
    go_wp2
    go_roundw
    case rel=>
     refine⟨h+1,j,by omega,by omega,hjb,by go_num,rfl,?_,H2.out,HD.out.grow hgj nq osq,HB.out.grow nq osq⟩;intro z hz;rw[show h+1-m=(h-m)+1 from by omega,HL1.out]at hz;obtain rfl:=Option.some.inj hz;exact .inl (by omega)
    case measure=>simp[intOf];omega
   ·have hcv:=yi hlv;generalize nm (y.2:Int) (x.2:Int)=cv at *
    go_wp2_with fail
    go_quiet_grown (first|(go_at_call 238;refine Calls.grown_of (hcg _ _)))
    go_wp2
    go_roundw
    case rel=>
     refine⟨i,h,hmi,by omega,by omega,rfl,rfl,H1.out,?_,HD.out.grow hgj nq osq,HB.out.grow nq osq⟩;intro z hz;rw[HL2.out]at hz;obtain rfl:=Option.some.inj hz;have:=HCY.out;unfold lx;omega
    case measure=>simp[intOf];omega
  ·obtain rfl:i=j:=by omega
   have HD:=qhz hd';have HB:=qhz hB;have H1:=qhz h1;have H2:=qhz h2;have HC:=qhz hc;have hi1:i-m≤Y.length:=by have:=HBB.out;omega
   clear hd' hB h1 h2 hc;obtain⟨wo,rfl⟩:=E1 (wr:World);go_wp2
   go_loopw [13] (fun kv wr=>∃(k:Nat) (P Q:List (Nat×Nat)),kv=.int .i64 k∧A.length+P.length=k∧P++Q=Y∧P.length≤i-m∧CL wr g o (A++P++x::Q++B)∧But [g] w wr) (fun kv _=>i-(intOf kv).toNat)
   case atStart=>exact⟨a,[],Y,rfl,by have:=HA.out;simp;omega,rfl,by simp,by simpa using HD.out,HB.out⟩
   case round=>
    obtain⟨k,P,Q,rfl,hkl,hPQ,hPl,hdk,hBk⟩:=hrel;have hLk:(A++P++x::Q++B).length=n:=by rw[←HDL.out,←hPQ];simp;omega
    by_cases hkt:P.length<i-m
    ·have hk1:(k:Int)<(i:Int)-1:=by have:=HA.out;have:=HM.out;omega
     obtain⟨y,Q,rfl⟩:∃y Q',Q=y::Q':=by
      cases Q with
      |nil=>exfalso;have:=congrArg List.length hPQ;simp at this;omega
      |cons y Q=>exact⟨y,Q,rfl⟩
     have hx:=lA (d:=A++P++x::(y::Q)++B) (A:=A++P) (x:=x) (B:=y::Q++B) (i:=k) (by simp) (by simp;omega);have hy:=lA (d:=A++P++x::(y::Q)++B) (A:=A++P++[x]) (x:=y) (B:=Q++B) (i:=k+1) (by simp) (by simp;omega);have hkn:k+1<n:=by simp at hLk;omega
     obtain⟨x0',x1',x2',x3'⟩:=hdk.get (i:=k) (by omega) hx;obtain⟨y0',y1',y2',y3'⟩:=hdk.get (i:=k+1) (by omega) hy;obtain⟨xs,xc⟩:=x;obtain⟨ys,yc⟩:=y;dsimp only at x0' x1' y0' y1';have p0:(0:Int)≤(k:Int):=by omega
     have p1:(k:Int)<(n:Int):=by omega
     have q0:(0:Int)≤(k:Int)+1:=by omega
     have q1:(k:Int)+1<(n:Int):=by omega
     have e0:((k:Int)+1).toNat=k+1:=by omega
     have HX:=qhz hx;have HY:=qhz hy;have HQ:=qhz hdk;have HBQ:=qhz hBk;have HPQ:=qhz hPQ;have HLK:=qhz hLk;have HKL:=qhz hkl;clear hx hy hdk hBk hPQ hLk hkl;go_wp2
     go_region
     go_wp2
     go_roundw
     case rel=>
      refine⟨k+1,P++[(ys,yc)],Q,by go_num,by have:=HKL.out;simp;omega,by rw[←HPQ.out];simp,by simp;omega,?_,(HBQ.out.swap _ _ _ _).drew⟩;have e:sw (A++P++(xs,xc)::((ys,yc)::Q)++B) k (k+1)=A++(P++[(ys,yc)])++(xs,xc)::Q++B:=by
       have:=Bo (A++P) (Q++B) (xs,xc) (ys,yc) k (k+1) (by have:=HKL.out;simp;omega) rfl;simpa using this
      rw[←e];exact(HQ.out.swap (by have:=HLK.out;omega) (by have:=HLK.out;omega) (by omega) HX.out HY.out).heap rfl
     case measure=>simp[intOf];omega
    ·have hk1:¬(k:Int)<(i:Int)-1:=by have:=HA.out;have:=HM.out;omega
     have hP:P=Y.take (i-m):=by rw[←hPQ,List.take_left' (by omega)]
     have hQ:Q=Y.drop (i-m):=by rw[←hPQ,List.drop_left' (by omega)]
     go_wp2;refine bodyPost_ret (results_none rfl _ _ _) rfl ⟨rfl,⟨P++x::Q,pu (by rw[hPQ];exact HSY.out) (by rw[hP];exact H1.out) ?_,?_,by simpa using hdk⟩,hBk⟩
     ·rw[hQ];have hs:=HSY.out;rw[←List.take_append_drop (i-m) Y]at hs;exact EA (List.pairwise_append.1 hs).2.1 H2.out
     ·rw[←hPQ];exact List.perm_middle
theorem P4{S1 S2:List (Nat×Nat)}{x:Nat×Nat}(h:Srt (S1++S2))(h1:∀y,S1.getLast? =some y→lx y x)(h2:∀y,S2.head? =some y→lx x y):Srt (S1++x::S2):=
 pu h h1 (EA (List.pairwise_append.1 h).2.1 h2)
theorem IB{w:World}{g o n cap a m b:Nat}{A X B:List (Nat×Nat)}{y:Nat×Nat}(hd:CL w g o (A++X++y::B))(hdl:(A++X++y::B).length=n)(hn:n≤1000)(hgl:g<w.heap.size)
 (ha:a=A.length) (hm:m=a+X.length) (hb:b=m+1) (hX2:2≤X.length) (hX:Srt X) (hc:∀x∈X,x.1<y.1):
 Calls prog 250 #[.slice (some ⟨g,o,none⟩) n cap,a,m,b,.func (.func 238) #[] #[]] w fun e w'=>e=.returned (.tuple #[])∧(∃S,Srt S∧S.Perm (X++[y])∧CL w' g o (A++S++B))∧But [g] w w':=by
 have mixed:prog.follows .mixedOrders=true:=by kernel_rfl
 have hbn:b≤n:=by simp at hdl;omega
 have hma:((m:Int)-(a:Int)==1)=false:=by simp;omega
 have hbm:(b:Int)-(m:Int)=1:=by omega
 have hma2:a≤m:=by omega
 have hmb:m<b:=by omega
 have HA:=qhz ha;have HM:=qhz hm;have HBB:=qhz hb;have HDL:=qhz hdl;have HSX:=qhz hX;clear ha hm hb hdl hX
 go_enter func250,ntmps250
 go_wp2
 go_loopw [14,15] (fun iv jv wr=>∃i j:Nat,a≤i∧i≤j∧j≤m∧iv=.int .i64 i∧jv=.int .i64 j∧(∀x,(X.take (i-a)).getLast? =some x→lx x y)∧(∀x,(X.drop (j-a)).head? =some x→lx y x)∧CL wr g o (A++X++y::B)∧But [g] w wr) (fun iv jv _=>(intOf jv).toNat-(intOf iv).toNat)
 case atStart=>exact⟨a,m,Nat.le_refl _,hma2,Nat.le_refl _,rfl,rfl,by simp,by have:=HM.out;rw[List.drop_of_length_le (by omega)];simp,hd,But.refl _ _⟩
 case round=>
  obtain⟨i,j,hmi,hij,hjb,rfl,rfl,h1,h2,hd',hB⟩:=hrel;clear hd hma hbm;have hgj:g<wr.heap.size:=Nat.lt_of_lt_of_le hgl hB.size
  by_cases hlt:i<j
  ·obtain⟨h,hh⟩:=E1 ((i+j)/2);have hhi:((i:Int)+(j:Int))/2=(h:Int):=by omega
   have hih:i≤h∧h<j:=by omega
   have hhn:h<n:=by omega
   have hgy:=lA (d:=A++X++y::B) (A:=A++X) (x:=y) (B:=B) (i:=m) rfl (by have:=HM.out;have:=HA.out;simp;omega);have hym:h-a<X.length:=by have:=HM.out;omega
   have hgx:(A++X++y::B).getD h (0,0)=X[h-a]'hym:=by
    have:=rA (d:=A++X++y::B) (A:=A) (X:=X) (B:=y::B) (i:=h) rfl (by have:=HA.out;omega) (by have:=HA.out;have:=HM.out;omega);rw[this];congr 1;have:=HA.out;omega
   have hlt1:=oH hym;have hhd1:=oL hym;have hcy:=hc _ (List.getElem_mem hym);generalize X[h-a]'hym=x at*;have x0':=fun n' os=>((hd'.grow hgj n' os).get (i:=h) (by have:=HDL.out;omega) hgx).1;have x1':=fun n' os=>((hd'.grow hgj n' os).get (i:=h) (by have:=HDL.out;omega) hgx).2.1;have y0':=fun n' os=>((hd'.grow hgj n' os).get (i:=m) (by have:=HDL.out;omega) hgy).1;have y1':=fun n' os=>((hd'.grow hgj n' os).get (i:=m) (by have:=HDL.out;omega) hgy).2.1;have hcg:=fun n' os=>oW y.1 y.2 x.1 x.2 (Sort.grow (wr.drewN n') os);have hz0:(0:Int)≤(h:Int):=by omega
   have hz1:(h:Int)<(n:Int):=by omega
   have hz2:(0:Int)≤(m:Int):=by omega
   have hz3:(m:Int)<(n:Int):=by omega
   have HD:=qhz hd';have HB:=qhz hB;have H1:=qhz h1;have H2:=qhz h2;have HL1:=qhz hlt1;have HL2:=qhz hhd1;have HC:=qhz hc;have HCY:=qhz hcy;clear hd' hB h1 h2 hlt1 hhd1 hgx hgy hh hc hcy
   by_cases hlv:(y.2:Int)<(x.2:Int)
   ·have hcv:=yj hlv;generalize nm (y.2:Int) (x.2:Int)=cv at*;have hcb:(!decide (cv<0))=false:=by simp;omega
    go_wp2_with fail
    go_quiet_grown (first|(go_at_call 238;refine Calls.grown_of (hcg _ _)))
    go_wp2
    go_roundw
    case rel=>
     refine⟨i,h,hmi,by omega,by omega,rfl,rfl,H1.out,?_,HD.out.grow hgj nq osq,HB.out.grow nq osq⟩;intro z hz;rw[HL2.out]at hz;obtain rfl:=Option.some.inj hz;exact .inl (by omega)
    case measure=>simp[intOf];omega
   ·have hcv:=yi hlv;generalize nm (y.2:Int) (x.2:Int)=cv at*;have hcb:(!decide (cv<0))=true:=by simp;omega
    go_wp2_with fail
    go_quiet_grown (first|(go_at_call 238;refine Calls.grown_of (hcg _ _)))
    go_wp2
    go_roundw
    case rel=>
     refine⟨h+1,j,by omega,by omega,hjb,by go_num,rfl,?_,H2.out,HD.out.grow hgj nq osq,HB.out.grow nq osq⟩;intro z hz;rw[show h+1-a=(h-a)+1 from by omega,HL1.out]at hz;obtain rfl:=Option.some.inj hz;have:=HCY.out;unfold lx;omega
    case measure=>simp[intOf];omega
  ·obtain rfl:i=j:=by omega
   have HD:=qhz hd';have HB:=qhz hB;have H1:=qhz h1;have H2:=qhz h2;have HC:=qhz hc;have hi1:i-a≤X.length:=by have:=HM.out;omega
   clear hd' hB h1 h2 hc;obtain⟨wo,rfl⟩:=E1 (wr:World);go_wp2
   go_loopw [17] (fun kv wr=>∃(k:Nat) (P Q:List (Nat×Nat)),kv=.int .i64 k∧A.length+P.length=k∧P++Q=X∧i-a≤P.length∧CL wr g o (A++P++y::Q++B)∧But [g] w wr) (fun kv _=>(intOf kv).toNat)
   case atStart=>exact⟨m,X,[],rfl,by have:=HA.out;have:=HM.out;omega,by simp,hi1,by simpa using HD.out,HB.out⟩
   case round=>
    obtain⟨k,P,Q,rfl,hkl,hPQ,hPl,hdk,hBk⟩:=hrel;have hLk:(A++P++y::Q++B).length=n:=by rw[←HDL.out,←hPQ];simp;omega
    by_cases hkt:i-a<P.length
    ·have hk1:decide (i<k)=true:=by have:=HA.out;have:=HM.out;simp;omega
     have hk2:(i:Int)<(k:Int):=by have:=HA.out;have:=HM.out;omega
     rcases List.eq_nil_or_concat P with e|⟨P,x,e⟩
     ·subst e;exfalso;simp at hkt
     rw[List.concat_eq_append]at e;subst e;obtain⟨kp,rfl⟩:∃kp,k=kp+1:=⟨k-1,by simp at hkl;omega⟩
     have hkl2:A.length+P.length=kp:=by simp at hkl;omega
     have hx:=lA (d:=A++(P++[x])++y::Q++B) (A:=A++P) (x:=x) (B:=y::Q++B) (i:=kp) (by simp) (by simp;omega);have hy:=lA (d:=A++(P++[x])++y::Q++B) (A:=A++P++[x]) (x:=y) (B:=Q++B) (i:=kp+1) (by simp) (by simp;omega);have hkn:kp+1<n:=by simp at hLk;omega
     obtain⟨x0',x1',x2',x3'⟩:=hdk.get (i:=kp) (by omega) hx;obtain⟨y0',y1',y2',y3'⟩:=hdk.get (i:=kp+1) (by omega) hy;obtain⟨xs,xc⟩:=x;obtain⟨ys,yc⟩:=y;dsimp only at x0' x1' y0' y1';have hwp:IntKind.i64.wrap (kp:Int)=(kp:Int):=by rw[IntKind.wrap_i64];omega
     have p0:(0:Int)≤(kp:Int):=by omega
     have p1:(kp:Int)<(n:Int):=by omega
     have q0:(0:Int)≤(kp:Int)+1:=by omega
     have q1:(kp:Int)+1<(n:Int):=by omega
     have e0:((kp:Int)+1).toNat=kp+1:=by omega
     have HX:=qhz hx;have HY:=qhz hy;have HQ:=qhz hdk;have HBQ:=qhz hBk;have HPQ:=qhz hPQ;have HLK:=qhz hLk;have HKL:=qhz hkl2;have HKT:=qhz hkt;clear hx hy hdk hBk hPQ hLk hkl hkl2 hkt hPl;go_wp2
     go_region
     go_wp2
     go_roundw
     case rel=>
      refine⟨kp,P,(xs,xc)::Q,rfl,HKL.out,by rw[←HPQ.out];simp,by have:=HKT.out;simp at this;omega,?_,(HBQ.out.swap _ _ _ _).drew⟩;have e:sw (A++(P++[(xs,xc)])++(ys,yc)::Q++B) (kp+1) kp=A++P++(ys,yc)::((xs,xc)::Q)++B:=by
       rw[IG _ _ _ (by omega)];have:=Bo (A++P) (Q++B) (xs,xc) (ys,yc) kp (kp+1) (by have:=HKL.out;simp;omega) rfl;simpa using this
      rw[←e];exact(HQ.out.swap (by have:=HLK.out;omega) (by have:=HLK.out;omega) (by omega) HY.out HX.out).heap rfl
     case measure=>simp[intOf];try omega
    ·have hk1:decide (i<k)=false:=by have:=HA.out;have:=HM.out;simp;omega
     have hk2:¬(i:Int)<(k:Int):=by have:=HA.out;have:=HM.out;omega
     have hPl2:P.length=i-a:=by omega
     have hP:P=X.take (i-a):=by rw[←hPQ,List.take_left' hPl2]
     have hQ:Q=X.drop (i-a):=by rw[←hPQ,List.drop_left' hPl2]
     go_wp2;refine bodyPost_ret (results_none rfl _ _ _) rfl ⟨rfl,⟨P++y::Q,P4 (by rw[hPQ];exact HSX.out) (by rw[hP];exact H1.out) (by rw[hQ];exact H2.out),?_,by simpa using hdk⟩,hBk⟩;rw[←hPQ];have:(P++y::Q).Perm (y::(P++Q)):=List.perm_middle;exact this.trans (List.perm_append_singleton y (P++Q)).symm
def R6(N:Nat):Prop:=∀(w:World) (g o n cap a m b:Nat) (A X Y B:List (Nat×Nat)),X.length+Y.length≤N→CL w g o (A++X++Y++B)→(A++X++Y++B).length=n→n≤1000→g<w.heap.size→
 a=A.length→m=a+X.length→b=m+Y.length→0<X.length→0<Y.length→Srt X→Srt Y→Crs X Y→
 Calls prog 250 #[.slice (some ⟨g,o,none⟩) n cap,a,m,b,.func (.func 238) #[] #[]] w fun e w'=>e=.returned (.tuple #[])∧(∃S,Srt S∧S.Perm (X++Y)∧CL w' g o (A++S++B))∧But [g] w w'
def Low(X Y:List (Nat×Nat))(s q:Nat):Prop:=∀x y,(X.take s).getLast? =some x→(Y.drop q).head? =some y→lx x y
def High(X Y:List (Nat×Nat))(s q:Nat):Prop:=∀y x,(Y.take q).getLast? =some y→(X.drop s).head? =some x→lx y x
theorem QD{X Y:List (Nat×Nat)}{s q:Nat}(h:s=0∨Y.length≤q):Low X Y s q:=by
 intro x y hx hy;rcases h with rfl|h
 ·simp at hx
 ·rw[List.drop_of_length_le h]at hy;cases hy
theorem OF{X Y:List (Nat×Nat)}{s q:Nat}(h:q=0∨X.length≤s):High X Y s q:=by
 intro x y hx hy;rcases h with rfl|h
 ·simp at hx
 ·rw[List.drop_of_length_le h]at hy;cases hy
def Mid(w W:World)(g o:Nat)(A L R:List (Nat×Nat)):Prop:=∃S,Srt S∧S.Perm L∧CL W g o (A++S++R)∧But [g] w W
def Mid2(w W:World)(g o:Nat)(A L M R:List (Nat×Nat)):Prop:=∃S T,Srt S∧S.Perm L∧Srt T∧T.Perm M∧CL W g o (A++S++T++R)∧But [g] w W
def MI(w W:World)(g o:Nat)(d:List (Nat×Nat)):Prop:=CL W g o d∧But [g] w W
theorem Crs.take{X Y:List (Nat×Nat)}(h:Crs X Y)(s q:Nat):Crs (X.take s) (Y.take q):=fun x hx y hy=>h x (List.mem_of_mem_take hx) y (List.mem_of_mem_take hy)
theorem Crs.drop{X Y:List (Nat×Nat)}(h:Crs X Y)(s q:Nat):Crs (X.drop s) (Y.drop q):=fun x hx y hy=>h x (List.mem_of_mem_drop hx) y (List.mem_of_mem_drop hy)
theorem Srt.take{X:List (Nat×Nat)}(h:Srt X)(s:Nat):Srt (X.take s):=List.Pairwise.sublist (List.take_sublist _ _) h
theorem Srt.drop{X:List (Nat×Nat)}(h:Srt X)(s:Nat):Srt (X.drop s):=List.Pairwise.sublist (List.drop_sublist _ _) h
theorem I2{X Y:List (Nat×Nat)}(hX:Srt X)(hY:Srt Y)(h:X=[]∨Y=[]):Srt (X++Y):=by
 rcases h with rfl|rfl
 ·simpa using hY
 ·simpa using hX
theorem Nd{X Y:List (Nat×Nat)}(h:X=[]∨Y=[]):X++Y=Y++X:=by
 rcases h with rfl|rfl<;>simp
theorem Nb{N:Nat}(IH:R6 N){w:World}{g o n cap a m b:Nat}{A X Y B:List (Nat×Nat)}(hN:X.length+Y.length≤N+1)(hd:CL w g o (A++X++Y++B))(hdl:(A++X++Y++B).length=n)(hn:n≤1000)(hgl:g<w.heap.size)
 (ha:a=A.length) (hm:m=a+X.length) (hb:b=m+Y.length) (hX2:2≤X.length) (hY2:2≤Y.length) (hX:Srt X) (hY:Srt Y) (hc:Crs X Y):
 Calls prog 250 #[.slice (some ⟨g,o,none⟩) n cap,a,m,b,.func (.func 238) #[] #[]] w fun e w'=>e=.returned (.tuple #[])∧(∃S,Srt S∧S.Perm (X++Y)∧CL w' g o (A++S++B))∧But [g] w w':=by
 have mixed:prog.follows .mixedOrders=true:=by kernel_rfl
 have hbn:b≤n:=by simp at hdl;omega
 have hma:((m:Int)-(a:Int)==1)=false:=by simp;omega
 have hbm:((b:Int)-(m:Int)==1)=false:=by simp;omega
 obtain⟨mid,hmid⟩:=E1 ((a+b)/2);have hmi:((a:Int)+(b:Int))/2=(mid:Int):=by omega
 have hab:a+2≤m∧m+2≤b:=by omega
 have hmb:a<mid∧mid<b:=by omega
 obtain⟨lo,hi,l1,l2,l3,l4,l5,l6,l7,hcase⟩:∃lo hi:Nat,a≤lo∧lo≤hi∧hi≤m∧hi≤mid∧mid+m≤lo+b∧(lo=a∨lo+b=mid+m)∧(hi=m∨hi=mid)∧((decide (mid<m)=true∧(mid:Int)+(m:Int)-(b:Int)=(lo:Int)∧Hid (lo=lo)∧Hid (hi=mid))∨(decide (mid<m)=false∧(0:Int)≤(m:Int)∧Hid (lo=a)∧Hid (hi=m))):=by
  by_cases h:mid<m
  ·exact⟨mid+m-b,mid,by omega,by omega,by omega,by omega,by omega,by omega,by omega,.inl ⟨by simpa using h,by omega,qhz rfl,qhz rfl⟩⟩
  ·exact⟨a,m,by omega,by omega,by omega,by omega,by omega,by omega,by omega,.inr ⟨by simpa using h,by omega,qhz rfl,qhz rfl⟩⟩
 obtain⟨p,hp⟩:=E1 (mid+m-1);have hpi:(mid:Int)+(m:Int)-1=(p:Int):=by omega
 have HA:=qhz ha;have HM:=qhz hm;have HBB:=qhz hb;have HDL:=qhz hdl;have HSX:=qhz hX;have HSY:=qhz hY;have HP:=qhz hp;have HN:=qhz hN;have HIH:=qhz IH;have L6:=qhz l6;have L7:=qhz l7;have HC:=qhz hc;clear ha hm hb hdl hX hY hp hN IH l6 l7 hmid hc;rcases hcase with⟨d1,d2,HL,HH⟩|⟨d1,d2,HL,HH⟩
 all_goals
  go_enter func250,ntmps250
  go_wp2;clear d2
  go_loopw [20,21] (fun iv jv wr=>∃i j:Nat,lo≤i∧i≤j∧j≤hi∧iv=.int .i64 i∧jv=.int .i64 j∧Low X Y (i-a) (mid-i)∧High X Y (j-a) (mid-j)∧CL wr g o (A++X++Y++B)∧But [g] w wr) (fun iv jv _=>(intOf jv).toNat-(intOf iv).toNat)
  case atStart=>
   refine⟨lo,hi,Nat.le_refl _,l2,Nat.le_refl _,by first|rfl|rw[HL.out],by rw[HH.out],QD ?_,OF ?_,hd,But.refl _ _⟩
   ·have:=L6.out;have:=HBB.out;omega
   ·have:=L7.out;have:=HM.out;omega
  case round=>
   obtain⟨i,j,hmi',hij,hjb,rfl,rfl,h1,h2,hd',hB⟩:=hrel;clear hd hma hbm HL HH;have hgj:g<wr.heap.size:=Nat.lt_of_lt_of_le hgl hB.size
   by_cases hlt:i<j
   ·obtain⟨h,hh⟩:=E1 ((i+j)/2);have hhi:((i:Int)+(j:Int))/2=(h:Int):=by omega
    have hih:i≤h∧h<j:=by omega
    have hhn:h<n:=by omega
    obtain⟨h',hh'⟩:=E1 (mid+m-1-h);have hpc:(p:Int)-(h:Int)=(h':Int):=by have:=HP.out;omega
    have hwp:IntKind.i64.wrap ((p:Int)-(h:Int))=(h':Int):=by rw[IntKind.wrap_i64];have:=HP.out;omega
    have hwp2:IntKind.i64.wrap (h':Int)=(h':Int):=by rw[IntKind.wrap_i64];have:=HP.out;omega
    have hhn':m≤h'∧h'<b:=by omega
    have hxm:h-a<X.length:=by have:=HM.out;omega
    have hym:h'-m<Y.length:=by have:=HBB.out;omega
    have hgx:(A++X++Y++B).getD h (0,0)=X[h-a]'hxm:=by
     have:=rA (d:=A++X++Y++B) (A:=A) (X:=X) (B:=Y++B) (i:=h) (by simp) (by have:=HA.out;omega) (by have:=HA.out;have:=HM.out;omega);rw[this];congr 1;have:=HA.out;omega
    have hgy:(A++X++Y++B).getD h' (0,0)=Y[h'-m]'hym:=by
     have:=rA (d:=A++X++Y++B) (A:=A++X) (X:=Y) (B:=B) (i:=h') (by simp) (by have:=HA.out;have:=HM.out;simp;omega) (by have:=HA.out;have:=HM.out;have:=HBB.out;simp;omega);rw[this];congr 1;have:=HA.out;have:=HM.out;simp;omega
    have hx1:=oH hxm;have hx2:=oL hxm;have hy1:=oH hym;have hy2:=oL hym;have hcy:=HC.out _ (List.getElem_mem hxm) _ (List.getElem_mem hym);generalize X[h-a]'hxm=x at*;generalize Y[h'-m]'hym=y at*;have x0':=fun n' os=>((hd'.grow hgj n' os).get (i:=h) (by have:=HDL.out;omega) hgx).1;have x1':=fun n' os=>((hd'.grow hgj n' os).get (i:=h) (by have:=HDL.out;omega) hgx).2.1;have y0':=fun n' os=>((hd'.grow hgj n' os).get (i:=h') (by have:=HDL.out;omega) hgy).1;have y1':=fun n' os=>((hd'.grow hgj n' os).get (i:=h') (by have:=HDL.out;omega) hgy).2.1;have hcg:=fun n' os=>oW y.1 y.2 x.1 x.2 (Sort.grow (wr.drewN n') os);have hz0:(0:Int)≤(h:Int):=by omega
    have hz1:(h:Int)<(n:Int):=by omega
    have hz2:(0:Int)≤(h':Int):=by omega
    have hz3:(h':Int)<(n:Int):=by omega
    have hl1:Low X Y (h+1-a) (mid-(h+1))↔lx x y:=by
     unfold Low;rw[show h+1-a=(h-a)+1 from by omega,hx1,show mid-(h+1)=h'-m from by omega,hy2];simp
    have hh1:High X Y (h-a) (mid-h)↔lx y x:=by
     unfold High;rw[hx2,show mid-h=(h'-m)+1 from by omega,hy1];simp
    have HD:=qhz hd';have HB:=qhz hB;have H1:=qhz h1;have H2:=qhz h2;have HL1:=qhz hl1;have HH1:=qhz hh1;have HCY:=qhz hcy;clear hd' hB h1 h2 hx1 hx2 hy1 hy2 hgx hgy hh hh' hcy hl1 hh1
    by_cases hlv:(y.2:Int)<(x.2:Int)
    ·have hcv:=yj hlv;generalize nm (y.2:Int) (x.2:Int)=cv at*;have hcb:(!decide (cv<0))=false:=by simp;omega
     go_wp2_with fail
     go_quiet_grown (first|(go_at_call 238;refine Calls.grown_of (hcg _ _)))
     go_wp2
     go_roundw
     case rel=>exact⟨i,h,hmi',by omega,by omega,rfl,rfl,H1.out,HH1.out.2 (.inl (by omega)),HD.out.grow hgj nq osq,HB.out.grow nq osq⟩
     case measure=>simp[intOf];omega
    ·have hcv:=yi hlv;generalize nm (y.2:Int) (x.2:Int)=cv at*;have hcb:(!decide (cv<0))=true:=by simp;omega
     go_wp2_with fail
     go_quiet_grown (first|(go_at_call 238;refine Calls.grown_of (hcg _ _)))
     go_wp2
     go_roundw
     case rel=>exact⟨h+1,j,by omega,by omega,hjb,by go_num,rfl,HL1.out.2 (by have:=HCY.out;unfold lx;omega),H2.out,HD.out.grow hgj nq osq,HB.out.grow nq osq⟩
     case measure=>simp[intOf];omega
   ·obtain rfl:i=j:=by omega
    obtain⟨E,hE⟩:=E1 (mid+m-i);have hEi:(mid:Int)+(m:Int)-(i:Int)=(E:Int):=by omega
    have hEm:m≤E∧E≤b∧mid≤E:=by omega
    have hs1:(X.take (i-a)).length=i-a:=by have:=HM.out;simp;omega
    have hs2:(X.drop (i-a)).length=m-i:=by have:=HM.out;simp;omega
    have hq1:(Y.take (mid-i)).length=mid-i:=by have:=HBB.out;simp;omega
    have hq2:(Y.drop (mid-i)).length=b-E:=by have:=HBB.out;simp;omega
    have hXe:=List.take_append_drop (i-a) X;have hYe:=List.take_append_drop (mid-i) Y;have hall:=PD (S1:=[]) (S2:=[]) (X1:=X.take (i-a)) (X2:=X.drop (i-a)) (Y1:=Y.take (mid-i)) (Y2:=Y.drop (mid-i)) (by rw[hXe];exact HSX.out) (by rw[hYe];exact HSY.out) h1 h2;have hall2:∀S1 S2,Srt S1→Srt S2→S1.Perm (X.take (i-a)++Y.take (mid-i))→S2.Perm (X.drop (i-a)++Y.drop (mid-i))→Srt (S1++S2)∧(S1++S2).Perm (X++Y):=by
     intro S1 S2 a1 a2 a3 a4;have:=PD (X1:=X.take (i-a)) (X2:=X.drop (i-a)) (Y1:=Y.take (mid-i)) (Y2:=Y.drop (mid-i)) (by rw[hXe];exact HSX.out) (by rw[hYe];exact HSY.out) h1 h2 a1 a2 a3 a4;rw[hXe,hYe]at this;exact this
    have k1:=HSX.out.take (i-a);have k2:=HSX.out.drop (i-a);have k3:=HSY.out.take (mid-i);have k4:=HSY.out.drop (mid-i);have k5:=HC.out.take (i-a) (mid-i);have k6:=HC.out.drop (i-a) (mid-i);have hd1:CL wr g o (A++X.take (i-a)++X.drop (i-a)++Y.take (mid-i)++(Y.drop (mid-i)++B)):=by
     have:A++X.take (i-a)++X.drop (i-a)++Y.take (mid-i)++(Y.drop (mid-i)++B)=A++(X.take (i-a)++X.drop (i-a))++(Y.take (mid-i)++Y.drop (mid-i))++B:=by simp only[List.append_assoc]
     rw[this,hXe,hYe];exact hd'
    clear hall hXe hYe h1 h2 hd';generalize X.take (i-a)=X1 at*;generalize X.drop (i-a)=X2 at*;generalize Y.take (mid-i)=Y1 at*;generalize Y.drop (mid-i)=Y2 at*;have HALL:=qhz hall2;have K1:=qhz k1;have K2:=qhz k2;have K3:=qhz k3;have K4:=qhz k4;have K5:=qhz k5;have K6:=qhz k6;have S1:=qhz hs1;have S2:=qhz hs2;have Q1:=qhz hq1;have Q2:=qhz hq2;have HD:=qhz hd1;have HB:=qhz hB;have HE:=qhz hE;have hlen:A.length+X1.length+X2.length+Y1.length+Y2.length+B.length=n:=by have h:=HDL.out;have:=HM.out;have:=HBB.out;simp at h;omega
    have HLEN:=qhz hlen;clear hall2 k1 k2 k3 k4 k5 k6 hs1 hs2 hq1 hq2 hd1 hB hE hlen;obtain⟨r1,hr1⟩:=E1 (decide (i<m∧m<E):Bool);have Hr1:=qhz hr1;clear hr1
    go_upto_region 39 with(fail)
    go_cut [185]from 178 to 185 (fun c wx=>c=.bool r1∧wr=wx)
    case first=>
     by_cases c1:i<m
     ·have b1:decide (i<m)=true:=by simpa using c1
      by_cases c2:m<E
      ·obtain rfl:r1=true:=by have:=Hr1.out;simp[c1,c2]at this;exact this
       go_wp2
       go_meet
       exact⟨rfl,rfl⟩
      ·obtain rfl:r1=false:=by have:=Hr1.out;simp[c1,c2]at this;exact this
       go_wp2
       go_meet
       exact⟨rfl,rfl⟩
     ·have b1:decide (i<m)=false:=by simpa using c1
      obtain rfl:r1=false:=by have:=Hr1.out;simp[c1]at this;exact this
      go_wp2
      go_meet
      exact⟨rfl,rfl⟩
    case rest=>
     obtain⟨rfl,rfl⟩:=hcut
     go_upto_if 185 with(fail)
     go_cut []from 186 to 191 (fun wx=>MI w wx g o (A++X1++Y1++X2++(Y2++B)))
     case first=>
      rcases r1 with _|_
      ·have c1:¬(i<m∧m<E):=by have:=Hr1.out;simpa using this
       have hone:X2=[]∨Y1=[]:=by
        by_cases h:i<m
        ·right;exact List.eq_nil_of_length_eq_zero (by have:=Q1.out;have:=HE.out;omega)
        ·left;exact List.eq_nil_of_length_eq_zero (by have:=S2.out;omega)
       have hT:MI w wr g o (A++X1++Y1++X2++(Y2++B)):=⟨by
        have h:=HD.out;have e:A++X1++X2++Y1++(Y2++B)=A++X1++(X2++Y1)++(Y2++B):=by simp
        rw[e,Nd hone]at h;simpa using h,HB.out⟩
       clear hone c1;go_wp2
       go_meet
       exact hT
      ·have c1:i<m∧m<E:=by have:=Hr1.out;simpa using this
       have hrot:=FB (n:=n) (cap:=cap) (a:=i) (m:=m) (b:=E) HD.out (by have:=HLEN.out;simp;omega) hn (by have:=HA.out;have:=S1.out;simp;omega) (by have:=HA.out;have:=S1.out;have:=S2.out;simp;omega) (by have:=HA.out;have:=S1.out;have:=S2.out;have:=Q1.out;have:=HE.out;simp;omega) (by have:=S2.out;omega) (by have:=Q1.out;have:=HE.out;omega) (.func (.func 238) #[] #[]);have HR:=qhz hrot;clear hrot c1
       go_wp2_with fail
       refine HR.out.mono ?_;rintro e w2 ⟨rfl,hd2,hB2⟩;have hT:MI w w2 g o (A++X1++Y1++X2++(Y2++B)):=⟨hd2,HB.out.trans hB2⟩
       clear hd2 hB2;go_wp2
       go_meet
       exact hT
     case rest=>
      obtain⟨hd2,hB2⟩:=hcut;have HD2:=qhz hd2;have HB2:=qhz hB2;clear hd2 hB2;obtain⟨r2,hr2⟩:=E1 (decide (a<i∧i<mid):Bool);have Hr2:=qhz hr2;clear hr2
      go_upto_region 41 with(fail)
      go_cut [199]from 192 to 199 (fun c wx=>c=.bool r2∧wc=wx)
      case first=>
       by_cases c1:a<i
       ·have b1:decide (a<i)=true:=by simpa using c1
        by_cases c2:i<mid
        ·obtain rfl:r2=true:=by have:=Hr2.out;simp[c1,c2]at this;exact this
         go_wp2
         go_meet
         exact⟨rfl,rfl⟩
        ·obtain rfl:r2=false:=by have:=Hr2.out;simp[c1,c2]at this;exact this
         go_wp2
         go_meet
         exact⟨rfl,rfl⟩
       ·have b1:decide (a<i)=false:=by simpa using c1
        obtain rfl:r2=false:=by have:=Hr2.out;simp[c1]at this;exact this
        go_wp2
        go_meet
        exact⟨rfl,rfl⟩
      case rest=>
       obtain⟨rfl,rfl⟩:=hcut
       go_upto_if 199 with(fail)
       go_cut []from 200 to 205 (fun wx=>Mid w wx g o A (X1++Y1) (X2++(Y2++B)))
       case first=>
        rcases r2 with _|_
        ·have c1:¬(a<i∧i<mid):=by have:=Hr2.out;simpa using this
         have hone:X1=[]∨Y1=[]:=by
          by_cases h:a<i
          ·right;exact List.eq_nil_of_length_eq_zero (by have:=Q1.out;omega)
          ·left;exact List.eq_nil_of_length_eq_zero (by have:=S1.out;omega)
         have hT:Mid w wc g o A (X1++Y1) (X2++(Y2++B)):=⟨X1++Y1,I2 K1.out K3.out hone,List.Perm.refl _,by simpa using HD2.out,HB2.out⟩
         clear hone c1;go_wp2
         go_meet
         exact hT
        ·have c1:a<i∧i<mid:=by have:=Hr2.out;simpa using this
         have hsym:=HIH.out wc g o n cap a i mid A X1 Y1 (X2++(Y2++B)) (by have:=S1.out;have:=Q1.out;have:=HN.out;have:=HM.out;have:=HBB.out;omega) (by simpa using HD2.out) (by have:=HLEN.out;simp;omega) hn (Nat.lt_of_lt_of_le hgl HB2.out.size) HA.out (by have:=S1.out;omega) (by have:=Q1.out;omega) (by have:=S1.out;omega) (by have:=Q1.out;omega) K1.out K3.out K5.out;have HR:=qhz hsym;clear hsym c1
         go_wp2_with fail
         refine HR.out.mono ?_;rintro e w2 ⟨rfl,⟨S,j1,j2,j3⟩,hB2⟩;have hT:Mid w w2 g o A (X1++Y1) (X2++(Y2++B)):=⟨S,j1,j2,j3,HB2.out.trans hB2⟩
         clear j1 j2 j3 hB2;go_wp2
         go_meet
         exact hT
       case rest=>
        obtain⟨S,j1,j2,j3,hB3⟩:=hcut;have hSl:=j2.length_eq;rw[List.length_append,S1.out,Q1.out]at hSl;have J1:=qhz j1;have J2:=qhz j2;have J3:=qhz j3;have HB3:=qhz hB3;have HSL:=qhz hSl;clear j1 j2 j3 hB3 hSl;rename_i wc0;obtain⟨wd,rfl⟩:=E1 wc;obtain⟨r3,hr3⟩:=E1 (decide (mid<E∧E<b):Bool);have Hr3:=qhz hr3;clear hr3
        go_upto_region 43 with(fail)
        go_cut [213]from 206 to 213 (fun c wx=>c=.bool r3∧wd=wx)
        case first=>
         by_cases c1:mid<E
         ·have b1:decide (mid<E)=true:=by simpa using c1
          by_cases c2:E<b
          ·obtain rfl:r3=true:=by have:=Hr3.out;simp[c1,c2]at this;exact this
           go_wp2
           go_meet
           exact⟨rfl,rfl⟩
          ·obtain rfl:r3=false:=by have:=Hr3.out;simp[c1,c2]at this;exact this
           go_wp2
           go_meet
           exact⟨rfl,rfl⟩
         ·have b1:decide (mid<E)=false:=by simpa using c1
          obtain rfl:r3=false:=by have:=Hr3.out;simp[c1]at this;exact this
          go_wp2
          go_meet
          exact⟨rfl,rfl⟩
        case rest=>
         obtain⟨rfl,rfl⟩:=hcut
         go_upto_if 213 with(fail)
         rcases r3 with _|_
         ·have c1:¬(mid<E∧E<b):=by have:=Hr3.out;simpa using this
          have hone:X2=[]∨Y2=[]:=by
           by_cases h:mid<E
           ·right;exact List.eq_nil_of_length_eq_zero (by have:=Q2.out;omega)
           ·left;exact List.eq_nil_of_length_eq_zero (by have:=S2.out;have:=HE.out;omega)
          have hT:Mid2 w wd g o A (X1++Y1) (X2++Y2) B:=⟨S,X2++Y2,J1.out,J2.out,I2 K2.out K4.out hone,List.Perm.refl _,by simpa using J3.out,HB3.out⟩
          have HT:=qhz hT;clear hone c1 hT;go_wp2
          go_end0
          obtain⟨S',T,m1,m2,m3,m4,m5,m6⟩:=HT.out;obtain⟨q1,q2⟩:=HALL.out S' T m1 m3 m2 m4;exact⟨rfl,⟨S'++T,q1,q2,by simpa using m5⟩,m6⟩
         ·have c1:mid<E∧E<b:=by have:=Hr3.out;simpa using this
          have hsym:=HIH.out wd g o n cap mid E b (A++S) X2 Y2 B (by have:=S2.out;have:=Q2.out;have:=HN.out;have:=HM.out;have:=HBB.out;have:=HE.out;omega) (by simpa using J3.out) (by have:=HLEN.out;have:=HSL.out;have:=S1.out;have:=Q1.out;simp;omega) hn (Nat.lt_of_lt_of_le hgl HB3.out.size) (by have:=HA.out;have:=HSL.out;simp;omega) (by have:=S2.out;have:=HE.out;omega) (by have:=Q2.out;omega) (by have:=S2.out;have:=HE.out;omega) (by have:=Q2.out;omega) K2.out K4.out K6.out;have HR:=qhz hsym;clear hsym c1
          go_wp2_with fail
          refine HR.out.mono ?_;rintro e w2 ⟨rfl,⟨T,m1,m2,m3⟩,hB2⟩;have hT:Mid2 w w2 g o A (X1++Y1) (X2++Y2) B:=⟨S,T,J1.out,J2.out,m1,m2,m3,HB3.out.trans hB2⟩
          have HT:=qhz hT;clear m1 m2 m3 hB2 hT;go_wp2
          go_end0
          obtain⟨S',T,m1,m2,m3,m4,m5,m6⟩:=HT.out;obtain⟨q1,q2⟩:=HALL.out S' T m1 m3 m2 m4;exact⟨rfl,⟨S'++T,q1,q2,by simpa using m5⟩,m6⟩
theorem IE:∀N,R6 N
 |0=>fun w g o n cap a m b A X Y B hN _ _ _ _ _ _ _ hX _ _ _ _=>by omega
 |N+1=>fun w g o n cap a m b A X Y B hN hd hdl hn hgl ha hm hb hX0 hY0 hX hY hc=>by
  by_cases hX1:X.length=1
  ·obtain⟨x,rfl⟩:=List.length_eq_one_iff.1 hX1;have e:A++[x]++Y++B=A++x::Y++B:=by simp
   rw[e]at hd hdl;exact Nc hd hdl hn hgl ha (by simpa using hm) hb hY (fun y hy=>hc x (by simp) y hy)
  ·by_cases hY1:Y.length=1
   ·obtain⟨y,rfl⟩:=List.length_eq_one_iff.1 hY1;have e:A++X++[y]++B=A++X++y::B:=by simp
    rw[e]at hd hdl;exact IB hd hdl hn hgl ha hm (by simpa using hb) (by omega) hX (fun x hx=>hc x hx y (by simp))
   ·exact Nb (IE N) hN hd hdl hn hgl ha hm hb (by omega) (by omega) hX hY hc
end Go.Proofs.YtbanopnofpjnbaaGreatDoor
