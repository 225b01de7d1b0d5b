/- Own texts in one: DefM, DefN, DefO, DefP, DefQ, DefR, EfA, EfB, DgF, DgG, DgH. -/
import Derived.Test.YtbanopnofpjnbaaGreatDoorU05
import Derived.Test.YtbanopnofpjnbaaGreatDoorU11
import Derived.Test.YtbanopnofpjnbaaGreatDoorU12
set_option maxRecDepth 1000000
set_option linter.unusedVariables false
set_option maxHeartbeats 4000000
namespace Go.Proofs.YtbanopnofpjnbaaGreatDoor
open Go Go.RowKit Tryz
def layB(q:Nat×Nat)(v n:Nat):Nat×Nat:=(layX q.1 q.2 v n,layN q.2 n)
theorem bX{q:Nat×Nat}{v n:Nat}(hn:n≤24)(hv:v<2^n):layB q v n=(q.1+v*2^q.2,q.2+n):=by
 unfold layB layX layN;rw[if_neg (by omega),if_neg (by omega),Int.toNat_natCast];have e:((v:Int)%2^n).toNat=v:=by
  have e2:((2:Int)^n)=((2^n:Nat):Int):=by simp
  rw[e2,Int.emod_eq_of_lt (by omega) (by exact_mod_cast hv),Int.toNat_natCast]
 rw[e]
def layC(l:List Int)(q:Nat×Nat)(t:Nat):Nat×Nat:=layS l t q.1 q.2
def tc(n:Nat):Nat→Nat
 |0=>257
 |k+1=>if ar (257+k)≤n then 257+k else tc n k
def lsym(n:Nat):Nat:=tc n 29
def uy(n:Nat):Nat→Nat
 |0=>0
 |k+1=>if aF k≤n then k else uy n k
def dsym(n:Nat):Nat:=uy n 30
theorem eK:∀n,n<259→3≤n→257≤lsym n∧lsym n≤285∧ar (lsym n)≤n∧n-ar (lsym n)<2^aq (lsym n):=by decide+kernel
theorem eL:∀n,n<513→1≤n→dsym n≤29∧aF (dsym n)≤n∧n-aF (dsym n)<2^aC (dsym n):=by decide+kernel
def layT(l d:List Int)(q:Nat×Nat)(t:Tk):Nat×Nat:=if t.1=0 then layC l q t.2.2 else
 layB (layC d (layB (layC l q (lsym t.1)) (t.1-ar (lsym t.1)) (aq (lsym t.1))) (dsym t.2.1)) (t.2.1-aF (dsym t.2.1)) (aC (dsym t.2.1))
def bC(l d:List Int)(q:Nat×Nat)(ts:List Tk):Nat×Nat:=ts.foldl (layT l d) q
def iC(l d:List Int)(t:Tk):Prop:=if t.1=0 then t.2.2≤255∧has l (t.2.2:Nat)else 3≤t.1∧t.1≤258∧1≤t.2.1∧t.2.1≤512∧has l (lsym t.1:Nat)∧has d (dsym t.2.1:Nat)
def kF(l:List Int)(i:Nat):Nat→Nat→Nat
 |0,n=>n
 |f+1,n=>if i+n<l.length∧l.getD (i+n) 0=l.getD i 0 then kF l i f (n+1)else n
theorem x8(l:List Int)(i:Nat):∀f n,n≤kF l i f n
 |0,_=>Nat.le_refl _
 |f+1,n=>by
  rw[kF];split
  ·have:=x8 l i f (n+1);omega
  ·exact Nat.le_refl _
theorem xZ(l:List Int)(i:Nat):∀f n,i+n≤l.length→i+kF l i f n≤l.length
 |0,_,h=>h
 |f+1,n,h=>by
  rw[kF];split
  ·rename_i hc;exact xZ l i f (n+1) (by omega)
  ·exact h
def runN(l:List Int)(i:Nat):Nat:=kF l i l.length 1
def aO(l:List Int)(i:Nat):Int×Nat×Nat:=
 if l.getD i 0=0∧11≤runN l i then(18,min (runN l i) 138-11,min (runN l i) 138) else
 if l.getD i 0=0∧3≤runN l i then(17,runN l i-3,runN l i) else
 if l.getD i 0≠0∧0<i∧l.getD (i-1) 0=l.getD i 0∧3≤runN l i then(16,min (runN l i) 6-3,min (runN l i) 6)else(l.getD i 0,0,1)
def dM(l:List Int):Nat→Nat→List (Int×Nat)
 |0,_=>[]
 |f+1,i=>if i<l.length then((aO l i).1,(aO l i).2.1)::dM l f (i+(aO l i).2.2)else []
def runs(l:List Int):List (Int×Nat):=dM l l.length 0
theorem n6(l:List Int)(i:Nat):1≤(aO l i).2.2:=by
 unfold aO
 by_cases h1:l.getD i 0=0∧11≤runN l i
 ·rw[if_pos h1];dsimp only;omega
 ·rw[if_neg h1]
  by_cases h2:l.getD i 0=0∧3≤runN l i
  ·rw[if_pos h2];dsimp only;omega
  ·rw[if_neg h2]
   by_cases h3:l.getD i 0≠0∧0<i∧l.getD (i-1) 0=l.getD i 0∧3≤runN l i
   ·rw[if_pos h3];dsimp only;omega
   ·rw[if_neg h3];exact Nat.le_refl _
def layR(small:List Int)(q:Nat×Nat)(c:Int×Nat):Nat×Nat:=
 if c.1=16 then layB (layC small q 16) c.2 2 else if c.1=17 then layB (layC small q 17) c.2 3 else if c.1=18 then layB (layC small q 18) c.2 7 else layC small q c.1.toNat
def dU(small:List Int)(q:Nat×Nat)(cs:List (Int×Nat)):Nat×Nat:=cs.foldl (layR small) q
def fo(small:List Int)(q:Nat×Nat)(ks:List Nat):Nat×Nat:=ks.foldl (fun q k=>layB q (small.getD k 0).toNat 3) q
theorem jQ(l:List Int)(i j:Nat)(x:Int):(l.set i x).getD j 0=if i=j∧j<l.length then x else l.getD j 0:=by
 rw[List.getD_eq_getElem?_getD,List.getD_eq_getElem?_getD]
 by_cases h:i=j
 ·subst h
  by_cases h2:i<l.length
  ·rw[List.getElem?_set_self h2,if_pos ⟨rfl,h2⟩];rfl
  ·rw[if_neg (by omega),List.getElem?_eq_none (by simp;omega),List.getElem?_eq_none (by omega)]
 ·rw[List.getElem?_set_ne h,if_neg (by omega)]
def layD(A B small:List Int)(n:Nat)(ts:List Tk)(q:Nat×Nat):Nat×Nat:=
 layC A (bC A B (dU small (fo small (layB (layB (layB q (A.length-257) 5) (B.length-1) 5) (n-4) 4) (ordS.take n)) (runs (A++B))) ts) 256
structure Pp(A B small:List Int)(n:Nat)(ts:List Tk):Prop where
 a1:257≤A.length
 a2:A.length≤288
 b1:1≤B.length
 b2:B.length≤32
 ca:chk A=0
 cb:chk B=0
 cs:chk small=0
 sl:small.length=19
 s7:∀k,0≤small.getD k 0∧small.getD k 0≤7
 n1:4≤n
 n2:n≤19
 s0:∀j,j<19→j∉ordS.take n→small.getD j 0=0
 ab:∀i,0≤(A++B).getD i 0∧(A++B).getD i 0≤15
 rs:∀c∈runs (A++B),has small c.1
 he:has A (256:Nat)
 tk:∀t∈ts,iC A B t
theorem fP(l:List UInt8):∀f i,∀t∈eE l f i,(t.1=0∧t.2.2≤255)∨(t.1≠0∧3≤t.1∧t.1≤258∧1≤t.2.1∧t.2.1≤512)
 |0,_,t,h=>by simp[eE]at h
 |f+1,i,t,h=>by
  rw[eE]at h
  by_cases hlt:i<l.length
  ·rw[if_pos hlt]at h
   by_cases hb:3≤(be l i).1
   ·obtain⟨b1,b2,b3,b4,b5,b6⟩:=g7 hlt hb;rw[if_pos hb]at h;rcases List.mem_cons.1 h with rfl|h
    ·right;exact⟨by dsimp only;omega,hb,b4,b1,b2⟩
    ·exact fP l f _ t h
   ·rw[if_neg hb]at h;rcases List.mem_cons.1 h with rfl|h
    ·left;have:=(l.getD i 0).toNat_lt;exact⟨rfl,by dsimp only;omega⟩
    ·exact fP l f _ t h
  ·rw[if_neg hlt]at h;cases h
theorem OI:∀t,t<288→fixL.getD t 0≠0:=by decide+kernel
theorem OK:∀t,t<32→fixD.getD t 0≠0:=by decide+kernel
theorem hasL{t:Nat}(h:t<288):has fixL (t:Nat):=by
 refine show 0≤(t:Int)∧(t:Int)<fixL.length∧fixL.getD (t:Int).toNat 0≠0 from⟨by omega,?_,by rw[Int.toNat_natCast];exact OI t h⟩;have:fixL.length=288:=by decide+kernel
 omega
theorem hasD{t:Nat}(h:t<32):has fixD (t:Nat):=by
 refine show 0≤(t:Int)∧(t:Int)<fixD.length∧fixD.getD (t:Int).toNat 0≠0 from⟨by omega,?_,by rw[Int.toNat_natCast];exact OK t h⟩;have:fixD.length=32:=by decide+kernel
 omega
theorem gR(l:List UInt8):∀t∈toks l,iC fixL fixD t:=fun t ht=>by
 unfold iC;rcases fP l _ _ t ht with⟨h1,h2⟩|⟨h0,h1,h2,h3,h4⟩
 ·rw[if_pos h1];exact⟨h2,hasL (by omega)⟩
 ·rw[if_neg h0];have a:=eK t.1 (by omega) h1;have b:=eL t.2.1 (by omega) h3;exact⟨h1,h2,h3,h4,hasL (by omega),hasD (by omega)⟩
def cm(l:List UInt8):Nat×Nat:=layC fixL (bC fixL fixD (layB (layB (0,0) 1 1) 1 2) (toks l)) 256
theorem jR{l:List Int}(h15:∀i,0≤l.getD i 0∧l.getD i 0≤15):∀f i,∀c∈dM l f i,0≤c.1∧c.1≤18
 |0,_,c,h=>by simp[dM]at h
 |f+1,i,c,h=>by
  rw[dM]at h
  by_cases hi:i<l.length
  ·rw[if_pos hi]at h;rcases List.mem_cons.1 h with rfl|h
   ·have hv:=h15 i;show 0≤(aO l i).1∧(aO l i).1≤18;unfold aO;split
    ·dsimp only;omega
    ·split
     ·dsimp only;omega
     ·split
      ·dsimp only;omega
      ·dsimp only;omega
   ·exact jR h15 f _ c h
  ·rw[if_neg hi]at h;cases h
def dynX(A B small:List Int)(n:Nat)(ts:List Tk):Nat×Nat:=layD A B small n ts (layB (layB (0,0) 1 1) 2 2)
def cE(l:List Int)(least:Nat):Nat→Nat
 |0=>0
 |n+1=>if least<n+1∧l.getD n 0=0 then cE l least n else n+1
theorem iG(l:List Int)(least:Nat):∀n,cE l least n≤n
 |0=>Nat.le_refl _
 |n+1=>by
  rw[cE];split
  ·have:=iG l least n;omega
  ·exact Nat.le_refl _
theorem qX(l:List Int)(least:Nat):∀n,least≤n→least≤cE l least n
 |0,h=>h
 |n+1,h=>by
  rw[cE];split
  ·rename_i hc;exact qX l least n (by omega)
  ·exact h
theorem pk(l:List Int)(least:Nat):∀n i,cE l least n≤i→i<n→l.getD i 0=0
 |0,_,_,h=>by omega
 |n+1,i,h1,h2=>by
  rw[cE]at h1;split at h1
  ·rename_i hc
   by_cases e:i=n
   ·subst e;exact hc.2
   ·exact pk l least n i h1 (by omega)
  ·omega
def i7(l:List Int)(least:Nat):List Int:=l.take (cE l least l.length)
theorem dr(l:List Int)(least:Nat):(i7 l least).length=cE l least l.length:=by
 have:=iG l least l.length;unfold i7;rw[List.length_take];omega
theorem lH(l:List Int)(least i:Nat):(i7 l least).getD i 0=l.getD i 0:=by
 unfold i7
 by_cases h:i<cE l least l.length
 ·rw[List.getD_eq_getElem?_getD,List.getD_eq_getElem?_getD,List.getElem?_take_of_lt h]
 ·have e:(l.take (cE l least l.length)).getD i 0=0:=by
   rw[List.getD_eq_getElem?_getD,List.getElem?_eq_none (by rw[List.length_take];omega)];rfl
  rw[e]
  by_cases h2:i<l.length
  ·exact(pk l least l.length i (by omega) h2).symm
  ·rw[List.getD_eq_getElem?_getD,List.getElem?_eq_none (by omega)];rfl
theorem yr:∀L:List Int,(∀x∈L,x=0)→ksum L=0∧many L=0∧cL L=true
 |[],_=>⟨rfl,rfl,rfl⟩
 |x::L,h=>by
  obtain⟨h1,h2,h3⟩:=yr L (fun y hy=>h y (by simp[hy]));have hx:=h x (by simp);subst hx;refine⟨?_,?_,?_⟩
  ·show kr 0+ksum L=0;rw[h1];rfl
  ·unfold many at h2⊢;rw[List.filter_cons,if_neg (by simp)];exact h2
  ·show(sZ 0&&cL L)=true;rw[h3];rfl
theorem EP{l:List Int}(h:chk l=0)(least:Nat):chk (i7 l least)=0:=by
 obtain⟨h1,h2,h3,h4⟩:=iT h;have hd:∀x∈l.drop (cE l least l.length),x=0:=fun x hx=>by
  obtain⟨i,hi,e⟩:=List.getElem_of_mem hx;rw[List.length_drop]at hi;rw[List.getElem_drop]at e;have:=pk l least l.length (cE l least l.length+i) (by omega) (by omega);rw[List.getD_eq_getElem?_getD,List.getElem?_eq_getElem (by omega)]at this;rw[←e];exact this
 obtain⟨z1,z2,z3⟩:=yr _ hd;have el:=List.take_append_drop (cE l least l.length) l;have k1:ksum (i7 l least)=ksum l:=by
  have:ksum l=ksum (i7 l least)+ksum (l.drop (cE l least l.length)):=by
   conv=>lhs;rw[←el]
   unfold ksum i7;rw[List.map_append,List.sum_append]
  omega
 have k2:many (i7 l least)=many l:=by
  have:many l=many (i7 l least)+many (l.drop (cE l least l.length)):=by
   conv=>lhs;rw[←el]
   unfold many i7;rw[List.filter_append,List.length_append]
  omega
 have k3:cL (i7 l least)=true:=by
  unfold cL at h2⊢;rw[List.all_eq_true]at h2⊢;exact fun x hx=>h2 x (List.mem_of_mem_take hx)
 unfold chk;rw[if_neg (by rw[dr];have:=iG l least l.length;omega),k3,if_neg (by simp),k1,if_neg (by omega),if_neg];rw[k2];unfold chk at h;rw[if_neg (by omega),h2,if_neg (by simp),if_neg (by omega)]at h;intro hc;rw[if_pos hc]at h;omega
section
def inc(l:List Int)(i:Nat):List Int:=l.set i (l.getD i 0+1)
theorem vB(l:List Int)(i:Nat):(inc l i).length=l.length:=by simp[inc]
theorem rz(l:List Int)(i j:Nat):(inc l i).getD j 0=if i=j∧j<l.length then l.getD j 0+1 else l.getD j 0:=by
 unfold inc;rw[jQ]
 by_cases h:i=j∧j<l.length
 ·rw[if_pos h,if_pos h,h.1]
 ·rw[if_neg h,if_neg h]
section
variable {β:Type}
def jM(f:β→Option Nat)(a:List Int)(ts:List β):List Int:=ts.foldl (fun a t=>match f t with|none=>a|some i=>inc a i) a
theorem gU(f:β→Option Nat)(a:List Int)(t:β)(ts:List β):jM f a (t::ts)=jM f (match f t with|none=>a|some i=>inc a i) ts:=rfl
theorem jb(f:β→Option Nat)(a:List Int)(ts:List β)(t:β):jM f a (ts++[t])=match f t with|none=>jM f a ts|some i=>inc (jM f a ts) i:=by
 unfold jM;rw[List.foldl_append];rfl
theorem ff(f:β→Option Nat):∀(ts:List β) (a:List Int),(jM f a ts).length=a.length
 |[],_=>rfl
 |t::ts,a=>by
  rw[gU,ff f ts];cases f t with
  |none=>rfl
  |some i=>exact vB a i
theorem jL(f:β→Option Nat)(j:Nat):∀(ts:List β) (a:List Int),a.getD j 0≤(jM f a ts).getD j 0
 |[],_=>Int.le_refl _
 |t::ts,a=>by
  rw[gU];have ih:=jL f j ts (match f t with|none=>a|some i=>inc a i);refine Int.le_trans ?_ ih;cases f t with
  |none=>exact Int.le_refl _
  |some i=>
   show a.getD j 0≤(inc a i).getD j 0;rw[rz];split<;>omega
theorem nJ(f:β→Option Nat)(j:Nat):∀(ts:List β) (a:List Int),(jM f a ts).getD j 0≤a.getD j 0+ts.length
 |[],a=>by show a.getD j 0≤a.getD j 0+((0:Nat):Int);omega
 |t::ts,a=>by
  rw[gU,List.length_cons];have ih:=nJ f j ts (match f t with|none=>a|some i=>inc a i);have h:(match f t with|none=>a|some i=>inc a i).getD j 0≤a.getD j 0+1:=by
   cases f t with
   |none=>show a.getD j 0≤a.getD j 0+1;omega
   |some i=>
    show(inc a i).getD j 0≤_;rw[rz];split<;>omega
  omega
theorem nI(f:β→Option Nat){i:Nat}{t:β}(hf:f t=some i):∀(ts:List β) (a:List Int),t∈ts→i<a.length→0≤a.getD i 0→1≤(jM f a ts).getD i 0
 |[],_,h,_,_=>by cases h
 |x::ts,a,h,hi,h0=>by
  rw[gU];have hl:(match f x with|none=>a|some i=>inc a i).length=a.length:=by
   cases f x with
   |none=>rfl
   |some i=>exact vB a i
  have hn:0≤(match f x with|none=>a|some i=>inc a i).getD i 0:=by
   cases f x with
   |none=>exact h0
   |some k=>
    show 0≤(inc a k).getD i 0;rw[rz];split<;>omega
  rcases List.mem_cons.1 h with rfl|h
  ·have hg:=jL f i ts (match f t with|none=>a|some i=>inc a i);rw[hf]at hg⊢;have e:(inc a i).getD i 0=a.getD i 0+1:=by rw[rz,if_pos ⟨rfl,hi⟩]
   have hg2:(inc a i).getD i 0≤(jM f (inc a i) ts).getD i 0:=hg;show 1≤(jM f (inc a i) ts).getD i 0;omega
  ·exact nI f hf ts _ h (by rw[hl];exact hi) hn
end
theorem jJ(n j:Nat):(List.replicate n (0:Int)).getD j 0=0:=by
 rw[List.getD_eq_getElem?_getD]
 by_cases h:j<n
 ·rw[List.getElem?_eq_getElem (by simpa using h),List.getElem_replicate];rfl
 ·rw[List.getElem?_eq_none (by simpa using Nat.le_of_not_lt h)];rfl
theorem oU(l:List Int):(csOf l l.length).length≤l.length:=by
 have h:=yM l (fun _=>1);rw[ja,Nat.mul_one]at h;rw[←h];have:∀(g:Nat→Nat) (n:Nat),(∀i,g i≤1)→((List.range n).map g).sum≤n:=by
  intro g n hg
  induction n with
  |zero=>simp
  |succ n ih=>rw[List.range_succ,List.map_append,List.sum_append];have:=hg n;simp;omega
 exact this _ _ (fun i=>by split<;>omega)
def symA(t:Tk):Nat:=if t.1=0 then t.2.2 else lsym t.1
def cntA(ts:List Tk):List Int:=jM (fun t=>some (symA t)) ((List.replicate 286 0).set 256 1) ts
def cntB(ts:List Tk):List Int:=jM (fun t=>if t.1=0 then none else some (dsym t.2.1)) (List.replicate 30 0) ts
def lenA(ts:List Tk):List Int:=i7 (lims 15 (cntA ts)) 257
def lenB(ts:List Tk):List Int:=i7 (lims 15 (cntB ts)) 1
def cntS(ls:List Int):List Int:=jM (fun c:Int×Nat=>some c.1.toNat) (List.replicate 19 0) (runs ls)
def lenS(ls:List Int):List Int:=lims 7 (cntS ls)
def told(small:List Int):List Int:=i7 (ordS.map fun k=>small.getD k 0) 4
theorem DG(j:Nat):0≤((List.replicate 286 (0:Int)).set 256 1).getD j 0:=by
 rw[jQ,jJ];split<;>omega
theorem cC(ts:List Tk):(cntA ts).length=286:=by unfold cntA;rw[ff];simp
theorem bW(ts:List Tk):(cntB ts).length=30:=by unfold cntB;rw[ff];simp
theorem j8(ls:List Int):(cntS ls).length=19:=by unfold cntS;rw[ff];simp
theorem xH{M:Nat}{l:List Int}(h1:1≤M)(h2:M≤15)(hl:l.length≤288)(hp:l.length≤2^M):chk (lims M l)=0:=O6 h1 (Nat.le_trans (oU l) hp) h2 hl
theorem Ct{M:Nat}{l:List Int}(h1:1≤M)(hp:l.length≤2^M)(i:Nat):0≤(lims M l).getD i 0∧(lims M l).getD i 0≤(M:Int):=by
 by_cases hi:i<l.length
 ·by_cases h:0<l.getD i 0
  ·have:=xI (M:=M) h1 (Nat.le_trans (oU l) hp) hi h;omega
  ·rw[tf h];omega
 ·rw[List.getD_eq_getElem?_getD,List.getElem?_eq_none (by rw[aV];omega)];show(0:Int)≤0∧(0:Int)≤M;omega
theorem xG{M least:Nat}{l:List Int}(h1:1≤M)(hp:l.length≤2^M){i:Nat}(hi:i<l.length)(h:1≤l.getD i 0):has (i7 (lims M l) least) (i:Nat):=by
 have h3:=xI (M:=M) h1 (Nat.le_trans (oU l) hp) hi (by omega);have h4:=lH (lims M l) least i;refine show 0≤(i:Int)∧(i:Int)<(i7 (lims M l) least).length∧(i7 (lims M l) least).getD (i:Int).toNat 0≠0 from⟨by omega,?_,by rw[Int.toNat_natCast,h4];omega⟩;apply Classical.byContradiction;intro hc
 rw[List.getD_eq_getElem?_getD,List.getElem?_eq_none (by omega)]at h4;have h5:(0:Int)=(lims M l).getD i 0:=h4;omega
theorem Ek{f:Nat→Int}{l:List Nat}{i:Nat}(h:i<l.length):(l.map f).getD i 0=f (l.getD i 0):=by
 rw[List.getD_eq_getElem?_getD,List.getElem?_map,List.getD_eq_getElem?_getD,List.getElem?_eq_getElem h];rfl
theorem BS:(2:Nat)^15=32768:=by decide
theorem pow7:(2:Nat)^7=128:=by decide
theorem NZ:∀j,j<19→∃i,i<19∧ordS.getD i 0=j:=by decide
theorem Qa{A B:List Int}(ha:∀i,0≤A.getD i 0∧A.getD i 0≤15)(hb:∀i,0≤B.getD i 0∧B.getD i 0≤15)(i:Nat):0≤(A++B).getD i 0∧(A++B).getD i 0≤15:=by
 by_cases h:i<A.length
 ·have e:(A++B).getD i 0=A.getD i 0:=by rw[List.getD_eq_getElem?_getD,List.getElem?_append_left h,List.getD_eq_getElem?_getD]
  rw[e];exact ha i
 ·have e:(A++B).getD i 0=B.getD (i-A.length) 0:=by rw[List.getD_eq_getElem?_getD,List.getElem?_append_right (by omega),List.getD_eq_getElem?_getD]
  rw[e];exact hb _
theorem EE(l:List UInt8):Pp (lenA (toks l)) (lenB (toks l)) (lenS (lenA (toks l)++lenB (toks l))) (told (lenS (lenA (toks l)++lenB (toks l)))).length (toks l):=by
 have hA:=cC (toks l);have hB:=bW (toks l);have hla:(lims 15 (cntA (toks l))).length=286:=by rw[aV,hA]
 have hlb:(lims 15 (cntB (toks l))).length=30:=by rw[aV,hB]
 have hua:=dr (lims 15 (cntA (toks l))) 257;have hub:=dr (lims 15 (cntB (toks l))) 1;have ga:=qX (lims 15 (cntA (toks l))) 257 (lims 15 (cntA (toks l))).length (by omega);have gb:=qX (lims 15 (cntB (toks l))) 1 (lims 15 (cntB (toks l))).length (by omega);have wa:=iG (lims 15 (cntA (toks l))) 257 (lims 15 (cntA (toks l))).length;have wb:=iG (lims 15 (cntB (toks l))) 1 (lims 15 (cntB (toks l))).length;have ra:∀i,0≤(lenA (toks l)).getD i 0∧(lenA (toks l)).getD i 0≤15:=fun i=>by
  unfold lenA;rw[lH];exact Ct (by omega) (by rw[hA,BS];omega) i
 have rb:∀i,0≤(lenB (toks l)).getD i 0∧(lenB (toks l)).getD i 0≤15:=fun i=>by
  unfold lenB;rw[lH];exact Ct (by omega) (by rw[hB,BS];omega) i
 have rab:=Qa ra rb;obtain⟨ls,hls⟩:=E1 (lenA (toks l)++lenB (toks l));rw[←hls]at rab⊢;have hS:=j8 ls;have hlS:(lenS ls).length=19:=by unfold lenS;rw[aV,hS]
 have ho:(ordS.map fun k=>(lenS ls).getD k 0).length=19:=by rw[List.length_map];rfl
 have hut:=dr (ordS.map fun k=>(lenS ls).getD k 0) 4;have gt:=qX (ordS.map fun k=>(lenS ls).getD k 0) 4 (ordS.map fun k=>(lenS ls).getD k 0).length (by omega);have wt:=iG (ordS.map fun k=>(lenS ls).getD k 0) 4 (ordS.map fun k=>(lenS ls).getD k 0).length;have hta:∀t∈toks l,has (lenA (toks l)) (symA t:Nat):=fun t ht=>by
  have hs:symA t<286:=by
   unfold symA;rcases fP l _ _ t ht with⟨h1,h2⟩|⟨h0,h1,h2,h3,h4⟩
   ·rw[if_pos h1];omega
   ·rw[if_neg h0];have:=eK t.1 (by omega) h1;omega
  exact xG (by omega) (by rw[hA,BS];omega) (by rw[hA];exact hs) (nI (fun t:Tk=>some (symA t)) (t:=t) rfl _ _ ht (by simp;exact hs) (DG _))
 refine⟨?_,?_,?_,?_,?_,?_,?_,hlS,?_,?_,?_,?_,?_,?_,?_,?_⟩
 ·unfold lenA;omega
 ·unfold lenA;omega
 ·unfold lenB;omega
 ·unfold lenB;omega
 ·exact EP (xH (by omega) (by omega) (by omega) (by rw[hA,BS];omega)) _
 ·exact EP (xH (by omega) (by omega) (by omega) (by rw[hB,BS];omega)) _
 ·exact xH (by omega) (by omega) (by omega) (by rw[hS,pow7];omega)
 ·intro k;have:=Ct (M:=7) (l:=cntS ls) (by omega) (by rw[hS,pow7];omega) k;unfold lenS;omega
 ·unfold told;omega
 ·unfold told;omega
 ·intro j hj hn;obtain⟨i,hi,e⟩:=NZ j hj;have h1:(told (lenS ls)).length≤i:=by
   apply Classical.byContradiction;intro hc
   refine hn ?_;rw[←e,List.getD_eq_getElem?_getD,List.getElem?_eq_getElem (show i<ordS.length from hi)];exact List.mem_take_iff_getElem.2 ⟨i,by show i<min _ 19;omega,rfl⟩
  have h2:=lH (ordS.map fun k=>(lenS ls).getD k 0) 4 i;have h3:(i7 (ordS.map fun k=>(lenS ls).getD k 0) 4).getD i 0=0:=by
   have h1':(i7 (ordS.map fun k=>(lenS ls).getD k 0) 4).length≤i:=h1;rw[List.getD_eq_getElem?_getD,List.getElem?_eq_none h1'];rfl
  have h4:(ordS.map fun k=>(lenS ls).getD k 0).getD i 0=(lenS ls).getD (ordS.getD i 0) 0:=Ek (f:=fun k=>(lenS ls).getD k 0) (show i<ordS.length from hi);rw[←e,←h4,←h2,h3]
 ·rw[←hls];exact rab
 ·intro c hc;rw[←hls]at hc;have hcr:=jR rab _ _ c hc;have hp:=nI (fun c:Int×Nat=>some c.1.toNat) (t:=c) rfl (runs ls) (List.replicate 19 0) hc (by simp;omega) (by rw[jJ];exact Int.le_refl 0);have h3:=xI (M:=7) (l:=cntS ls) (i:=c.1.toNat) (by omega) (Nat.le_trans (oU _) (by rw[hS,pow7];omega)) (by rw[hS];omega) (by unfold cntS;omega);refine show 0≤c.1∧c.1<(lenS ls).length∧(lenS ls).getD c.1.toNat 0≠0 from⟨hcr.1,by rw[hlS];omega,?_⟩;unfold lenS;omega
 ·refine xG (by omega) (by rw[hA,BS];omega) (by rw[hA];omega) ?_;have h:=jL (fun t:Tk=>some (symA t)) 256 (toks l) ((List.replicate 286 (0:Int)).set 256 1);rw[jQ,if_pos ⟨rfl,by simp⟩]at h;exact h
 ·intro t ht;have h1:=hta t ht;unfold iC;unfold symA at h1;rcases fP l _ _ t ht with⟨h2,h3⟩|⟨h0,h2,h3,h4,h5⟩
  ·rw[if_pos h2]at h1⊢;exact⟨h3,h1⟩
  ·rw[if_neg h0]at h1⊢;have hd:=eL t.2.1 (by omega) h4;refine⟨h2,h3,h4,h5,h1,?_⟩;refine xG (by omega) (by rw[hB,BS];omega) (by rw[hB];omega) ?_;exact nI (fun t:Tk=>if t.1=0 then none else some (dsym t.2.1)) (t:=t) (by rw[if_neg h0]) _ _ ht (by simp;omega) (by rw[jJ];exact Int.le_refl 0)
def dynL(l:List UInt8):Nat×Nat:=dynX (lenA (toks l)) (lenB (toks l)) (lenS (lenA (toks l)++lenB (toks l))) (told (lenS (lenA (toks l)++lenB (toks l)))).length (toks l)
end
def layY(q:Nat×Nat)(bs:List UInt8):Nat×Nat:=(lC q.1 q.2 ⟨bs.toArray⟩,iu q.2 ⟨bs.toArray⟩)
theorem kg(q:Nat×Nat)(bs:List UInt8):layY q bs=(q.1+num bs*2^(8*((q.2+7)/8)),8*((q.2+7)/8)+8*bs.length):=by
 unfold layY lC iu;rfl
def eJ(n:Nat):List UInt8:=[UInt8.ofNat n,UInt8.ofNat (n/256),UInt8.ofNat (255-n%256),UInt8.ofNat (255-n/256)]
def layZ(last:Nat)(q:Nat×Nat)(l:List UInt8):Nat×Nat:=layY (layB (layB q last 1) 0 2) (eJ l.length++l)
def pr:Nat→Nat×Nat→List UInt8→Nat×Nat
 |0,q,l=>layZ 1 q l
 |f+1,q,l=>if l.length≤65535 then layZ 1 q l else pr f (layZ 0 q (l.take 65535)) (l.drop 65535)
def dE(l:List UInt8):Nat×Nat:=pr l.length (0,0) l
theorem nQ{l:List UInt8}(h:l.length≤65535):dE l=layZ 1 (0,0) l:=by
 unfold dE;cases hl:l.length with
 |zero=>rfl
 |succ n=>rw[pr,if_pos h]
theorem pq:∀(f g:Nat) (q:Nat×Nat) (l:List UInt8),l.length≤65535+65535*f→f≤g→pr g q l=pr f q l
 |0,0,_,_,_,_=>rfl
 |0,g+1,q,l,h,_=>by
  show(if l.length≤65535 then layZ 1 q l else _)=layZ 1 q l;exact if_pos (by omega)
 |f+1,g+1,q,l,h,hg=>by
  rw[pr,pr]
  by_cases hl:l.length≤65535
  ·rw[if_pos hl,if_pos hl]
  ·rw[if_neg hl,if_neg hl];exact pq f g _ _ (by rw[List.length_drop];omega) (by omega)
theorem u8n(n:Nat)(h:n<256):(UInt8.ofNat n).toNat=n:=by
 have h:=UInt8.toNat_ofNat' (n:=n);omega
theorem uN{l:List UInt8}(h:l.length≤65535):(dE l).2=8*(l.length+5):=by
 have e1:=(bX (q:=(0,0)) (v:=1) (n:=1) (by omega) (by omega))
 have e2:=bX (q:=layB (0,0) 1 1) (v:=0) (n:=2) (by omega) (by omega);rw[nQ h];unfold layZ;rw[kg];have:(layB (layB (0,0) 1 1) 0 2).2=3:=by rw[e2,e1]
 rw[this,List.length_append];show 8*((3+7)/8)+8*(4+l.length)=_;omega
def aI(r:Nat×Nat):ByteArray:=eX r.1 r.2
theorem IU{l:List UInt8}(h:l.length≤65535):(aI (dE l)).size=l.length+5:=by
 unfold aI;rw[fQ,uN h];omega
def dH(l:List UInt8):ByteArray:=
 let a:=aI (dE l);let b:=aI (cm l);let c:=aI (dynL l)
 let d:=if b.size<a.size then b else a
 if c.size<d.size then c else d
theorem um(l:List UInt8):(dH l=aI (dE l)∨dH l=aI (cm l)∨dH l=aI (dynL l))∧(dH l).size≤(aI (dE l)).size∧(dH l).size≤(aI (cm l)).size∧(dH l).size≤(aI (dynL l)).size:=by
 unfold dH;dsimp only
 by_cases h1:(aI (cm l)).size<(aI (dE l)).size
 ·rw[if_pos h1]
  by_cases h2:(aI (dynL l)).size<(aI (cm l)).size
  ·rw[if_pos h2];exact⟨.inr (.inr rfl),by omega,by omega,by omega⟩
  ·rw[if_neg h2];exact⟨.inr (.inl rfl),by omega,by omega,by omega⟩
 ·rw[if_neg h1]
  by_cases h2:(aI (dynL l)).size<(aI (dE l)).size
  ·rw[if_pos h2];exact⟨.inr (.inr rfl),by omega,by omega,by omega⟩
  ·rw[if_neg h2];exact⟨.inl rfl,by omega,by omega,by omega⟩
theorem kb:∀t,t<286→257≤t→ar t≤258∧aq t≤5:=by decide+kernel
theorem ki:∀t,t<30→aF t≤24577∧aC t≤13:=by decide+kernel
def eo(L:List (Int×Nat)):List Value:=L.flatMap fun c=>[.int .i64 c.1,.int .i64 (c.2:Nat)]
theorem oo(L M:List (Int×Nat)):eo (L++M)=eo L++eo M:=by simp[eo]
theorem sK:∀(L:List (Int×Nat)) (i:Nat) (h:i<L.length),(eo L)[i*2]? =some (.int .i64 L[i].1)∧(eo L)[i*2+1]? =some (.int .i64 (L[i].2:Nat))
 |x::L,0,_=>by simp[eo]
 |x::L,i+1,h=>by
  have:=sK L i (by simpa using h);have e:eo (x::L)=.int .i64 x.1:: .int .i64 (x.2:Nat)::eo L:=by simp[eo]
  rw[e,show(i+1)*2=i*2+1+1 from by omega,show i*2+1+1+1=i*2+1+1+1 from rfl];simpa using this
def Qs(w:World)(A:Option Addr)(n:Nat)(L:List (Int×Nat)):Prop:=
 L.length=n∧(0<n→∃g o,A=some ⟨g,o,none⟩∧g<w.heap.size∧∀(i:Nat) (h:i<L.length),w.cell? ⟨g,o+i*2,none⟩=some (.int .i64 L[i].1)∧w.cell? ⟨g,o+i*2+1,none⟩=some (.int .i64 (L[i].2:Nat)))
theorem Qs.but{w w':World}{A:Option Addr}{n:Nat}{L:List (Int×Nat)}(h:Qs w A n L)(hw:But [] w w'):Qs w' A n L:=
 ⟨h.1,fun hn=>by
  obtain⟨g,o,e,hg,hc⟩:=h.2 hn;exact⟨g,o,e,Nat.lt_of_lt_of_le hg hw.size,fun i hi=>⟨hw.cell (hc i hi).1 (by simp),hw.cell (hc i hi).2 (by simp)⟩⟩⟩
theorem Qs.at{w:World}{A:Option Addr}{n:Nat}{L:List (Int×Nat)}(h:Qs w A n L){i:Nat}(hi:i<n):
 ∃g o c m,A=some ⟨g,o,none⟩∧g<w.heap.size∧w.cell? ⟨g,o+i*2,none⟩=some (.int .i64 c)∧w.cell? ⟨g,o+i*2+1,none⟩=some (.int .i64 (m:Nat))∧L[i]? =some (c,m):=by
 obtain⟨g,o,e,hg,hc⟩:=h.2 (by omega);have hl:i<L.length:=by have:=h.1;omega
 exact⟨g,o,_,_,e,hg,(hc i hl).1,(hc i hl).2,List.getElem?_eq_getElem hl⟩
theorem uU(l:List Int):∀f g i,l.length≤i+f→f≤g→dM l g i=dM l f i
 |0,0,_,_,_=>rfl
 |0,g+1,i,h,_=>by
  show(if i<l.length then _ else [])=[]
  exact if_neg (by omega)
 |f+1,g+1,i,h,hg=>by
  rw[dM,dM]
  by_cases hi:i<l.length
  ·rw[if_pos hi,if_pos hi,uU l f g _ (by have:=n6 l i;omega) (by omega)]
  ·rw[if_neg hi,if_neg hi]
theorem yX{l:List Int}{i:Nat}(hi:i<l.length):dM l (l.length-i) i=((aO l i).1,(aO l i).2.1)::dM l (l.length-(i+(aO l i).2.2)) (i+(aO l i).2.2):=by
 obtain⟨f,hf⟩:∃f,l.length-i=f+1:=⟨l.length-i-1,by omega⟩
 have hp:=n6 l i;rw[hf,dM,if_pos hi,uU l (l.length-(i+(aO l i).2.2)) f _ (by omega) (by omega)]
theorem Jt{l:List Int}{i:Nat}(hi:i<l.length):1≤runN l i∧i+runN l i≤l.length:=⟨x8 l i _ 1,xZ l i _ 1 (by omega)⟩
theorem DR{l:List Int}{i:Nat}(hi:i<l.length):i+(aO l i).2.2≤l.length∧(aO l i).2.1≤127:=by
 have h:=Jt hi;unfold aO;split
 ·dsimp only;omega
 ·split
  ·dsimp only;omega
  ·split
   ·dsimp only;omega
   ·dsimp only;omega
theorem Az{l:List Int}{i n k:Nat}(hl:l.length=n)(h:¬(i+k<n∧l.getD (i+k) 0=l.getD i 0)):kF l i (n+1-k) k=k:=by
 by_cases h0:n+1-k=0
 ·rw[h0];rfl
 ·rw[show n+1-k=(n+1-k-1)+1 from by omega,kF,if_neg (fun h'=>h ⟨by rw[←hl];exact h'.1,h'.2⟩)]
theorem GR{w:World}{A:Option Addr}{n c i:Nat}{l:List Int}(hl:l.length=n)(hI:Ints w A (n-i) (l.drop i))(hi:i<n)(hn:n≤1000):
 Calls prog 243 #[.slice A (n-i) c,(138:Int)] w (R1z (.int .i64 (min (runN l i) 138:Nat)) w):=by
 obtain⟨R,hR⟩:=E1 (runN l i);rw[←hR];obtain⟨m,hm⟩:=E1 (n-i);rw[←hm]at hI⊢;have hget:∀k (hk:k<m),(l.drop i)[k]'(by rw[List.length_drop];omega)=l.getD (i+k) 0:=fun k hk=>by
  rw[List.getElem_drop,List.getD_eq_getElem?_getD,List.getElem?_eq_getElem (by omega)];rfl
 obtain⟨g,o,rfl,hgl,hj0⟩:=hI.at (show 0<m by omega);clear hj0;have hcl:∀k,k<m→w.cell? ⟨g,o+k,none⟩=some (.int .i64 (l.getD (i+k) 0)):=fun k hk=>by
  obtain⟨g2,o2,e,_,hc⟩:=hI.at hk;injection e with e;injection e with e1 e2;subst e1 e2;rw[hget k hk]at hc;exact hc
 have h0:=hcl 0 (by omega);rw[Nat.add_zero,Nat.add_zero]at h0;obtain⟨x,hx⟩:=E1 (l.getD i 0);rw[←hx]at h0;have HCL:=qhz hcl;have HX:=qhz hx;have HR:=qhz hR;have HM:=qhz hm;have HL:=qhz hl;have hm1:1≤m:=by omega
 have hm2:m≤1000:=by omega
 have H0:=qhz h0;clear hcl hget hx hR hl h0;clear hI;clear hm
 go_enter func243,ntmps243
 go_wp2
 go_loopw [5] (fun nv wr=>∃(k q:Nat),1≤k∧k≤m∧k≤138∧nv=.int .i64 k∧Hid (kF l i (n+1-k) k=R)∧wr=w.drewN q) (fun nv _=>2000-(intOf nv).toNat)
 case atStart=>exact⟨1,0,Nat.le_refl _,by omega,by omega,rfl,qhz (by rw[HR.out,Nat.add_sub_cancel];unfold runN;rw[HL.out]),rfl⟩
 case round=>
  obtain⟨k,q,hk1,hkm,hk8,rfl,HE,rfl⟩:=hrel;have h0:=H0.out;have k0:(0:Int)≤(k:Int):=by omega
  have p0:(0:Int)<(m:Int):=by omega
  obtain⟨M,hM⟩:=E1 (min m 138);have hif:(if(138:Int)<(m:Int)then(138:Int)else(m:Int))=(M:Int):=by split<;>omega
  have hMm:M≤m:=by omega
  have hM8:M≤138:=by omega
  have hM2:M=m∨M=138:=by omega
  have HM2:=qhz hM2;clear hM hM2
  by_cases hkM:k<M
  ·have d1:decide ((k:Int)<(M:Int))=true:=by simp;omega
   have d2:decide (k<M)=true:=by simp;omega
   have k1:(k:Int)<(m:Int):=by omega
   have hk:=HCL.out k (by omega);obtain⟨y,hy⟩:=E1 (l.getD (i+k) 0);rw[←hy]at hk
   by_cases hyx:y=x
   ·have dx:(x==x)=true:=by simp
    have HN:=qhz (show kF l i (n+1-(k+1)) (k+1)=R by
     rw[←HE.out,show n+1-k=(n+1-(k+1))+1 from by have:=HM.out;omega,kF,if_pos ⟨by rw[HL.out];have:=HM.out;omega,by rw[←hy,hyx,HX.out]⟩])
    rw[hyx]at hk;clear hyx hy;go_wp2
    go_quiet (fail)
    go_wp2
    go_roundw
    case rel=>exact⟨k+1,q+nq,by omega,by omega,by omega,by go_num,HN,by trivial⟩
    case measure=>simp[intOf];omega
   ·have dx:(y==x)=false:=by simpa using hyx
    have HKR:=qhz (show k=R by
     rw[←HE.out,Az HL.out (fun h=>hyx (by rw[hy,h.2,HX.out]))])
    clear hyx hy;go_wp2
    go_quiet (fail)
    go_wp2;go_ret;exact⟨by rw[show min R 138=k by have:=HKR.out;omega];rfl,((But.refl [] w).drewN _).drewN _⟩
  ·have d1:decide ((k:Int)<(M:Int))=false:=by simp;omega
   have d2:decide (k<M)=false:=by simp;omega
   have HKR:=qhz (show min R 138=k by
    have h1:=x8 l i (n+1-k) k;rw[HE.out]at h1;rcases HM2.out with h|h
    ·have h2:=Az HL.out (i:=i) (k:=k) (fun h=>by have:=HM.out;omega);rw[HE.out]at h2;omega
    ·omega)
   go_wp2
   go_quiet (fail)
   go_wp2;go_ret;exact⟨by rw[HKR.out];rfl,((But.refl [] w).drewN _).drewN _⟩
theorem Ints.from_{w:World}{g o n i:Nat}{l:List Int}(h:Ints w (some ⟨g,o,none⟩) n l)(hi:i<n):Ints w (some ⟨g,o+i,none⟩) (n-i) (l.drop i):=by
 have hl:=h.1;refine⟨by rw[List.length_drop];omega,fun hp=>?_⟩;obtain⟨g2,o2,e,hg,hc⟩:=h.2 (by omega);injection e with e;injection e with e1 e2;subst e1 e2;refine⟨g,o+i,rfl,hg,fun j hj=>?_⟩;have hj2:i+j<l.length:=by rw[List.length_drop]at hj;omega
 have:=hc (i+j) hj2;rw[List.getElem_drop,Nat.add_assoc];exact this
def Pu(c:Int)(m k:Nat):Value:=.tuple #[.agg #[c,m],k]
theorem Fw{w:World}{A:Option Addr}{n c i:Nat}{l:List Int}(hI:Ints w A n l)(hi:i<n)(hn:n≤1000)(hc:n≤c):
 Calls prog 227 #[.slice A n c,i] w (R1z (Pu (aO l i).1 (aO l i).2.1 (aO l i).2.2) w):=by
 have hl:=hI.1;obtain⟨g,o,rfl,hgl,hci⟩:=hI.at hi;have hgi:l[i]'(by omega)=l.getD i 0:=by rw[List.getD_eq_getElem?_getD,List.getElem?_eq_getElem (by omega)];rfl
 rw[hgi]at hci;obtain⟨x,hx⟩:=E1 (l.getD i 0);rw[←hx]at hci;obtain⟨R,hR⟩:=E1 (runN l i);obtain⟨N,hN⟩:=E1 (min R 138);obtain⟨W,hW⟩:=E1 (w.alloc (.cells #[(0:Int),(0:Int)] 234));have hBW:But [] w W:=by rw[hW];exact(But.refl [] w).alloc _
 have hIW:Is W w.heap.size 234 #[(0:Int),(0:Int)]:=by rw[hW];exact Is.fresh w _ _
 have hcall:=GR (w:=W) (c:=c-i) hl ((hI.but hBW (by simp)).from_ hi) hi hn;rw[←hR,←hN]at hcall;have hN8:N≤138:=by omega
 have hprev:0<i→w.cell? ⟨g,o+(i-1),none⟩=some (.int .i64 (l.getD (i-1) 0)):=fun h0=>by
  obtain⟨g2,o2,e,_,hc⟩:=hI.at (i:=i-1) (by omega);injection e with e;injection e with e1 e2;subst e1 e2;rw[hc,List.getD_eq_getElem?_getD,List.getElem?_eq_getElem (by omega)];rfl
 obtain⟨ag,hag⟩:=E1 (decide (x≠0∧0<i∧l.getD (i-1) 0=x):Bool);have dci:decide (c=i)=false:=by simp;omega
 have HCALL:=qhz hcall;have HBW:=qhz hBW;have HIW:=qhz hIW;have HX:=qhz hx;have HR:=qhz hR;have HN:=qhz hN;have HAG:=qhz hag;have HPREV:=qhz hprev;have HCI:=qhz hci;have i0:(0:Int)≤(i:Int):=by omega
 have i1:(i:Int)<(n:Int):=by omega
 have ic:(i:Int)≤(c:Int):=by omega
 clear hcall hBW hIW hx hR hN hag hprev hci hgi hl hI
 by_cases hx0:x=0
 ·have dx0:(x==0)=true:=by simp[hx0]
  have HX0:=qhz (show l.getD i 0=0 by rw[←HX.out];exact hx0);clear hx0
  go_enter func227,ntmps227
  go_wp2_with fail
  rw[←hW];refine HCALL.out.mono ?_;rintro e w1 ⟨rfl,hB1⟩;have hI1:=HIW.out.but hB1 (by simp);have hci1:=(HBW.out.trans hB1).cell HCI.out (by simp);have hpv1:=fun h=>(HBW.out.trans hB1).cell (HPREV.out h) (by simp);have HB1:=qt HBW hB1;have HI1:=qhz hI1;have HPV1:=qhz hpv1;clear hB1 hI1 HCALL hW hpv1 HPREV
  go_upto_region 3 with(fail)
  go_cut [8]from 18 to 35 (fun v wx=>v=.bool false∧∃q,wx=w1.drewN q)
  case first=>
   go_quiet (fail)
   go_wp2
   go_meet
   exact⟨rfl,nq,rfl⟩
  case rest=>
  obtain⟨rfl,q,hw2⟩:=hcut;obtain⟨w2,rfl⟩:=E1 (wc:World);have HI2:Hid (Is w2 w.heap.size 234 #[(0:Int),(0:Int)]):=qhz (by rw[hw2];exact HI1.out.drewN q);have HB2:Hid (But [] w w2):=qhz (by rw[hw2];exact HB1.out.drewN q);have hci2:w2.cell? ⟨g,o+i,none⟩=some (.int .i64 x):=by rw[hw2];exact hci1
  clear hw2
  by_cases h11:11≤N
  ·have d11:decide ((11:Int)≤(N:Int))=true:=by simp;omega
   have HRA:=qhz (show aO l i=((18:Int),N-11,N) by
    unfold aO;rw[←HR.out,←HN.out,if_pos ⟨HX0.out,by have:=HN.out;omega⟩])
   obtain⟨y,hy⟩:=E1 (N-11);have ey:(N:Int)-11=(y:Int):=by omega
   rw[←hy]at HRA;clear hy;have hI2:=HI2.out;obtain⟨c0,c1,_⟩:=hI2.c2;obtain⟨f0,f1⟩:=hI2.f2;have hI3:=(hI2.put 0 (.int .i64 18)).put 1 (.int .i64 (y:Nat));have hB3:=((HB2.out.setCell (p:=⟨w.heap.size,0,none⟩) (.inr (Nat.le_refl _)) (.int .i64 18)).setCell (p:=⟨w.heap.size,1,none⟩) (.inr (Nat.le_refl _)) (.int .i64 (y:Nat)))
   obtain⟨e0,e1,_⟩:=hI3.c2;have HB3:=qhz hB3;clear hI2 hI3 hB3;go_wp2;refine bodyPost_ret (v:=.tuple #[.agg #[(18:Int),y],N]) (by simp[results,results227,go_sem,e0,e1]) rfl ?_;exact⟨by rw[HRA.out];rfl,HB3.out⟩
  ·have d11:decide ((11:Int)≤(N:Int))=false:=by simp;omega
   by_cases h3:3≤N
   ·have d3:decide ((3:Int)≤(N:Int))=true:=by simp;omega
    have HRA:=qhz (show aO l i=((17:Int),N-3,N) by
     have hRN:R=N:=by have:=HN.out;omega
     unfold aO;rw[←HR.out,hRN,if_neg (fun h=>h11 h.2),if_pos ⟨HX0.out,h3⟩])
    obtain⟨y,hy⟩:=E1 (N-3);have ey:(N:Int)-3=(y:Int):=by omega
    rw[←hy]at HRA;clear hy;have hI2:=HI2.out;obtain⟨c0,c1,_⟩:=hI2.c2;obtain⟨f0,f1⟩:=hI2.f2;have hI3:=(hI2.put 0 (.int .i64 17)).put 1 (.int .i64 (y:Nat));have hB3:=((HB2.out.setCell (p:=⟨w.heap.size,0,none⟩) (.inr (Nat.le_refl _)) (.int .i64 17)).setCell (p:=⟨w.heap.size,1,none⟩) (.inr (Nat.le_refl _)) (.int .i64 (y:Nat)))
    obtain⟨e0,e1,_⟩:=hI3.c2;have HB3:=qhz hB3;clear hI2 hI3 hB3;go_wp2;refine bodyPost_ret (v:=.tuple #[.agg #[(17:Int),y],N]) (by simp[results,results227,go_sem,e0,e1]) rfl ?_;exact⟨by rw[HRA.out];rfl,HB3.out⟩
   ·have d3:decide ((3:Int)≤(N:Int))=false:=by simp;omega
    have HRA:=qhz (show aO l i=(x,0,1) by
     have hRN:R=N:=by have:=HN.out;omega
     unfold aO;rw[←HR.out,hRN,if_neg (fun h=>h11 h.2),if_neg (fun h=>h3 h.2),if_neg (fun h=>h3 h.2.2.2),←HX.out])
    have hI2:=HI2.out;obtain⟨c0,c1,_⟩:=hI2.c2;obtain⟨f0,f1⟩:=hI2.f2;have hI3:=(hI2.put 0 (.int .i64 x)).put 1 (.int .i64 0);have hB3:=((HB2.out.setCell (p:=⟨w.heap.size,0,none⟩) (.inr (Nat.le_refl _)) (.int .i64 x)).setCell (p:=⟨w.heap.size,1,none⟩) (.inr (Nat.le_refl _)) (.int .i64 0))
    obtain⟨e0,e1,_⟩:=hI3.c2;have HB3:=qhz hB3;clear hI2 hI3 hB3;go_wp2;refine bodyPost_ret (v:=.tuple #[.agg #[x,(0:Int)],(1:Int)]) (by simp[results,results227,go_sem,e0,e1]) rfl ?_;exact⟨by rw[HRA.out];rfl,HB3.out⟩
 ·have dx0:(x==0)=false:=by simpa using hx0
  have HX0:=qhz (show ¬l.getD i 0=0 by rw[←HX.out];exact hx0)
  go_enter func227,ntmps227
  go_wp2_with fail
  rw[←hW];refine HCALL.out.mono ?_;rintro e w1 ⟨rfl,hB1⟩;have hI1:=HIW.out.but hB1 (by simp);have hci1:=(HBW.out.trans hB1).cell HCI.out (by simp);have hpv1:=fun h=>(HBW.out.trans hB1).cell (HPREV.out h) (by simp);have HB1:=qt HBW hB1;have HI1:=qhz hI1;have HPV1:=qhz hpv1;clear hB1 hI1 HCALL hW hpv1 HPREV
  go_upto_region 3 with(fail)
  go_cut [8]from 18 to 35 (fun v wx=>v=.bool ag∧∃q,wx=w1.drewN q)
  case first=>
   by_cases hip:0<i
   ·have d0:decide ((0:Int)<(i:Int))=true:=by simp;omega
    have d0':decide (0<i)=true:=by simp;omega
    have hp:=HPV1.out hip;obtain⟨j,hj⟩:=E1 (i-1);rw[←hj]at hp;obtain⟨y,hy⟩:=E1 (l.getD j 0);rw[←hy]at hp;have ej:(i:Int)-1=(j:Int):=by omega
    have wi:IntKind.i64.wrap ((i:Int)-1)=(j:Int):=by rw[ej];exact IntWalk.i64_in _ (by omega)
    have wj:IntKind.i64.wrap (j:Int)=(j:Int):=IntWalk.i64_in _ (by omega);have j0:(0:Int)≤(j:Int):=by omega
    have j1:(j:Int)<(n:Int):=by omega
    by_cases hyx:y=x
    ·have dyx:(x==x)=true:=by simp
     have HA:=qhz (show ag=true by rw[HAG.out];simp only[decide_eq_true_eq];exact⟨hx0,hip,by rw[←hj,←hy];exact hyx⟩);subst hyx;clear hy hj hx0
     go_quiet (fail)
     go_wp2
     go_meet
     exact⟨by rw[HA.out],nq,rfl⟩
    ·have dyx:(y==x)=false:=by simpa using hyx
     have HA:=qhz (show ag=false by rw[HAG.out];simp only[decide_eq_false_iff_not];exact fun h=>hyx (by rw[hy,hj];exact h.2.2));clear hy hj hyx hx0
     go_quiet (fail)
     go_wp2
     go_meet
     exact⟨by rw[HA.out],nq,rfl⟩
   ·have d0:decide ((0:Int)<(i:Int))=false:=by simp;omega
    have d0':decide (0<i)=false:=by simp;omega
    have HA:=qhz (show ag=false by rw[HAG.out];simp only[decide_eq_false_iff_not];exact fun h=>hip h.2.1);clear hx0
    go_quiet (fail)
    go_wp2
    go_meet
    exact⟨by rw[HA.out],nq,rfl⟩
  case rest=>
  obtain⟨rfl,q,hw2⟩:=hcut;obtain⟨w2,rfl⟩:=E1 (wc:World);have HI2:Hid (Is w2 w.heap.size 234 #[(0:Int),(0:Int)]):=qhz (by rw[hw2];exact HI1.out.drewN q);have HB2:Hid (But [] w w2):=qhz (by rw[hw2];exact HB1.out.drewN q);have hci2:w2.cell? ⟨g,o+i,none⟩=some (.int .i64 x):=by rw[hw2];exact hci1
  clear hw2;clear hx0
  by_cases h16:ag=true∧3≤N
  ·obtain⟨hag,h3⟩:=h16;have d3:decide ((3:Int)≤(N:Int))=true:=by simp;omega
   have HA:=HAG.out;rw[hag]at HA;have hA:=of_decide_eq_true HA.symm;obtain⟨m,hm⟩:=E1 (min N 6);have hm2:m=min R 6:=by have:=HN.out;omega
   have HRA:=qhz (show aO l i=((16:Int),m-3,m) by
    unfold aO;rw[←HR.out,if_neg (fun h=>HX0.out h.1),if_neg (fun h=>HX0.out h.1),if_pos ⟨HX0.out,hA.2.1,by rw[←HX.out];exact hA.2.2,by have:=HN.out;omega⟩,←hm2])
   subst hag;have hm1:3≤m∧m≤6∧m≤N:=by omega
   obtain⟨y,hy⟩:=E1 (m-3);have ey:(m:Int)-3=(y:Int):=by omega
   rw[←hy]at HRA;have HM:=qhz hm;clear hy hm hm2 HA hA
   go_upto_region 9 with(fail)
   go_cut [6]from 62 to 63 (fun v wx=>v=.int .i64 (m:Nat)∧w2=wx)
   case first=>
    rcases Nat.lt_or_ge 6 N with h5|h5
    ·have e:m=6:=by have:=HM.out;omega
     subst e;go_wp2
     all_goals (go_meet;exact⟨rfl,rfl⟩)
    ·have e:m=N:=by have:=HM.out;omega
     subst e;go_wp2
     all_goals (go_meet;exact⟨rfl,rfl⟩)
   case rest=>
   obtain⟨rfl,rfl⟩:=hcut;have hI2:=HI2.out;obtain⟨c0,c1,_⟩:=hI2.c2;obtain⟨f0,f1⟩:=hI2.f2;have hI3:=(hI2.put 0 (.int .i64 16)).put 1 (.int .i64 (y:Nat));have hB3:=((HB2.out.setCell (p:=⟨w.heap.size,0,none⟩) (.inr (Nat.le_refl _)) (.int .i64 16)).setCell (p:=⟨w.heap.size,1,none⟩) (.inr (Nat.le_refl _)) (.int .i64 (y:Nat)))
   obtain⟨e0,e1,_⟩:=hI3.c2;have HB3:=qhz hB3;clear hI2 hI3 hB3;go_wp2;refine bodyPost_ret (v:=.tuple #[.agg #[(16:Int),y],m]) (by simp[results,results227,go_sem,e0,e1]) rfl ?_;exact⟨by rw[HRA.out];rfl,HB3.out⟩
  ·have HRA:=qhz (show aO l i=(x,0,1) by
    unfold aO;rw[←HR.out,if_neg (fun h=>HX0.out h.1),if_neg (fun h=>HX0.out h.1),if_neg (fun h=>h16 ⟨by rw[HAG.out];simp only[decide_eq_true_eq];exact⟨by rw[HX.out];exact h.1,h.2.1,by rw[HX.out];exact h.2.2.1⟩,by have:=HN.out;omega⟩),←HX.out])
   cases ag with
   |true=>
    have d3:decide ((3:Int)≤(N:Int))=false:=decide_eq_false (fun h=>h16 ⟨rfl,by omega⟩);clear h16;have hI2:=HI2.out;obtain⟨c0,c1,_⟩:=hI2.c2;obtain⟨f0,f1⟩:=hI2.f2;have hI3:=(hI2.put 0 (.int .i64 x)).put 1 (.int .i64 0);have hB3:=((HB2.out.setCell (p:=⟨w.heap.size,0,none⟩) (.inr (Nat.le_refl _)) (.int .i64 x)).setCell (p:=⟨w.heap.size,1,none⟩) (.inr (Nat.le_refl _)) (.int .i64 0))
    obtain⟨e0,e1,_⟩:=hI3.c2;have HB3:=qhz hB3;clear hI2 hI3 hB3;go_wp2;refine bodyPost_ret (v:=.tuple #[.agg #[x,(0:Int)],(1:Int)]) (by simp[results,results227,go_sem,e0,e1]) rfl ?_;exact⟨by rw[HRA.out];rfl,HB3.out⟩
   |false=>
    clear h16;have hI2:=HI2.out;obtain⟨c0,c1,_⟩:=hI2.c2;obtain⟨f0,f1⟩:=hI2.f2;have hI3:=(hI2.put 0 (.int .i64 x)).put 1 (.int .i64 0);have hB3:=((HB2.out.setCell (p:=⟨w.heap.size,0,none⟩) (.inr (Nat.le_refl _)) (.int .i64 x)).setCell (p:=⟨w.heap.size,1,none⟩) (.inr (Nat.le_refl _)) (.int .i64 0))
    obtain⟨e0,e1,_⟩:=hI3.c2;have HB3:=qhz hB3;clear hI2 hI3 hB3;go_wp2;refine bodyPost_ret (v:=.tuple #[.agg #[x,(0:Int)],(1:Int)]) (by simp[results,results227,go_sem,e0,e1]) rfl ?_;exact⟨by rw[HRA.out];rfl,HB3.out⟩
section
def OwnP(w:World)(base:Nat)(v:Value)(L:List (Int×Nat)):Prop:=w.ownsRow base 234 2 v L.length (eo L)
theorem K0:(prog.info? 234).map (fun i=>(i.zero,i.size,i.bytes))=some (some (.agg #[(0:Int),(0:Int)]),2,16):=by kernel_rfl
theorem OwnP.nil(w:World)(base:Nat):OwnP w base (.slice none 0 0) []:=World.ownsRow_nil _ _ _ _
theorem OwnP.but{w w':World}{base:Nat}{v:Value}{L:List (Int×Nat)}(h:OwnP w base v L)(hw:But [] w w'):OwnP w' base v L:=aU h hw (by simp)
theorem OwnP.open{w:World}{base:Nat}{v:Value}{L:List (Int×Nat)}(h:OwnP w base v L):∃A c,v=.slice A L.length c∧Qs w A L.length L:=by
 unfold OwnP at h;rcases h.2 with⟨rfl,e⟩|⟨g,cap,cur,rfl,hg,hh,r⟩
 ·have:L=[]:=List.eq_nil_of_length_eq_zero e;subst this;exact⟨none,0,rfl,rfl,fun h=>absurd h (by simp)⟩
 ·refine⟨some ⟨g,0,none⟩,cap,rfl,rfl,fun hn=>⟨g,0,rfl,(h.lt g rfl).2,fun i hi=>?_⟩⟩;obtain⟨h0,h1⟩:=sK L i hi;have c0:=h.cells (g:=g) rfl (i*2) _ h0;have c1:=h.cells (g:=g) rfl (i*2+1) _ h1;rw[Go.WideShapes.add_plain]at c0 c1;exact⟨c0,c1⟩
theorem OwnP.pushed{w wr w':World}{v v':Value}{L:List (Int×Nat)}{x:Int×Nat}{cs:Array Value}{t:TypeId}(hB:But [] w wr)(hO:OwnP wr w.heap.size v L)
 (h1:w'.ownsRow w.heap.size 234 2 v' (L.length+1) (eo L++[.int .i64 x.1,.int .i64 (x.2:Nat)])) (hg:(wr.alloc (.cells cs t)).grownBy w' v.ownBlock):
 OwnP w' w.heap.size v' (L++[x])∧But [] w w':=by
 refine⟨?_,(hB.alloc _).grown hg (fun g e=>.inr (hO.lt g e).1)⟩;unfold OwnP;rw[List.length_append,oo];simpa[eo]using h1
def Ri(w:World)(L:List (Int×Nat))(e:Ending)(w':World):Prop:=∃v,e=.returned v∧OwnP w' w.heap.size v L∧But [] w w'
section
variable {w:World}
theorem Jp{A:Option Addr}{n c:Nat}{l:List Int}(hl:Ints w A n l)(hn:n≤1000)(hc:n≤c):
 Calls prog 202 #[.slice A n c] w (Ri w (runs l)):=by
 obtain⟨i0,hi0,hz0,hz1,hz2⟩:=info_parts K0;have HI:=qhz hl;have HLN:=qhz hl.1;clear hl
 go_enter func202,ntmps202
 go_wp2
 go_loopw [3,4] (fun ov iv wr=>∃(i:Nat) (L:List (Int×Nat)),i≤n∧iv=.int .i64 i∧L.length≤i∧Hid (L++dM l (l.length-i) i=runs l)∧Hid (OwnP wr w.heap.size ov L)∧Hid (But [] w wr)) (fun _ iv _=>n-(intOf iv).toNat)
 case atStart=>exact⟨0,[],Nat.zero_le _,rfl,Nat.le_refl _,qhz rfl,qhz (OwnP.nil _ _),qhz (But.refl _ _)⟩
 case round=>
  obtain⟨i,L,hin,rfl,hL,HR,HO,HB⟩:=hrel
  by_cases hlt:i<n
  ·have hil:i<l.length:=by have:=HLN.out;omega
   have HST:=qhz (yX hil);have hri:=DR hil;rw[HLN.out]at hri;have hpos:=n6 l i;have hcall:=Fw (HI.out.but HB.out (by simp)) hlt hn hc;obtain⟨x,m,k,hx⟩:∃(x:Int) (m k:Nat),aO l i=(x,m,k):=⟨_,_,_,rfl⟩
   rw[hx]at hcall hri hpos;have HX:=qhz hx;dsimp only at hcall hri hpos;obtain⟨hk1,hm127⟩:=hri;have HCALL:=qhz hcall;clear hx hcall hil
   go_wp2_with fail
   refine HCALL.out.mono ?_;rintro e w1 ⟨rfl,hB1⟩;unfold Pu;have hI1:=Is.fresh w1 234 #[x,m];have hO1:=(HO.out.but hB1).but ((But.refl [] w1).alloc (.cells #[x,m] 234));have hB2:=(HB.out.trans hB1).alloc (.cells #[x,m] 234)
   go_upto_region 5 with(fail)
   obtain⟨wb,hwb⟩:=E1 (w1.alloc (.cells #[x,m] 234));rw[←hwb]at hI1 hO1 hB2⊢;obtain⟨c0,c1,_⟩:=hI1.c2;have HO1:=qhz hO1;have HB2:=qhz hB2;have hsz:=hB2.size;clear hI1 hO1 hB2 hB1 hwb HCALL
   go_wp2_with (at_builtin;go_loud (refine wpList_append_own _ rfl _ _ 230 rfl w.heap.size 234 i0 (.agg #[(0:Int),(0:Int)]) 2 16 underlying230 hi0 hz0 hz1 hz2 rfl (by decide) _ L.length (eo L) rfl (World.ownsRow.alloc HO1.out _) ⟨wb.heap.size,0,none⟩ 1 1 [.int .i64 x,.int .i64 (m:Nat)] rfl rfl ?a1 ?a2 ?a3 ?a4 ?a5 ?_))
   case a1=>exact World.news_of_block (cs:=#[.int .i64 x,.int .i64 (m:Nat)]) (t:=234) (fr:=(0,0)) (heap_alloc_new wb _)
   case a2=>simp[Value.oneCell']
   case a3=>unfold maxLen;omega
   case a4=>omega
   case a5=>simp;omega
   intro v' w2 hown2 hgrow2 _;have HP:=qhz (OwnP.pushed (x:=(x,m)) HB2.out HO1.out hown2 hgrow2);clear hown2 hgrow2 c0 c1;go_wp2
   go_roundw
   case rel=>exact⟨i+k,L++[(x,m)],by omega,by go_num,by rw[List.length_append,List.length_singleton];omega,qhz (by rw[←HR.out,HST.out,HX.out,List.append_assoc];rfl),qhz HP.out.1,qhz HP.out.2⟩
   case measure=>simp[intOf];omega
  ·go_wp2;go_ret;refine⟨_,rfl,?_,HB.out⟩;have h:=HR.out;rw[show l.length-i=0 by have:=HLN.out;omega]at h;have h2:L++[]=runs l:=h;rw[List.append_nil]at h2;rw[←h2];exact HO.out
end
end
end Go.Proofs.YtbanopnofpjnbaaGreatDoor
