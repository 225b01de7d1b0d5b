/- Own texts in one: InfM, InfS, InfT, InfU, InfX, Rep, MkT, SmT, DyT, RfD, Cat, FixT. -/
import Derived.Test.YtbanopnofpjnbaaGreatDoorU10
set_option maxRecDepth 1000000
set_option linter.unusedVariables false
set_option maxHeartbeats 4000000
namespace Go.Proofs.YtbanopnofpjnbaaGreatDoor
open Go Go.RowKit Tryz
abbrev Rd(α:Type):=ByteArray→Nat→Except Int (α×Nat)
def aR{α:Type}(a:α):Rd α:=fun _ p=>.ok (a,p)
def mp{α:Type}(e:Int):Rd α:=fun _ _=>.error e
def am{α β:Type}(m:Rd α)(f:α→Rd β):Rd β:=fun s p=>match m s p with
 |.error e=>.error e
 |.ok (a,q)=>f a s q
def aY(n:Nat):Rd Nat:=fun s p=>if au s p n≠0 then .error (au s p n)else .ok (ax s p n,aK s p n)
def cQ(n:Nat):Rd ByteArray:=fun s p=>if aE s p n≠0 then .error (aE s p n)else .ok (bg s p n,bT s p n)
def fm(l:List Int):Rd Nat:=fun s p=>if(gK l s p).2.1≠0 then .error (gK l s p).2.1 else .ok ((gK l s p).1,(gK l s p).2.2)
def bq{α:Type}(c:Prop)[Decidable c](e:Int)(m:Rd α):Rd α:=if c then mp e else m
def aq(t:Nat):Nat:=if t<265∨t=285 then 0 else(t-261)/4
def ar(t:Nat):Nat:=if t=285 then 258 else 3+((List.range (t-257)).map fun k=>2^aq (257+k)).sum
def aC(t:Nat):Nat:=if t<4 then 0 else t/2-1
def aF(t:Nat):Nat:=1+((List.range t).map fun k=>2^aC k).sum
def bI(far:Nat):Nat→List UInt8→List UInt8
 |0,out=>out
 |n+1,out=>bI far n (out++[out.getD (out.length-far) 0])
def mt(a:ByteArray):Nat:=(a.data.toList.getD 0 0).toNat+256*(a.data.toList.getD 1 0).toNat
def fq(most:Int)(out:List UInt8):Rd (List UInt8):=
 am (cQ 2) fun a=>am (cQ 2) fun b=>bq (mt b≠65535-mt a) 14 (am (cQ (mt a)) fun x=>
  bq (most<(out.length:Int)+(mt a:Nat)) 5 (aR (out++x.data.toList)))
def symG(l d:List Int)(most:Int):Nat→List UInt8→Rd (List UInt8)
 |0,_=>mp 3
 |f+1,out=>am (fm l) fun t=>
  if t=256 then aR out else
  if t<256 then bq (most<(out.length:Int)+1) 5 (symG l d most f (out++[UInt8.ofNat t])) else
  bq (285<t) 12 (am (aY (aq t)) fun x=>am (fm d) fun u=>bq (29<u) 12 (am (aY (aC u)) fun y=>
   bq (out.length<aF u+y) 15 (bq (most<(out.length:Int)+((ar t+x:Nat):Int)) 5 (symG l d most f (bI (aF u+y) (ar t+x) out)))))
def dD{α:Type}(l d:List Int)(m:Rd α):Rd α:=bq (chk l≠0) (chk l) (bq (chk d≠0) (chk d) m)
def fixL:List Int:=List.replicate 144 8++List.replicate 112 9++List.replicate 24 7++List.replicate 8 8
def fixD:List Int:=List.replicate 32 5
def ordS:List Nat:=[16,17,18,0,8,7,9,6,10,5,11,4,12,3,13,2,14,1,15]
def dI:List Nat→List Int→Rd (List Int)
 |[],a=>aR a
 |k::ks,a=>am (aY 3) fun v=>dI ks (a.set k (v:Nat))
def lenG(small:List Int)(total:Nat):Nat→List Int→Rd (List Int)
 |0,_=>mp 3
 |f+1,acc=>if total≤acc.length then aR acc else am (fm small) fun t=>
  if t<16 then lenG small total f (acc++[(t:Int)]) else
  if t=16 then bq (acc.length=0) 12 (am (aY 2) fun x=>bq (total<acc.length+(3+x)) 12 (lenG small total f (acc++List.replicate (3+x) (acc.getD (acc.length-1) 0)))) else
  if t=17 then am (aY 3) fun x=>bq (total<acc.length+(3+x)) 12 (lenG small total f (acc++List.replicate (3+x) 0)) else
  am (aY 7) fun x=>bq (total<acc.length+(11+x)) 12 (lenG small total f (acc++List.replicate (11+x) 0))
def dynR(most:Int)(F:Nat)(out:List UInt8):Rd (List UInt8):=
 am (aY 5) fun a=>am (aY 5) fun b=>am (aY 4) fun c=>am (dI (ordS.take (c+4)) (List.replicate 19 0)) fun small=>
  bq (chk small≠0) (chk small) (am (lenG small (a+257+(b+1)) F []) fun ls=>
   dD (ls.take (a+257)) (ls.drop (a+257)) (symG (ls.take (a+257)) (ls.drop (a+257)) most F out))
def fh(most:Int)(F kind:Nat)(out:List UInt8):Rd (List UInt8):=
 if kind=0 then fq most out else if kind=1 then dD fixL fixD (symG fixL fixD most F out)else if kind=2 then dynR most F out else mp 13
def blkG(most:Int)(F:Nat):Nat→List UInt8→Rd (List UInt8)
 |0,_=>mp 3
 |f+1,out=>am (aY 1) fun last=>am (aY 2) fun kind=>am (fh most F kind out) fun out'=>if last≠0 then aR out' else blkG most F f out'
def mr(s:ByteArray)(most:Int):Except Int (List UInt8×Nat):=blkG most (8*s.size+1) (8*s.size+1) [] s 0
theorem cH:chk fixL=0:=by decide+kernel
theorem eM:chk fixD=0:=by decide+kernel
def gy(s:ByteArray)(most:Int):List UInt8×Nat×Int:=match mr s most with
 |.error e=>([],0,e)
 |.ok (a,q)=>(a,(q+7)/8,0)
def Keep(F:List Nat)(w:World)(Q:World→Prop):Prop:=∀w',But F w w'→Q w'
theorem But.join{F F':List Nat}{w w1 w2:World}(h:But F w w1)(k:But F' w1 w2)(hF:∀i∈F',i∈F∨w.heap.size≤i):But F w w2:=
 ⟨k.os.trans h.os,k.tape.trans h.tape,k.output.trans h.output,Nat.le_trans h.size k.size,fun i hi hn=>
  (k.block i (Nat.lt_of_lt_of_le hi h.size) (fun e=>by
   rcases hF i e with h1|h1
   ·exact hn h1
   ·omega)).trans (h.block i hi hn)⟩
theorem Keep.now{F:List Nat}{w:World}{Q:World→Prop}(h:Keep F w Q):Q w:=h w (But.refl _ _)
theorem Keep.step{F F':List Nat}{w w1:World}{Q:World→Prop}(h:Keep F w Q)(hB:But F w w1)(hF:∀i∈F',i∈F∨w.heap.size≤i):Keep F' w1 Q:=fun w' hw=>h w' (hB.join hw hF)
theorem NewT.keep{lo b:Nat}{w:World}{l:List Int}{F:List Nat}(h:NewT lo w b l)(hF:∀k∈F,k<lo):Keep F w fun w'=>TT w' b l:=fun _ hw=>(h.but hw hF).tt
section
theorem Dh(n:Nat)(h:n≤100000):Go.bits .and .u64 (n:Int) 4294967295=(n:Int):=by
 have h1:=u64_and_nat n 4294967295 (by omega) (by decide);have h2:n &&& 4294967295=n:=by
  have:=Nat.and_two_pow_sub_one_eq_mod n 32;rw[show(4294967295:Nat)=2^32-1 from rfl,this];exact Nat.mod_eq_of_lt (by omega)
 rw[h2]at h1;exact h1
theorem Bi(n:Nat)(h:n≤100000):IntKind.u64.wrap (n:Int)=(n:Int):=by
 rw[IntKind.wrap_u64];omega
theorem KE(n:Nat)(h:n≤100000)(w:World):
 Calls prog 236 #[.int .u64 1,.int .u64 n] w fun e w'=>e=.returned (.tuple #[.int .u64 0,.int .u64 n])∧w=w':=by
 have e1:=Dh n h;have e2:(n:Int)/4294967296=0:=by omega
 have e3:Go.bits .and .u64 1 4294967295=1:=Dh 1 (by omega);have e4:=Bi n h;have e5:Go.bits .and .u64 0 4294967295=0:=Dh 0 (by omega)
 go_enter func236,ntmps236
 go_wp2
 go_ret2
 exact⟨rfl,rfl⟩
theorem bQ(n:Nat)(h:n≤100000)(w:World):
 Calls prog 219 #[.int .u64 1,.int .u64 n] w fun e w'=>e=.returned (.tuple #[.int .u64 0,.int .u64 n])∧w=w':=by
 have e4:=Bi n h;have HM:=qhz (KE n h w);clear h
 go_enter func219,ntmps219
 go_wp2_with fail
 refine HM.out.mono ?_;rintro e w' ⟨rfl,rfl⟩;go_wp2
 go_ret2
 exact⟨rfl,rfl⟩
def Whole(w:World)(g:Nat)(l:List Int):Prop:=Is w g 3 (l.map (Value.int .i64)).toArray
theorem OwnI.whole{w:World}{base g n:Nat}{l:List Int}(h:OwnI w base (.slice g n n) l)(hl:l.length=n):Whole w g l∧base≤g:=by
 unfold OwnI at h;rcases h.2 with⟨e,_⟩|⟨g',cap,cur,e,hb,hh,h1,h2,h3,h4⟩
 ·cases e
 ·injection e with e1 e2 e3;injection e1 with e1;injection e1 with e1;subst e1 e3;refine⟨?_,hb⟩;unfold Whole Is;have:cur=(l.map (Value.int .i64)).toArray:=by
   apply Array.ext';rw[←h4,List.take_of_length_le (by rw[Array.length_toList,h3,hl];omega)]
  rw[←this];exact hh
theorem Whole.own{w:World}{base g n:Nat}{l:List Int}(h:Whole w g l)(hl:l.length=n)(hb:base≤g)(hn:n≤100000):OwnI w base (.slice g n n) l:=by
 unfold OwnI;refine⟨by simp,.inr ⟨g,n,(l.map (Value.int .i64)).toArray,by rw[hl],hb,h,by omega,by unfold maxLen;omega,by simp;omega,by rw[List.take_of_length_le (by simp)]⟩⟩
def nk(x:Int)(k n:Nat):List Value:=List.replicate k (.int .i64 x)++List.replicate (n-k) (.int .i64 0)
theorem qC(x:Int){k n:Nat}(h:k≤n):(nk x k n).length=n:=by unfold nk;simp;omega
theorem sb(x:Int)(k n m:Nat)(h:k+m≤n):splice (nk x k n) k (List.replicate m (Value.int .i64 x))=nk x (k+m) n:=by
 unfold splice nk;rw[List.take_append_of_le_length (by simp),List.take_of_length_le (by simp),List.length_replicate,List.drop_append];simp only[List.length_replicate,List.drop_replicate];rw[show k-(k+m)=0 from by omega,show n-k-(k+m-k)=n-(k+m)from by omega,List.replicate_zero,List.nil_append,←List.append_assoc,List.replicate_append_replicate]
theorem QU(x:Int){k n j:Nat}(h:j<k):(nk x k n)[j]? =some (.int .i64 x):=by
 unfold nk;rw[List.getElem?_append_left (by simp;exact h),List.getElem?_replicate,if_pos h]
def Fill(w:World)(g:Nat)(x:Int)(k n:Nat):Prop:=Is w g 3 (nk x k n).toArray
theorem GH{w:World}{g n:Nat}(x:Int)(h:Whole w g (List.replicate n 0)):Fill w g x 0 n:=by
 unfold Whole at h;unfold Fill nk;rw[List.map_replicate]at h;simpa using h
theorem ON{w:World}{g n:Nat}{x:Int}(h:Fill w g x n n):Whole w g (List.replicate n x):=by
 unfold Fill nk at h;unfold Whole;rw[List.map_replicate];simpa using h
theorem AQ{w w':World}(h:Below w.heap.size w w'):But [] w w':=⟨h.os,h.tape,h.output,h.size,fun k hk _=>h.block k hk⟩
theorem OM{w:World}{g k n m j:Nat}{x:Int}{v:Value}(h:Fill w g x k n)(hv:(List.replicate m (Value.int .i64 x))[j]? =some v)(hm:m≤k):w.drew.cell? ((⟨g,0,none⟩:Addr).add j)=some v:=by
 have hj:j<m:=by
  have:=(List.getElem?_eq_some_iff.1 hv).1;simpa using this
 rw[List.getElem?_replicate,if_pos hj]at hv;have e2:(⟨g,0,none⟩:Addr).add j=⟨g,j,none⟩:=by unfold Addr.add;split<;>simp_all
 rw[e2];have hc:w.cell? ⟨g,j,none⟩=(nk x k n).toArray[j]?:=h.cell j;show w.cell? _=_;rw[hc,List.getElem?_toArray,QU x (by omega)];exact hv
attribute [local irreducible] nk
theorem uY(x:Int){g c n:Nat}{w:World}(hg:w.cell? ⟨g,0,none⟩=some (.int .i64 x))(hn0:0<n)(hn:n≤100000):
 Calls prog 195 #[.slice (some ⟨g,0,none⟩) 1 c,n] w fun e w'=>∃gg cc,e=.returned (.slice (some ⟨gg,0,none⟩) n cc)∧OwnI w' w.heap.size (.slice (some ⟨gg,0,none⟩) n cc) (List.replicate n x)∧But [] w w':=by
 obtain⟨i0,hi0,hz0,hz1,hz2⟩:=info_parts cG;have e4:=Bi n hn;have e6:decide ((9223372036854775807:Int)<(n:Int))=false:=by simp;omega
 have HM:=qhz (bQ n hn w);have HG:=qhz hg;clear hg
 go_enter func195,ntmps195
 go_wp2_with fail
 refine HM.out.mono ?_;rintro e w' ⟨rfl,rfl⟩;have hsz:(prog.info? 3).map (·.size)=some 1:=by rw[hi0];simp[hz1]
 go_wp2_with (first
  |(at_make;refine wpList_make_full _ rfl _ _ 36 rfl w.heap.size 3 i0 _ 1 underlying36 hi0 hz0 hz1 _ _ _ _ n rfl rfl (by omega) (by omega) (by rw[hz2];omega) (by unfold maxLen;omega) (by simp) ?_;intro w1 hown hgrow;have HW:=qhz (GH x (OwnI.whole (OwnI.made hown) (by simp)).1);have HB:=qhz ((But.refl [] w).grown hgrow (fun g e=>by cases e));clear hown hgrow)
  |((with_reducible show wpList _ _ _ _ _ _);refine wpList_copy_splice (o:=⟨some 33,_,_,_,_,_⟩) rfl (.tmp 31) (.tmp 32) 36 36 rfl 3 underlying36 hsz _ _ _ _ _ _ rfl rfl w.heap.size 0 (nk x 0 n) 3 HW.out [.int .i64 x] ?c1 ?c2 ?c3 ?c4 w.heap.size w HB.out.belowNew (Nat.le_refl _) ?_))
 case c1=>show 1=min 1 n;omega
 case c2=>
  intro j v hv;rcases j with _|j
  ·obtain rfl:Value.int .i64 x=v:=by simpa using hv
   exact HB.out.cell HG.out (by simp)
  ·simp at hv
 case c3=>rw[qC x (by omega)];simp;omega
 case c4=>intro v hv;simp at hv;subst hv;rfl
 intro w2 hH hB2;have hH2:Hid (Fill w2 w.heap.size x 1 n):=by
  have h1:=hH.out;have h2:=sb x 0 n 1 (by omega);rw[show[Value.int .i64 x]=List.replicate 1 (Value.int .i64 x)from rfl,h2]at h1;exact h1
 have HB2:=qhz hB2;clear hH hB2 HW HB HM HG;go_wp2
 go_loopw [8] (fun kv wr=>∃k:Nat,1≤k∧k≤n∧kv=.int .i64 k∧Fill wr w.heap.size x k n∧Below w.heap.size w wr) (fun kv _=>n-(intOf kv).toNat)
 case atStart=>exact⟨1,Nat.le_refl _,hn0,rfl,hH2.out,HB2.out⟩
 case round=>
  obtain⟨k,hk1,hkn,rfl,hWr,hBr⟩:=hrel;clear hH2 HB2;have HWR:=qhz hWr;have HBR:=qhz hBr;clear hWr hBr
  by_cases hlt:k<n
  ·obtain⟨m,hm⟩:=E1 (min k (n-k));have hm1:1≤m:=by omega
   have hm2:k+m≤n:=by omega
   have HMM:=qhz hm;clear hm;have hnk:¬n=k:=by omega
   have hwr:IntKind.i64.wrap ((k:Int)+(m:Int))=((k+m:Nat):Int):=IntWalk.i64_in _ (by omega);have dnk:decide (n<k)=false:=by simp;omega
   go_wp2
   go_region_law ((refine step_copy_splice (by rfl) _ _ _ _ (by rfl) 3 underlying36 hsz (some ⟨w.heap.size,k,none⟩) (some ⟨w.heap.size,0,none⟩) (n-k) (n-k) k n ?e1 ?e2 w.heap.size k (nk x k n) 3 (show wr.drew.heap[w.heap.size]? =_ from HWR.out) (List.replicate m (.int .i64 x)) (show(List.replicate m (Value.int .i64 x)).length=min k (n-k)by rw[List.length_replicate];exact HMM.out) (fun _=>⟨rfl,(⟨w.heap.size,0,none⟩:Addr),rfl,fun j v hv=>OM HWR.out hv (by have:=HMM.out;omega)⟩) (by rw[qC x hkn,List.length_replicate];exact hm2) (fun v hv=>by rw[List.eq_of_mem_replicate hv];rfl) w.heap.size w (HBR.out.drew) (Nat.le_refl _) ?_);(case e1=>go_simp);(case e2=>go_simp);intro w3 hH hB3;have hH3:Hid (Fill w3 w.heap.size x (k+m) n):=(by have h1:=hH.out;rw[sb x k n m hm2]at h1;exact h1);have HB3:=qhz hB3;clear hH hB3)
   all_goals
    go_simp;go_wp2
    go_roundw
    case rel=>exact⟨k+m,by omega,hm2,by go_num,hH3.out,HB3.out⟩
    case measure=>simp[intOf];omega
  ·obtain rfl:k=n:=by omega
   go_wp2;go_ret;exact⟨w.heap.size,k,rfl,(ON HWR.out).own (by simp) (Nat.le_refl _) hn,AQ HBR.out⟩
theorem xp{w:World}{base:Nat}{v:Value}{l:List Int}(h:OwnI w base v l)(hl:0<l.length):∃A c,v=.slice (some A) l.length c∧Ints w (some A) l.length l:=by
 obtain⟨A,c,rfl,hI,_⟩:=h.open;obtain⟨g,o,rfl,_⟩:=hI.2 hl;exact⟨_,c,rfl,hI⟩
end
theorem dZ(w:World)(o:Obj):But [] w (w.alloc o):=(But.refl [] w).alloc o
section
structure GL(w:World):Prop where
 order:∀i,i<19→w.cell? ⟨2,i,none⟩=some (.int .i64 (ordS.getD i 0:Nat))
 bits:w.cell? ⟨3,0,none⟩=some (.int .i64 2)∧w.cell? ⟨3,1,none⟩=some (.int .i64 3)∧w.cell? ⟨3,2,none⟩=some (.int .i64 7)
 least:w.cell? ⟨4,0,none⟩=some (.int .i64 3)∧w.cell? ⟨4,1,none⟩=some (.int .i64 3)∧w.cell? ⟨4,2,none⟩=some (.int .i64 11)
theorem GL.but{w w':World}(h:GL w)(hB:But [] w w'):GL w':=
 ⟨fun i hi=>hB.cell (h.order i hi) (by simp),⟨hB.cell h.bits.1 (by simp),hB.cell h.bits.2.1 (by simp),hB.cell h.bits.2.2 (by simp)⟩,⟨hB.cell h.least.1 (by simp),hB.cell h.least.2.1 (by simp),hB.cell h.least.2.2 (by simp)⟩⟩
section
variable {w w':World} {b rb db:Nat} {og:Option Nat} {s:ByteArray} {p:Nat} {M:Int} {L:List UInt8} {fs fd:Option Nat}
theorem Ch{i:Nat}(h:i<19):ordS.getD i 0<19:=by
 have:∀i,i<19→ordS.getD i 0<19:=by decide
 exact this i h
def Row(w:World)(B:Nat)(t:TypeId)(l:List Int):Prop:=Is w B t (l.map (Value.int .i64)).toArray
theorem Row.ints{B:Nat}{t:TypeId}{l:List Int}(h:Row w B t l):Ints w (some ⟨B,0,none⟩) l.length l:=
 ⟨rfl,fun _=>⟨B,0,rfl,Is.lt h,fun i hi=>by
  have:=Is.cell h (0+i);rw[this,Nat.zero_add];simp[hi]⟩⟩
theorem Row.set{B:Nat}{t:TypeId}{l:List Int}(h:Row w B t l)(i:Nat)(x:Int):Row (w.setCell ⟨B,i,none⟩ (.int .i64 x)) B t (l.set i x):=by
 unfold Row at h⊢;have:=h.put i (.int .i64 x);rw[List.map_set];simpa using this
theorem Row.at{B:Nat}{t:TypeId}{l:List Int}(h:Row w B t l){i:Nat}(hi:i<l.length):w.cell? ⟨B,i,none⟩=some (.int .i64 (l.getD i 0)):=by
 have:=Is.cell h i;rw[this,List.getD_eq_getElem?_getD,List.getElem?_eq_getElem hi];simp[hi]
theorem Row.but{B:Nat}{t:TypeId}{l:List Int}{S:List Nat}(h:Row w B t l)(hB:But S w w')(hS:B∉S):Row w' B t l:=Is.but h hB hS
end
end
section
section
variable {w w':World} {b rb db:Nat} {og:Option Nat} {s:ByteArray} {p:Nat} {M:Int} {L:List UInt8} {fs fd:Option Nat}
theorem Ints.take{g n k:Nat}{l:List Int}(h:Ints w (some ⟨g,0,none⟩) n l)(hk:k≤n):Ints w (some ⟨g,0,none⟩) k (l.take k):=by
 have hl:=h.1;refine⟨by rw[List.length_take];omega,fun hp=>?_⟩;obtain⟨g',o,e,hg,hc⟩:=h.2 (by omega);refine⟨g',o,e,hg,fun i hi=>?_⟩;rw[List.length_take]at hi;rw[List.getElem_take];exact hc i (by omega)
end
end
def ct:Array Value:=#[.int .i64 16,.int .i64 17,.int .i64 18,.int .i64 0,.int .i64 8,.int .i64 7,.int .i64 9,.int .i64 6,.int .i64 10,.int .i64 5,.int .i64 11,.int .i64 4,.int .i64 12,.int .i64 3,.int .i64 13,.int .i64 2,.int .i64 14,.int .i64 1,.int .i64 15]
section
theorem yu(n:Nat):(Builtin.zeroCells #[Value.int .i64 0] n).size=n:=by simp[Builtin.zeroCells]
theorem Lh(w:World)(n cap:Nat)(hn:n≤cap)(hc:cap≤maxLen)(fz:Nat×Nat)(hfz:fz=(0,0)):
 (w.drew.alloc (.cells (Builtin.zeroCells #[Value.int .i64 0] n++Builtin.zeroCells #[Value.int .i64 0] (cap-n)) 3 fz)).ownsRow w.heap.size 3 1 (.slice w.heap.size 0 cap) 0 []:=by
 subst hfz;refine⟨rfl,.inr ⟨w.heap.size,cap,_,rfl,Nat.le_refl _,Is.fresh w.drew 3 _,Nat.zero_le _,hc,?_,?_⟩⟩
 ·rw[Array.size_append,yu,yu];omega
 ·simp
theorem OG{n:Nat}(w:World)(h0:0<n)(hn:n≤100000):
 Calls prog 194 #[.slice none 0 0,n] w fun e w'=>∃c,e=.returned (.slice w.heap.size 0 c)∧w'.ownsRow w.heap.size 3 1 (.slice w.heap.size 0 c) 0 []∧But [] w w':=by
 obtain⟨i0,hi0,hz0,hz1,hz2⟩:=info_parts cG;have hr:=fun ty=>Lib.run_append_nil_zeros (P:=prog) w 36 3 ty 3 i0 _ .i64 .i64 underlying36 underlying3 hi0 hz0 n h0 (by omega) (by omega) (by rw[hz2];omega);have hc:=grownCap_ge w n 0 3;have hc2:=grownCap_le_maxLen w n 0 3 (by unfold maxLen;omega);have hown:=Lh w n (grownCap w n 0 3) hc hc2 (0,0) rfl;have HR:=qhz hr;have HOWN:=qhz hown;obtain⟨G,hG⟩:=E1 (grownCap w n 0 3);have hc3:G≤9223372036854775807:=by unfold maxLen at hc2;omega
 have HGG:=qhz hG;clear hr hown hc hc2 hG
 go_enter func194,ntmps194
 go_wp2_with (at_builtin;refine Lib.wpList_append_run _ rfl _ _ _ _ rfl _ _ rfl rfl _ _ (HR.out _) ?_)
 go_ret;exact⟨_,rfl,HOWN.out.drew,((But.refl [] w).alloc _).drew⟩
def Bc(w:World)(g:Nat)(vs:List Value)(ls:List (List Int)):Prop:=
 vs.length=ls.length∧∀i,i<ls.length→w.cell? ⟨g,i,none⟩=some (vs.getD i (.pointer none))∧∃A c,vs.getD i (.pointer none)=.slice (some A) (ls.getD i []).length c∧Ints w (some A) (ls.getD i []).length (ls.getD i [])∧0<(ls.getD i []).length
theorem Ar(ls:List (List Int))(k:Nat)(h:k<ls.length):(ls.take (k+1)).flatten=(ls.take k).flatten++ls.getD k []:=by
 rw[List.take_succ_eq_append_getElem h,List.flatten_append,List.getD_eq_getElem?_getD,List.getElem?_eq_getElem h];simp
theorem Lo(ls:List (List Int))(k:Nat):(ls.take k).flatten.length≤ls.flatten.length:=by
 have h:ls.flatten=(ls.take k).flatten++(ls.drop k).flatten:=by rw[←List.flatten_append,List.take_append_drop]
 rw[h,List.length_append];omega
attribute [local irreducible] Bc
theorem qg{w:World}{g c:Nat}{vs:List Value}{ls:List (List Int)}(hH:Bc w g vs ls)(h0:0<ls.flatten.length)(hn:ls.flatten.length≤100000)(hl:ls.length≤1000):
 Calls prog 161 #[.slice (some ⟨g,0,none⟩) ls.length c] w fun e w'=>∃v,e=.returned v∧OwnI w' w.heap.size v ls.flatten∧But [] w w':=by
 obtain⟨i0,hi0,hz0,hz1,hz2⟩:=info_parts cG;have HH:=qhz hH;obtain⟨N,hN⟩:=E1 ls.length;rw[←hN]at hl⊢;have HN:=qhz hN;have h00:(ls.take 0).flatten.length=0:=by simp
 have H00:=qhz h00;have HT:=qhz hn;have HT0:=qhz h0;clear hH hN h00 h0 hn
 go_enter func161,ntmps161
 go_wp2
 go_loop [3,5,11] (fun sv _ iv=>∃(k m:Nat),k≤N∧iv=.int .i64 k∧sv=.int .i64 m∧Hid (m=(ls.take k).flatten.length)∧m≤100000) (fun _ _ iv=>N-(intOf iv).toNat)
 case atStart=>exact⟨0,0,Nat.zero_le _,rfl,rfl,by rfl,by omega⟩
 case round=>
  obtain⟨k,m,hk,rfl,rfl,HM,hm⟩:=hrel
  by_cases hlt:k<N
  ·have hh:=HH.out;unfold Bc at hh;obtain⟨hc,A,cc,hv,hI,hp⟩:=hh.2 k (by have:=HN.out;omega);rw[hv]at hc;have hf:=Ar ls k (by have:=HN.out;omega);have hle:=Lo ls (k+1);obtain⟨L,hL⟩:=E1 ((ls.getD k []).length);have hmL:m+L=(ls.take (k+1)).flatten.length:=by rw[hf,List.length_append,HM.out,hL]
   have hmb:m+L≤100000:=by have:=HT.out;omega
   rw[←hL]at hc;have HML:=qhz hmL;have b1:decide ((m:Int)+(L:Int)<0)=false:=by simp;omega
   clear hh hv hI hp hf hle hL hmL HM;go_wp2
   go_round
   case rel=>exact⟨k+1,m+L,by omega,by go_num,by go_num,HML.out,hmb⟩
   case measure=>simp[intOf];omega
  ·obtain rfl:k=N:=by omega
   have hall:m=ls.flatten.length:=by rw[HM.out,HN.out,List.take_length]
   have h0:0<m:=by have:=HT0.out;omega
   have hgr:=OG w h0 hm;have HGR:=qhz hgr;clear hgr hall HM
   go_wp2_with fail
   refine HGR.out.mono ?_;rintro e w1 ⟨cg,rfl,hown,hB1⟩;have HO:=qhz hown;have HB1:=qhz hB1;clear hown hB1 HGR;go_wp2
   go_loopw [6,8,27] (fun v _ iv wr=>∃j:Nat,j≤k∧iv=.int .i64 j∧OwnI wr w.heap.size v (ls.take j).flatten∧But [] w wr) (fun _ _ iv _=>k-(intOf iv).toNat)
   case atStart=>exact⟨0,Nat.zero_le _,rfl,by unfold OwnI;exact HO.out,HB1.out⟩
   case round=>
    obtain⟨j,hj,rfl,hOw,hBr⟩:=hrel;have HOW:=qhz hOw;have HBR:=qhz hBr;clear hOw hBr HO HB1
    by_cases hlt2:j<k
    ·have hh:=HH.out;unfold Bc at hh;obtain⟨hc,A,cc,hv,hI,hp⟩:=hh.2 j (by have:=HN.out;omega);rw[hv]at hc;have hc2:=HBR.out.cell hc (by simp);have hI2:=hI.but HBR.out (by simp);have hf:=Ar ls j (by have:=HN.out;omega);have hle:=Lo ls (j+1);rw[hf,List.length_append]at hle;obtain⟨X,hX⟩:=E1 (ls.getD j []);obtain⟨Y,hY⟩:=E1 ((ls.take j).flatten);rw[←hX]at hc2 hI2 hf hp hle;rw[←hY]at hf hle HOW;obtain⟨gA,oA,eA,_⟩:=hI2.2 hp;obtain rfl:A=⟨gA,oA,none⟩:=by injection eA
     have hnw:=hI2.news hp;have hsz:=HBR.out.size;obtain⟨LX,hLX⟩:=E1 X.length;obtain⟨LY,hLY⟩:=E1 Y.length;have hLL:LY+LX≤100000:=by have:=HT.out;omega
     rw[←hLX]at hc2;have HF:=qhz hf;have HNW:=qhz hnw;have HLX:=qhz hLX.symm;have HLY:=qhz hLY.symm;have ho:=HOW.out;unfold OwnI at ho;rw[←hLY]at ho;have HOX:=qhz ho;clear hh hc hv hI hp hI2 hf hle hX hY hnw eA HOW hLX hLY ho
     go_wp2_with (at_builtin;go_loud (refine wpList_append_own _ rfl _ _ 36 rfl w.heap.size 3 i0 (.int .i64 0) 1 8 underlying36 hi0 hz0 hz1 hz2 rfl (by decide) _ LY (Y.map (.int .i64)) rfl HOX.out ⟨gA,oA,none⟩ LX cc (X.map (.int .i64)) rfl (by simp;exact HLX.out) HNW.out ?c2 ?c3 ?c4 hsz ?_))
     case c2=>intro u hu;obtain⟨x,_,rfl⟩:=List.mem_map.1 hu;rfl
     case c3=>unfold maxLen;omega
     case c4=>omega
     intro v' w2 hown hgrow _;have hO2:OwnI w2 w.heap.size v' (Y++X):=by
      unfold OwnI;rw[List.length_append,HLX.out,HLY.out,List.map_append];exact hown
     have hB2:=HBR.out.grown hgrow (fun g e=>.inr (World.ownsRow.lt HOX.out g e).1);have HO2:=qhz hO2;have HB2:=qhz hB2;clear hown hgrow hO2 hB2;go_wp2
     go_roundw
     case rel=>exact⟨j+1,by omega,by go_num,by rw[HF.out];exact HO2.out,HB2.out⟩
     case measure=>simp[intOf];omega
    ·obtain rfl:j=k:=by omega
     have ho:=HOW.out;rw[HN.out,List.take_length]at ho;have HOX:=qhz ho;clear ho;go_wp2;go_ret;exact⟨_,rfl,HOX.out,HBR.out⟩
end
section
section
variable {w w':World} {b rb db:Nat} {og:Option Nat} {s:ByteArray} {p:Nat} {M:Int} {L:List UInt8} {fs fd:Option Nat}
theorem jB: [List.replicate 144 (8:Int),List.replicate 112 9,List.replicate 24 7,List.replicate 8 8].flatten=fixL:=by
 unfold fixL;simp
theorem PB{w:World}{A1 A2 A3 A4:Addr}{l1 l2 l3 l4:List Int}{n1 n2 n3 n4 c1 c2 c3 c4:Nat}{t:TypeId}(h1:Ints w (some A1) n1 l1)(h2:Ints w (some A2) n2 l2)(h3:Ints w (some A3) n3 l3)(h4:Ints w (some A4) n4 l4)
 (p1:0<n1) (p2:0<n2) (p3:0<n3) (p4:0<n4):
 Bc (w.alloc (.cells #[.slice (some A1) n1 c1,.slice (some A2) n2 c2,.slice (some A3) n3 c3,.slice (some A4) n4 c4] t)) w.heap.size [.slice (some A1) n1 c1,.slice (some A2) n2 c2,.slice (some A3) n3 c3,.slice (some A4) n4 c4] [l1,l2,l3,l4]:=by
 have hI:=Is.fresh w t #[.slice (some A1) n1 c1,.slice (some A2) n2 c2,.slice (some A3) n3 c3,.slice (some A4) n4 c4];have hB:=dZ w (.cells #[.slice (some A1) n1 c1,.slice (some A2) n2 c2,.slice (some A3) n3 c3,.slice (some A4) n4 c4] t);have q1:=h1.but hB (by simp);have q2:=h2.but hB (by simp);have q3:=h3.but hB (by simp);have q4:=h4.but hB (by simp);obtain rfl:=h1.1;obtain rfl:=h2.1;obtain rfl:=h3.1;obtain rfl:=h4.1;unfold Bc;refine⟨rfl,fun i hi=>?_⟩
 match i,hi with
 |0,_=>exact⟨hI.cell 0,A1,c1,rfl,q1,p1⟩
 |1,_=>exact⟨hI.cell 1,A2,c2,rfl,q2,p2⟩
 |2,_=>exact⟨hI.cell 2,A3,c3,rfl,q3,p3⟩
 |3,_=>exact⟨hI.cell 3,A4,c4,rfl,q4,p4⟩
end
end
end Go.Proofs.YtbanopnofpjnbaaGreatDoor
