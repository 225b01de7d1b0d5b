/- Own texts in one: ZlA, RwF, SbH, LcB, LcC, LcD, CkD, FiA, FiB, FiC, FiD, LcP, FiE, FiG, FiH, FiI, FiJ. -/
import Derived.Test.YtbanopnofpjnbaaGreatDoorU02
import Derived.Test.YtbanopnofpjnbaaGreatDoorU03
set_option maxRecDepth 1000000
set_option linter.unusedVariables false
set_option maxHeartbeats 4000000
namespace Go.Proofs.YtbanopnofpjnbaaGreatDoor
open Go Go.RowKit Tryz
theorem yf{W:World}{g cap:Nat}{L:List UInt8}(h:∀j (hj:j<L.length),W.cell? ⟨g,j,none⟩=some (.int .u8 (L[j].toNat:Int))):
 (convert 47 9 (.slice g L.length cap)).run prog W=.ok (.string (strL L)) W:=by
 refine run_convert_bytes_back W 47 9 5 ⟨g,0,none⟩ cap L underlying47 underlying5 underlying9 (fun j hj=>?_);have e2:(⟨g,0,none⟩:Addr).add j=⟨g,j,none⟩:=by unfold Addr.add;split<;>simp_all
 rw[e2];exact h j hj
theorem mc(W:World){n a b c d:Nat}(h1:a=n/16777216%256)(h2:b=n/65536%256)(h3:c=n/256%256)(h4:d=n%256):
 (convert 47 9 (.slice W.heap.size 4 4)).run prog (W.alloc (.cells #[.int .u8 a,.int .u8 b,.int .u8 c,.int .u8 d] 5))=.ok (.string (strL (br n))) (W.alloc (.cells #[.int .u8 a,.int .u8 b,.int .u8 c,.int .u8 d] 5)):=by
 refine yf (L:=br n) (cap:=4) fun j hj=>?_;have a1:=UInt8.toNat_ofNat' (n:=n/16777216);have a2:=UInt8.toNat_ofNat' (n:=n/65536);have a3:=UInt8.toNat_ofNat' (n:=n/256);have a4:=UInt8.toNat_ofNat' (n:=n);rw[World.cell?_alloc_mark];rw[az]at hj;unfold br
 match j,hj with
 |0,_=>show some (Value.int .u8 (a:Int))=some (Value.int .u8 ((UInt8.ofNat (n/16777216)).toNat:Int));rw[a1,h1]
 |1,_=>show some (Value.int .u8 (b:Int))=some (Value.int .u8 ((UInt8.ofNat (n/65536)).toNat:Int));rw[a2,h2]
 |2,_=>show some (Value.int .u8 (c:Int))=some (Value.int .u8 ((UInt8.ofNat (n/256)).toNat:Int));rw[a3,h3]
 |3,_=>show some (Value.int .u8 (d:Int))=some (Value.int .u8 ((UInt8.ofNat n).toNat:Int));rw[a4,h4]
theorem DY(w:World){s:ByteArray}(hs:s.size≤maxLen):
 Calls prog 72 #[s] w (R1z (.string (strL (br (eD s.data.toList)))) w):=by
 have HA:=qhz (Hv s w hs);have hlt:=pc s.data.toList;obtain⟨n,hn⟩:=E1 (eD s.data.toList);rw[←hn]at HA hlt⊢;obtain⟨a,ha⟩:=E1 (n/16777216%256);obtain⟨b,hb⟩:=E1 (n/65536%256);obtain⟨c,hc⟩:=E1 (n/256%256);obtain⟨d,hd⟩:=E1 (n%256);have b1:IntKind.u8.wrap ((n:Int)/16777216)=(a:Int):=by simp[IntKind.wrap_u8];omega
 have b2:IntKind.u8.wrap ((n:Int)/65536)=(b:Int):=by simp[IntKind.wrap_u8];omega
 have b3:IntKind.u8.wrap ((n:Int)/256)=(c:Int):=by simp[IntKind.wrap_u8];omega
 have b4:IntKind.u8.wrap (n:Int)=(d:Int):=by simp[IntKind.wrap_u8];omega
 have kc:=fun W:World=>mc W ha hb hc hd;have hB:=(But.refl [] w).alloc (.cells #[.int .u8 a,.int .u8 b,.int .u8 c,.int .u8 d] 5);have HB:=qhz hB;clear hs hn ha hb hc hd hB
 go_enter func72,ntmps72
 go_wp2_with fail
 refine HA.out.mono ?_;rintro e w1 ⟨rfl,rfl⟩;go_wp2;go_ret;exact⟨rfl,HB.out⟩
section
theorem bN(s:ByteArray){k:Nat}(h:k<s.size):s.data.toList.getD k 0=s[k]:=by
 have h2:k<s.data.toList.length:=by rw[Array.length_toList];exact h
 rw[gG h2];rfl
def cM(l:List UInt8):List Value:=l.map fun x=>.int .u8 (x.toNat:Int)
theorem yg{W:World}{g cap:Nat}{L:List UInt8}(h:∀j (hj:j<L.length),W.cell? ⟨g,j,none⟩=some (.int .u8 (L[j].toNat:Int))):
 (convert 47 9 (.slice g L.length cap)).run prog W=.ok (.string (strL L)) W:=by
 refine run_convert_bytes_back W 47 9 5 ⟨g,0,none⟩ cap L underlying47 underlying5 underlying9 (fun j hj=>?_);have e2:(⟨g,0,none⟩:Addr).add j=⟨g,j,none⟩:=by unfold Addr.add;split<;>simp_all
 rw[e2];exact h j hj
theorem l8:(prog.info? 5).map (fun i=>(i.zero,i.size,i.bytes))=some (some (.int .u8 0),1,1):=by kernel_rfl
def RowF(w:World)(g:Nat)(l:List UInt8):Prop:=∃(cs:Array Value) (fr:Nat×Nat),w.heap[g]? =some (.cells cs 5 fr)∧
 ∀i,i<l.length→cs[i]? =some (.int .u8 ((l.getD i 0).toNat:Nat))∧(decide (fr.1≤i)&&decide (i<fr.2))=false
section
variable {w w':World} {g:Nat} {l:List UInt8}
theorem RowF.lt(h:RowF w g l):g<w.heap.size:=by
 obtain⟨cs,fr,h1,_⟩:=h;exact(Array.getElem?_eq_some_iff.1 h1).1
theorem RowF.cell(h:RowF w g l){i:Nat}(hi:i<l.length):w.cell? ⟨g,i,none⟩=some (.int .u8 ((l.getD i 0).toNat:Nat)):=by
 obtain⟨cs,fr,h1,h2⟩:=h;have:=(h2 i hi).1;simp[World.cell?,h1,this]
theorem RowF.free(h:RowF w g l){i:Nat}(hi:i<l.length):w.frozen? ⟨g,i,none⟩=false:=by
 obtain⟨cs,fr,h1,h2⟩:=h;have:=(h2 i hi).2;simp only[World.frozen?,h1];exact this
theorem RowF.but(h:RowF w g l)(k:But [] w w'):RowF w' g l:=by
 have hl:=h.lt;obtain⟨cs,fr,h1,h2⟩:=h;exact⟨cs,fr,(k.block g hl (by simp)).trans h1,h2⟩
theorem RowF.put(h:RowF w g l)(i:Nat)(x:UInt8)(hi:i<l.length):RowF (w.setCell ⟨g,i,none⟩ (.int .u8 (x.toNat:Nat))) g (l.set i x):=by
 obtain⟨cs,fr,h1,h2⟩:=h;refine⟨cs.setIfInBounds i (.int .u8 (x.toNat:Nat)),fr,by simp[World.setCell,Array.getElem?_modify,h1],fun j hj=>?_⟩;rw[List.length_set]at hj;obtain⟨c1,c2⟩:=h2 j hj;refine⟨?_,c2⟩
 by_cases e:i=j
 ·subst e;have hs:i<cs.size:=(Array.getElem?_eq_some_iff.1 c1).1;rw[Array.getElem?_setIfInBounds_self,if_pos hs]
  congr 3
  rw[gG (by rw[List.length_set];exact hi),List.getElem_set_self]
 ·rw[Array.getElem?_setIfInBounds_ne e,c1]
  congr 3
  rw[List.getD_eq_getElem?_getD,List.getD_eq_getElem?_getD,List.getElem?_set_ne e]
theorem RowF.far(h:RowF w g l){p:Addr}(hp:g≠p.block)(u:Value):RowF (w.setCell p u) g l:=by
 obtain⟨cs,fr,h1,h2⟩:=h;exact⟨cs,fr,(Below.heap_setCell w p u g hp).trans h1,h2⟩
theorem RowF.text(h:RowF w g l)(cap:Nat):(convert 47 9 (.slice g l.length cap)).run prog w=.ok (.string (strL l)) w:=
 yg fun j hj=>by rw[h.cell hj,gG hj]
end
def BE(w:World)(s:ByteArray):World:=w.drew.alloc (.cells (bytesRow s (grownCap w s.size 0 5)) 5 ((bytesRow s (grownCap w s.size 0 5)).size,(bytesRow s (grownCap w s.size 0 5)).size+1))
theorem nY(w:World)(s:ByteArray):(convert 9 47 (.string s)).run prog w=.ok (.slice w.heap.size s.size (grownCap w s.size 0 5)) (BE w s):=
 run_bytes_of_string w 9 47 5 s underlying9 underlying47 underlying5
theorem od(w:World)(s:ByteArray):But [] w (BE w s):=((But.refl [] w).drew).alloc _
theorem ob(w:World)(s:ByteArray):RowF (BE w s) w.heap.size s.data.toList:=by
 refine⟨_,_,heap_alloc_new w.drew _,fun i hi=>?_⟩;rw[Array.length_toList]at hi;have hi2:i<s.size:=hi;have hsz:i<(s.data.map (fun b=>Value.int .u8 b.toNat)).size:=by rw[Array.size_map];exact hi
 have hb:i<(bytesRow s (grownCap w s.size 0 5)).size:=by unfold bytesRow;rw[Array.size_append];omega
 refine⟨?_,by simp;omega⟩;unfold bytesRow;rw[Array.getElem?_append_left hsz,bN s hi2];simp;exact⟨_,Array.getElem?_eq_getElem hi,rfl⟩
theorem iP(w:World)(n:Nat)(e:TypeId):n≤grownCap w n 0 e:=grownCap_ge w n 0 e
def cF(w:World)(n:Nat):World:=w.alloc (.cells (madeCells (Value.int .u8 0).cells n) 5)
theorem fT(w:World){n:Nat}(hn:n≤140737488355328):(Instr.makeSlice 47 (.int .i64 (n:Int)) (.int .i64 (n:Int))).run prog w=.ok (.slice w.heap.size n n) (cF w n):=by
 obtain⟨i0,hi0,hz0,hz1,hz2⟩:=info_parts l8;have h:=run_make (P:=prog) w 47 5 i0 (.int .u8 0) underlying47 hi0 hz0 .i64 .i64 (n:Int) (n:Int) (by omega) (by omega) (by rw[hz2];omega) (by omega);rw[hz1]at h;simpa[cF]using h
theorem dS(w:World)(n:Nat):But [] w (cF w n):=(But.refl [] w).alloc _
theorem lm(w:World)(n:Nat):RowF (cF w n) w.heap.size (List.replicate n 0):=by
 refine⟨_,_,heap_alloc_new w _,fun i hi=>?_⟩;rw[List.length_replicate]at hi;refine⟨?_,by simp⟩;rw[pZ];have e:(Value.int .u8 0).cells=#[.int .u8 0]:=rfl;unfold madeCells;rw[e];simp[hi,Nat.mod_one]
end
def wB(D:Nat)(x:Int):ByteArray:=strL (twoB (aZ x (D:Int)))
theorem ii{a b d c l:Int}(h:ak a b d c l=0):(1≤a∧a≤1024)∧(1≤b∧b≤1024)∧a*b≤4096∧(l=0∨l=1)∧bD d c=true:=by
 unfold ak at h
 by_cases h1:a<1∨2147483647<a∨b<1∨2147483647<b∨bD d c=false∨(l≠0∧l≠1)
 ·rw[if_pos h1]at h;exact absurd h (by decide)
 ·rw[if_neg h1]at h
  by_cases h2:1024<a∨1024<b∨4096<a*b
  ·rw[if_pos h2]at h;exact absurd h (by decide)
  ·have h3:bD d c=true:=by
    cases hd:bD d c
    ·exact absurd (Or.inr (Or.inr (Or.inr (Or.inr (Or.inl hd))))) h1
    ·rfl
   refine⟨⟨by omega,by omega⟩,⟨by omega,by omega⟩,by omega,by omega,h3⟩
def b6(p:bj):P6:=(p.x,p.y,p.dx,p.dy,0,0)
def p6(w h:Nat)(p:bj):P6:=(p.x,p.y,p.dx,p.dy,ay w p.x p.dx,ay h p.y p.dy)
def cy(a b d c l:Int):List P6:=if ak a b d c l=0 then(NP a.toNat b.toNat (decide (l=1))).map (p6 a.toNat b.toNat)else []
def gn(l:Int):List bj:=if decide (l=1)=true then fL else bM
theorem gm{l:Int}{p:bj}(hp:p∈gn l):(p.x≤7∧p.y≤7)∧(1≤p.dx∧p.dx≤8)∧1≤p.dy∧p.dy≤8:=by
 unfold gn at hp;cases hd:decide (l=1)
 ·rw[hd,if_neg (by decide)]at hp;rw[List.mem_singleton.1 hp];decide
 ·rw[hd,if_pos rfl]at hp;simp only[fL,List.mem_cons,List.not_mem_nil,or_false]at hp;rcases hp with rfl|rfl|rfl|rfl|rfl|rfl|rfl<;>decide
def rowA(a b d c l n:Int):Nat:=if ak a b d c l≠0∨n<1∨1024<n then 0 else((d*aW c*n+7)/8).toNat
theorem AG{d c:Int}(h:bD d c=true):∃D S:Nat,d=(D:Int)∧aW c=(S:Int)∧(1≤D∧D≤16)∧(1≤S∧S≤4)∧D*S≤64∧1≤D*S:=by
 have h2:=of_decide_eq_true h;have hd:1≤d∧d≤16:=by omega
 have hs:1≤aW c∧aW c≤4:=by
  unfold aW;have hc:c=0∨c=3∨c=2∨c=4∨c=6:=by omega
  rcases hc with rfl|rfl|rfl|rfl|rfl<;>decide
 refine⟨d.toNat,(aW c).toNat,by omega,by omega,by omega,by omega,?_,?_⟩
 ·show _≤16*4;exact Nat.mul_le_mul (by omega) (by omega)
 ·exact Nat.mul_pos (by omega) (by omega)
theorem JC{a b d c l:Int}{D S n:Nat}(h0:ak a b d c l=0)(hd:d=(D:Int))(hs:aW c=(S:Int))(h1:1≤n)(h2:n≤1024):rowA a b d c l (n:Int)=(D*S*n+7)/8:=by
 unfold rowA;rw[if_neg (by rw[h0];omega),hd,hs,←Int.natCast_mul,←Int.natCast_mul];omega
theorem JD(a b d c l n:Int):rowA a b d c l n≤8192:=by
 unfold rowA
 by_cases h:ak a b d c l≠0∨n<1∨1024<n
 ·rw[if_pos h];exact Nat.zero_le _
 ·rw[if_neg h];have h0:ak a b d c l=0:=by
   by_cases e:ak a b d c l=0
   ·exact e
   ·exact absurd (Or.inl e) h
  obtain⟨D,S,rfl,hs,_,_,hm,_⟩:=AG (ii h0).2.2.2.2;obtain⟨N,rfl⟩:∃N:Nat,n=(N:Int):=⟨n.toNat,by omega⟩
  rw[hs,←Int.natCast_mul,←Int.natCast_mul];have:D*S*N≤64*1024:=Nat.mul_le_mul hm (by omega);omega
def mR(a b d c l:Int)(L:List P6):Nat:=(L.map fun p=>p.2.2.2.2.2*(1+rowA a b d c l (p.2.2.2.2.1:Nat))).sum
def cJ(a b d c l:Int):Nat:=mR a b d c l (cy a b d c l)
theorem mY{a b d c l:Int}{p:P6}(hp:p∈cy a b d c l):(p.1≤7∧p.2.1≤7)∧(1≤p.2.2.1∧p.2.2.1≤8)∧(1≤p.2.2.2.1∧p.2.2.2.1≤8)∧(1≤p.2.2.2.2.1∧p.2.2.2.2.1≤1024)∧1≤p.2.2.2.2.2∧p.2.2.2.2.2≤1024:=by
 unfold cy at hp
 by_cases h:ak a b d c l=0
 ·rw[if_pos h]at hp;obtain⟨⟨a1,a2⟩,⟨b1,b2⟩,_⟩:=ii h;obtain⟨q,hq,rfl⟩:=List.mem_map.1 hp;have hok:=NO hq;have hb:q∈gn l:=(List.mem_filter.1 hq).1;have hs:=gm hb;unfold p6;dsimp only;exact⟨hs.1,hs.2.1,hs.2.2,⟨hok.2.1,Nat.le_trans (da _ _ _ hs.2.1.1) (by omega)⟩,hok.2.2,Nat.le_trans (da _ _ _ hs.2.2.1) (by omega)⟩
 ·rw[if_neg h]at hp;cases hp
theorem jk(a b d c l:Int):(cy a b d c l).length≤7:=by
 unfold cy;split
 ·rw[List.length_map];refine Nat.le_trans (List.length_filter_le _ _) ?_;split<;>decide
 ·exact Nat.zero_le _
theorem wJ{a b d c l:Int}{L:List P6}(hL:∀p,p∈L→p.2.2.2.2.2≤1024):mR a b d c l L≤L.length*8389632:=by
 induction L with
 |nil=>exact Nat.zero_le _
 |cons p L ih=>
  have h1:=ih fun q hq=>hL q (List.mem_cons_of_mem _ hq);have h2:p.2.2.2.2.2*(1+rowA a b d c l (p.2.2.2.2.1:Nat))≤1024*8193:=Nat.mul_le_mul (hL p (by simp)) (by have:=JD a b d c l (p.2.2.2.2.1:Nat);omega);have e:mR a b d c l (p::L)=p.2.2.2.2.2*(1+rowA a b d c l (p.2.2.2.2.1:Nat))+mR a b d c l L:=by unfold mR;rw[List.map_cons,List.sum_cons]
  rw[e,List.length_cons];omega
section
def OwnY(w:World)(base:Nat)(v:Value)(L:List UInt8):Prop:=w.ownsRow base 5 1 v L.length (ah L)
theorem OwnY.nil(w:World)(base:Nat):OwnY w base (.slice none 0 0) []:=World.ownsRow_nil _ _ _ _
theorem OwnY.but{w w':World}{base:Nat}{v:Value}{L:List UInt8}(h:OwnY w base v L)(hw:But [] w w'):OwnY w' base v L:=aU h hw (fun _ _=>by simp)
theorem OwnY.strd{w wr w':World}{v v':Value}{L:List UInt8}{s:ByteArray}(hB:But [] w wr)(hO:OwnY wr w.heap.size v L)
 (h1:w'.ownsRow w.heap.size 5 1 v' (L.length+s.size) (ah L++Lib.strCells s)) (hg:wr.grownBy w' v.ownBlock):
 OwnY w' w.heap.size v' (L++s.data.toList)∧But [] w w':=by
 refine⟨?_,hB.grown hg (fun g e=>.inr (World.ownsRow.lt hO g e).1)⟩;unfold OwnY;rw[List.length_append,dB,show s.data.toList.length=s.size from Array.length_toList];exact h1
theorem OwnY.shape{w:World}{base:Nat}{v:Value}{L:List UInt8}(h:OwnY w base v L):∃A c,v=.slice A L.length c:=by
 obtain⟨A,c,e,_⟩:=lg h;exact⟨A,c,e⟩
def Sl(L:List Ck):Nat:=(L.map fun c=>12+c.1.length+c.2.length).sum
def ml(L:List Ck):Nat:=(L.map fun c=>if aJ c.1=true then 16+c.2.length else 0).sum
theorem pC(c:Ck)(L:List Ck):ml (c::L)=(if aJ c.1=true then 16+c.2.length else 0)+ml L:=by unfold ml;rw[List.map_cons,List.sum_cons]
theorem wM:∀(L:List Ck) (i:Nat) (c:Ck),L[i]? =some c→aJ c.1=true→16+c.2.length≤ml L
 |[],i,c,h,_=>by simp at h
 |x::L,0,c,h,hr=>by
  have e:x=c:=by simpa using h
  rw[pC,e,if_pos hr];omega
 |x::L,i+1,c,h,hr=>by
  have:=wM L i c (by simpa using h) hr;rw[pC];omega
theorem LC:∀(L:List Ck),L.all okC=true→(encs L).length≤ml L
 |[],_=>Nat.le_refl _
 |c::L,h=>by
  rw[List.all_cons,Bool.and_eq_true]at h;have h1:=LC L h.2;have hr:=((m8 c).1 h.1).1;have h4:=jT hr;show(encC c++encs L).length≤_;rw[List.length_append,pC,if_pos hr];have:(encC c).length=8+c.1.length+c.2.length:=by
   unfold encC;simp only[List.length_append,az];omega
  omega
theorem qI(L:List Ck)(i:Nat)(h:(L.take i).all okC=true):(encs (L.take i)).length≤ml L:=by
 have h1:=LC (L.take i) h;have h2:ml (L.take i)≤ml L:=by
  have e:ml L=ml (L.take i)+ml (L.drop i):=by
   unfold ml;rw[←List.sum_append,←List.map_append,List.take_append_drop]
  omega
 omega
theorem lL{L:List Ck}{i:Nat}{c:Ck}(h:L[i]? =some c):L.take (i+1)=L.take i++[c]:=by
 rw[List.take_succ_eq_append_getElem (List.getElem?_eq_some_iff.1 h).1]
 congr 1
 rw[(List.getElem?_eq_some_iff.1 h).2]
def M8(r:List UInt8×Int):Ending:=.returned (.tuple #[strL r.1,r.2])
theorem Ex{L:List Ck}{i:Nat}{c:Ck}(h:L[i]? =some c)(hb:okC c=false):gj L=([],21):=by
 unfold gj;rw[if_neg];intro ha;have:=List.all_eq_true.1 ha c (List.mem_of_getElem? h);rw[hb]at this;exact Bool.noConfusion this
theorem IQ(a b:List UInt8):strL a++strL b=strL (a++b):=(fR a b).symm
attribute [local irreducible] strL bH ofL cR aJ br encC
theorem uX{t:List UInt8}(h:aJ t=true):t.length=4:=jT h
theorem PF(c:Ck):encC c=br c.2.length++(c.1++(c.2++br (cR (c.1++c.2)))):=by unfold encC;rfl
end
theorem J6(a b c:Nat):fx 1 a b c=a:=by unfold fx;rw[if_pos rfl]
theorem J5(a b c:Nat):fx 2 a b c=b:=by unfold fx;rw[if_neg (by decide),if_pos rfl]
theorem J4(a b c:Nat):fx 3 a b c=(a+b)/2:=by unfold fx;rw[if_neg (by decide),if_neg (by decide),if_pos rfl]
theorem J0(a b c:Nat):fx 4 a b c=if((b:Int)-c).natAbs≤((a:Int)-c).natAbs∧((b:Int)-c).natAbs≤((a:Int)+b-c-c).natAbs then a else if((a:Int)-c).natAbs≤((a:Int)+b-c-c).natAbs then b else c:=by
 unfold fx;rw[if_neg (by decide),if_neg (by decide),if_neg (by decide),if_pos rfl]
theorem vd{kind:Int}(h1:kind≠1)(h2:kind≠2)(h3:kind≠3)(h4:kind≠4)(a b c:Nat):fx kind a b c=0:=by
 unfold fx;rw[if_neg h1,if_neg h2,if_neg h3,if_neg h4]
theorem lR(kind:Int){a b c:Nat}(ha:a<256)(hb:b<256)(hc:c<256):fx kind a b c<256:=by
 unfold fx
 repeat' split
 all_goals omega
def bO(bpp:Int)(s t:ByteArray):Int:=if bpp<1∨8<bpp∨(t.size≠0∧t.size≠s.size)then 1 else 0
def aL(bpp kind:Int)(s t:ByteArray):Int:=if bO bpp s t≠0 then 1 else if kind<0∨4<kind then 28 else 0
theorem kJ(bpp:Int)(s t:ByteArray):bO bpp s t=0∨bO bpp s t=1:=by unfold bO;split<;>simp
theorem kK(bpp kind:Int)(s t:ByteArray):aL bpp kind s t=0∨aL bpp kind s t=1∨aL bpp kind s t=28:=by
 unfold aL
 repeat' split
 all_goals simp
theorem jK{bpp kind:Int}{s t:ByteArray}(h:aL bpp kind s t=0):(1≤bpp∧bpp≤8)∧(t.size=0∨t.size=s.size)∧0≤kind∧kind≤4:=by
 unfold aL at h
 by_cases h1:bO bpp s t≠0
 ·rw[if_pos h1]at h;exact absurd h (by decide)
 ·rw[if_neg h1]at h
  by_cases h2:kind<0∨4<kind
  ·rw[if_pos h2]at h;exact absurd h (by decide)
  ·unfold bO at h1
   by_cases h3:bpp<1∨8<bpp∨(t.size≠0∧t.size≠s.size)
   ·rw[if_pos h3]at h1;exact absurd h1 (by decide)
   ·omega
theorem AC{t:ByteArray}(h:t.size=0):t=ByteArray.empty:=by
 apply ByteArray.ext;apply Array.ext'
 have:t.data.toList.length=0:=by rw[Array.length_toList];exact h
 exact List.eq_nil_of_length_eq_zero this
theorem jE{t:ByteArray}(h:t.size=0):t.toList=[]:=by rw[ByteArray.toList_eq,AC h];rfl
theorem oN{t:ByteArray}(h:t.size≠0):(t.toList==[])=false:=by
 rw[ByteArray.toList_eq];have h2:t.data.toList≠[]:=fun e=>h (by show t.data.size=0;rw[←Array.length_toList,e];rfl);simpa using h2
def doA(bpp kind:Int)(s t:ByteArray):List UInt8:=if aL bpp kind s t=0 then doF kind bpp.toNat s.data.toList t.data.toList else []
theorem vN{n:Nat}{kind:Int}{s t:ByteArray}(h:aL (n:Int) kind s t=0):doA (n:Int) kind s t=doF kind n s.data.toList t.data.toList:=by unfold doA;rw[if_pos h];rfl
theorem CW{bpp kind:Int}{s t:ByteArray}(h:aL bpp kind s t≠0):doA bpp kind s t=[]:=by unfold doA;rw[if_neg h]
theorem lD{s:ByteArray}{k:Nat}(hk:k<s.size)(w:World):(Instr.index 9 (.string s) (.int .i64 (k:Int))).run prog w=.ok (.int .u8 (s[k].toNat:Nat)) w:=by
 simp[go_sem,underlying9,hk]
theorem fj(l:List UInt8)(n k:Nat):bU l n k<256:=by
 unfold bU;split
 ·omega
 ·exact UInt8.toNat_lt _
section
open Go.Shelf
attribute [local go_sem] Oper.semAt_some
def kY:List bj:=bM++fL
def GP(w:World):Prop:=∀i p,kY[i]? =some p→(w.cell? ⟨0,i*4,none⟩=some (.int .i64 (p.x:Nat))∧w.cell? ⟨0,i*4+1,none⟩=some (.int .i64 (p.y:Nat))∧w.cell? ⟨0,i*4+2,none⟩=some (.int .i64 (p.dx:Nat))∧w.cell? ⟨0,i*4+3,none⟩=some (.int .i64 (p.dy:Nat)))∧0<w.heap.size
theorem GP.but{w w':World}(h:GP w)(hB:But [] w w'):GP w':=fun i p hp=>by
 obtain⟨⟨h0,h1,h2,h3⟩,h4⟩:=h i p hp;exact⟨⟨hB.cell h0 (by simp),hB.cell h1 (by simp),hB.cell h2 (by simp),hB.cell h3 (by simp)⟩,Nat.lt_of_lt_of_le h4 hB.size⟩
end
def zw(bpp:Int)(s t:ByteArray):Nat:=if bO bpp s t=0 then kC bpp.toNat s.data.toList t.data.toList else 0
theorem rd{n:Nat}{s t:ByteArray}(h:bO (n:Int) s t=0):zw (n:Int) s t=kC n s.data.toList t.data.toList:=by unfold zw;rw[if_pos h];rfl
theorem zv{bpp:Int}{s t:ByteArray}(h:bO bpp s t≠0):zw bpp s t=0:=by unfold zw;rw[if_neg h]
theorem fM{bpp kind:Int}{s t:ByteArray}(h0:0≤kind)(h4:kind≤4):aL bpp kind s t=bO bpp s t:=by
 unfold aL;rcases kJ bpp s t with h|h
 ·rw[h,if_neg (by decide),if_neg (by omega)]
 ·rw[h,if_pos (by decide)]
theorem rG{bpp:Int}{s t:ByteArray}(h:bO bpp s t=0):1≤bpp∧bpp≤8∧(t.size=0∨t.size=s.size):=by
 have:=jK (bpp:=bpp) (kind:=0) (s:=s) (t:=t) (by rw[fM (by decide) (by decide)];exact h);exact⟨this.1.1,this.1.2,this.2.1⟩
def bstF(c:Nat→Nat):Nat→Nat×Nat
 |0=>(0,0)
 |k+1=>fJ c k
theorem uh(c:Nat→Nat)(k:Nat):bstF c (k+1)=if k=0∨c k<(bstF c k).2 then(k,c k)else bstF c k:=by
 cases k with
 |zero=>rw[if_pos (.inl rfl)];rfl
 |succ k=>
  show fJ c (k+1)=_;unfold fJ;show(if c (k+1)<(fJ c k).2 then _ else _)=if k+1=0∨c (k+1)<(fJ c k).2 then _ else fJ c k
  by_cases h:c (k+1)<(fJ c k).2
  ·rw[if_pos h,if_pos (.inr h)]
  ·rw[if_neg h,if_neg (by omega)]
theorem C7(c:Nat→Nat){B:Nat}(h:∀k,c k≤B):∀k,(bstF c k).2≤B∧(bstF c k).1≤k
 |0=>⟨Nat.zero_le _,Nat.zero_le _⟩
 |k+1=>by
  rw[uh];have:=C7 c h k;split
  ·exact⟨h k,by dsimp only;omega⟩
  ·exact⟨this.1,by omega⟩
theorem vT(X:List UInt8){i:Nat}(h:i<X.length):kG (X.take (i+1))=kG (X.take i)+farB (X.getD i 0):=by
 rw[List.take_succ_eq_append_getElem h,←gG h,Hc]
theorem oV(X:List UInt8)(i:Nat){B:Nat}(h:X.length≤B):kG (X.take i)≤128*B:=by
 have h1:=EJ (X.take i);have h2:(X.take i).length≤X.length:=by rw[List.length_take];exact Nat.min_le_right _ _
 have:128*(X.take i).length≤128*B:=Nat.mul_le_mul_left _ (Nat.le_trans h2 h);omega
theorem jX(w:World)(a b:Int)(ha: -100000≤a∧a≤100000)(hb: -100000≤b∧b≤100000):
 Calls prog 190 #[a,b] w fun e w'=>e=.returned (.int .i64 ((a-b).natAbs:Nat))∧w=w':=by
 obtain⟨a1,a2⟩:=ha;obtain⟨b1,b2⟩:=hb
 go_enter func190,ntmps190
 go_wp2
 all_goals
  go_ret;refine⟨?_,rfl⟩;exact congrArg (fun x=>Ending.returned (.int .i64 x)) (by omega)
theorem JW(w:World)(b:Nat)(hb:b<256):
 Calls prog 107 #[.int .u8 (b:Int)] w fun e w'=>e=.returned (.int .i64 (farB (UInt8.ofNat b):Nat))∧w=w':=by
 have HR:Hid (farB (UInt8.ofNat b)=if 128<b then 256-b else b):=qhz (by
  unfold farB;have e:(UInt8.ofNat b).toNat=b:=by rw[UInt8.toNat_ofNat'];omega
  rw[e])
 rw[HR.out];clear HR
 go_enter func107,ntmps107
 go_wp2
 all_goals
  go_ret;refine⟨?_,rfl⟩;refine congrArg (fun x=>Ending.returned (.int .i64 x)) ?_
  first|omega|(split<;>omega)
theorem zp(w:World){a b c:Nat}(ha:a<256)(hb:b<256)(hc:c<256):
 Calls prog 154 #[a,b,c] w fun e w'=>e=.returned (.int .i64 (fx 4 a b c:Nat))∧w=w':=by
 rw[J0];obtain⟨p,hp⟩:∃p,(a:Int)+b-c=p:=⟨_,rfl⟩
 obtain⟨x,hx⟩:=E1 (((b:Int)-c).natAbs);obtain⟨y,hy⟩:=E1 (((a:Int)-c).natAbs);obtain⟨z,hz⟩:=E1 (((a:Int)+b-c-c).natAbs);have H1:Hid (∀v,Calls prog 190 #[.int .i64 p,a] v fun e w'=>e=.returned (.int .i64 (x:Nat))∧v=w'):=qhz fun v=>by
  rw[hx,show(b:Int)-c=p-a by omega];exact jX v _ _ (by omega) (by omega)
 have H2:Hid (∀v,Calls prog 190 #[.int .i64 p,b] v fun e w'=>e=.returned (.int .i64 (y:Nat))∧v=w'):=qhz fun v=>by
  rw[hy,show(a:Int)-c=p-b by omega];exact jX v _ _ (by omega) (by omega)
 have H3:Hid (∀v,Calls prog 190 #[.int .i64 p,c] v fun e w'=>e=.returned (.int .i64 (z:Nat))∧v=w'):=qhz fun v=>by
  rw[hz,hp];exact jX v _ _ (by omega) (by omega)
 rw[←hx,←hy,←hz];have hpb: -1000≤p∧p≤1000:=by omega
 obtain⟨p0,p1⟩:=hpb;clear hx hy hz;have HR:=qhz (rfl:(if x≤y∧x≤z then a else if y≤z then b else c)=(if x≤y∧x≤z then a else if y≤z then b else c))
 by_cases c1:x≤y
 ·by_cases c2:x≤z
  ·go_enter func154,ntmps154
   go_wp2_with fail
   refine(H1.out _).mono ?_;rintro e w1 ⟨rfl,rfl⟩
   go_wp2_with fail
   refine(H2.out _).mono ?_;rintro e w1 ⟨rfl,rfl⟩
   go_wp2_with fail
   refine(H3.out _).mono ?_;rintro e w1 ⟨rfl,rfl⟩
   go_wp2_with fail
   go_ret
   first|exact⟨rfl,rfl⟩|exact⟨by rw[if_pos ⟨c1,c2⟩];rfl,rfl⟩
  ·have c3:¬y≤z:=fun h=>c2 (Nat.le_trans c1 h)
   go_enter func154,ntmps154
   go_wp2_with fail
   refine(H1.out _).mono ?_;rintro e w1 ⟨rfl,rfl⟩
   go_wp2_with fail
   refine(H2.out _).mono ?_;rintro e w1 ⟨rfl,rfl⟩
   go_wp2_with fail
   refine(H3.out _).mono ?_;rintro e w1 ⟨rfl,rfl⟩
   go_wp2_with fail
   go_ret
   first|exact⟨rfl,rfl⟩|exact⟨by rw[if_neg (by omega),if_neg (by omega)];rfl,rfl⟩
 ·by_cases c3:y≤z
  ·go_enter func154,ntmps154
   go_wp2_with fail
   refine(H1.out _).mono ?_;rintro e w1 ⟨rfl,rfl⟩
   go_wp2_with fail
   refine(H2.out _).mono ?_;rintro e w1 ⟨rfl,rfl⟩
   go_wp2_with fail
   refine(H3.out _).mono ?_;rintro e w1 ⟨rfl,rfl⟩
   go_wp2_with fail
   go_ret
   first|exact⟨rfl,rfl⟩|exact⟨by rw[if_neg (by omega),if_pos (by omega)];rfl,rfl⟩
  ·go_enter func154,ntmps154
   go_wp2_with fail
   refine(H1.out _).mono ?_;rintro e w1 ⟨rfl,rfl⟩
   go_wp2_with fail
   refine(H2.out _).mono ?_;rintro e w1 ⟨rfl,rfl⟩
   go_wp2_with fail
   refine(H3.out _).mono ?_;rintro e w1 ⟨rfl,rfl⟩
   go_wp2_with fail
   go_ret
   first|exact⟨rfl,rfl⟩|exact⟨by rw[if_neg (by omega),if_neg (by omega)];rfl,rfl⟩
theorem Km(w:World)(bpp:Int)(s t:ByteArray)(hs:s.size≤140737488355328)(ht:t.size≤140737488355328):
 Calls prog 105 #[bpp,s,t] w fun e w'=>e=.returned (.bool (decide (bO bpp s t=0)))∧w=w':=by
 obtain⟨r,hr⟩:=E1 (decide (bO bpp s t=0));rw[←hr];have HR:=qhz hr;clear hr
 by_cases hz:t.size=0
 ·have e1:(t.toList==[])=true:=by rw[jE hz];rfl
  have HZ:=qhz hz
  go_enter func105,ntmps105
  go_wp2
  all_goals
   go_ret;refine⟨?_,rfl⟩;rw[HR.out];have hz:=HZ.out;clear HR HZ e1;unfold bO
   simp_all
   try omega
   try (by_cases hq:t.size=s.size<;>simp[hq];try omega)
 ·have e1:=oN hz;have HZ:=qhz hz
  go_enter func105,ntmps105
  go_wp2
  all_goals
   go_ret;refine⟨?_,rfl⟩;rw[HR.out];have hz:=HZ.out;clear HR HZ e1;unfold bO
   simp_all
   try omega
   try (by_cases hq:t.size=s.size<;>simp[hq];try omega)
theorem sR(w:World)(bpp kind:Int)(s t:ByteArray)(hs:s.size≤140737488355328)(ht:t.size≤140737488355328):
 Calls prog 108 #[bpp,kind,s,t] w fun e w'=>e=.returned (.int .i64 (aL bpp kind s t))∧w=w':=by
 have hF:=fun v=>Km v bpp s t hs ht;obtain⟨r,hr⟩:=E1 (aL bpp kind s t);rw[←hr];have HR:=qhz hr;clear hr
 by_cases h0:bO bpp s t=0
 ·rw[decide_eq_true h0]at hF;have HF:=qhz hF;have HZ:=qhz h0;clear hF h0
  go_enter func108,ntmps108
  go_wp2_with (refine(HF.out _).mono ?_;rintro e w1 ⟨rfl,rfl⟩)
  all_goals
   go_ret;refine⟨?_,rfl⟩;rw[HR.out];unfold aL;rw[HZ.out,if_neg (by decide)];clear HR HZ HF;refine congrArg (fun x=>Ending.returned (.int .i64 x)) ?_;split<;>first|rfl|(exfalso;simp_all;omega)|(exfalso;omega)
 ·rw[decide_eq_false h0]at hF;have HF:=qhz hF;have HZ:=qhz h0;clear hF h0
  go_enter func108,ntmps108
  go_wp2_with (refine(HF.out _).mono ?_;rintro e w1 ⟨rfl,rfl⟩)
  all_goals
   go_ret;refine⟨?_,rfl⟩;rw[HR.out];unfold aL;rw[if_pos HZ.out];rfl
def preV(a b c:Nat):Value:=.agg #[.int .u8 0,.int .u8 (a:Nat),.int .u8 (b:Nat),.int .u8 ((a+b)/2:Nat),.int .u8 (fx 4 a b c:Nat)]
theorem Qq{a b c d p:Nat}(hd:d=(a+b)/2)(hp:p=fx 4 a b c):preV a b c=.agg #[.int .u8 0,.int .u8 (a:Nat),.int .u8 (b:Nat),.int .u8 (d:Nat),.int .u8 (p:Nat)]:=by unfold preV;rw[hd,hp]
theorem xg{w W:World}{b0:Nat}{tmps:Array Value}(hI:Is W b0 131 #[.int .u8 0,.int .u8 0,.int .u8 0,.int .u8 0,.int .u8 0])(hB:But [] w W)(hb:b0=w.heap.size)(ht:tmps[8]? =some (.pointer b0))(a b d p:Int):
 bodyPost prog Tryz.f106 (R1z (.agg #[.int .u8 0,.int .u8 a,.int .u8 b,.int .u8 d,.int .u8 p]) w) Exit.ret {tmps:=tmps,defers:=[]}
  (((((W.setCell ⟨b0,0,none⟩ (.int .u8 0)).setCell ⟨b0,1,none⟩ (.int .u8 a)).setCell ⟨b0,2,none⟩ (.int .u8 b)).setCell ⟨b0,3,none⟩ (.int .u8 d)).setCell ⟨b0,4,none⟩ (.int .u8 p)):=by
 have h0:=hI.put 0 (.int .u8 0);have h1:=h0.put 1 (.int .u8 a);have h2:=h1.put 2 (.int .u8 b);have h3:=h2.put 3 (.int .u8 d);have h4:=h3.put 4 (.int .u8 p);have k0:=hB.setCell (p:=⟨b0,0,none⟩) (.inr (by rw[hb];exact Nat.le_refl _)) (.int .u8 0);have k1:=k0.setCell (p:=⟨b0,1,none⟩) (.inr (by rw[hb];exact Nat.le_refl _)) (.int .u8 a);have k2:=k1.setCell (p:=⟨b0,2,none⟩) (.inr (by rw[hb];exact Nat.le_refl _)) (.int .u8 b);have k3:=k2.setCell (p:=⟨b0,3,none⟩) (.inr (by rw[hb];exact Nat.le_refl _)) (.int .u8 d);have k4:=k3.setCell (p:=⟨b0,4,none⟩) (.inr (by rw[hb];exact Nat.le_refl _)) (.int .u8 p);obtain⟨V,hV⟩:=E1 ((((((W.setCell ⟨b0,0,none⟩ (.int .u8 0)).setCell ⟨b0,1,none⟩ (.int .u8 a)).setCell ⟨b0,2,none⟩ (.int .u8 b)).setCell ⟨b0,3,none⟩ (.int .u8 d)).setCell ⟨b0,4,none⟩ (.int .u8 p)));rw[←hV]at h4 k4⊢;clear h0 h1 h2 h3 k0 k1 k2 k3 hV;obtain⟨e0,e1,e2,e3,e4,_⟩:=h4.c5;refine bodyPost_ret (v:=.agg #[.int .u8 0,.int .u8 a,.int .u8 b,.int .u8 d,.int .u8 p]) ?_ rfl ⟨rfl,k4⟩;simp[results,results106,go_sem,e0,e1,e2,e3,e4,ht]
theorem xj(w:World){n k g m cap:Nat}{L:List UInt8}{t:ByteArray}(hn1:1≤n)(hn8:n≤8)(hk:k<m)(hm:m≤140737488351232)(hcap:m≤cap)(hg:g<w.heap.size)
 (hc:∀i,i<k→w.cell? ⟨g,i,none⟩=some (.int .u8 ((L.getD i 0).toNat:Nat))) (ht:t.size=0∨t.size=m):
 Calls prog 106 #[n,k,.slice g m cap,t] w (R1z (preV (bU L n k) (t.data.toList.getD k 0).toNat (bU t.data.toList n k)) w):=by
 obtain⟨qa,hqa⟩:=E1 (bU L n k);obtain⟨qb,hqb⟩:=E1 ((t.data.toList.getD k 0).toNat);obtain⟨qc,hqc⟩:=E1 (bU t.data.toList n k);have la:qa<256:=by rw[hqa];exact fj _ _ _
 have lb:qb<256:=by rw[hqb];exact UInt8.toNat_lt _
 have lc:qc<256:=by rw[hqc];exact fj _ _ _
 obtain⟨p,hp⟩:=E1 (fx 4 qa qb qc);have hp256:p<256:=by rw[hp];exact lR 4 la lb lc
 have HP:Hid (∀v,Calls prog 154 #[qa,qb,qc] v fun e w'=>e=.returned (.int .i64 (p:Nat))∧v=w'):=qhz fun v=>by
  rw[hp];exact zp v la lb lc
 obtain⟨d,hd⟩:=E1 ((qa+qb)/2);have hd256:d<256:=by omega
 rw[←hqa,←hqb,←hqc,Qq hd hp];have hsz:=qhz hg;have ha0:k<n→qa=0∧qc=0:=fun h=>by rw[hqa,hqc];unfold bU;rw[if_pos h,if_pos h];exact⟨rfl,rfl⟩
 have hb0:t.size=0→qb=0∧qc=0:=fun h=>by
  have e:t.data.toList=[]:=by rw[AC h];rfl
  rw[hqb,hqc,e];refine⟨rfl,?_⟩;unfold bU;split<;>rfl
 have hcell:n≤k→w.cell? ⟨g,k-n,none⟩=some (.int .u8 (qa:Nat)):=fun h=>by
  rw[hc _ (by omega),hqa];unfold bU;rw[if_neg (by omega)]
 have hqb1:∀(h:k<t.size),qb=t[k].toNat:=fun h=>by rw[hqb,bN t h]
 have hqc1:n≤k→∀(h:k-n<t.size),qc=t[k-n].toNat:=fun h0 h=>by
  rw[hqc];unfold bU;rw[if_neg (by omega),bN t h]
 have HD:=qhz hd;clear hc hqa hqb hqc hp hd hg;have HA0:=qhz ha0;have HB0:=qhz hb0;have HCE:=qhz hcell;have HQB:=qhz hqb1;have HQC:=qhz hqc1;have HT:=qhz ht;clear ha0 hb0 hcell hqb1 hqc1 ht
 by_cases hkn:k<n
 ·by_cases hz:t.size=0
  ·obtain⟨rfl,rfl⟩:=HA0.out hkn;obtain⟨rfl,_⟩:=HB0.out hz;have e1:(t.toList==[])=true:=by rw[jE hz];rfl
   have e2:=jE hz;have HZ:=qhz hz;clear hz;have hdd:=HD.out;obtain rfl:d=0:=by omega
   clear hdd;have HP2:Hid (∀v,Calls prog 154 #[(0:Int),(0:Int),(0:Int)] v fun e w'=>e=.returned (.int .i64 (p:Nat))∧v=w'):=HP;clear HP
   go_enter func106,ntmps106
   go_upto_region 1 with(fail)
   obtain⟨w0,hw0⟩:=E1 (w.alloc (.cells #[.int .u8 0,.int .u8 0,.int .u8 0,.int .u8 0,.int .u8 0] 131));have hB0:But [] w w0:=by rw[hw0];exact(But.refl [] w).alloc _
   have hI0:Is w0 w.heap.size 131 #[.int .u8 0,.int .u8 0,.int .u8 0,.int .u8 0,.int .u8 0]:=by rw[hw0];exact Is.fresh _ _ _
   rw[←hw0];obtain⟨b0,hb0⟩:=E1 w.heap.size;rw[←hb0]at hI0⊢;have HBZ:=qhz hb0;have HB0W:=qhz hB0;have HI0:=qhz hI0;obtain⟨z0,z1,z2,z3,z4,_⟩:=hI0.c5;obtain⟨f0,f1,f2,f3,f4⟩:=hI0.f5;clear hw0 hB0 hb0 hI0 HCE
   go_wp2_with (refine(HP2.out _).mono ?_;rintro e wz ⟨rfl,rfl⟩)
   exact xg HI0.out HB0W.out HBZ.out rfl (0) (0) (0) (p:Int)
  ·obtain⟨rfl,rfl⟩:=HA0.out hkn;have e1:=oN hz;have hts:t.size=m:=by rcases HT.out with h|h;exact absurd h hz;exact h
   have hkt:k<t.size:=by omega
   have kx:∀w,(Instr.index 9 (.string t) (.int .i64 (k:Int))).run prog w=.ok (.int .u8 (qb:Int)) w:=fun w=>by rw[HQB.out hkt];exact lD hkt w
   have HTS:=qhz hts;have HZ:=qhz hz;clear hts;clear hz;have hdd:=HD.out;have d1:(qb:Int)/2=(d:Int):=by omega
   have d2:(qb:Int).tdiv 2=(d:Int):=by rw[Int.tdiv_eq_ediv_of_nonneg (by omega)];omega
   clear hdd;have HP2:Hid (∀v,Calls prog 154 #[(0:Int),qb,(0:Int)] v fun e w'=>e=.returned (.int .i64 (p:Nat))∧v=w'):=HP;clear HP
   go_enter func106,ntmps106
   go_upto_region 1 with(fail)
   obtain⟨w0,hw0⟩:=E1 (w.alloc (.cells #[.int .u8 0,.int .u8 0,.int .u8 0,.int .u8 0,.int .u8 0] 131));have hB0:But [] w w0:=by rw[hw0];exact(But.refl [] w).alloc _
   have hI0:Is w0 w.heap.size 131 #[.int .u8 0,.int .u8 0,.int .u8 0,.int .u8 0,.int .u8 0]:=by rw[hw0];exact Is.fresh _ _ _
   rw[←hw0];obtain⟨b0,hb0⟩:=E1 w.heap.size;rw[←hb0]at hI0⊢;have HBZ:=qhz hb0;have HB0W:=qhz hB0;have HI0:=qhz hI0;obtain⟨z0,z1,z2,z3,z4,_⟩:=hI0.c5;obtain⟨f0,f1,f2,f3,f4⟩:=hI0.f5;clear hw0 hB0 hb0 hI0 HCE
   go_wp2_with (refine(HP2.out _).mono ?_;rintro e wz ⟨rfl,rfl⟩)
   exact xg HI0.out HB0W.out HBZ.out rfl (0) ((qb:Int)) ((d:Int)) (p:Int)
 ·by_cases hz:t.size=0
  ·obtain⟨rfl,rfl⟩:=HB0.out hz;have e1:(t.toList==[])=true:=by rw[jE hz];rfl
   have e2:=jE hz;have HZ:=qhz hz;obtain⟨i,hi⟩:=E1 (k-n);have ei:(k:Int)-(n:Int)=(i:Int):=by omega
   have i1:(0:Int)≤(i:Int):=by omega
   have i2:(i:Int)<(m:Int):=by omega
   have hcell:=HCE.out (by omega);rw[←hi]at hcell;have HI:=qhz hi;clear hi;clear hz;have hdd:=HD.out;have d1:(qa:Int)/2=(d:Int):=by omega
   have d2:(qa:Int).tdiv 2=(d:Int):=by rw[Int.tdiv_eq_ediv_of_nonneg (by omega)];omega
   clear hdd;have HP2:Hid (∀v,Calls prog 154 #[qa,(0:Int),(0:Int)] v fun e w'=>e=.returned (.int .i64 (p:Nat))∧v=w'):=HP;clear HP
   go_enter func106,ntmps106
   go_upto_region 1 with(fail)
   obtain⟨w0,hw0⟩:=E1 (w.alloc (.cells #[.int .u8 0,.int .u8 0,.int .u8 0,.int .u8 0,.int .u8 0] 131));have hB0:But [] w w0:=by rw[hw0];exact(But.refl [] w).alloc _
   have hI0:Is w0 w.heap.size 131 #[.int .u8 0,.int .u8 0,.int .u8 0,.int .u8 0,.int .u8 0]:=by rw[hw0];exact Is.fresh _ _ _
   rw[←hw0];obtain⟨b0,hb0⟩:=E1 w.heap.size;rw[←hb0]at hI0⊢;have hcell:=hB0.cell hcell (by simp);have HBZ:=qhz hb0;have HB0W:=qhz hB0;have HI0:=qhz hI0;obtain⟨z0,z1,z2,z3,z4,_⟩:=hI0.c5;obtain⟨f0,f1,f2,f3,f4⟩:=hI0.f5;clear hw0 hB0 hb0 hI0 HCE
   go_wp2_with (refine(HP2.out _).mono ?_;rintro e wz ⟨rfl,rfl⟩)
   exact xg HI0.out HB0W.out HBZ.out rfl ((qa:Int)) (0) ((d:Int)) (p:Int)
  ·have e1:=oN hz;have hts:t.size=m:=by rcases HT.out with h|h;exact absurd h hz;exact h
   have hkt:k<t.size:=by omega
   have kx:∀w,(Instr.index 9 (.string t) (.int .i64 (k:Int))).run prog w=.ok (.int .u8 (qb:Int)) w:=fun w=>by rw[HQB.out hkt];exact lD hkt w
   have HTS:=qhz hts;have HZ:=qhz hz;obtain⟨i,hi⟩:=E1 (k-n);have ei:(k:Int)-(n:Int)=(i:Int):=by omega
   have i1:(0:Int)≤(i:Int):=by omega
   have i2:(i:Int)<(m:Int):=by omega
   have hcell:=HCE.out (by omega);rw[←hi]at hcell;have hit:i<t.size:=by omega
   have kx2:∀w,(Instr.index 9 (.string t) (.int .i64 (i:Int))).run prog w=.ok (.int .u8 (qc:Int)) w:=fun w=>by
    have h:=HQC.out (by omega) (by rw[←hi];exact hit);have h2:=lD hit w;simp only[hi]at h h2⊢;rw[h];exact h2
   have HI:=qhz hi;clear hi;clear hts;clear hz;have hdd:=HD.out;have d1:((qa:Int)+(qb:Int))/2=(d:Int):=by omega
   have d2:((qa:Int)+(qb:Int)).tdiv 2=(d:Int):=by rw[Int.tdiv_eq_ediv_of_nonneg (by omega)];omega
   clear hdd;have HP2:Hid (∀v,Calls prog 154 #[qa,qb,qc] v fun e w'=>e=.returned (.int .i64 (p:Nat))∧v=w'):=HP;clear HP
   go_enter func106,ntmps106
   go_upto_region 1 with(fail)
   obtain⟨w0,hw0⟩:=E1 (w.alloc (.cells #[.int .u8 0,.int .u8 0,.int .u8 0,.int .u8 0,.int .u8 0] 131));have hB0:But [] w w0:=by rw[hw0];exact(But.refl [] w).alloc _
   have hI0:Is w0 w.heap.size 131 #[.int .u8 0,.int .u8 0,.int .u8 0,.int .u8 0,.int .u8 0]:=by rw[hw0];exact Is.fresh _ _ _
   rw[←hw0];obtain⟨b0,hb0⟩:=E1 w.heap.size;rw[←hb0]at hI0⊢;have hcell:=hB0.cell hcell (by simp);have HBZ:=qhz hb0;have HB0W:=qhz hB0;have HI0:=qhz hI0;obtain⟨z0,z1,z2,z3,z4,_⟩:=hI0.c5;obtain⟨f0,f1,f2,f3,f4⟩:=hI0.f5;clear hw0 hB0 hb0 hI0 HCE
   go_wp2_with (refine(HP2.out _).mono ?_;rintro e wz ⟨rfl,rfl⟩)
   exact xg HI0.out HB0W.out HBZ.out rfl ((qa:Int)) ((qb:Int)) ((d:Int)) (p:Int)
theorem sN{a b c:Nat}{kind:Nat}(hk:kind≤4)(ha:a<256)(hb:b<256)(w:World):(Instr.index 131 (preV a b c) (.int .i64 (kind:Int))).run prog w=.ok (.int .u8 (fx (kind:Int) a b c:Nat)) w:=by
 unfold preV
 match kind,hk with
 |0,_=>rw[show fx ((0:Nat):Int) a b c=0 from vd (by decide) (by decide) (by decide) (by decide) a b c];rfl
 |1,_=>rw[show fx ((1:Nat):Int) a b c=a from J6 a b c];rfl
 |2,_=>rw[show fx ((2:Nat):Int) a b c=b from J5 a b c];rfl
 |3,_=>rw[show fx ((3:Nat):Int) a b c=(a+b)/2 from J4 a b c];rfl
 |4,_=>rfl
def TwoF(w:World)(v:World)(g1 g2:Nat)(l m:List UInt8):Prop:=RowF v g1 l∧RowF v g2 m∧g1≠g2∧w.heap.size≤g1∧w.heap.size≤g2∧But [] w v
theorem TwoF.but{w v v':World}{g1 g2:Nat}{l m:List UInt8}(h:TwoF w v g1 g2 l m)(k:But [] v v'):TwoF w v' g1 g2 l m:=⟨h.1.but k,h.2.1.but k,h.2.2.1,h.2.2.2.1,h.2.2.2.2.1,h.2.2.2.2.2.trans k⟩
theorem TwoF.put{w v:World}{g1 g2:Nat}{l m:List UInt8}(h:TwoF w v g1 g2 l m){i:Nat}(x:UInt8)(hi:i<m.length):TwoF w (v.setCell ⟨g2,i,none⟩ (.int .u8 (x.toNat:Nat))) g1 g2 l (m.set i x):=
 ⟨h.1.far (p:=⟨g2,i,none⟩) h.2.2.1 _,h.2.1.put i x hi,h.2.2.1,h.2.2.2.1,h.2.2.2.2.1,h.2.2.2.2.2.setCell (p:=⟨g2,i,none⟩) (.inr h.2.2.2.2.1) _⟩
def parF(R:List UInt8)(n k:Nat):List UInt8:=R.take k++List.replicate (n-k) 0
theorem mZ{R:List UInt8}{n k:Nat}(h:R.length=n)(hk:k≤n):(parF R n k).length=n:=by unfold parF;rw[List.length_append,List.length_take,List.length_replicate];omega
theorem zC(R:List UInt8)(n:Nat):parF R n 0=List.replicate n 0:=by unfold parF;rw[List.take_zero];rfl
theorem NS{R:List UInt8}{n:Nat}(h:R.length=n):parF R n n=R:=by unfold parF;rw[List.take_of_length_le (by omega),Nat.sub_self];simp
theorem NR{R:List UInt8}{n k:Nat}(h:R.length=n)(hk:k<n):(parF R n k).set k (R.getD k 0)=parF R n (k+1):=by
 have hl:=mZ (k:=k) h (by omega);have hl2:=mZ (k:=k+1) h (by omega);refine iQ (by rw[List.length_set,hl,hl2]) fun i hi=>?_;rw[List.length_set,hl]at hi;have e:∀j,(parF R n j).getD i 0=if i<j then R.getD i 0 else 0:=fun j=>by
  unfold parF
  by_cases hij:i<j
  ·rw[if_pos hij,jy (by rw[List.length_take];omega),tH hij]
  ·rw[if_neg hij,List.getD_eq_getElem?_getD,List.getElem?_append_right (by rw[List.length_take];omega),←List.getD_eq_getElem?_getD,pZ]
 rw[e]
 by_cases hik:i=k
 ·subst hik;rw[gG (by rw[List.length_set,hl];exact hi),List.getElem_set_self,if_pos (by omega)]
 ·rw[List.getD_eq_getElem?_getD,List.getElem?_set_ne (by omega),←List.getD_eq_getElem?_getD,e]
  by_cases h3:i<k
  ·rw[if_pos h3,if_pos (by omega)]
  ·rw[if_neg h3,if_neg (by omega)]
theorem Qv(w:World)(bpp kind:Int)(s t:ByteArray)(hs:s.size≤140737488351232)(ht:t.size≤140737488351232):
 Calls prog 64 #[bpp,kind,s,t] w (R1z (.tuple #[(strL (doA bpp kind s t)),.int .i64 (aL bpp kind s t)]) w):=by
 have hW:=fun v=>sR v bpp kind s t (by omega) (by omega)
 by_cases h0:aL bpp kind s t≠0
 ·obtain⟨er,her⟩:=E1 (aL bpp kind s t);rw[CW h0];have h1:er=1∨er=28:=by rcases kK bpp kind s t with h|h|h<;>simp_all
  rw[←her];simp only[←her]at hW;have HW:=qhz hW;clear hW her h0;rcases h1 with rfl|rfl
  ·go_enter func64,ntmps64
   go_wp2_with fail
   refine(HW.out _).mono ?_;rintro e w1 ⟨rfl,rfl⟩;go_wp2
   go_ret2
   exact⟨rfl,But.refl [] _⟩
  ·go_enter func64,ntmps64
   go_wp2_with fail
   refine(HW.out _).mono ?_;rintro e w1 ⟨rfl,rfl⟩;go_wp2
   go_ret2
   exact⟨rfl,But.refl [] _⟩
 have h0:aL bpp kind s t=0:=by simpa using h0
 obtain⟨⟨hb1,hb8⟩,hts,hk0,hk4⟩:=jK h0;obtain⟨n,rfl⟩:∃n:Nat,bpp=(n:Int):=⟨bpp.toNat,by omega⟩
 obtain⟨kd,rfl⟩:∃n:Nat,kind=(n:Int):=⟨kind.toNat,by omega⟩
 have hn1:1≤n:=by omega
 have hn8:n≤8:=by omega
 have hkd:kd≤4:=by omega
 rw[vN h0,h0];rw[h0]at hW;have HW:=qhz hW;have HTS:=qhz hts;obtain⟨R,hR⟩:=E1 (doF (kd:Int) n s.data.toList t.data.toList);have hRl:R.length=s.size:=by rw[hR,cq,Array.length_toList];rfl
 rw[←hR];have HRl:=qhz hRl;have HR:=qhz hR;clear hW h0 hts hR hRl hb1 hb8 hk0 hk4
 go_enter func64,ntmps64
 go_wp2_with fail
 refine(HW.out _).mono ?_;rintro e w1 ⟨rfl,rfl⟩
 go_upto_region 4 with(fail)
 go_cut [11,12]from 23 to 27 (fun v1 v2 wx=>∃g1 g2 c1,v1=.slice (some ⟨g1,0,none⟩) s.size c1∧v2=.slice (some ⟨g2,0,none⟩) s.size s.size∧s.size≤c1∧Hid (TwoF w wx g1 g2 s.data.toList (parF R s.size 0)))
 case first=>
  refine bw (S:=fun v=>But [] w v) (R:=fun v v'=>But [] v v') (fun w=>But.refl [] w) (by kernel_rfl) ((But.refl [] w).drew) ?_;refine rdk 0 (.string s) ?_;refine rdk 2 (.string s) ?_;refine rdk 3 (.int .i64 (s.size:Int)) ?_;refine Ij (i:=1) (j:=4) rfl rfl (by kernel_rfl) ?_ ?_
  ·intro w4 hR4 hS4 K' hK;have kc:=nY w4 s;have hro:=ob w4 s;have hrb:=od w4 s;have hcg:=iP w4 s.size 5;obtain⟨c1,hc1⟩:=E1 (grownCap w4 s.size 0 5);rw[←hc1]at kc hcg;obtain⟨w5,hw5⟩:=E1 (BE w4 s);rw[←hw5]at kc hro hrb;clear hc1 hw5;go_simp;refine hK _ _ ⟨hS4.trans hrb,?_⟩;clear hK K' kc;have hg4:=hS4.size;have hlt5:=hro.lt;refine rdk 5 (.slice w4.heap.size s.size c1) ?_;refine cI (i:=4) rfl (by kernel_rfl) fun w6 hR6 hS6 K' hK=>?_;have km:=fT w6 (n:=s.size) (by omega);have hno:=lm w6 s.size;have hnb:=dS w6 s.size;obtain⟨w7,hw7⟩:=E1 (cF w6 s.size);rw[←hw7]at km hno hnb;clear hw7;go_simp;refine hK _ _ ⟨hS6.trans hnb,?_⟩;clear hK K' km;have hT:TwoF w w7 w4.heap.size w6.heap.size s.data.toList (parF R s.size 0):=⟨(hro.but hR6).but hnb,by rw[zC];exact hno,by have:=hR6.size;omega,hg4,hS6.size,hS6.trans hnb⟩
   refine rdk 6 (.slice (some ⟨w6.heap.size,0,none⟩) s.size s.size) ?_;refine⟨by kernel_rfl,fun w9 hR9 hS9=>?_⟩;have HT9:=qhz (hT.but hR9);clear hR9 hS9 hT;go_simp;go_wp2
   go_meet
   exact⟨_,_,_,rfl,rfl,hcg,HT9⟩
  ·intro w4 hR4 hS4 K' hK;have km:=fT w4 (n:=s.size) (by omega);have hno:=lm w4 s.size;have hnb:=dS w4 s.size;obtain⟨w5,hw5⟩:=E1 (cF w4 s.size);rw[←hw5]at km hno hnb;clear hw5;go_simp;refine hK _ _ ⟨hS4.trans hnb,?_⟩;clear hK K' km;have hg4:=hS4.size;have hlt5:=hno.lt;refine cI (i:=1) rfl (by kernel_rfl) fun w6 hR6 hS6 K' hK=>?_;have kc:=nY w6 s;have hro:=ob w6 s;have hrb:=od w6 s;have hcg:=iP w6 s.size 5;obtain⟨c1,hc1⟩:=E1 (grownCap w6 s.size 0 5);rw[←hc1]at kc hcg;obtain⟨w7,hw7⟩:=E1 (BE w6 s);rw[←hw7]at kc hro hrb;clear hc1 hw7;go_simp;refine hK _ _ ⟨hS6.trans hrb,?_⟩;clear hK K' kc;have hT:TwoF w w7 w6.heap.size w4.heap.size s.data.toList (parF R s.size 0):=⟨hro,by rw[zC];exact(hno.but hR6).but hrb,by have:=hR6.size;omega,hS6.size,hg4,hS6.trans hrb⟩
   refine rdk 5 (.slice (some ⟨w6.heap.size,0,none⟩) s.size c1) ?_;refine rdk 6 (.slice w4.heap.size s.size s.size) ?_;refine⟨by kernel_rfl,fun w9 hR9 hS9=>?_⟩;have HT9:=qhz (hT.but hR9);clear hR9 hS9 hT;go_simp;go_wp2
   go_meet
   exact⟨_,_,_,rfl,rfl,hcg,HT9⟩
 case rest=>
 obtain⟨g1,g2,c1,rfl,rfl,hcap,HT⟩:=hcut
 go_wp2_with fail
 go_loopw [30] (fun kv wr=>∃k:Nat,k≤s.size∧kv=.int .i64 k∧Hid (TwoF w wr g1 g2 s.data.toList (parF R s.size k))) (fun kv _=>s.size-(intOf kv).toNat)
 case atStart=>exact⟨0,Nat.zero_le _,rfl,HT⟩
 case round=>
  obtain⟨k,hk,rfl,HT⟩:=hrel
  by_cases hlt:k<s.size
  ·obtain⟨qa,hqa⟩:=E1 (bU s.data.toList n k);obtain⟨qb,hqb⟩:=E1 ((t.data.toList.getD k 0).toNat);obtain⟨qc,hqc⟩:=E1 (bU t.data.toList n k);have la:qa<256:=by rw[hqa];exact fj _ _ _
   have lb:qb<256:=by rw[hqb];exact UInt8.toNat_lt _
   have lc:qc<256:=by rw[hqc];exact fj _ _ _
   have hll:s.data.toList.length=s.size:=Array.length_toList;have hpl:=mZ (k:=k) HRl.out hk;obtain⟨b,hb⟩:=E1 ((s.data.toList.getD k 0).toNat);have hcb:wr.cell? ⟨g1,k,none⟩=some (.int .u8 (b:Nat)):=by rw[hb];exact HT.out.1.cell (by rw[hll];exact hlt)
   have hb256:b<256:=by rw[hb];exact UInt8.toNat_lt _
   have HP:Hid (Calls prog 106 #[n,k,.slice (some ⟨g1,0,none⟩) s.size c1,t] wr (R1z (preV qa qb qc) wr)):=qhz (by
    rw[hqa,hqb,hqc];exact xj wr hn1 hn8 hlt hs hcap HT.out.1.lt (fun i hi=>HT.out.1.cell (by rw[hll];omega)) HTS.out)
   obtain⟨p,hp⟩:=E1 (fx (kd:Int) qa qb qc);have hp256:p<256:=by rw[hp];exact lR _ la lb lc
   have hix:=fun v=>sN (a:=qa) (b:=qb) (c:=qc) hkd la lb v;rw[←hp]at hix;obtain⟨V,hV⟩:=E1 (preV qa qb qc);rw[←hV]at hix HP;obtain⟨y,hy⟩:=E1 (s.data.toList.getD k 0-gz (kd:Int) n s.data.toList t.data.toList k);have ew:IntKind.u8.wrap ((b:Int)-(p:Int))=((y.toNat:Nat):Int):=by
    have hfo:(gz (kd:Int) n s.data.toList t.data.toList k).toNat=p:=by
     unfold gz;rw[←hqa,←hqb,←hqc,←hp,UInt8.toNat_ofNat'];omega
    rw[hy,UInt8.toNat_sub,hfo,←hb,IntKind.wrap_u8];omega
   obtain⟨z,hz⟩:=E1 (y.toNat:Nat);rw[←hz]at ew;have HN:Hid (y=R.getD k 0):=qhz (by rw[HR.out,EG _ _ _ _ (by rw[hll];exact hlt),hy]);have HZ:=qhz hz;have HPL:=qhz hpl;have HLL:=qhz hll;clear hqa hqb hqc hb hp hV hy hz hpl hll
   go_upto_region 8 with(fail)
   go_wp2_with fail
   refine HP.out.mono ?_;rintro e w5 ⟨rfl,hB5⟩;have HT5:=qhz (HT.out.but hB5);have c5:∃u,w5.cell? ⟨g2,k,none⟩=some (.int .u8 u):=⟨_,HT5.out.2.1.cell (by rw[HPL.out];exact hlt)⟩
   obtain⟨u5,c5⟩:=c5;have f5:w5.frozen? ⟨g2,k,none⟩=false:=HT5.out.2.1.free (by rw[HPL.out];exact hlt);have HT6:Hid (TwoF w (w5.setCell ⟨g2,k,none⟩ (.int .u8 (z:Nat))) g1 g2 s.data.toList (parF R s.size (k+1))):=qhz (by
    rw[←NR HRl.out hlt,←HN.out,HZ.out];exact HT5.out.put y (by rw[HPL.out];exact hlt))
   clear hB5 hcb HP HT HT5;go_wp2
   go_roundw
   case rel=>exact⟨k+1,by omega,by go_num,HT6⟩
   case measure=>simp[intOf]<;>omega
  ·obtain rfl:k=s.size:=by omega
   have hpa:=NS HRl.out;have hct:=HT.out.2.1.text s.size;rw[hpa,HRl.out]at hct;go_wp2
   go_ret2
   exact⟨rfl,HT.out.2.2.2.2.2⟩
end Go.Proofs.YtbanopnofpjnbaaGreatDoor
