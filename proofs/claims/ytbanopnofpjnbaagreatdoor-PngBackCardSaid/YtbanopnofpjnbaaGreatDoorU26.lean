/- Own texts in one: SaM, LaN, SbA, SbB, RwF, SbC, SbM, SbD, PxM, LcA, LcB, PxA, Stream, Reader, Codes, PnT, PxC, PyB, InfX, SbF, SbV, PyC. -/
import Derived.Test.YtbanopnofpjnbaaGreatDoorU06
import Derived.Test.YtbanopnofpjnbaaGreatDoorU10
set_option maxRecDepth 1000000
set_option linter.unusedVariables false
set_option maxHeartbeats 4000000
namespace Go.Proofs.YtbanopnofpjnbaaGreatDoor
open Go Go.RowKit Tryz
theorem rM{f:Nat→Nat}{m:Nat}:∀k,(∀b,m≤b→b<m+k→f b=0)→valN f (m+k)=valN f m*2^k:=by
 intro k
 induction k with
 |zero=>intro _;rw[Nat.pow_zero,Nat.mul_one];rfl
 |succ k ih=>
  intro h;show 2*valN f (m+k)+f (m+k)=_;rw[ih (fun b h1 h2=>h b h1 (by omega)),h (m+k) (by omega) (by omega),Nat.pow_succ,Nat.add_zero,←Nat.mul_assoc,Nat.mul_comm 2,Nat.mul_right_comm,Nat.mul_assoc _ (2^k) 2,←Nat.mul_assoc]
def nj(d:Nat):Prop:=d=1∨d=2∨d=4∨d=8∨d=16
theorem D5{w h:Nat}{p:bj}(hp:OkP p){j n:Nat}(hj:j<ay h p.y p.dy)(hn:n<ay w p.x p.dx):p.x+n*p.dx<w∧p.y+j*p.dy<h:=
 ⟨(gs (by have:=hp.1;omega) n).1 hn,(gs (by have:=hp.2;omega) j).1 hj⟩
theorem kj{d:Int}(h:depB d=true):∃D:Nat,d=(D:Int)∧nj D∧1≤D∧D≤16:=by
 have h2:=of_decide_eq_true h;refine⟨d.toNat,by omega,?_,by omega,by omega⟩;unfold nj;omega
def fK(L:List Nat):List Value:=L.map fun x=>.int .i64 (x:Nat)
theorem fA(L M:List Nat):fK (L++M)=fK L++fK M:=by simp[fK]
def Nums(w:World)(A:Option Addr)(n:Nat)(L:List Nat):Prop:=
 L.length=n∧(0<n→∃g o,A=some ⟨g,o,none⟩∧g<w.heap.size∧∀(i:Nat) (h:i<L.length),w.cell? ⟨g,o+i,none⟩=some (.int .i64 (L[i]:Nat)))
theorem Nums.but{w w':World}{A:Option Addr}{n:Nat}{L:List Nat}(h:Nums w A n L)(hw:But [] w w'):Nums w' A n L:=
 ⟨h.1,fun hn=>by
  obtain⟨g,o,e,hg,hc⟩:=h.2 hn;exact⟨g,o,e,Nat.lt_of_lt_of_le hg hw.size,fun i hi=>hw.cell (hc i hi) (by simp)⟩⟩
theorem tG:(prog.info? 3).map (fun i=>(i.zero,i.size,i.bytes))=some (some (.int .i64 0),1,8):=by kernel_rfl
theorem oZ(l:List UInt8):(cM l).length=l.length:=by simp[cM]
theorem gP(a b:List UInt8):cM (a++b)=cM a++cM b:=by simp[cM]
theorem Ga{w:World}{base n size:Nat}{e:TypeId}{v:Value}{xs:List Value}(h:w.ownsRow base e size v n xs):∃A c,v=.slice A n c∧n≤c:=by
 rcases h.2 with⟨rfl,rfl⟩|⟨g,cap,cur,rfl,_,_,hc,_⟩
 ·exact⟨none,0,rfl,Nat.le_refl _⟩
 ·exact⟨_,cap,rfl,hc⟩
theorem zE{w w':World}{base n size:Nat}{e:TypeId}{v:Value}{xs:List Value}{S:List Nat}(h:w.ownsRow base e size v n xs)(hw:But S w w')(hS:∀g,v.ownBlock=some g→g∉S):w'.ownsRow base e size v n xs:=by
 obtain⟨h1,h2⟩:=h;refine⟨h1,?_⟩;rcases h2 with h2|⟨g,cap,cur,rfl,hg,hh,r⟩
 ·exact .inl h2
 ·have hlt:g<w.heap.size:=(Array.getElem?_eq_some_iff.1 hh).1;exact .inr ⟨g,cap,cur,rfl,hg,(hw.block g hlt (hS g rfl)).trans hh,r⟩
theorem Kt{w:World}{base n:Nat}{v:Value}{L:List UInt8}(h:w.ownsRow base 5 1 v n (cM L)):(convert 47 9 v).run prog w=.ok (.string (strL L)) w:=by
 have hl:L.length=n:=by have:=h.1;rw[oZ]at this;omega
 rcases h.2 with⟨rfl,rfl⟩|⟨g,cap,cur,rfl,_⟩
 ·have:L=[]:=List.eq_nil_of_length_eq_zero hl;subst this;exact run_convert_bytes_nil w 47 5 underlying47 underlying5 _ _ 9 underlying9
 ·subst hl;refine yg fun i hi=>?_;have hc:=h.cells (g:=g) rfl i (.int .u8 (L[i].toNat:Int)) (by simp[cM,hi]);have e2:(⟨g,0,none⟩:Addr).add i=⟨g,i,none⟩:=by unfold Addr.add;split<;>simp_all
  rw[e2]at hc;exact hc
def OwnF(w:World)(base:Nat)(v:Value)(L:List UInt8):Prop:=w.ownsRow base 5 1 v L.length (cM L)
theorem OwnF.nil(w:World)(base:Nat):OwnF w base (.slice none 0 0) []:=World.ownsRow_nil _ _ _ _
theorem OwnF.but{w w':World}{base:Nat}{v:Value}{L:List UInt8}(h:OwnF w base v L)(hw:But [] w w'):OwnF w' base v L:=zE h hw (fun _ _=>by simp)
theorem OwnF.shape{w:World}{base:Nat}{v:Value}{L:List UInt8}(h:OwnF w base v L):∃A c,v=.slice A L.length c:=by
 obtain⟨A,c,e,_⟩:=Ga h;exact⟨A,c,e⟩
theorem OwnF.lt{w:World}{base:Nat}{v:Value}{L:List UInt8}(h:OwnF w base v L):∀g,v.ownBlock=some g→base≤g:=fun g e=>(World.ownsRow.lt h g e).1
theorem OwnF.text{w:World}{base:Nat}{v:Value}{L:List UInt8}(h:OwnF w base v L):(convert 47 9 v).run prog w=.ok (.string (strL L)) w:=Kt h
theorem Cn{w:World}{g:Nat}{x:Value}(h:Is w g 5 #[x]):∀(j:Nat) u,[x][j]? =some u→w.cell? ((⟨g,0,none⟩:Addr).add j)=some u:=by
 intro j u hj
 match j,hj with
 |0,hj=>
  have e:x=u:=by simpa using hj
  have:=h.cell 0;rw[←e];exact this
 |j+1,hj=>simp at hj
theorem iw{s:ByteArray}{k:Nat}(hk:k<s.size)(w:World):(Instr.index 9 (.string s) (.int .i64 (k:Int))).run prog w=.ok (.int .u8 (s[k].toNat:Nat)) w:=by
 simp[go_sem,underlying9,hk]
def lowN(x:Int):Nat:=(x%65536).toNat
theorem lV{D:Nat}{l:List Nat}{i b:Nat}(hi:i<l.length)(hb:b<D):aN D l (i*D+b)=bitN (l.getD i 0) (D-1-b):=by
 have hlt:i*D+b<l.length*D:=by
  have:(i+1)*D≤l.length*D:=Nat.mul_le_mul_right _ hi;rw[Nat.succ_mul]at this;omega
 unfold aN;rw[if_pos hlt];have e1:(i*D+b)/D=i:=by rw[Nat.mul_comm,Nat.mul_add_div (by omega),Nat.div_eq_of_lt hb,Nat.add_zero]
 have e2:(i*D+b)%D=b:=by rw[Nat.mul_comm,Nat.mul_add_mod,Nat.mod_eq_of_lt hb]
 rw[e1,e2]
def Zs(w:World)(A:Option Addr)(n:Nat)(l:List Int):Prop:=
 l.length=n∧(0<n→∃g o,A=some ⟨g,o,none⟩∧g<w.heap.size∧∀(i:Nat) (h:i<l.length),w.cell? ⟨g,o+i,none⟩=some (.int .i64 l[i]))
theorem Zs.but{w w':World}{A:Option Addr}{n:Nat}{l:List Int}(h:Zs w A n l)(hw:But [] w w'):Zs w' A n l:=
 ⟨h.1,fun hn=>by
  obtain⟨g,o,e,hg,hc⟩:=h.2 hn;exact⟨g,o,e,Nat.lt_of_lt_of_le hg hw.size,fun i hi=>hw.cell (hc i hi) (by simp)⟩⟩
theorem Zs.at{w:World}{A:Option Addr}{n:Nat}{l:List Int}(h:Zs w A n l){i:Nat}(hi:i<n):∃g o x,A=some ⟨g,o,none⟩∧g<w.heap.size∧l[i]? =some x∧w.cell? ⟨g,o+i,none⟩=some (.int .i64 x):=by
 obtain⟨g,o,e,hg,hc⟩:=h.2 (by omega);have hl:i<l.length:=by have:=h.1;omega
 exact⟨g,o,l[i],e,hg,List.getElem?_eq_getElem hl,hc i hl⟩
def kD(d:Int)(l:List Int):List UInt8×Int:=if depB d=false then([],1)else(dR d.toNat (l.map lowN),0)
def Gr(w h:Nat)(L:List bj)(i:Nat)(p:bj)(y:Nat):List RowJ:=eC w h p y++bS w h (L.drop (i+1))
theorem nh{w h:Nat}{L:List bj}{i:Nat}{p:bj}(hp:L[i]? =some p)(hw:0<ay w p.x p.dx):Gr w h L i p 0=bS w h (L.drop i):=by
 have hi:=(List.getElem?_eq_some_iff.1 hp)
 obtain⟨h1,h2⟩:=hi;unfold Gr;rw[vC hw,List.drop_eq_getElem_cons h1,h2];rfl
theorem Gq{w h:Nat}{L:List bj}{i:Nat}{p:bj}{y:Nat}(hy:y<ay h p.y p.dy):Gr w h L i p y=jobP w p y::Gr w h L i p (y+1):=by
 unfold Gr;rw[lY hy];rfl
def dG(p:P6):List Value:=[.int .i64 p.1,.int .i64 p.2.1,.int .i64 p.2.2.1,.int .i64 p.2.2.2.1,.int .i64 p.2.2.2.2.1,.int .i64 p.2.2.2.2.2]
def bL(L:List P6):List Value:=L.flatMap dG
theorem my(L M:List P6):bL (L++M)=bL L++bL M:=by simp[bL]
theorem qz(x:P6)(L:List P6):bL (x::L)=dG x++bL L:=by simp[bL]
theorem pL:∀(L:List P6) (i k:Nat) (h:i<L.length),k<6→(bL L)[i*6+k]? =(dG L[i])[k]?
 |x::L,0,k,_,hk=>by
  rw[qz,List.getElem?_append_left (by show _<6;omega),Nat.zero_mul,Nat.zero_add];rfl
 |x::L,i+1,k,h,hk=>by
  have:=pL L i k (by simpa using h) hk;rw[qz,List.getElem?_append_right (by show 6≤_;omega)];have e:(i+1)*6+k-(dG x).length=i*6+k:=by show(i+1)*6+k-6=_;omega
  rw[e,this];rfl
def Pss(w:World)(A:Option Addr)(n:Nat)(L:List P6):Prop:=
 L.length=n∧(0<n→∃g o,A=some ⟨g,o,none⟩∧g<w.heap.size∧∀(i k:Nat) (h:i<L.length),k<6→w.cell? ⟨g,o+i*6+k,none⟩=(dG L[i])[k]?)
theorem Pss.at{w:World}{A:Option Addr}{n:Nat}{L:List P6}(h:Pss w A n L){i:Nat}(hi:i<n):
 ∃(g o:Nat) (p:P6),A=some ⟨g,o,none⟩∧g<w.heap.size∧L[i]? =some p∧w.cell? ⟨g,o+i*6,none⟩=some (.int .i64 p.1)∧w.cell? ⟨g,o+i*6+1,none⟩=some (.int .i64 p.2.1)∧w.cell? ⟨g,o+i*6+2,none⟩=some (.int .i64 p.2.2.1)∧
  w.cell? ⟨g,o+i*6+3,none⟩=some (.int .i64 p.2.2.2.1)∧w.cell? ⟨g,o+i*6+4,none⟩=some (.int .i64 p.2.2.2.2.1)∧w.cell? ⟨g,o+i*6+5,none⟩=some (.int .i64 p.2.2.2.2.2):=by
 obtain⟨g,o,e,hg,hc⟩:=h.2 (by omega);have hl:i<L.length:=by have:=h.1;omega
 exact⟨g,o,L[i],e,hg,List.getElem?_eq_getElem hl,hc i 0 hl (by omega),hc i 1 hl (by omega),hc i 2 hl (by omega),hc i 3 hl (by omega),hc i 4 hl (by omega),hc i 5 hl (by omega)⟩
def OwnP6(w:World)(base:Nat)(v:Value)(L:List P6):Prop:=w.ownsRow base 64 6 v L.length (bL L)
theorem OwnP6.shape{w:World}{base:Nat}{v:Value}{L:List P6}(h:OwnP6 w base v L):∃A c,v=.slice A L.length c∧L.length≤c:=by
 rcases h.2 with⟨rfl,e⟩|⟨g,cap,cur,rfl,_,_,hc,_⟩
 ·have:L=[]:=List.eq_nil_of_length_eq_zero e;subst this;exact⟨none,0,rfl,Nat.le_refl _⟩
 ·exact⟨_,cap,rfl,hc⟩
theorem OwnP6.pss{w:World}{base n c:Nat}{A:Option Addr}{L:List P6}(h:OwnP6 w base (.slice A n c) L):Pss w A L.length L:=by
 refine⟨rfl,fun hn=>?_⟩;obtain⟨g,cap,e,h1,h2⟩:=World.ownsRow.form h hn;injection e with e1 e2 e3;subst e1 e3;refine⟨g,0,rfl,h2,fun i k hi hk=>?_⟩;have hl:(bL L)[i*6+k]? =(dG L[i])[k]?:=pL L i k hi hk;have hk6:k<(dG L[i]).length:=hk;rw[List.getElem?_eq_getElem hk6]at hl⊢;have hc:=World.ownsRow.cells h (g:=g) rfl (i*6+k) _ hl;have e2:(⟨g,0,none⟩:Addr).add (i*6+k)=⟨g,0+i*6+k,none⟩:=by unfold Addr.add;split<;>simp_all
 rw[e2]at hc;exact hc
theorem oJ:(prog.info? 64).map (fun i=>(i.zero,i.size,i.bytes))=some (some (.agg #[(0:Int),(0:Int),(0:Int),(0:Int),(0:Int),(0:Int)]),6,48):=by kernel_rfl
theorem KB{w:World}{g:Nat}{cs:Array Value}(h:Is w g 64 cs):∀(j:Nat) u,cs.toList[j]? =some u→w.cell? ((⟨g,0,none⟩:Addr).add j)=some u:=by
 intro j u hj;have e2:(⟨g,0,none⟩:Addr).add j=⟨g,j,none⟩:=by unfold Addr.add;split<;>simp_all
 rw[e2,h.cell,←Array.getElem?_toList];exact hj
theorem iJ(a b d c l:Int):ak a b d c l=0∨ak a b d c l=5∨ak a b d c l=24:=by
 unfold ak
 repeat' split
 all_goals simp
theorem zB{a b d c l:Int}(h:ak a b d c l≠0):cy a b d c l=[]:=by unfold cy;rw[if_neg h]
theorem rf{w h:Nat}{d c l:Int}(hr:ak (w:Int) (h:Int) d c l=0):cy (w:Int) (h:Int) d c l=(NP w h (decide (l=1))).map (p6 w h):=by unfold cy;rw[if_pos hr];rfl
def aH(w h:Nat)(B:List bj)(i:Nat):List P6:=((B.take i).filter (cj w h)).map (p6 w h)
theorem ib{w h:Nat}{B:List bj}{i:Nat}{p:bj}(hp:B[i]? =some p):aH w h B (i+1)=aH w h B i++(if cj w h p=true then [p6 w h p]else []):=by
 have hi:=(List.getElem?_eq_some_iff.1 hp).1;have e:B.take (i+1)=B.take i++[p]:=by
  rw[List.take_succ_eq_append_getElem hi]
  congr 1
  rw[(List.getElem?_eq_some_iff.1 hp).2]
 unfold aH;rw[e,List.filter_append,List.map_append]
 congr 1
 by_cases hs:cj w h p=true
 ·rw[if_pos hs,List.filter_cons,if_pos hs];rfl
 ·rw[if_neg hs,List.filter_cons,if_neg hs];rfl
theorem Nums.part{w:World}{A:Option Addr}{n lo k:Nat}{L:List Nat}(h:Nums w A n L)(hk:0<k)(hlo:lo+k≤n):∃g o,A=some ⟨g,o,none⟩∧Nums w (some ⟨g,o+lo,none⟩) k ((L.drop lo).take k):=by
 obtain⟨g,o,e,hg,hc⟩:=h.2 (by omega);refine⟨g,o,e,by rw[List.length_take,List.length_drop,h.1];omega,fun _=>⟨g,o+lo,rfl,hg,fun i hi=>?_⟩⟩;rw[List.length_take,List.length_drop]at hi;rw[List.getElem_take,List.getElem_drop,Nat.add_assoc];exact hc (lo+i) (by omega)
theorem vr(l:List UInt8):num l<256^l.length:=by
 induction l with
 |nil=>decide
 |cons x l ih=>
  have:=x.toNat_lt;simp only[num,List.length_cons,Nat.pow_succ];omega
theorem xu(l:List UInt8)(k:Nat):num (l.drop k)=num l/256^k:=by
 induction k generalizing l with
 |zero=>simp
 |succ k ih=>
  cases l with
  |nil=>simp[num]
  |cons x l=>
   have:=x.toNat_lt;simp only[List.drop_succ_cons,num,ih,Nat.pow_succ];rw[Nat.mul_comm (256^k) 256,←Nat.div_div_eq_div_mul]
   congr 1
   omega
def RS(w:World)(b d:Nat)(s:ByteArray)(p:Nat):Prop:=
 p≤8*s.size∧d≠b∧∃A n c,Is w b 207 #[.slice A n c,(p%8:Nat)]∧n≤c∧ByteRow w A n (s.data.toList.drop (p/8))∧∀a,A=some a→a.block=d
theorem Cj:∀l:List Int,cL l=true→many l=0→ksum l=0∧top l=0
 |[],_,_=>⟨rfl,rfl⟩
 |x::l,h,hm=>by
  unfold many at hm;rw[List.filter_cons]at hm
  by_cases h0:0<x
  ·rw[if_pos (by simpa using h0)]at hm;simp at hm
  ·rw[if_neg (by simpa using h0)]at hm;simp only[cL,List.all_cons,Bool.and_eq_true]at h;obtain⟨i1,i2⟩:=Cj l h.2 hm;refine⟨?_,?_⟩
   ·simp only[ksum,List.map_cons,List.sum_cons]at i1⊢;rw[i1];unfold kr;rw[if_neg h0]
   ·unfold top at i2⊢;simp only[List.foldl_cons];rw[if_neg h0];exact i2
theorem qF:∀(l:List Int) (m:Int),many l=0→l.foldl (fun m x=>if 0<x then max m x else m) m=m
 |[],_,_=>rfl
 |x::l,m,hm=>by
  unfold many at hm;rw[List.filter_cons]at hm
  by_cases h0:0<x
  ·rw[if_pos (by simpa using h0)]at hm;simp at hm
  ·rw[if_neg (by simpa using h0)]at hm;simp only[List.foldl_cons];rw[if_neg h0];exact qF l m hm
theorem xr:∀l:List Int,cL l=true→many l=1→∃m:Nat,1≤m∧m≤15∧ksum l=2^(15-m)∧top l=m
 |[],_,hm=>by simp[many]at hm
 |x::l,h,hm=>by
  have hm':=hm;unfold many at hm;rw[List.filter_cons]at hm;simp only[cL,List.all_cons,Bool.and_eq_true,sZ,decide_eq_true_eq]at h
  by_cases h0:0<x
  ·rw[if_pos (by simpa using h0)]at hm;have hz:many l=0:=by simpa[many]using hm
   obtain⟨i1,_⟩:=Cj l h.2 hz;refine⟨x.toNat,by omega,by omega,?_,?_⟩
   ·simp only[ksum,List.map_cons,List.sum_cons]at i1⊢;rw[i1];unfold kr;rw[if_pos h0];rfl
   ·unfold top;simp only[List.foldl_cons];rw[if_pos h0,qF l _ hz];omega
  ·rw[if_neg (by simpa using h0)]at hm;obtain⟨m,i0,i1,i2,i3⟩:=xr l h.2 hm;refine⟨m,i0,i1,?_,?_⟩
   ·simp only[ksum,List.map_cons,List.sum_cons]at i2⊢;rw[i2];unfold kr;rw[if_neg h0];omega
   ·unfold top at i3⊢;simp only[List.foldl_cons];rw[if_neg h0];exact i3
theorem pD(l:List Int)(h:cL l=true):(many l=1∧ksum l=16384)↔(many l=1∧top l=1):=by
 constructor
 ·rintro⟨h1,h2⟩;obtain⟨m,h3,h4,h5,h6⟩:=xr l h h1;refine⟨h1,?_⟩;rw[h6];have:m=1:=by
   apply Classical.byContradiction;intro hc
   have:=Nat.pow_le_pow_right (n:=2) (by decide) (show 15-m≤13 by omega);omega
  omega
 ·rintro⟨h1,h2⟩;obtain⟨m,h3,h4,h5,h6⟩:=xr l h h1;have:m=1:=by omega
  subst this;exact⟨h1,h5⟩
section
theorem jf(w:World){a b:Int}{pix:ByteArray}{r:Bool}(hp:pix.size≤140737488351232)(hr:decide ((pix.size:Int)≤4096)=r):
 Calls prog 12 #[.agg #[a,b,pix]] w (R1z (.bool r) w):=by
 obtain⟨g,hg⟩:=E1 w.heap.size;obtain⟨w1,hw1⟩:=E1 (w.alloc (.cells #[a,b,pix] 23));have HI:Hid (Is w1 g 23 #[a,b,pix]):=qhz (by rw[hw1,hg];exact Is.fresh _ _ _);have HB:Hid (But [] w w1):=qhz (by rw[hw1];exact(But.refl [] w).alloc _)
 go_enter func12,ntmps12
 go_upto_region 1 with(fail)
 rw[←hw1,←hg];clear hw1 hg;obtain⟨c0,c1,c2,hgl⟩:=HI.out.c3;go_wp2;go_ret;exact⟨rfl,HB.out⟩
attribute [local irreducible] aA aG aX
end
theorem Ah{w h:Nat}:∀L:List bj,(∀p,p∈L→cj w h p=true)→∀j,(bS w h L).head? =some j→j.first=true:=by
 intro L hL j hj;cases L with
 |nil=>cases hj
 |cons p L=>
  have hp:=of_decide_eq_true (hL p (List.mem_cons_self ..));have e:bS w h (p::L)=Gr w h (p::L) 0 p 0:=(nh (L:=p::L) (i:=0) rfl hp.1).symm;rw[e,Gq hp.2]at hj;have:jobP w p 0=j:=Option.some.inj hj;rw[←this];rfl
theorem oe{a b d c l:Int}{W H D C:Nat}(R:fl a b d c l W H D C)(pal tr:List UInt8)(has:Bool){n:Nat}(hn:n≤1024):bA ⟨W,H,D,C,pal,tr,has⟩ n≤8192:=by
 have h1:D*ai C≤16*4:=Nat.mul_le_mul R.d16 R.s4;have h:D*ai C*n≤64*1024:=Nat.mul_le_mul h1 hn;show(D*ai C*n+7)/8≤8192;omega
def ptr(o:Option Nat):Value:=.pointer (o.map fun k=>⟨k,0,none⟩)
structure SS(w:World)(b rb db:Nat)(og:Option Nat)(s:ByteArray)(p:Nat)(M:Int)(L:List UInt8)(fs fd:Option Nat):Prop where
 rs:RS w rb db s p
 hd:db<b
 hr:rb<b
 hs:s.size≤140737489403904
 hM:M≤1099511627776
 hL:(L.length:Int)≤max M 0
 cells:∃ov,Is w b 169 #[.pointer rb,ov,M,ptr fs,ptr fd]∧w.ownsRow (b+1) 5 1 ov L.length (ah L)∧ov.ownBlock=og
theorem Nums.zs{w:World}{A:Option Addr}{n:Nat}{L:List Nat}(h:Nums w A n L):Zs w A n (L.map fun x=>((x:Nat):Int)):=by
 refine⟨by rw[List.length_map];exact h.1,fun hn=>?_⟩;obtain⟨g,o,e,hg,hc⟩:=h.2 hn;refine⟨g,o,e,hg,fun i hi=>?_⟩;rw[List.length_map]at hi;rw[List.getElem_map];exact hc i hi
theorem Zs.is{w:World}{g:Nat}{l:List Int}(h:Is w g 3 (l.map fun x=>Value.int .i64 x).toArray):Zs w (some ⟨g,0,none⟩) l.length l:=
 ⟨rfl,fun _=>⟨g,0,rfl,h.lt,fun i hi=>by
  rw[h.cell,Nat.zero_add,List.getElem?_toArray,List.getElem?_map,List.getElem?_eq_getElem hi];rfl⟩⟩
theorem Bz(w:World):(Go.sizeOf 3).run prog w=.ok 1 w:=by kernel_rfl
theorem yU(W:World)(g o len cap lo hi:Nat)(hlh:lo<hi)(hh:hi≤cap):
 (Instr.slice 36 (.slice (some ⟨g,o,none⟩) len cap) (some (.int .i64 (lo:Int))) (some (.int .i64 (hi:Int))) none).run prog W=.ok (.slice (some ⟨g,o+lo,none⟩) (hi-lo) (cap-lo)) W:=by
 have ht:prog.underlying 36=some (.slice 3):=underlying36;have ht':prog.underlying 36=some (.slice (prog.elem 36)):=by simp[Program.elem,ht]
 have he:prog.elem 36=3:=by simp[Program.elem,ht]
 rw[run_slice_lh W _ _ _ _ ht' .i64 .i64 _ _ (by omega) (by omega) (by omega),he,Bz];have hne:¬cap=lo:=by omega
 by_cases h0:lo=0
 ·subst h0;simp[Result.andThen,sliced,Addr.add,hne]
 ·simp[Result.andThen,sliced,Addr.add,hne,h0]
end Go.Proofs.YtbanopnofpjnbaaGreatDoor
