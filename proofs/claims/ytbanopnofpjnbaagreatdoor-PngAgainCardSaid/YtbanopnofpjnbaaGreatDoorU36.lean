/- Own texts in one: PxM, PxN, PxA, PxC, PyA, PyB, PyC, PyD. -/
import Derived.Test.YtbanopnofpjnbaaGreatDoorU32
import Derived.Test.YtbanopnofpjnbaaGreatDoorU33
import Derived.Test.YtbanopnofpjnbaaGreatDoorU35
set_option maxRecDepth 1000000
set_option linter.unusedVariables false
set_option maxHeartbeats 4000000
namespace Go.Proofs.YtbanopnofpjnbaaGreatDoor
open Go Go.RowKit Tryz
theorem Fq(S:ShP)(j:RowJ)(js:List RowJ):fS S (j::js)=1+bA S j.n+fS S js:=by
 unfold fS;rw[List.map_cons,List.sum_cons]
def qS(raw:List UInt8):Nat:=(raw.getD 0 0).toNat
def zS(S:ShP)(j:RowJ)(raw above:List UInt8):List UInt8:=eO (qS raw:Nat) (bppN S) ((raw.drop 1).take (bA S j.n)) (if j.first=true then []else above)
theorem Nt{S:ShP}{j:RowJ}{js:List RowJ}{raw above pix:List UInt8}(h:4<qS raw):runI S (j::js) raw above pix=([],28):=by
 rw[runI];exact if_pos h
theorem Ns{S:ShP}{j:RowJ}{js:List RowJ}{raw above pix:List UInt8}(h:¬4<qS raw)(h2:(cO S (zS S j raw above) j j.n 0 pix).2≠0):runI S (j::js) raw above pix=([],(cO S (zS S j raw above) j j.n 0 pix).2):=by
 rw[runI];exact(if_neg h).trans (if_pos h2)
theorem Qc{S:ShP}{j:RowJ}{js:List RowJ}{raw above pix:List UInt8}(h:¬4<qS raw)(h2:(cO S (zS S j raw above) j j.n 0 pix).2=0):runI S (j::js) raw above pix=runI S js (raw.drop (1+bA S j.n)) (zS S j raw above) (cO S (zS S j raw above) j j.n 0 pix).1:=by
 rw[runI];exact(if_neg h).trans (if_neg fun h3=>h3 h2)
theorem Kh{S:ShP}{line:List UInt8}{j:RowJ}{m x:Nat}{pix:List UInt8}(h:(pixS S (bJ S line x)).2≠0):cO S line j (m+1) x pix=([],(pixS S (bJ S line x)).2):=by
 rw[cO];exact if_pos h
theorem NK{S:ShP}{line:List UInt8}{j:RowJ}{m x:Nat}{pix:List UInt8}(h:(pixS S (bJ S line x)).2=0):cO S line j (m+1) x pix=cO S line j m (x+1) (setN pix (8*(j.y*S.w+(j.x+x*j.dx))) (pixS S (bJ S line x)).1):=by
 rw[cO];exact if_neg fun h3=>h3 h
theorem PN{D x:Nat}(hD:depB (D:Int)=true)(hx:x<2^D):aZ (x:Int) (D:Int)=mj x D:=by
 rw[rL hD];unfold mj;have e:((x:Int)%2^D).toNat=x:=by
  have e2:(2:Int)^D=((2^D:Nat):Int):=by simp
  rw[e2,←Int.natCast_emod,Nat.mod_eq_of_lt hx];rfl
 rw[e]
theorem oE(l:List Nat)(i:Nat):(l.map fun x=>((x:Nat):Int)).getD i 0=((l.getD i 0:Nat):Int):=by
 rw[List.getD_eq_getElem?_getD,List.getD_eq_getElem?_getD,List.getElem?_map];cases l[i]?<;>rfl
theorem P8{w h D c:Nat}{pal tr:ByteArray}{has:Bool}{l:List Nat}:P9 ⟨w,h,D,c,pal.data.toList,tr.data.toList,has⟩ l=mU D tr has (l.map fun x=>((x:Nat):Int)):=by
 unfold P9 mU nX;show(has&&decide (tr.data.toList.length=2*l.length)&&_)=_;rw[Array.length_toList,List.length_map]
 congr 1
 refine congrArg (List.all (List.range l.length)) (funext fun i=>?_);show decide ((256*(tr.data.toList.getD (2*i) 0).toNat+(tr.data.toList.getD (2*i+1) 0).toNat)%2^D=l.getD i 0)=_;rw[oE]
 by_cases h:(256*(tr.data.toList.getD (2*i) 0).toNat+(tr.data.toList.getD (2*i+1) 0).toNat)%2^D=l.getD i 0
 ·rw[decide_eq_true h,decide_eq_true (by exact_mod_cast h)]
 ·rw[decide_eq_false h,decide_eq_false (by exact_mod_cast h)]
theorem Ry{w h D c:Nat}{pal tr:ByteArray}{has:Bool}{l:List Nat}(hD:depB (D:Int)=true)(hl:∀i,l.getD i 0<2^D):
 pixA D (c:Int) pal tr has (l.map fun x=>((x:Nat):Int))=(strL (pixS ⟨w,h,D,c,pal.data.toList,tr.data.toList,has⟩ l).1,(pixS ⟨w,h,D,c,pal.data.toList,tr.data.toList,has⟩ l).2):=by
 have hw:∀i,aZ ((l.map fun x=>((x:Nat):Int)).getD i 0) (D:Int)=mj (l.getD i 0) D:=fun i=>by rw[oE,PN hD (hl i)]
 have ha:twoB (fk D tr has (l.map fun x=>((x:Nat):Int)))=we ⟨w,h,D,c,pal.data.toList,tr.data.toList,has⟩ l:=by
  unfold fk we;rw[P8];split<;>rfl
 unfold pixA pixS;simp only[hw]
 by_cases c0:c=0
 ·subst c0;rw[if_pos (by rfl),if_pos rfl];unfold px4;rw[ha];rfl
 rw[if_neg (by omega),if_neg c0]
 by_cases c2:c=2
 ·subst c2;rw[if_pos (by rfl),if_pos rfl];unfold px4;rw[ha];rfl
 rw[if_neg (by omega),if_neg c2]
 by_cases c4:c=4
 ·subst c4;rw[if_pos (by rfl),if_pos rfl];rfl
 rw[if_neg (by omega),if_neg c4]
 by_cases c6:c=6
 ·subst c6;rw[if_pos (by rfl),if_pos rfl];rfl
 rw[if_neg (by omega),if_neg c6,oE,Int.toNat_natCast]
 by_cases hs:pal.size<3*l.getD 0 0+3
 ·rw[if_pos hs,if_pos (by show pal.data.toList.length<_;rw[Array.length_toList];exact hs)];rfl
 ·rw[if_neg hs,if_neg (by show ¬pal.data.toList.length<_;rw[Array.length_toList];exact hs)];have hp:twoB (o8 tr has (l.getD 0 0))=if has=true∧l.getD 0 0<tr.data.toList.length then twoL (257*(tr.data.toList.getD (l.getD 0 0) 0).toNat)else twoL 65535:=by
   unfold o8;rw[Array.length_toList];show twoB (if has=true∧l.getD 0 0<tr.size then _ else _)=if has=true∧l.getD 0 0<tr.size then _ else _
   split<;>rfl
  unfold px4;rw[hp];rfl
theorem Ez{a b d c l:Int}{pal tr:ByteArray}{has:Bool}{raw:ByteArray}(h:ak a b d c l≠0):aG a b d c l pal tr has raw=((0,0,⟨#[]⟩),ak a b d c l):=by
 unfold aG imgA;rw[if_pos h];exact if_pos h
theorem pX{a b d c l:Int}{pal tr:ByteArray}{has:Bool}{raw:ByteArray}{e:Int}(h:imgA a b d c l pal tr has raw=([],e))(he:e≠0):aG a b d c l pal tr has raw=((0,0,⟨#[]⟩),e):=by
 unfold aG;rw[h];exact if_pos he
theorem Gx{a b d c l:Int}{pal tr:ByteArray}{has:Bool}{raw:ByteArray}{W H D C:Nat}(h0:ak a b d c l=0)(R:fl a b d c l W H D C)(h:raw.size<cJ a b d c l):aG a b d c l pal tr has raw=((0,0,⟨#[]⟩),30):=by
 refine pX ?_ (by decide);rw[Aj h0 R];unfold imgT;rw[jP pal.data.toList tr.data.toList has h0 R]at h;exact if_pos (by rw[Array.length_toList];exact h)
theorem Lf{a b d c l:Int}{pal tr:ByteArray}{has:Bool}{raw:ByteArray}{W H D C:Nat}(h0:ak a b d c l=0)(R:fl a b d c l W H D C)(h:cJ a b d c l<raw.size):aG a b d c l pal tr has raw=((0,0,⟨#[]⟩),31):=by
 refine pX ?_ (by decide);rw[Aj h0 R];unfold imgT;rw[jP pal.data.toList tr.data.toList has h0 R]at h;exact(if_neg (by rw[Array.length_toList];show ¬raw.size<_;exact Nat.lt_asymm h)).trans (if_pos (by rw[Array.length_toList];exact h))
theorem OE{a b d c l:Int}{pal tr:ByteArray}{has:Bool}{raw:ByteArray}{W H D C:Nat}(h0:ak a b d c l=0)(R:fl a b d c l W H D C)(h:raw.size=cJ a b d c l):
 imgA a b d c l pal tr has raw=runI ⟨W,H,D,C,pal.data.toList,tr.data.toList,has⟩ (bS W H ((gn l).filter (cj W H))) raw.data.toList [] (List.replicate (8*(W*H)) 0):=by
 rw[Aj h0 R];unfold imgT;rw[jP pal.data.toList tr.data.toList has h0 R]at h;exact(if_neg (by rw[Array.length_toList];show ¬raw.size<_;rw[h];exact Nat.lt_irrefl _)).trans (if_neg (by rw[Array.length_toList];show ¬_<raw.size;rw[h];exact Nat.lt_irrefl _))
theorem BytesB.but{w w':World}{g:Nat}{l:List UInt8}{S:List Nat}(h:BytesB w g l)(k:But S w w')(hg:g∉S):BytesB w' g l:=Is.but h k hg
theorem BytesB.off{w:World}{gp:Nat}{l:List UInt8}(h:BytesB w gp l){g o:Nat}{x:Int}(hc:w.cell? ⟨g,o,none⟩=some (.int .i64 x)):g∉[gp]:=by
 rw[List.mem_singleton];rintro rfl;rw[Is.cell h,List.getElem?_toArray]at hc;unfold cM at hc;rw[List.getElem?_map]at hc;cases hl:l[o]? with
 |none=>rw[hl]at hc;cases hc
 |some y=>rw[hl]at hc;cases hc
theorem Nums.keep{w w':World}{A:Option Addr}{n gp:Nat}{L:List Nat}{l:List UInt8}(h:Nums w A n L)(hb:BytesB w gp l)(hw:But [gp] w w'):Nums w' A n L:=
 ⟨h.1,fun hn=>by
  obtain⟨g,o,e,hg,hc⟩:=h.2 hn;exact⟨g,o,e,Nat.lt_of_lt_of_le hg hw.size,fun i hi=>hw.cell (hc i hi) (hb.off (hc i hi))⟩⟩
theorem But.wide{w w':World}{gp:Nat}(h:But [] w w'):But [gp] w w':=h.more fun k hk=>by cases hk
theorem Hn(pix:List UInt8)(k:Nat)(q:List UInt8)(h:k+q.length≤pix.length):(cM pix).take k++(cM q++(cM pix).drop (k+q.length))=cM (setN pix k q):=by
 unfold setN cM;rw[List.map_append,List.map_append,List.map_take,List.map_drop]
theorem Js{w:World}{g k dLen dCap:Nat}{s:ByteArray}{l:List UInt8}(h:BytesB w g l)(hle:s.size≤dLen)(hfit:k+s.size≤l.length)(ty:TypeId):
 ∃w',(Builtin.copy_ #[47,9] ty #[.slice (some ⟨g,k,none⟩) dLen dCap,.string s]).run prog w=.ok (goInt s.size) w'∧BytesB w' g (setN l k s.data.toList)∧But [g] w w':=by
 have hr:=Lib.run_copy_row_string (P:=prog) w 47 9 ty 5 g k dLen dCap s (cM l).toArray 5 underlying47 (by obtain⟨i0,hi0,hz0,hz1,hz2⟩:=info_parts l8;rw[hi0];exact congrArg some hz1) h hle (by rw[List.size_toArray,oZ];exact hfit);refine⟨_,hr,?_,?_⟩
 ·have e:((cM l).toArray.toList.take k++Lib.byteCells s.data.toList++(cM l).toArray.toList.drop (k+s.size)).toArray=(cM (setN l k s.data.toList)).toArray:=by
   rw[←Hn l k s.data.toList (by rw[Array.length_toList];exact hfit),List.append_assoc,Array.length_toList];rfl
  rw[e];exact setRow_heap w g _ _ _ _ h
 ·exact⟨rfl,rfl,rfl,by simp[World.setRow],fun i hi hg=>setRow_other w g i _ (by simpa using hg)⟩
theorem Fv{S:ShP}{js:List RowJ}(h:∀j,js.head? =some j→j.first=true)(raw A B pix:List UInt8):runI S js raw A pix=runI S js raw B pix:=by
 cases js with
 |nil=>rfl
 |cons j js=>
  have hj:=h j rfl;rw[runI,runI,hj];rfl
theorem Fr(row:List UInt8)(D i:Nat):cX row D i<2^D:=by
 unfold cX;exact rN fun b _=>MA _ _
theorem Jl{S:ShP}{line:List UInt8}{N x:Nat}(hx:x<N):((eu line S.d (ai S.c*N)).drop (ai S.c*x)).take (ai S.c)=bJ S line x:=by
 have h1:ai S.c*(x+1)≤ai S.c*N:=Nat.mul_le_mul_left _ hx;rw[Nat.mul_add,Nat.mul_one]at h1;unfold bJ eu;apply List.ext_getElem
 ·rw[List.length_take,List.length_drop,List.length_map,List.length_range,List.length_map,List.length_range];omega
 ·intro i h2 h3;rw[List.getElem_take,List.getElem_drop,List.getElem_map,List.getElem_map,List.getElem_range,List.getElem_range]
theorem Jm(S:ShP)(line:List UInt8)(x i:Nat):(bJ S line x).getD i 0<2^S.d:=by
 unfold bJ;rw[List.getD_eq_getElem?_getD,List.getElem?_map];cases(List.range (ai S.c))[i]? with
 |none=>exact Nat.pow_pos (by decide)
 |some k=>exact Fr _ _ _
theorem wN(S:ShP)(line:List UInt8)(x:Nat):(bJ S line x).length=ai S.c:=by unfold bJ;rw[List.length_map,List.length_range]
theorem BZ{a b d c l:Int}{W H D C:Nat}{pal tr:ByteArray}{has:Bool}(R:fl a b d c l W H D C)(line:List UInt8)(x:Nat):
 kZ (D:Int) (C:Int) pal tr has ((bJ ⟨W,H,D,C,pal.data.toList,tr.data.toList,has⟩ line x).map fun y=>((y:Nat):Int))=
  (strL (pixS ⟨W,H,D,C,pal.data.toList,tr.data.toList,has⟩ (bJ ⟨W,H,D,C,pal.data.toList,tr.data.toList,has⟩ line x)).1,(pixS ⟨W,H,D,C,pal.data.toList,tr.data.toList,has⟩ (bJ ⟨W,H,D,C,pal.data.toList,tr.data.toList,has⟩ line x)).2):=by
 have hlt:∀i,(bJ ⟨W,H,D,C,pal.data.toList,tr.data.toList,has⟩ line x).getD i 0<2^D:=Jm ⟨W,H,D,C,pal.data.toList,tr.data.toList,has⟩ line x;rw[sQ (n:=ai C) (by rw[List.length_map];exact wN _ _ _) R.sam (by have:=R.s1;omega) R.dep,Ry R.dep hlt];refine Lb fun i y hy=>?_;have hg:=p7 hy;rw[oE]at hg;have:=hlt i;rw[←hg];constructor
 ·omega
 ·exact_mod_cast this
def ImS(b0 b4:Nat)(cs:Array Value)(v:World):Prop:=Is v b0 35 cs∧Is v b4 23 #[(0:Int),(0:Int),.string ⟨#[]⟩]
theorem ImS.but{b0 b4:Nat}{cs:Array Value}{v v':World}(h:ImS b0 b4 cs v)(k:But [] v v'):ImS b0 b4 cs v':=⟨h.1.but k (by simp),h.2.but k (by simp)⟩
def oT(a b d c l:Int)(m:Nat):Int:=if ak a b d c l≠0 then ak a b d c l else if m<cJ a b d c l then 30 else if cJ a b d c l<m then 31 else 0
theorem mz(w:World)(hG:GP w)(a b d c l:Int){m:Nat}(hm:m≤140737488351232):
 Calls prog 53 #[.agg #[a,b,d,c,l],m] w (R1z (.int .i64 (oT a b d c l m)) w):=by
 obtain⟨b0,hb0⟩:=E1 w.heap.size;obtain⟨w1,hw1⟩:=E1 (w.alloc (.cells #[a,b,d,c,l] 33));have hI:Is w1 b0 33 #[a,b,d,c,l]:=by rw[hw1,hb0];exact Is.fresh _ _ _
 have hB:But [] w w1:=by rw[hw1];exact(But.refl [] w).alloc _
 have HB:=qhz hB;have HG:Hid (∀v,But [] w1 v→GP v):=qhz fun v hv=>(hG.but hB).but hv;have HC:Hid (∀v,But [] w1 v→v.cell? ⟨b0,0,none⟩=some (.int .i64 a)∧v.cell? ⟨b0,1,none⟩=some (.int .i64 b)∧v.cell? ⟨b0,2,none⟩=some (.int .i64 d)∧v.cell? ⟨b0,3,none⟩=some (.int .i64 c)∧v.cell? ⟨b0,4,none⟩=some (.int .i64 l)∧b0<v.heap.size):=qhz fun v hv=>by
  have hh:=hI.but hv (by simp);exact⟨hh.cell 0,hh.cell 1,hh.cell 2,hh.cell 3,hh.cell 4,hh.lt⟩
 obtain⟨r,hr⟩:=E1 (ak a b d c l);have HE:Hid (∀W,Calls prog 86 #[.agg #[a,b,d,c,l]] W (R1z (.int .i64 r) W)):=qhz fun W=>by rw[hr];exact oq W a b d c l
 obtain⟨T,hT⟩:=E1 (cJ a b d c l);have HS:Hid (∀W,GP W→Calls prog 52 #[.agg #[a,b,d,c,l]] W (R1z (.int .i64 (T:Nat)) W)):=qhz fun W hW=>by rw[hT];exact zQ W hW a b d c l
 have HD:Hid (oT a b d c l m=if r≠0 then r else if m<T then 30 else if T<m then 31 else 0):=qhz (by unfold oT;rw[hr,hT]);obtain⟨x,hx⟩:=E1 (oT a b d c l m);rw[←hx]at HD⊢;clear hr hT hx hI hB hG
 go_enter func53,ntmps53
 go_upto_region 1 with(fail)
 rw[←hw1,←hb0];clear hw1 hb0;obtain⟨c0,c1,c2,c3,c4,hgl⟩:=HC.out _ (But.refl [] _)
 go_wp2_with fail
 refine(HE.out _).mono ?_;rintro e w2 ⟨rfl,hB2⟩;have HB2:=qhz hB2;clear hB2 c0 c1 c2 c3 c4 hgl
 by_cases h0:r=0
 ·subst h0;obtain⟨c0,c1,c2,c3,c4,hgl⟩:=HC.out _ HB2.out
  go_wp2_with fail
  refine(HS.out _ (HG.out _ HB2.out)).mono ?_;rintro e w3 ⟨rfl,hB3⟩;have HB3:=qt HB2 hB3;clear hB3 c0 c1 c2 c3 c4 hgl
  by_cases h1:m<T
  ·have HX:=qhz (HD.out.trans ((if_neg (fun h=>h rfl)).trans (if_pos h1)));have q1:((m:Int)<(T:Int)):=by omega
   go_wp2;go_ret;exact⟨by rw[HX.out];rfl,HB.out.trans HB3.out⟩
  ·by_cases h2:T<m
   ·have HX:=qhz (HD.out.trans ((if_neg (fun h=>h rfl)).trans ((if_neg h1).trans (if_pos h2))));have q1:¬((m:Int)<(T:Int)):=by omega
    have q2:((T:Int)<(m:Int)):=by omega
    go_wp2;go_ret;exact⟨by rw[HX.out];rfl,HB.out.trans HB3.out⟩
   ·have HX:=qhz (HD.out.trans ((if_neg (fun h=>h rfl)).trans ((if_neg h1).trans (if_neg h2))));have q1:¬((m:Int)<(T:Int)):=by omega
    have q2:¬((T:Int)<(m:Int)):=by omega
    go_wp2;go_ret;exact⟨by rw[HX.out];rfl,HB.out.trans HB3.out⟩
 ·have HX:=qhz (HD.out.trans (if_pos h0));have q1:(r !=0)=true:=by simpa using h0
  go_wp2;go_ret;exact⟨by rw[HX.out];rfl,HB.out.trans HB2.out⟩
theorem CX(s:ByteArray){i:Nat}(W:World)(hi:i≤s.size):(Instr.slice 9 (.string s) (some (.int .i64 (i:Int))) none none).run prog W=.ok (.string (strL (s.data.toList.drop i))) W:=by
 rw[run_slice_string_from_if W 9 s .i64 (i:Int) underlying9,if_pos (by omega),Int.toNat_natCast,gO,List.take_of_length_le (by rw[Array.length_toList];exact Nat.le_refl _)]
theorem uV{a b d c l:Int}{W H D C:Nat}(h0:ak a b d c l=0)(R:fl a b d c l W H D C)(pal tr:List UInt8)(has:Bool):bA ⟨W,H,D,C,pal,tr,has⟩ 1=bppN ⟨W,H,D,C,pal,tr,has⟩∧bppN ⟨W,H,D,C,pal,tr,has⟩≤8∧1≤bppN ⟨W,H,D,C,pal,tr,has⟩:=by
 have hd:=of_decide_eq_true (ii h0).2.2.2.2;rw[R.dd,R.cc]at hd;show(D*ai C*1+7)/8=max 1 (D*ai C/8)∧max 1 (D*ai C/8)≤8∧1≤max 1 (D*ai C/8);have hD:(D=1∨D=2∨D=4∨D=8∨D=16):=by omega
 have hd2:C=0∨C=3∨((C=2∨C=4∨C=6)∧(D=8∨D=16)):=by omega
 rcases hd2 with rfl|rfl|⟨rfl|rfl|rfl,rfl|rfl⟩
 ·rcases hD with rfl|rfl|rfl|rfl|rfl<;>decide
 ·rcases hD with rfl|rfl|rfl|rfl|rfl<;>decide
 all_goals decide
theorem BU(w:World){W H D C:Nat}{l:Int}{pal tr rest ab:ByteArray}{has:Bool}{bm gp n8 n m:Nat}{SS:ShP}(hSS:SS=⟨W,H,D,C,pal.data.toList,tr.data.toList,has⟩)(h0:ak (W:Int) H D C l=0)(R:fl (W:Int) H D C l W H D C)(hI:Is w bm 84 #[W,H,D,C,l,pal,tr,has,rest,.slice gp n8 n8])
 (hm1:1≤m) (hm2:m≤1024) (hn:n=bA SS m) (hr:1+n≤rest.size) (hr2:rest.size≤140737488351232) (hab:ab.size≤140737488351232):
 Calls prog 94 #[.pointer bm,m,ab] w fun e w'=>e=.returned (.tuple #[(strL (uq (bppN SS:Nat) (qS rest.data.toList:Nat) (strL ((rest.data.toList.drop 1).take n)) ab)),.int .i64 (aL (bppN SS:Nat) (qS rest.data.toList:Nat) (strL ((rest.data.toList.drop 1).take n)) ab)])∧Is w' bm 84 #[W,H,D,C,l,pal,tr,has,(strL (rest.data.toList.drop (1+n))),.slice gp n8 n8]∧But [bm] w w':=by
 have HROW:Hid (∀v,Calls prog 93 #[.agg #[W,H,D,C,l],m] v (R1z (.int .i64 (n:Nat)) v)):=qhz fun v=>by
  have h:=xF v (W:Int) H D C l m;rw[wQ pal.data.toList tr.data.toList has h0 R hm1 hm2,←hSS,←hn]at h;exact h
 have hb1:=uV h0 R pal.data.toList tr.data.toList has;rw[←hSS]at hb1;obtain⟨hb1,hb8,hb0⟩:=hb1;obtain⟨bp,hbp⟩:=E1 (bppN SS);rw[←hbp]at hb1 hb8 hb0⊢;have HROW1:Hid (∀v,Calls prog 93 #[.agg #[W,H,D,C,l],(1:Int)] v (R1z (.int .i64 (bp:Nat)) v)):=qhz fun v=>by
  have h:=xF v (W:Int) H D C l ((1:Nat):Int);rw[wQ pal.data.toList tr.data.toList has h0 R (by decide) (by decide),←hSS,hb1]at h;exact h
 have hnl:n≤8192:=by rw[hn,hSS];exact oe R _ _ _ hm2
 obtain⟨n1,hn1⟩:∃z,z=1+n:=⟨_,rfl⟩
 have en1:(1:Int)+(n:Int)=(n1:Int):=by omega
 have vn1:=af (show n1<1000000000000000 by omega);have hn1l:n1≤rest.size:=by omega
 have h0l:0<rest.size:=by omega
 obtain⟨kd,hkd⟩:=E1 (qS rest.data.toList);have hkd2:kd=rest[0].toNat:=by rw[hkd];unfold qS;rw[bN rest h0l]
 have kdl:kd<256:=by rw[hkd2];exact rest[0].toNat_lt
 have kx:∀w,(Instr.index 9 (.string rest) (.int .i64 0)).run prog w=.ok (.int .u8 (kd:Nat)) w:=fun w=>by rw[hkd2];exact iw (k:=0) h0l w
 have vkd:=af (show kd<1000000000000000 by omega);obtain⟨seg,hseg⟩:=E1 (strL ((rest.data.toList.drop 1).take n));have hrl:rest.data.toList.length=rest.size:=by rw[Array.length_toList];rfl
 have hsegl:seg.size=n:=by rw[hseg,ac,List.length_take,List.length_drop,hrl];omega
 have ks:∀w,(Instr.slice 9 (.string rest) (some (.int .i64 1)) (some (.int .i64 (n1:Nat))) none).run prog w=.ok (.string seg) w:=fun w=>by
  have h:=vQ rest (i:=1) (j:=n1) (by omega) w hn1l;rw[show n1-1=n by omega,←hseg]at h;exact h
 obtain⟨re,hre⟩:=E1 (strL (rest.data.toList.drop n1));have kf:∀w,(Instr.slice 9 (.string rest) (some (.int .i64 (n1:Nat))) none none).run prog w=.ok (.string re) w:=fun w=>by rw[hre];exact CX rest w hn1l
 have HUN:Hid (∀v,Calls prog 145 #[bp,kd,seg,ab] v (R1z (.tuple #[(strL (uq (bp:Nat) (kd:Nat) seg ab)),.int .i64 (aL (bp:Nat) (kd:Nat) seg ab)]) v)):=qhz fun v=>JV v (bp:Int) (kd:Int) seg ab (by rw[hsegl];omega) hab;rw[←hkd,←hn1,←hseg,←hre];obtain⟨us,hus⟩:=E1 (strL (uq (bp:Int) (kd:Int) seg ab));obtain⟨er,her⟩:=E1 (aL (bp:Int) (kd:Int) seg ab);rw[←hus,←her]at HUN⊢;have HI:=qhz hI;clear hI hSS hn hr hr2 hb1 hbp hkd hkd2 hseg hrl hsegl hre hus her R h0 hn1 hab;obtain⟨c0,c1,c2,c3,c4,hgl⟩:=HI.out.c5
 go_enter func94,ntmps94
 go_wp2_with fail
 refine(HROW.out _).mono ?_;rintro e w2 ⟨rfl,hB2⟩;have HI2:=qhz (HI.out.but hB2 (by simp));have HB2:=qhz hB2;clear hB2 c0 c1 c2 c3 c4 hgl;have c8:=HI2.out.cell 8;have f8:=HI2.out.free 8;have hgl:=HI2.out.lt
 go_upto_region 2 with(fail)
 go_quiet (fail)
 go_upto_region 4 with(fail)
 obtain⟨w3,hw3⟩:=E1 ((w2.drewN nq).setCell ⟨bm,8,none⟩ (.string re));rw[←hw3];have HI3:Hid (Is w3 bm 84 #[W,H,D,C,l,pal,tr,has,re,.slice gp n8 n8]):=qhz (by rw[hw3];exact(HI2.out.drewN nq).put 8 _);have HB3:Hid (But [bm] w w3):=qhz (by rw[hw3];exact(HB2.out.drewN nq).wide.setCell (p:=⟨bm,8,none⟩) (.inl (by simp)) _);clear c8 f8 hgl hw3;obtain⟨c0,c1,c2,c3,c4,hgl⟩:=HI3.out.c5
 go_wp2_with fail
 refine(HROW1.out _).mono ?_;rintro e w4 ⟨rfl,hB4⟩;have HI4:=qhz (HI3.out.but hB4 (by simp));have HB4:=qhz (HB3.out.trans hB4.wide);clear hB4 c0 c1 c2 c3 c4 hgl
 go_wp2_with fail
 refine(HUN.out _).mono ?_;rintro e w5 ⟨rfl,hB5⟩;have HI5:=qhz (HI4.out.but hB5 (by simp));have HB5:=qhz (HB4.out.trans hB5.wide);clear hB5;go_wp2
 go_ret2
 exact⟨rfl,HI5.out,HB5.out⟩
theorem yV(w:World):(Go.sizeOf 5).run prog w=.ok 1 w:=by kernel_rfl
theorem Bx(W:World)(g n k:Nat)(hk:k<n):
 (Instr.slice 47 (.slice g n n) (some (.int .i64 (k:Int))) none none).run prog W=.ok (.slice (some ⟨g,k,none⟩) (n-k) (n-k)) W:=by
 have ht:prog.underlying 47=some (.slice 5):=underlying47;have ht':prog.underlying 47=some (.slice (prog.elem 47)):=by simp[Program.elem,ht]
 have he:prog.elem 47=5:=by simp[Program.elem,ht]
 rw[run_slice_l W _ _ _ _ ht' .i64 _ (by omega) (by omega),he,yV];have hne:¬n=k:=by omega
 by_cases h0:k=0
 ·subst h0;simp[Result.andThen,sliced,Addr.add,hne]
 ·simp[Result.andThen,sliced,Addr.add,hne,h0]
theorem Gc(w:World){ops:Array Oper}{E:Prop}{o:Oper}{a:Act}{K:Act→World→Prop}{Q:Exit→Act→World→Prop}(hgd:o.guard=none)(d s:Operand)
 (ho:o.op=.call {callee:=.builtin .copy,args:=#[d,s],argTypes:=#[47,9]}) {g k dLen dCap:Nat} {str:ByteArray} {l:List UInt8}
 (hd:a.eval d=.slice (some ⟨g,k,none⟩) dLen dCap) (hs:a.eval s=.string str) (hb:BytesB w g l) (hle:str.size≤dLen) (hfit:k+str.size≤l.length)
 (h:∀w',Hid (BytesB w' g (setN l k str.data.toList))→Hid (But [g] w w')→K (a.put o.dst (goInt str.size)) w'):if Region.wanted o (yielded ops a.tmps)=true then Oper.wp prog o a w K Q else E:=by
 rw[if_pos (show Region.wanted o (yielded ops a.tmps)=true by simp[Region.wanted,hgd])];obtain⟨w',hrun,h1,h2⟩:=Js hb hle hfit o.type;unfold Oper.wp;simp[execOp,ho,resolve,invoke,builtin,hd,hs,Result.andThen];rw[hrun];exact h w' (qhz h1) (qhz h2)
theorem FR{W H a b n8:Nat}(ha:a<W)(hb:b<H)(h8:n8=8*(W*H)):8*(b*W+a)+8≤n8:=by
 have:(b+1)*W≤H*W:=Nat.mul_le_mul_right _ hb;rw[Nat.add_mul,Nat.one_mul]at this;rw[h8,Nat.mul_comm W];omega
theorem FU{SS:ShP}{ln:List UInt8}{j:RowJ}{N x:Nat}{pix:List UInt8}(hx:x<N)(h:(pixS SS (bJ SS ln x)).2=0):cO SS ln j (N-x) x pix=cO SS ln j (N-(x+1)) (x+1) (setN pix (8*(j.y*SS.w+(j.x+x*j.dx))) (pixS SS (bJ SS ln x)).1):=by
 rw[show N-x=(N-(x+1))+1 by omega];exact NK h
theorem FT{SS:ShP}{ln:List UInt8}{j:RowJ}{N x:Nat}{pix:List UInt8}(hx:x<N)(h:(pixS SS (bJ SS ln x)).2≠0):cO SS ln j (N-x) x pix=([],(pixS SS (bJ SS ln x)).2):=by
 rw[show N-x=(N-(x+1))+1 by omega];exact Kh h
theorem Ca(w:World){W H D C:Nat}{l:Int}{pal tr rest:ByteArray}{has:Bool}{bm gp n8 px py dx dy Wp Hp y:Nat}{SS:ShP}{ln pix:List UInt8}{j:RowJ}(hSS:SS=⟨W,H,D,C,pal.data.toList,tr.data.toList,has⟩)(R:fl (W:Int) H D C l W H D C)(hI:Is w bm 84 #[W,H,D,C,l,pal,tr,has,rest,.slice gp n8 n8])(hX:BytesB w gp pix)(hPL:pix.length=n8)(hn8:n8=8*(W*H))
 (hp:pal.size≤140737488351232) (ht:tr.size≤140737488351232) (hm1:1≤Wp) (hm2:Wp≤1024) (hln:ln.length=bA SS Wp) (hj:j.n=Wp∧j.x=px∧j.dx=dx∧j.y=py+y*dy) (hpl:∀x,x<Wp→px+x*dx<W∧py+y*dy<H):
 Calls prog 95 #[.pointer bm,.agg #[px,py,dx,dy,Wp,Hp],.int .i64 (y:Nat),strL ln] w fun e w'=>e=.returned (.int .i64 (cO SS ln j j.n 0 pix).2)∧((cO SS ln j j.n 0 pix).2=0→BytesB w' gp (cO SS ln j j.n 0 pix).1∧(cO SS ln j j.n 0 pix).1.length=n8)∧But [gp] w w':=by
 obtain⟨S,hS⟩:=E1 (ai C);have s1:1≤S:=by rw[hS];exact R.s1
 have s4:S≤4:=by rw[hS];exact R.s4
 have w2:=R.w2;have h2:=R.h2;have d16:=R.d16;have hcs:aW (C:Int)=(S:Int):=by rw[hS];exact R.sam
 have HSM:Hid (∀v,Calls prog 144 #[C] v fun e w'=>e=.returned (.int .i64 (S:Nat))∧v=w'):=qhz fun v=>by rw[←hcs];exact iK v C
 have hrl:bA SS Wp=(D*S*Wp+7)/8:=by rw[hSS,hS];rfl
 have hrl2:bA SS Wp≤8192:=by rw[hSS];exact oe R _ _ _ hm2
 obtain⟨nv,hnv⟩:=E1 (S*Wp);have hnvl:nv≤4096:=by rw[hnv];show _≤4*1024;exact Nat.mul_le_mul s4 hm2
 have env:(S:Int)*(Wp:Int)=(nv:Int):=by rw[hnv,Int.natCast_mul]
 have vnv:=af (show nv<1000000000000000 by omega);obtain⟨V,hV⟩:=E1 (eu ln D nv);obtain⟨ls,hls⟩:=E1 (strL ln);have HUP:Hid (∀v,Calls prog 146 #[ls,D,nv] v fun e w'=>∃A cap,e=.returned (.tuple #[.slice A nv cap,(0:Int)])∧Nums w' A nv V∧nv≤cap∧But [] v w'):=qhz fun v=>by
  have h:=sM v (s:=strL ln) (d:=(D:Int)) (n:=(nv:Int)) (by rw[ac,hln];omega);have e:gE (strL ln) (D:Int) (nv:Int)=(eu ln D nv,0):=by
   unfold gE;rw[if_neg (by rintro(h|h|h);rw[R.dep]at h;cases h;omega;omega),if_neg (by
    rw[ac,hln,hrl,←Int.natCast_mul,hnv];have e3:S*Wp*D=D*S*Wp:=by rw[Nat.mul_comm,Nat.mul_assoc]
    rw[e3];omega),aj]
   rfl
  rw[e]at h;unfold Pm at h;rw[iW,←hV,←hls]at h;exact h
 have HPX:Hid (∀(v:World) (A:Option Addr) (cp x:Nat),S≤cp→Zs v A S ((bJ SS ln x).map fun y=>((y:Nat):Int))→Calls prog 147 #[.agg #[W,H,D,C,l,pal,tr,has],.slice A S cp] v fun r w'=>r=.returned (.tuple #[.string (strL (pixS SS (bJ SS ln x)).1),.int .i64 (pixS SS (bJ SS ln x)).2])∧But [] v w'):=qhz fun v A cp x hcp hZ=>by
  have h:=FN v (a:=(W:Int)) (b:=(H:Int)) (c:=(C:Int)) (d:=(D:Int)) (e0:=l) (pal:=pal) (tr:=tr) (has:=has) (cp:=cp) hZ (by omega) hcp hp ht;rw[hSS,BZ R ln x,←hSS]at h;exact h
 have HCUT:Hid (∀x,x<Wp→(V.drop (S*x)).take S=bJ SS ln x):=qhz fun x hx=>by
  have h:=Jl (S:=SS) (line:=ln) hx;rw[hSS]at h⊢;rw[hV,hnv,hS];exact h
 have HDW:Hid (SS.w=W):=qhz (by rw[hSS]);obtain⟨GO,hGO⟩:=E1 (cO SS ln j j.n 0 pix);have HGO:Hid (GO=cO SS ln j (Wp-0) 0 pix):=qhz (by rw[hGO,hj.1,Nat.sub_zero]);rw[←hls,←hGO];have HJ:=qhz hj;have HPLC:=qhz hpl;have HPL:=qhz hPL;have HN8:=qhz hn8;have hn8l:n8≤32768:=by rw[hn8];have:=R.area;omega
 obtain⟨yd,hyd⟩:=E1 (y*dy);have eyd:(y:Int)*(dy:Int)=(yd:Int):=by rw[hyd,Int.natCast_mul]
 obtain⟨yy,hyy⟩:=E1 (py+yd);have eyy:(py:Int)+(yd:Int)=(yy:Int):=by rw[hyy];omega
 have hyl:yy<H:=by have h:=(hpl 0 (by omega)).2;omega
 have vyd:=af (show yd<1000000000000000 by omega);have vyy:=af (show yy<1000000000000000 by omega);have HYY:Hid (yy=py+y*dy):=qhz (by rw[hyy,hyd]);obtain⟨b5,hb5⟩:=E1 w.heap.size;obtain⟨w1,hw1⟩:=E1 (w.alloc (.cells #[px,py,dx,dy,Wp,Hp] 64));have hP5:Is w1 b5 64 #[px,py,dx,dy,Wp,Hp]:=by rw[hw1,hb5];exact Is.fresh _ _ _
 have hB1:But [] w w1:=by rw[hw1];exact(But.refl [] w).alloc _
 have hX1:=hX.but hB1 (by simp);have hI1:=hI.but hB1 (by simp);have HOFF:Hid (bm∉[gp]∧b5∉[gp]):=qhz ⟨hX.off (hI.cell 0),hX1.off (hP5.cell 0)⟩;have HX1:=qhz hX1;have HB1:=qhz hB1;have HM:Hid (∀v,But [gp] w1 v→v.cell? ⟨bm,0,none⟩=some (.int .i64 W)∧v.cell? ⟨bm,1,none⟩=some (.int .i64 H)∧v.cell? ⟨bm,2,none⟩=some (.int .i64 D)∧v.cell? ⟨bm,3,none⟩=some (.int .i64 C)∧v.cell? ⟨bm,4,none⟩=some (.int .i64 l)∧v.cell? ⟨bm,5,none⟩=some (.string pal)∧v.cell? ⟨bm,6,none⟩=some (.string tr)∧v.cell? ⟨bm,7,none⟩=some (.bool has)∧v.cell? ⟨bm,8,none⟩=some (.string rest)∧v.cell? ⟨bm,9,none⟩=some (.slice gp n8 n8)∧bm<v.heap.size):=qhz fun v hv=>by
  have hh:=hI1.but hv HOFF.out.1;exact⟨hh.cell 0,hh.cell 1,hh.cell 2,hh.cell 3,hh.cell 4,hh.cell 5,hh.cell 6,hh.cell 7,hh.cell 8,hh.cell 9,hh.lt⟩
 have HP:Hid (∀v,But [gp] w1 v→v.cell? ⟨b5,0,none⟩=some (.int .i64 px)∧v.cell? ⟨b5,1,none⟩=some (.int .i64 py)∧v.cell? ⟨b5,2,none⟩=some (.int .i64 dx)∧v.cell? ⟨b5,3,none⟩=some (.int .i64 dy)∧v.cell? ⟨b5,4,none⟩=some (.int .i64 Wp)∧v.cell? ⟨b5,5,none⟩=some (.int .i64 Hp)∧b5<v.heap.size):=qhz fun v hv=>by
  have hh:=hP5.but hv HOFF.out.2;exact⟨hh.cell 0,hh.cell 1,hh.cell 2,hh.cell 3,hh.cell 4,hh.cell 5,hh.lt⟩
 have HNV:=qhz hnv;clear hSS hX hI hP5 hB1 hX1 hI1 hPL hn8 hln hj hpl hS hcs hrl hrl2 hnv hV hls hGO hyd hyy R
 go_enter func95,ntmps95
 go_upto_region 1 with(fail)
 rw[←hw1,←hb5];clear hw1 hb5;obtain⟨c0,c1,c2,c3,c4,c5,c6,c7,c8,c9,hgm⟩:=HM.out _ (But.refl _ _)
 go_wp2_with fail
 refine(HSM.out _).mono ?_;rintro e w2 ⟨rfl,rfl⟩;clear c0 c1 c2 c3 c4 c5 c6 c7 c8 c9 hgm
 go_upto_region 2 with(fail)
 refine bw (S:=fun v=>But [] w1 v) (R:=fun v v'=>But [] v v') (fun w=>But.refl [] w) (by kernel_rfl) ((But.refl [] w1).drew) ?_;refine rdk 0 (.string ls) ?_;refine rdk 1 (.pointer bm) ?_;refine rdk 2 (.pointer bm) ?_;refine rdk 3 (.pointer bm) ?_;refine rdk 4 (.pointer bm) ?_;refine rdk 5 (.pointer (some ⟨bm,2,none⟩)) ?_;refine rdq 6 (.int .i64 (D:Nat)) (fun w hS=>?_) ?_
 ·obtain⟨c0,c1,c2,c3,c4,c5,c6,c7,c8,c9,hgm⟩:=HM.out w hS.wide;go_simp
 refine rdk 7 (.int .i64 (S:Nat)) ?_;refine rdk 8 (.pointer (some ⟨b5,4,none⟩)) ?_;refine rdq 9 (.int .i64 (Wp:Nat)) (fun w hS=>?_) ?_
 ·obtain⟨p0,p1,p2,p3,p4,p5,hgp5⟩:=HP.out w hS.wide;go_simp
 refine rdk 10 (.int .i64 (nv:Nat)) ?_;refine cI (i:=11) rfl (by kernel_rfl) fun w3 hR3 hS3 K' hK=>?_;go_simp;refine(HUP.out w3).mono ?_;rintro e w4 ⟨A4,cv,rfl,hV4,hcv,hB4⟩;have HV4:=qhz hV4;refine hK _ _ ⟨hS3.trans hB4,?_⟩;clear hK K' hV4;refine rdk 12 (.tuple #[.slice A4 nv cv,(0:Int)]) ?_;refine rdk 13 (.slice A4 nv cv) ?_;refine rdk 14 (.int .i64 0) ?_;refine rdk 15 (.slice A4 nv cv) ?_;refine rdk 16 (.int .i64 0) ?_;refine⟨by kernel_rfl,fun wb hRb hSb=>?_⟩;have HBb:=qhz hSb;have HXb:=qhz (HX1.out.but hSb (by simp));have HVb:=qhz (HV4.out.but hRb);have HVV:Hid (∀v,But [gp] wb v→Nums v A4 nv V):=qhz fun v hv=>HVb.out.keep HXb.out hv;clear hRb hSb hS3 hR3 hB4;go_simp;obtain⟨p0,p1,p2,p3,p4,p5,hgp5⟩:=HP.out _ HBb.out.wide
 go_wp2_with fail
 go_loopw [51] (fun xv wx=>∃(x:Nat) (pix:List UInt8),x≤Wp∧xv=.int .i64 x∧Hid (GO=cO SS ln j (Wp-x) x pix)∧Hid (pix.length=n8)∧Hid (BytesB wx gp pix)∧Hid (But [gp] wb wx)) (fun xv _=>Wp-(intOf xv).toNat)
 case atStart=>exact⟨0,pix,Nat.zero_le _,rfl,HGO,HPL,HXb,qhz (But.refl _ _)⟩
 case round=>
  clear HGO HPL HXb p0 p1 p2 p3 p4 p5 hgp5;obtain⟨x,pix1,hx,rfl,HGO,HPL,HX,HB⟩:=hrel
  by_cases hxl:x<Wp
  ·obtain⟨kx,hkx⟩:=E1 (S*x);obtain⟨kx1,hkx1⟩:=E1 (kx+S);have ekx:(S:Int)*(x:Int)=(kx:Int):=by rw[hkx,Int.natCast_mul]
   have ekx1:(kx:Int)+(S:Int)=(kx1:Int):=by omega
   have hk1:kx1≤nv:=by
    rw[hkx1,hkx,HNV.out];have:S*(x+1)≤S*Wp:=Nat.mul_le_mul_left _ hxl;rw[Nat.mul_add,Nat.mul_one]at this;exact this
   have vkx:=af (show kx<1000000000000000 by omega);have vkx1:=af (show kx1<1000000000000000 by omega);obtain⟨g,o,hA,_⟩:=(HVb.out).part (lo:=kx) (k:=S) (by omega) (by omega);subst hA;have HN:Hid (∀v,But [gp] wb v→Zs v (some ⟨g,o+kx,none⟩) S ((bJ SS ln x).map fun y=>((y:Nat):Int))):=qhz fun v hv=>by
    obtain⟨g',o',e,h⟩:=(HVV.out v hv).part (lo:=kx) (k:=S) (by omega) (by omega);injection e with e;injection e with e1 e2;subst e1 e2;rw[hkx,HCUT.out x hxl]at h;rw[hkx];exact h.zs
   have ks:∀v,(Instr.slice 36 (.slice (some ⟨g,o,none⟩) nv cv) (some (.int .i64 (kx:Int))) (some (.int .i64 (kx1:Int))) none).run prog v=.ok (.slice (some ⟨g,o+kx,none⟩) S (cv-kx)) v:=fun v=>by
    have h:=yU v g o nv cv kx kx1 (by omega) (by omega);rw[show kx1-kx=S by omega]at h;exact h
   obtain⟨ps,hps⟩:=E1 (pixS SS (bJ SS ln x));obtain⟨qs,hqs⟩:=E1 (strL ps.1);obtain⟨er,her⟩:=E1 ps.2;have HPXx:Hid (∀v,But [gp] wb v→Calls prog 147 #[.agg #[W,H,D,C,l,pal,tr,has],.slice (some ⟨g,o+kx,none⟩) S (cv-kx)] v fun r w'=>r=.returned (.tuple #[qs,er])∧But [] v w'):=qhz fun v hv=>by
    have h:=HPX.out v (some ⟨g,o+kx,none⟩) (cv-kx) x (by omega) (HN.out v hv);rw[←hps,←hqs,←her]at h;exact h
   have HPS:=qhz hps;have HQS:=qhz hqs;have HER:=qhz her;have i0:(0:Int)≤(x:Int):=by omega
   have i1:(x:Int)<(Wp:Int):=by omega
   clear hps hqs her hkx hkx1
   go_upto_region 9 with(fail)
   refine bw (S:=fun v=>But [] wr v) (R:=fun v v'=>But [] v v') (fun w=>But.refl [] w) (by kernel_rfl) ((But.refl [] wr).drew) ?_;refine rdk 0 (.pointer bm) ?_;refine rdk 1 (.pointer bm) ?_;refine rdk 2 (.pointer bm) ?_;refine rdq 3 (.agg #[W,H,D,C,l,pal,tr,has]) (fun w hS=>?_) ?_
   ·obtain⟨c0,c1,c2,c3,c4,c5,c6,c7,c8,c9,hgm⟩:=HM.out w (HBb.out.wide.trans (HB.out.trans hS.wide));go_simp
   refine rdk 4 (.slice (some ⟨g,o,none⟩) nv cv) ?_;refine rdk 5 (.int .i64 (S:Nat)) ?_;refine rdk 6 (.int .i64 (x:Nat)) ?_;refine rdk 7 (.int .i64 (kx:Nat)) ?_;refine rdk 8 (.int .i64 (S:Nat)) ?_;refine rdk 9 (.int .i64 (x:Nat)) ?_;refine rdk 10 (.int .i64 (kx:Nat)) ?_;refine rdk 11 (.int .i64 (S:Nat)) ?_;refine rdk 12 (.int .i64 (kx1:Nat)) ?_;refine rdk 13 (.slice (some ⟨g,o+kx,none⟩) S (cv-kx)) ?_;refine cr (fun w=>But.refl [] w) (fun x y z h k=>h.trans k) (i:=14) (v:=.tuple #[qs,er]) rfl (by kernel_rfl) (by kernel_rfl) (by kernel_rfl) (fun _ _ _ h=>h) (.inl ⟨?_,fun w hS=>.inr ⟨_,_,?_,(HPXx.out w (HB.out.trans hS.wide)).mono ?_⟩⟩) ?_
   ·go_simp
   ·go_simp
   ·rintro e wy ⟨rfl,hB⟩;exact⟨rfl,hS.trans hB,hB⟩
   refine rdk 15 (.tuple #[qs,er]) ?_;refine rdk 16 (.string qs) ?_;refine rdk 17 (.int .i64 er) ?_;refine rdk 18 (.string qs) ?_;refine rdk 19 (.int .i64 er) ?_;refine⟨by kernel_rfl,fun w5 hR5 hS5=>?_⟩;have HX5:=qhz (HX.out.but hS5 (by simp));have HB5:=qhz (HB.out.trans hS5.wide);clear hR5 hS5 ks;go_simp
   by_cases her:er=0
   ·subst her;have HGO2:=qhz (HGO.out.trans (FU hxl (by rw[←HPS.out,←HER.out])));have h8:ps.1.length=8:=by
     rcases lU SS (bJ SS ln x)with h|h
     ·rw[HPS.out];exact h.2
     ·have h9:=HER.out;rw[HPS.out,h]at h9;exact absurd h9 (by decide)
    have hq8:qs.size=8:=by rw[HQS.out,ac,h8]
    obtain⟨xd,hxd⟩:=E1 (x*dx);have exd:(x:Int)*(dx:Int)=(xd:Int):=by rw[hxd,Int.natCast_mul]
    obtain⟨xx,hxx⟩:=E1 (px+xd);have exx:(px:Int)+(xd:Int)=(xx:Int):=by rw[hxx];omega
    have hxxl:xx<W:=by have h:=(HPLC.out x hxl).1;omega
    obtain⟨yw,hyw⟩:=E1 (yy*W);have eyw:(yy:Int)*(W:Int)=(yw:Int):=by rw[hyw,Int.natCast_mul]
    obtain⟨at_,hat⟩:=E1 (yw+xx);have eat:(yw:Int)+(xx:Int)=(at_:Int):=by rw[hat];omega
    obtain⟨k,hk⟩:∃z,z=8*at_:=⟨_,rfl⟩
    have ek:(8:Int)*(at_:Int)=(k:Int):=by omega
    have hroom:k+8≤n8:=by
     have h:=FR hxxl hyl HN8.out;rw[hk,hat,hyw];exact h
    have vxd:=af (show xd<1000000000000000 by omega);have vxx:=af (show xx<1000000000000000 by omega);have vyw:=af (show yw<1000000000000000 by omega);have vat:=af (show at_<1000000000000000 by omega);have vk:=af (show k<1000000000000000 by omega);have HK:Hid (k=8*(j.y*SS.w+(j.x+x*j.dx))):=qhz (by
     rw[hk,hat,hyw,hxx,hxd,HYY.out,HJ.out.2.2.2,HJ.out.2.1,HJ.out.2.2.1,HDW.out])
    have kf:=fun v=>Bx v gp n8 k (by omega);have HSL:Hid (setN pix1 k qs.data.toList=setN pix1 (8*(j.y*SS.w+(j.x+x*j.dx))) (pixS SS (bJ SS ln x)).1):=qhz (by rw[HK.out,HQS.out,aj,HPS.out]);have HQ8:=qhz hq8;clear hxd hxx hyw hat hk h8 hq8;obtain⟨p0,p1,p2,p3,p4,p5,hgp5⟩:=HP.out _ (HBb.out.wide.trans HB5.out)
    go_upto_region 13 with(fail)
    clear p0 p1 p2 p3 p4 p5 hgp5;refine bw (S:=fun v=>But [gp] w5 v) (R:=fun v v'=>But [] v v') (fun w=>But.refl [] w) (by kernel_rfl) ((But.refl [gp] w5).drew) ?_;refine rdk 0 (.pointer bm) ?_;refine rdk 1 (.pointer bm) ?_;refine rdk 2 (.pointer (some ⟨bm,9,none⟩)) ?_;refine rdq 3 (.slice gp n8 n8) (fun w hS=>?_) ?_
    ·obtain⟨c0,c1,c2,c3,c4,c5,c6,c7,c8,c9,hgm⟩:=HM.out w (HBb.out.wide.trans (HB5.out.trans hS));go_simp
    refine rdk 4 (.int .i64 (yy:Nat)) ?_;refine rdk 5 (.pointer bm) ?_;refine rdk 6 (.pointer bm) ?_;refine rdk 7 (.pointer bm) ?_;refine rdk 8 (.pointer bm) ?_;refine rdk 9 (.pointer bm) ?_;refine rdq 10 (.int .i64 (W:Nat)) (fun w hS=>?_) ?_
    ·obtain⟨c0,c1,c2,c3,c4,c5,c6,c7,c8,c9,hgm⟩:=HM.out w (HBb.out.wide.trans (HB5.out.trans hS));go_simp
    refine rdk 11 (.int .i64 (yw:Nat)) ?_;refine rdk 12 (.int .i64 (xx:Nat)) ?_;refine rdk 13 (.int .i64 (at_:Nat)) ?_;refine rdk 14 (.int .i64 (k:Nat)) ?_;refine rdk 15 (.slice (some ⟨gp,k,none⟩) (n8-k) (n8-k)) ?_;refine rdk 16 (.string qs) ?_;refine cI (i:=17) rfl (by kernel_rfl) fun w6 hR6 hS6 K' hK=>?_;refine Gc (g:=gp) (k:=k) (dLen:=n8-k) (dCap:=n8-k) (str:=qs) (l:=pix1) w6 rfl (Operand.tmp 97) (Operand.tmp 98) rfl (by kernel_rfl) (by kernel_rfl) (HX5.out.but ((But.refl [] w5).drew.trans hR6) (by simp)) (by rw[HQ8.out];omega) (by rw[HQ8.out,HPL.out];exact hroom) ?_;intro w7 HX7 HB7;refine hK _ _ ⟨hS6.trans HB7.out,?_⟩;clear hK K';refine⟨by kernel_rfl,fun w8 hR8 hS8=>?_⟩;rw[HSL.out]at HX7;have HX8:=qhz (HX7.out.but hR8 (by simp));have HB8:=qhz (HB5.out.trans hS8);have HPL8:Hid ((setN pix1 (8*(j.y*SS.w+(j.x+x*j.dx))) (pixS SS (bJ SS ln x)).1).length=n8):=qhz (by
     rw[←HSL.out,mS (by rw[Array.length_toList];show _+qs.size≤_;rw[HQ8.out,HPL.out];exact hroom),HPL.out])
    clear hR6 hS6 hR8 hS8 HB7 HX7;go_simp;go_wp2
    go_roundw
    case rel=>exact⟨x+1,_,by omega,by go_num,HGO2,HPL8,HX8,HB8⟩
    case measure=>simp[intOf]<;>omega
   ·have q1:(er !=0)=true:=by simpa using her
    have HGO2:=qhz (HGO.out.trans (FT hxl (by rw[←HPS.out,←HER.out];exact her)));have HE2:Hid (GO.2=er):=qhz (by rw[HGO2.out,HER.out,HPS.out]);have HE3:Hid (GO.2≠0):=qhz (by rw[HE2.out];exact her);go_wp2;go_ret;exact⟨by rw[HE2.out];rfl,fun h=>absurd h HE3.out,HB1.out.wide.trans (HBb.out.wide.trans HB5.out)⟩
  ·obtain rfl:Wp=x:=by omega
   have HE:Hid (GO=(pix1,0)):=qhz (by rw[HGO.out,Nat.sub_self];rfl);have HE2:Hid (GO.2=0):=qhz (by rw[HE.out]);have HXe:Hid (BytesB wr gp GO.1∧GO.1.length=n8):=qhz (by rw[HE.out];exact⟨HX.out,HPL.out⟩);go_wp2;go_ret;exact⟨by rw[HE2.out];rfl,fun _=>HXe.out,HB1.out.wide.trans (HBb.out.wide.trans HB.out)⟩
theorem But.l2{w w':World}{a b:Nat}(h:But [a] w w'):But [a,b] w w':=h.more fun k hk=>by simp at hk⊢;exact .inl hk
theorem But.r2{w w':World}{a b:Nat}(h:But [b] w w'):But [a,b] w w':=h.more fun k hk=>by simp at hk⊢;exact .inr hk
theorem But.w2{w w':World}{a b:Nat}(h:But [] w w'):But [a,b] w w':=h.more fun k hk=>by cases hk
structure MM(IM:List UInt8×Int)(SS:ShP)(js:List RowJ)(n n8:Nat)(first:Prop)(re ab:ByteArray)(pix:List UInt8):Prop where
 im:IM=runI SS js re.data.toList ab.data.toList pix
 sj:re.size=fS SS js
 big:re.size≤140737488351232
 ab0:first→ab.data.toList=[]
 abn:ab.size=0∨ab.size=n
 pl:pix.length=n8
theorem zD(w:World){W H D C:Nat}{l:Int}{pal tr rest:ByteArray}{has:Bool}{bm gp n8 n:Nat}{SS:ShP}{pix:List UInt8}{p:bj}{JS:List RowJ}{IM:List UInt8×Int}(hSS:SS=⟨W,H,D,C,pal.data.toList,tr.data.toList,has⟩)(h0:ak (W:Int) H D C l=0)(R:fl (W:Int) H D C l W H D C)(hI:Is w bm 84 #[W,H,D,C,l,pal,tr,has,rest,.slice gp n8 n8])(hX:BytesB w gp pix)(hn8:n8=8*(W*H))
 (hp:pal.size≤140737488351232) (ht:tr.size≤140737488351232) (hbase:p∈gn l) (hsome:cj W H p=true) (hn:n=bA SS (ay W p.x p.dx)) (hL:MM IM SS (eC W H p 0++JS) n n8 True rest ⟨#[]⟩ pix):
 Calls prog 55 #[.pointer bm,.agg #[.int .i64 p.x,.int .i64 p.y,p.dx,p.dy,.int .i64 (ay W p.x p.dx:Nat),.int .i64 (ay H p.y p.dy:Nat)]] w fun e w'=>∃er:Int,e=.returned (.int .i64 er)∧(er≠0→IM=([],er))∧(er=0→∃(re ab:ByteArray) (pix2:List UInt8),MM IM SS JS n n8 False re ab pix2∧Is w' bm 84 #[W,H,D,C,l,pal,tr,has,.string re,.slice gp n8 n8]∧BytesB w' gp pix2)∧But [bm,gp] w w':=by
 have hsm:=of_decide_eq_true hsome;obtain⟨⟨hx7,hy7⟩,⟨hdx1,hdx8⟩,hdy1,hdy8⟩:=gm hbase;have hokp:=Df l p hbase;have w2:=R.w2;have h2:=R.h2;have hWle:=da W p.x p.dx hdx1;have hHle:=da H p.y p.dy hdy1;have HPLC:Hid (∀y,y<ay H p.y p.dy→∀x,x<ay W p.x p.dx→p.x+x*p.dx<W∧p.y+y*p.dy<H):=qhz fun y h2 x h1=>D5 hokp h2 h1;have HJOB:Hid (∀y,(jobP W p y).n=ay W p.x p.dx∧(jobP W p y).x=p.x∧(jobP W p y).dx=p.dx∧(jobP W p y).y=p.y+y*p.dy∧((jobP W p y).first=true↔y=0)):=qhz fun y=>⟨rfl,rfl,rfl,rfl,by show decide (y=0)=true↔y=0;exact decide_eq_true_iff⟩
 have HLN:Hid (∀y,y<ay H p.y p.dy→eC W H p y++JS=jobP W p y::(eC W H p (y+1)++JS)):=qhz fun y hy=>by rw[lY hy];rfl
 have HLE:Hid (∀y,ay H p.y p.dy≤y→eC W H p y++JS=JS):=qhz fun y hy=>by rw[tw hy];rfl
 obtain⟨px,hpx⟩:=E1 p.x;obtain⟨py,hpy⟩:=E1 p.y;obtain⟨dx,hdx⟩:=E1 p.dx;obtain⟨dy,hdy⟩:=E1 p.dy;obtain⟨Wp,hWp⟩:=E1 (ay W p.x p.dx);obtain⟨Hp,hHp⟩:=E1 (ay H p.y p.dy);rw[←hWp,←hHp]at hsm HPLC;rw[←hWp]at HJOB hWle hn⊢;rw[←hHp]at HLN HLE hHle⊢;rw[←hpx,←hpy,←hdx,←hdy]at HJOB HPLC⊢;obtain⟨hWp1,hHp1⟩:=hsm;have hnl:n≤8192:=by rw[hn,hSS];exact oe R _ _ _ (by omega)
 have hbp:=uV h0 R pal.data.toList tr.data.toList has;rw[←hSS]at hbp;obtain⟨_,hbp8,hbp1⟩:=hbp;obtain⟨bp,hbpe⟩:=E1 (bppN SS);have HNX:Hid (∀(v:World) (re ab:ByteArray),Is v bm 84 #[W,H,D,C,l,pal,tr,has,.string re,.slice gp n8 n8]→1+n≤re.size→re.size≤140737488351232→ab.size≤140737488351232→Calls prog 94 #[.pointer bm,Wp,.string ab] v fun e w'=>e=.returned (.tuple #[.string (strL (uq (bp:Nat) (qS re.data.toList:Nat) (strL ((re.data.toList.drop 1).take n)) ab)),.int .i64 (aL (bp:Nat) (qS re.data.toList:Nat) (strL ((re.data.toList.drop 1).take n)) ab)])∧Is w' bm 84 #[W,H,D,C,l,pal,tr,has,.string (strL (re.data.toList.drop (1+n))),.slice gp n8 n8]∧But [bm] v w'):=qhz fun v re ab k1 k2 k3 k4=>by
  rw[hbpe];exact BU v hSS h0 R k1 hWp1 (by omega) hn k2 k3 k4
 have HAR:Hid (∀(v:World) (y:Nat) (re:ByteArray) (ln pix:List UInt8) (j:RowJ),y<Hp→Is v bm 84 #[W,H,D,C,l,pal,tr,has,.string re,.slice gp n8 n8]→BytesB v gp pix→pix.length=n8→ln.length=n→(j.n=Wp∧j.x=px∧j.dx=dx∧j.y=py+y*dy)→Calls prog 95 #[.pointer bm,.agg #[px,py,dx,dy,Wp,Hp],.int .i64 (y:Nat),.string (strL ln)] v fun e w'=>e=.returned (.int .i64 (cO SS ln j j.n 0 pix).2)∧((cO SS ln j j.n 0 pix).2=0→BytesB w' gp (cO SS ln j j.n 0 pix).1∧(cO SS ln j j.n 0 pix).1.length=n8)∧But [gp] v w'):=qhz fun v y re ln pix j hy k1 k2 k3 k4 k5=>
  Ca v hSS R k1 k2 k3 hn8 hp ht hWp1 (by omega) (by rw[k4,hn]) k5 (HPLC.out y hy)
 have HBN:Hid (bppN SS=bp):=qhz hbpe.symm;rw[←hbpe]at hbp8 hbp1;have HN:=qhz hn;obtain⟨b3,hb3⟩:=E1 w.heap.size;obtain⟨w1,hw1⟩:=E1 (w.alloc (.cells #[px,py,dx,dy,Wp,Hp] 64));have hP3:Is w1 b3 64 #[px,py,dx,dy,Wp,Hp]:=by rw[hw1,hb3];exact Is.fresh _ _ _
 have hB1:But [] w w1:=by rw[hw1];exact(But.refl [] w).alloc _
 have HX1:=qhz (hX.but hB1 (by simp));have HI1:=qhz (hI.but hB1 (by simp));have HB1:=qhz hB1;have HOFF:Hid (bm∉[gp]∧gp∉[bm]∧b3∉[bm,gp]):=qhz (by
  have k1:=hX.off (hI.cell 0);have k2:=HX1.out.off (hP3.cell 0);have k3:=hI.lt;rw[List.mem_singleton]at k1 k2;refine⟨by rw[List.mem_singleton];exact k1,by rw[List.mem_singleton];omega,?_⟩;simp only[List.mem_cons,List.not_mem_nil,or_false];omega)
 have HP:Hid (∀v,But [bm,gp] w1 v→v.cell? ⟨b3,0,none⟩=some (.int .i64 px)∧v.cell? ⟨b3,1,none⟩=some (.int .i64 py)∧v.cell? ⟨b3,2,none⟩=some (.int .i64 dx)∧v.cell? ⟨b3,3,none⟩=some (.int .i64 dy)∧v.cell? ⟨b3,4,none⟩=some (.int .i64 Wp)∧v.cell? ⟨b3,5,none⟩=some (.int .i64 Hp)∧b3<v.heap.size):=qhz fun v hv=>by
  have hh:=hP3.but hv HOFF.out.2.2;exact⟨hh.cell 0,hh.cell 1,hh.cell 2,hh.cell 3,hh.cell 4,hh.cell 5,hh.lt⟩
 have HL:=qhz hL;clear hL hX hI hP3 hB1 hn hn8 hbpe hpx hpy hdx hdy hWp hHp hokp hbase hsome hx7 hy7 hSS h0 R
 go_enter func55,ntmps55
 go_upto_region 1 with(fail)
 rw[←hw1,←hb3];clear hw1 hb3;obtain⟨p0,p1,p2,p3,p4,p5,hg3⟩:=HP.out _ (But.refl _ _)
 go_wp2_with fail
 go_loopw [5,12] (fun av yv wx=>∃(y:Nat) (re ab:ByteArray) (pix:List UInt8),y≤Hp∧yv=.int .i64 y∧av=.string ab∧Hid (MM IM SS (eC W H p y++JS) n n8 (y=0) re ab pix)∧Hid (Is wx bm 84 #[W,H,D,C,l,pal,tr,has,.string re,.slice gp n8 n8])∧Hid (BytesB wx gp pix)∧Hid (But [bm,gp] w1 wx)) (fun _ yv _=>Hp-(intOf yv).toNat)
 case atStart=>exact⟨0,rest,⟨#[]⟩,pix,Nat.zero_le _,rfl,rfl,qhz ⟨HL.out.im,HL.out.sj,HL.out.big,fun _=>rfl,.inl rfl,HL.out.pl⟩,HI1,HX1,qhz (But.refl _ _)⟩
 case round=>
  clear HL HI1 HX1 p0 p1 p2 p3 p4 p5 hg3;obtain⟨y,re,ab,pix1,hy,rfl,rfl,HL,HI,HX,HB⟩:=hrel;obtain⟨p0,p1,p2,p3,p4,p5,hg3⟩:=HP.out _ HB.out
  by_cases hyl:y<Hp
  ·obtain⟨j,hj⟩:=E1 (jobP W p y);have HJ:Hid (j.n=Wp∧j.x=px∧j.dx=dx∧j.y=py+y*dy∧(j.first=true↔y=0)):=qhz (by rw[hj];exact HJOB.out y);have HLNy:Hid (eC W H p y++JS=j::(eC W H p (y+1)++JS)):=qhz (by rw[hj];exact HLN.out y hyl);obtain⟨J2,hJ2⟩:=E1 (eC W H p (y+1)++JS);rw[←hJ2]at HLNy;have HJ2:=qhz hJ2;have hsz2:re.size=1+n+fS SS J2:=by rw[HL.out.sj,HLNy.out,Fq,HJ.out.1,HN.out]
   have HSZ2:=qhz hsz2;have hrl:re.data.toList.length=re.size:=by rw[Array.length_toList];rfl
   have HNXy:=qhz fun(v:World) (hv:Is v bm 84 #[W,H,D,C,l,pal,tr,has,.string re,.slice gp n8 n8])=>HNX.out v re ab hv (by omega) HL.out.big (by rcases HL.out.abn with h|h<;>omega);obtain⟨kd,hkd⟩:=E1 (qS re.data.toList);rw[←hkd]at HNXy;have HKD:=qhz hkd;obtain⟨seg,hseg⟩:=E1 (strL ((re.data.toList.drop 1).take n));rw[←hseg]at HNXy;have hsegl:seg.size=n:=by rw[hseg,ac,List.length_take,List.length_drop,hrl];omega
   obtain⟨ln,hln⟩:=E1 (zS SS j re.data.toList ab.data.toList);have hln2:ln=eO (kd:Nat) bp seg.data.toList ab.data.toList:=by
    rw[hln];unfold zS;have hfa:(if j.first=true then []else ab.data.toList)=ab.data.toList:=by
     by_cases hf:j.first=true
     ·rw[if_pos hf,HL.out.ab0 (HJ.out.2.2.2.2.1 hf)]
     ·rw[if_neg hf]
    rw[hfa,HBN.out,hkd,hseg,aj,HJ.out.1,HN.out]
   have hlnl:ln.length=n:=by rw[hln2,iH,Array.length_toList];exact hsegl
   have hw0:bO (bp:Int) seg ab=0:=by
    unfold bO;refine if_neg ?_;rintro(h|h|⟨h,h'⟩)
    ·omega
    ·omega
    ·rcases HL.out.abn with h2|h2
     ·exact h h2
     ·exact h' (by rw[h2,hsegl])
   obtain⟨us,hus⟩:=E1 (strL (uq (bp:Int) (kd:Int) seg ab));obtain⟨er,her⟩:=E1 (aL (bp:Int) (kd:Int) seg ab);rw[←her,←hus]at HNXy;have HER4:Hid (4<kd→er=28):=qhz fun hk=>by
    rw[her];unfold aL;rw[hw0,if_neg (fun h=>h rfl),if_pos (by omega)]
   have HER0:Hid (¬4<kd→er=0∧us=strL ln):=qhz fun hk=>by
    have her0:aL (bp:Int) (kd:Int) seg ab=0:=by
     unfold aL;rw[hw0,if_neg (fun h=>h rfl),if_neg (by omega)]
    exact⟨by rw[her,her0],by rw[hus,Dy her0,hln2]⟩
   have HLNe:=qhz hln;have HLNl:=qhz hlnl;obtain⟨re2,hre2⟩:=E1 (strL (re.data.toList.drop (1+n)));rw[←hre2]at HNXy;have HRE2:Hid (re2.data.toList=re.data.toList.drop (1+bA SS j.n)):=qhz (by rw[hre2,aj,HJ.out.1,HN.out]);have HRS2:Hid (re2.size=fS SS J2):=qhz (by rw[hre2,ac,List.length_drop,hrl];omega);have HRL2:Hid (re2.size≤140737488351232):=qhz (by rw[HRS2.out];have:=HL.out.big;omega);have i0:(0:Int)≤(y:Int):=by omega
   have i1:(y:Int)<(Hp:Int):=by omega
   clear hj hJ2 hsz2 hrl hkd hseg hsegl hln hln2 hlnl hw0 hus her hre2
   go_wp2_with fail
   refine(HNXy.out _ HI.out).mono ?_;rintro e w3 ⟨rfl,hI3,hB3⟩;have HI3:=qhz hI3;have HX3:=qhz (HX.out.but hB3 HOFF.out.2.1);have HB3:=qhz (HB.out.trans hB3.l2);clear hI3 hB3 p0 p1 p2 p3 p4 p5 hg3
   by_cases hk:4<kd
   ·obtain rfl:=HER4.out hk;have HRE:Hid (IM=([],28)):=qhz (by rw[HL.out.im,HLNy.out];exact Nt (by rw[←HKD.out];exact hk));go_wp2;go_ret;exact⟨28,rfl,fun _=>HRE.out,fun h=>absurd h (by decide),HB1.out.w2.trans HB3.out⟩
   ·obtain⟨rfl,hus⟩:=HER0.out hk;subst hus;have HKD2:Hid (¬4<qS re.data.toList):=qhz (by rw[←HKD.out];exact hk);have HARy:Hid (∀v,Is v bm 84 #[W,H,D,C,l,pal,tr,has,re2,.slice gp n8 n8]→BytesB v gp pix1→Calls prog 95 #[.pointer bm,.agg #[px,py,dx,dy,Wp,Hp],.int .i64 (y:Nat),.string (strL ln)] v fun e w'=>e=.returned (.int .i64 (cO SS ln j j.n 0 pix1).2)∧((cO SS ln j j.n 0 pix1).2=0→BytesB w' gp (cO SS ln j j.n 0 pix1).1∧(cO SS ln j j.n 0 pix1).1.length=n8)∧But [gp] v w'):=qhz fun v k1 k2=>
     HAR.out v y re2 ln pix1 j hyl k1 k2 HL.out.pl HLNl.out ⟨HJ.out.1,HJ.out.2.1,HJ.out.2.2.1,HJ.out.2.2.2.1⟩
    obtain⟨PG,hPG⟩:=E1 (cO SS ln j j.n 0 pix1);rw[←hPG]at HARy;have HPG:Hid (PG=cO SS (zS SS j re.data.toList ab.data.toList) j j.n 0 pix1):=qhz (by rw[←HLNe.out];exact hPG);obtain⟨e2,he2⟩:=E1 PG.2;rw[←he2]at HARy;have HE2:=qhz he2;obtain⟨ls,hls⟩:=E1 (strL ln);rw[←hls]at HARy⊢;have HLS:=qhz hls;clear hPG he2 hls;obtain⟨p0,p1,p2,p3,p4,p5,hg3⟩:=HP.out _ HB3.out
    go_wp2_with fail
    refine(HARy.out _ HI3.out HX3.out).mono ?_;rintro e w4 ⟨rfl,hX4,hB4⟩;have HX4:=qhz hX4;have HI4:=qhz (HI3.out.but hB4 HOFF.out.1);have HB4:=qhz (HB3.out.trans hB4.r2);clear hX4 hB4 p0 p1 p2 p3 p4 p5 hg3
    by_cases h0:e2=0
    ·subst h0;have HX5:=qhz (HX4.out rfl).1;have HPGL:=qhz (HX4.out rfl).2;have HL5:Hid (MM IM SS J2 n n8 (y+1=0) re2 ls PG.1):=qhz ⟨by
      rw[HL.out.im,HLNy.out,Qc HKD2.out (by rw[←HPG.out,←HE2.out]),←HPG.out,HRE2.out,HLS.out,aj,HLNe.out],HRS2.out,HRL2.out,fun h=>absurd h (by omega),.inr (by rw[HLS.out,ac,HLNl.out]),HPGL.out⟩
     rw[HJ2.out]at HL5;go_wp2
     go_roundw
     case rel=>exact⟨y+1,re2,ls,PG.1,by omega,by go_num,rfl,HL5,HI4,HX5,HB4⟩
     case measure=>simp[intOf]<;>omega
    ·have q1:(e2 !=0)=true:=by simpa using h0
     have HRE:Hid (IM=([],e2)):=qhz (by rw[HL.out.im,HLNy.out,HE2.out,HPG.out];exact Ns HKD2.out (by rw[←HPG.out,←HE2.out];exact h0));go_wp2;go_ret;exact⟨e2,rfl,fun _=>HRE.out,fun h=>absurd h h0,HB1.out.w2.trans HB4.out⟩
  ·have HL5:Hid (MM IM SS JS n n8 False re ab pix1):=qhz (by
    have h:=HL.out;rw[HLE.out y (by omega)]at h;exact⟨h.im,h.sj,h.big,fun h=>h.elim,h.abn,h.pl⟩)
   obtain rfl:Hp=y:=by omega
   go_wp2;go_ret;exact⟨0,rfl,fun h=>absurd rfl h,fun _=>⟨re,ab,pix1,HL5.out,HI.out,HX.out⟩,HB1.out.w2.trans HB.out⟩
end Go.Proofs.YtbanopnofpjnbaaGreatDoor
