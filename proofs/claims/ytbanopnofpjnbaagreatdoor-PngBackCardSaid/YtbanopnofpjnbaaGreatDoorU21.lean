/- Own texts in one: Slib, BuA, BuB, BuC, CkS, CkT. -/
import Derived.Test.YtbanopnofpjnbaaGreatDoorU14
import Derived.Shelf.LaysM
import Derived.Shelf.Small.Wraps
import Derived.Shelf.Strconv.Clone
import Derived.Shelf.Strings.Builder1
import Derived.Shelf.Strings.BuilderF
import Derived.Shelf.Strings.Prefix
set_option maxRecDepth 1000000
set_option linter.unusedVariables false
set_option maxHeartbeats 4000000
namespace Go.Proofs.YtbanopnofpjnbaaGreatDoor
open Go Go.RowKit Tryz
section
open Go.Shelf
def tx:Go.Shelf.Ren:=⟨fun|169=>50|n=>n,fun|70=>75|9=>9|0=>0|72=>77|37=>47|127=>107|3=>3|5=>5|n=>n,fun|n=>n⟩
theorem QH:Go.Proofs.Lays.n169 prog tx:={
 mixed:=by kernel_rfl
 f169:=func50.trans (congrArg some (by kernel_rfl))
 t0:=underlying0
 a0:=Tryz.isAgg0
 z0:=Tryz.sizeOf0
 v0:=Tryz.zeroValue0
 t3:=underlying3
 a3:=Tryz.isAgg3
 z3:=Tryz.sizeOf3
 v3:=Tryz.zeroValue3
 t9:=underlying9
 a9:=Tryz.isAgg9
 z9:=Tryz.sizeOf9
 v9:=Tryz.zeroValue9
 t37:=underlying47
 a37:=Tryz.isAgg47
 z37:=Tryz.sizeOf47
 v37:=Tryz.zeroValue47
 t70:=underlying75
 a70:=Tryz.isAgg75
 z70:=Tryz.sizeOf75
 v70:=Tryz.zeroValue75
 t72:=underlying77
 a72:=Tryz.isAgg77
 z72:=Tryz.sizeOf77
 v72:=Tryz.zeroValue77
 t127:=underlying107
 a127:=Tryz.isAgg107
 z127:=Tryz.sizeOf107
 v127:=Tryz.zeroValue107}
theorem qp:Builder.Extra prog tx:={
 sizeBuilder:=by kernel_rfl
 liesBuilder:=by kernel_rfl
 t5:=underlying5
 a5:=Tryz.isAgg5
 z5:=Tryz.sizeOf5
 v5:=Tryz.zeroValue5
 infoByte:=by kernel_rfl
 cellsByte:=by kernel_rfl
 sizeByte:=by kernel_rfl
 neB5:=by decide}
theorem iV(B b:Nat)(l:List UInt8)(w:World)(h:Lib.IsBuilder 77 5 B b (Lib.byteCells l) w)(hBw:B≤w.heap.size):
 Calls prog 50 #[.pointer b] w fun e w'=>e=.returned (.string ⟨l.toArray⟩)∧Below B w w':=Any.Builder_String_any QH qp B b l w h hBw
def Cx:Go.Shelf.Ren:=⟨fun|103=>46|210=>82|206=>131|n=>n,fun|9=>9|4=>4|24=>69|3=>3|n=>n,fun|n=>n⟩
theorem QI:Go.Proofs.Lays.n103 prog Cx:={
 mixed:=by kernel_rfl
 f103:=func46.trans (congrArg some (by kernel_rfl))
 f206:=func131.trans (congrArg some (by kernel_rfl))
 f210:=func82.trans (congrArg some (by kernel_rfl))
 t3:=underlying3
 a3:=Tryz.isAgg3
 z3:=Tryz.sizeOf3
 v3:=Tryz.zeroValue3
 t4:=underlying4
 a4:=Tryz.isAgg4
 z4:=Tryz.sizeOf4
 v4:=Tryz.zeroValue4
 t9:=underlying9
 a9:=Tryz.isAgg9
 z9:=Tryz.sizeOf9
 v9:=Tryz.zeroValue9
 t24:=underlying69
 a24:=Tryz.isAgg69
 z24:=Tryz.sizeOf69
 v24:=Tryz.zeroValue69}
theorem je(s p:ByteArray)(w:World):
 Calls prog 46 #[s,p] w fun e w'=>e=.returned (.tuple #[.string ⟨(Lib.trimPrefix s.data.toList p.data.toList).toArray⟩,.bool (Lib.hasPrefix s.data.toList p.data.toList)])∧w'=w:=Any.strings_CutPrefix QI s p w
def zV:Go.Shelf.Ren:=⟨fun|316=>132|n=>n,fun|9=>9|3=>3|4=>4|37=>47|0=>0|127=>107|5=>5|n=>n,fun|n=>n⟩
theorem Ok:Go.Proofs.LaysM.n316 prog zV:={
 mixed:=by kernel_rfl
 f316:=func132.trans (congrArg some (by kernel_rfl))
 t0:=underlying0
 a0:=Tryz.isAgg0
 z0:=Tryz.sizeOf0
 v0:=Tryz.zeroValue0
 t3:=underlying3
 a3:=Tryz.isAgg3
 z3:=Tryz.sizeOf3
 v3:=Tryz.zeroValue3
 t4:=underlying4
 a4:=Tryz.isAgg4
 z4:=Tryz.sizeOf4
 v4:=Tryz.zeroValue4
 t9:=underlying9
 a9:=Tryz.isAgg9
 z9:=Tryz.sizeOf9
 v9:=Tryz.zeroValue9
 t37:=underlying47
 a37:=Tryz.isAgg47
 z37:=Tryz.sizeOf47
 v37:=Tryz.zeroValue47
 t127:=underlying107
 a127:=Tryz.isAgg107
 z127:=Tryz.sizeOf107
 v127:=Tryz.zeroValue107
 t5:=underlying5
 a5:=Tryz.isAgg5
 z5:=Tryz.sizeOf5
 v5:=Tryz.zeroValue5
 i0:=by kernel_rfl
 i3:=by kernel_rfl
 i4:=by kernel_rfl
 i5:=by kernel_rfl
 i9:=by kernel_rfl
 i37:=by kernel_rfl
 i127:=by kernel_rfl}
theorem jd(s:ByteArray)(w:World)(hlim:s.size≤281474976710656):
 Calls prog 132 #[s] w fun e w'=>e=.returned (.string s)∧Below w.heap.size w w':=Any.stringslite_Clone Ok s w hlim
end
theorem pU:(prog.info? 5).map (fun i=>(i.zero,i.size,i.bytes))=some (some (.int .u8 0),1,1):=by kernel_rfl
theorem q9:(prog.info? 77).map (·.size)=some 2:=by kernel_rfl
theorem Og:liesAt prog prog.depth 77 (2/prog.cellsOf 77) 0 77 1=true:=by kernel_rfl
theorem Pf(b:Nat)(w:World)(h0:w.cell? ⟨b,0,none⟩=some (.pointer b)):
 Calls prog 109 #[.pointer b] w fun e w'=>e=.returned (.tuple #[])∧w'=w:=by
 obtain⟨j,hj,_⟩:=Option.map_eq_some_iff.1 q9
 go_enter func109,ntmps109
 go_wp2;rw[Lib.run_neq_ptr_same w _ underlying75 hj];go_wp2
 go_end0
 exact⟨rfl,rfl⟩
theorem Mt(b:Nat)(w:World)(h0:w.cell? ⟨b,0,none⟩=some (.pointer none))(hsh:w.shape? b=some (77,2))(hfz:w.frozen? ⟨b,0,none⟩=false):
 Calls prog 109 #[.pointer b] w fun e w'=>e=.returned (.tuple #[])∧w'=w.setCell ⟨b,0,none⟩ (.pointer b):=by
 obtain⟨j,hj,hjs⟩:=Option.map_eq_some_iff.1 q9
 go_enter func109,ntmps109
 go_wp2;rw[Lib.run_to_unsafe w ⟨b,0,none⟩ underlying75 underlying183 hj (by rw[hjs];decide) hsh (Nat.zero_lt_succ 1)];simp only[Result.andThen];rw[Oper.upon_value];go_wp2;rw[run_callFunc_extern func155 (by kernel_rfl) (by kernel_rfl) (by kernel_rfl) (e:=Extern.AbiNoEscape.same) (by kernel_rfl)];rw[Lib.run_noEscape];simp only[Result.andThen];rw[Oper.upon_value];go_wp2;rw[Lib.run_from_unsafe w ⟨b,0,none⟩ underlying183 underlying75 hj hsh Og];simp only[Result.andThen];rw[Oper.upon_value];go_wp2
 go_end0
 exact⟨rfl,rfl⟩
theorem AW(B b:Nat)(bs:List Value)(w:World)(h:Lib.IsBuilder 77 5 B b bs w):
 Calls prog 109 #[.pointer b] w fun e w'=>e=.returned (.tuple #[])∧(Lib.BuilderAt 77 5 B b (.pointer b) bs w'∧Below B w w'):=by
 rcases h with h|h
 ·refine(Mt b w h.cell0 h.shape h.frozen0).mono ?_;rintro e w' ⟨rfl,rfl⟩;exact⟨rfl,h.used _,(Below.refl B w).setCell (p:=⟨b,0,none⟩) h.1 _⟩
 ·refine(Pf b w h.cell0).mono ?_;rintro e w' ⟨rfl,rfl⟩;exact⟨rfl,h,Below.refl B _⟩
theorem Ms(B b:Nat)(bs:List Value)(s:ByteArray)(w:World)(h:Lib.IsBuilder 77 5 B b bs w)(hlen:bs.length+s.size≤140737488355328)(hBw:B≤w.heap.size):
 Calls prog 66 #[.pointer b,s] w fun e w'=>e=.returned (.tuple #[s.size,.nilIface])∧(Lib.BuilderAt 77 5 B b (.pointer b) (bs++Lib.strCells s) w'∧Below B w w'):=by
 obtain⟨i0,hi,hz0,hz1,hz2⟩:=info_parts pU
 go_enter func66,ntmps66
 go_wp2_with (go_at_call 109;refine(AW B b bs _ h).mono ?_)
 rintro e w1 ⟨rfl,h1,hb1⟩;obtain⟨hB,v,hbk,hown,hne⟩:=h1;have c0:w1.cell? ⟨b,0,none⟩=some (.pointer b):=by rw[Lib.cell_of_heap hbk];rfl
 have c1:w1.cell? ⟨b,1,none⟩=some v:=by rw[Lib.cell_of_heap hbk];rfl
 go_wp2_with (at_builtin;refine Lib.wpList_append_own_string _ rfl _ _ 47 9 rfl B 5 i0 underlying47 underlying9 hi hz0 hz1 hz2 _ _ _ rfl hown s rfl ?c3 ?c4 ?c5 ?_)
 case c3=>unfold maxLen;omega
 case c4=>omega
 case c5=>have:=hb1.size;omega
 intro v' w2 hown' hgrow _;have hlt:b<w1.heap.size:=by
  rcases Nat.lt_or_ge b w1.heap.size with h'|h'
  ·exact h'
  ·simp[Array.getElem?_eq_none h']at hbk
 have hb2:w2.heap[b]? =some (.cells #[.pointer b,v] 77 (0,0)):=by
  rw[hgrow.block b hlt (fun e=>hne e.symm)];exact hbk
 have d0:w2.cell? ⟨b,0,none⟩=some (.pointer b):=by rw[Lib.cell_of_heap hb2];rfl
 have d1:w2.cell? ⟨b,1,none⟩=some v:=by rw[Lib.cell_of_heap hb2];rfl
 have f1:w2.frozen? ⟨b,1,none⟩=false:=Lib.frozen_of_heap hb2 1;obtain⟨ao,n',cap,rfl⟩:∃ao n' cap,v'=.slice ao n' cap:=by
  rcases hown'.2 with⟨hv,_⟩|⟨g,cap,cur,hv,_⟩
  ·exact⟨_,_,_,hv⟩
  ·exact⟨_,_,_,hv⟩
 go_wp2
 go_ret2
 refine⟨rfl,?_,?_⟩
 ·exact Lib.BuilderAt.put (T:=77) (e:=5) hB hb2 (bs':=bs++Lib.strCells s) (by simpa[Lib.strCells_length]using hown') (by decide)
 ·exact(hb1.grown hgrow (by have:=hb1.size;omega) (fun k hk=>(hown.lt k hk).1)).setCell (p:=⟨b,1,none⟩) hB _
def Bld(w:World)(base b:Nat)(l:List UInt8):Prop:=Lib.IsBuilder 77 5 base b (Lib.byteCells l) w
theorem Mi(l:List UInt8):Lib.strCells (strL l)=Lib.byteCells l:=by
 unfold Lib.strCells Lib.byteCells;rw[show(strL l).data.toList=l from aj l]
theorem qM(a b:List UInt8):Lib.byteCells (a++b)=Lib.byteCells a++Lib.byteCells b:=by
 unfold Lib.byteCells;rw[List.map_append]
theorem AX{w w':World}{base b:Nat}{p:Value}{bs:List Value}(h:Lib.BuilderAt 77 5 base b p bs w)(hw:But [] w w'):Lib.BuilderAt 77 5 base b p bs w':=by
 have hlt:=h.lt;obtain⟨hB,v,hb,hown,hne⟩:=h;refine⟨hB,v,(hw.block b hlt (by simp)).trans hb,?_,hne⟩;refine⟨hown.1,?_⟩;rcases hown.2 with h2|⟨g,cap,cur,hv,hg,hh,r⟩
 ·exact .inl h2
 ·refine .inr ⟨g,cap,cur,hv,hg,?_,r⟩;have hlt:g<w.heap.size:=(hown.lt g (by rw[hv];rfl)).2;rw[hw.block g hlt (by simp)];exact hh
theorem Bld.but{w w':World}{base b:Nat}{l:List UInt8}(h:Bld w base b l)(hw:But [] w w'):Bld w' base b l:=by
 rcases h with h|h
 ·exact .inl (AX h hw)
 ·exact .inr (AX h hw)
theorem Bld.fresh(w:World){base:Nat}(hb:base≤w.heap.size):Bld (w.alloc (.cells #[.pointer none,.slice none 0 0] 77)) base w.heap.size []:=
 Or.inl ⟨hb,.slice none 0 0,heap_alloc_new w _,World.ownsRow_nil _ _ _ _,by simp[Value.ownBlock]⟩
theorem uk{w0 w:World}{b:Nat}{l:List UInt8}(s:List UInt8)(h:Bld w w0.heap.size b l)(hB:But [] w0 w)(hlen:l.length+s.length≤140737488355328):
 Calls prog 66 #[.pointer b,strL s] w fun e w'=>e=.returned (.tuple #[s.length,.nilIface])∧Bld w' w0.heap.size b (l++s)∧But [] w0 w':=by
 refine(Ms w0.heap.size b (Lib.byteCells l) (strL s) w h (by rw[ac,Lib.byteCells_length];exact hlen) hB.size).mono ?_;rintro e w1 ⟨rfl,h1,h2⟩;rw[ac];refine⟨rfl,?_,?_⟩
 ·unfold Bld;rw[qM,←Mi s];exact .inr h1
 ·exact⟨h2.os.trans hB.os,h2.tape.trans hB.tape,h2.output.trans hB.output,Nat.le_trans hB.size h2.size,fun i hi _=>(h2.block i hi).trans (hB.block i hi (by simp))⟩
theorem EZ{w0 w:World}{b:Nat}{l:List UInt8}(h:Bld w w0.heap.size b l)(hB:But [] w0 w):
 Calls prog 50 #[.pointer b] w (R1z (.string (strL l)) w0):=by
 refine(iV w0.heap.size b l w h hB.size).mono ?_;rintro e w1 ⟨rfl,h2⟩;exact⟨rfl,h2.os.trans hB.os,h2.tape.trans hB.tape,h2.output.trans hB.output,Nat.le_trans hB.size h2.size,fun i hi _=>(h2.block i hi).trans (hB.block i hi (by simp))⟩
theorem zF{w w':World}{base size n:Nat}{e:TypeId}{v:Value}{xs:List Value}(hown:w.ownsRow base e size v n xs)(hw:But [] w w'):w'.ownsRow base e size v n xs:=by
 refine⟨hown.1,?_⟩;rcases hown.2 with h2|⟨g,cap,cur,hv,hg,hh,r⟩
 ·exact .inl h2
 ·refine .inr ⟨g,cap,cur,hv,hg,?_,r⟩;have hlt:g<w.heap.size:=(hown.lt g (by rw[hv];rfl)).2;rw[hw.block g hlt (by simp)];exact hh
theorem Ph(B b:Nat)(bs:List Value){x:Nat}(w:World)(h:Lib.IsBuilder 77 5 B b bs w)(hlen:bs.length+1≤140737488355328)(hBw:B≤w.heap.size):
 Calls prog 65 #[.pointer b,.int .u8 (x:Nat)] w fun e w'=>e=.returned .nilIface∧(Lib.BuilderAt 77 5 B b (.pointer b) (bs++[.int .u8 (x:Nat)]) w'∧Below B w w'):=by
 obtain⟨i0,hi,hz0,hz1,hz2⟩:=info_parts pU
 go_enter func65,ntmps65
 go_wp2_with (go_at_call 109;refine(AW B b bs _ h).mono ?_)
 rintro e w1 ⟨rfl,h1,hb1⟩;obtain⟨hB,v,hbk,hown,hne⟩:=h1;have c0:w1.cell? ⟨b,0,none⟩=some (.pointer b):=by rw[Lib.cell_of_heap hbk];rfl
 have c1:w1.cell? ⟨b,1,none⟩=some v:=by rw[Lib.cell_of_heap hbk];rfl
 have hA:=(But.refl [] w1).alloc (.cells #[.int .u8 (x:Nat)] 5);have hIs:=Is.fresh w1 5 #[.int .u8 (x:Nat)];have hown1:=zF hown hA;have hblt:b<w1.heap.size:=by
  rcases Nat.lt_or_ge b w1.heap.size with h'|h'
  ·exact h'
  ·simp[Array.getElem?_eq_none h']at hbk
 have hbk1:=(hA.block b hblt (by simp)).trans hbk;obtain⟨g,hg⟩:=E1 w1.heap.size;have HG:=qhz hg;have hbw:B≤w1.heap.size:=Nat.le_trans hBw hb1.size
 go_wp2_with (at_builtin;refine wpList_append_own _ rfl _ _ 47 rfl B 5 i0 (.int .u8 0) 1 1 underlying47 hi hz0 hz1 hz2 rfl (by omega) v bs.length bs rfl hown1 ⟨w1.heap.size,0,none⟩ 1 1 [.int .u8 (x:Nat)] rfl rfl ?c1 ?c2 ?c3 ?c4 ?c5 ?_)
 case c1=>
  intro j u hj;have h0:=hIs.cell 0
  match j,hj with
  |0,hj=>
   have:u=.int .u8 (x:Nat):=(Option.some.inj hj).symm;rw[this];exact h0
  |j+1,hj=>simp at hj
 case c2=>simp[Value.oneCell']
 case c3=>unfold maxLen;omega
 case c4=>omega
 case c5=>exact Nat.le_trans hbw hA.size
 intro v' w2 hown' hgrow _;have hb2:w2.heap[b]? =some (.cells #[.pointer b,v] 77 (0,0)):=by
  rw[hgrow.block b (Nat.lt_of_lt_of_le hblt hA.size) (fun e=>hne e.symm)];exact hbk1
 have d0:w2.cell? ⟨b,0,none⟩=some (.pointer b):=by rw[Lib.cell_of_heap hb2];rfl
 have d1:w2.cell? ⟨b,1,none⟩=some v:=by rw[Lib.cell_of_heap hb2];rfl
 have f1:w2.frozen? ⟨b,1,none⟩=false:=Lib.frozen_of_heap hb2 1;obtain⟨ao,n',cap,rfl⟩:∃ao n' cap,v'=.slice ao n' cap:=by
  rcases hown'.2 with⟨hv,_⟩|⟨g,cap,cur,hv,_⟩
  ·exact⟨_,_,_,hv⟩
  ·exact⟨_,_,_,hv⟩
 go_wp2;go_ret;refine⟨rfl,?_,?_⟩
 ·exact Lib.BuilderAt.put (T:=77) (e:=5) hB hb2 (bs':=bs++[.int .u8 (x:Nat)]) (by simpa using hown') (by decide)
 ·have hbA:Below B w (w1.alloc (.cells #[.int .u8 (x:Nat)] 5)):=hb1.alloc hbw _;exact(hbA.grown hgrow (Nat.le_trans hbw hA.size) (fun k hk=>(hown.lt k hk).1)).setCell (p:=⟨b,1,none⟩) hB _
theorem Pg{w0 w:World}{b:Nat}{l:List UInt8}(y:UInt8)(h:Bld w w0.heap.size b l)(hB:But [] w0 w)(hlen:l.length+1≤140737488355328):
 Calls prog 65 #[.pointer b,.int .u8 (y.toNat:Nat)] w fun e w'=>e=.returned .nilIface∧Bld w' w0.heap.size b (l++[y])∧But [] w0 w':=by
 refine(Ph w0.heap.size b (Lib.byteCells l) (x:=y.toNat) w h (by rw[Lib.byteCells_length];exact hlen) hB.size).mono ?_;rintro e w1 ⟨rfl,h1,h2⟩;refine⟨rfl,?_,?_⟩
 ·unfold Bld;rw[qM];exact .inr h1
 ·exact⟨h2.os.trans hB.os,h2.tape.trans hB.tape,h2.output.trans hB.output,Nat.le_trans hB.size h2.size,fun i hi _=>(h2.block i hi).trans (hB.block i hi (by simp))⟩
section
def b9(s:List UInt8):Ck×List UInt8×Int:=
 if s.length<8 then(([],[]),[],3) else
 if 2147483647<ofL (s.take 4)∨aJ ((s.drop 4).take 4)=false then(([],[]),[],21) else
 if s.length<12+ofL (s.take 4)then(([],[]),[],3) else
 if(s.drop (8+ofL (s.take 4))).take 4≠br (cR ((s.drop 4).take (4+ofL (s.take 4))))then(([],[]),[],22) else
 (((s.drop 4).take 4,(s.drop 8).take (ofL (s.take 4))),s.drop (12+ofL (s.take 4)),0)
theorem Fl{s:List UInt8}(h:s≠[])(out:List Ck):splK s.length s out=
 if(b9 s).2.2≠0 then([],(b9 s).2.2)else splK (b9 s).2.1.length (b9 s).2.1 (out++[(b9 s).1]):=by
 rw[I4 h]
 by_cases h1:s.length<8
 ·have hf:b9 s=(([],[]),[],3):=by unfold b9;rw[if_pos h1]
  rw[if_pos h1,hf,if_pos (by decide)]
 by_cases h2:2147483647<ofL (s.take 4)∨aJ ((s.drop 4).take 4)=false
 ·have hf:b9 s=(([],[]),[],21):=by unfold b9;rw[if_neg h1,if_pos h2]
  rw[if_neg h1,if_pos h2,hf,if_pos (by decide)]
 by_cases h3:s.length<12+ofL (s.take 4)
 ·have hf:b9 s=(([],[]),[],3):=by unfold b9;rw[if_neg h1,if_neg h2,if_pos h3]
  rw[if_neg h1,if_neg h2,if_pos h3,hf,if_pos (by decide)]
 have hq:((s.drop (8+ofL (s.take 4))).take 4).length=4:=by rw[List.length_take,List.length_drop];omega
 by_cases h4:ofL ((s.drop (8+ofL (s.take 4))).take 4)=cR ((s.drop 4).take (4+ofL (s.take 4)))
 ·have h5:(s.drop (8+ofL (s.take 4))).take 4=br (cR ((s.drop 4).take (4+ofL (s.take 4)))):=by rw[←h4,OH hq]
  have hf:b9 s=(((s.drop 4).take 4,(s.drop 8).take (ofL (s.take 4))),s.drop (12+ofL (s.take 4)),0):=by unfold b9;rw[if_neg h1,if_neg h2,if_neg h3,if_neg (fun hh=>hh h5)]
  rw[if_neg h1,if_neg h2,if_neg h3,if_neg (fun hh=>hh h4),hf,if_neg (fun hh=>hh rfl)]
 ·have h5:¬(s.drop (8+ofL (s.take 4))).take 4=br (cR ((s.drop 4).take (4+ofL (s.take 4)))):=fun e=>h4 (by rw[e,gJ (jF _)]);have hf:b9 s=(([],[]),[],22):=by unfold b9;rw[if_neg h1,if_neg h2,if_neg h3,if_pos h5]
  rw[if_neg h1,if_neg h2,if_neg h3,if_pos h4,hf,if_pos (by decide)]
theorem Av{s:List UInt8}(h:s≠[]):(b9 s).2.1.length<s.length:=by
 have hp:0<s.length:=List.length_pos_iff.2 h;unfold b9;split
 ·exact hp
 split
 ·exact hp
 split
 ·exact hp
 split
 ·exact hp
 ·rw[List.length_drop];omega
theorem But.ofBelowC{w w1 w2:World}(h:But [] w w1)(k:Below w.heap.size w1 w2):But [] w w2:=
 ⟨k.os.trans h.os,k.tape.trans h.tape,k.output.trans h.output,Nat.le_trans h.size k.size,fun i hi _=>(k.block i hi).trans (h.block i hi (by simp))⟩
theorem But.ofBelow1{w w1:World}(k:Below w.heap.size w w1):But [] w w1:=(But.refl [] w).ofBelowC k
theorem pN(w:World){s:ByteArray}(hs:s.size≤281474976710656):
 Calls prog 84 #[s] w (R1z (.string s) w):=by
 have H:=qhz (jd s w hs)
 go_enter func84,ntmps84
 go_wp2_with fail
 refine H.out.mono ?_;rintro e w1 ⟨rfl,hB⟩;have HB:=qhz (But.ofBelow1 hB);clear hB;go_wp2;go_ret;exact⟨rfl,HB.out⟩
def Rm(w:World)(r:Ck×List UInt8×Int)(e:Ending)(w':World):Prop:=e=.returned (.tuple #[uc r.1,strL r.2.1,r.2.2])∧But [] w w'
theorem tL{w W:World}{b0:Nat}{tmps:Array Value}{rest:List UInt8}{er:Int}{T D:List UInt8}{r:Ck×List UInt8×Int}
 (hI:Is W b0 42 #[strL T,strL D]) (hB:But [] w W) (h2:tmps[2]? =some (.pointer b0)) (h3:tmps[3]? =some (.string (strL rest))) (h4:tmps[4]? =some (.int .i64 er)) (hr:r=((T,D),rest,er)):
 bodyPost prog Tryz.f47 (Rm w r) Exit.ret {tmps:=tmps,defers:=[]} W:=by
 obtain⟨e0,e1,_⟩:=hI.c2;refine bodyPost_ret (v:=.tuple #[.agg #[strL T,strL D],strL rest,er]) ?_ rfl ?_
 ·simp[results,results47,go_sem,e0,e1,h2,h3,h4]
 ·rw[hr];exact⟨rfl,hB⟩
theorem lN:strL []=⟨#[]⟩:=rfl
theorem IP:strL []=ByteArray.empty:=rfl
attribute [local irreducible] strL ofL cR aJ br
theorem F0(w:World){s:List UInt8}(hs:s.length≤1000000000):
 Calls prog 47 #[strL s] w (Rm w (b9 s)):=by
 obtain⟨z,hz⟩:=E1 s.length;have hsz:(strL s).size=z:=by rw[ac,hz]
 have hzb:z≤1000000000:=by omega
 have hI0:=Is.fresh w 42 #[ByteArray.empty,ByteArray.empty];have hB0:=(But.refl [] w).alloc (.cells #[ByteArray.empty,ByteArray.empty] 42);obtain⟨b0,hb0⟩:=E1 w.heap.size;have HI0:=qhz hI0;have HB0:=qhz hB0
 by_cases h8:s.length<8
 ·have d8:decide ((z:Int)<8)=true:=by simp;omega
  have HN:=qhz (show b9 s=(([],[]),[],3)by unfold b9;rw[if_pos h8]);clear hI0 hB0 hz h8
  go_enter func47,ntmps47
  go_wp2;exact tL (b0:=w.heap.size) (T:=[]) (D:=[]) (rest:=[]) (er:=3) (by rw[lN];exact HI0.out) HB0.out rfl (by rw[lN];rfl) rfl HN.out
 ·have d8:decide ((z:Int)<8)=false:=by simp;omega
  have k4:∀W,(Instr.slice 9 (.string (strL s)) none (some (.int .i64 4)) none).run prog W=.ok (.string (strL (s.take 4))) W:=fun W=>PH s (j:=4) W (by omega);have k48:∀W,(Instr.slice 9 (.string (strL s)) (some (.int .i64 4)) (some (.int .i64 8)) none).run prog W=.ok (.string (strL ((s.drop 4).take 4))) W:=fun W=>ya s (i:=4) (j:=8) (by omega) W (by omega);have hv:=fun v=>FJ v (s:=s.take 4) (by rw[List.length_take];omega);have hn4:ofL (s.take 4)<4294967296:=Kz (by rw[List.length_take];omega);obtain⟨n,hn⟩:=E1 (ofL (s.take 4));rw[←hn]at hn4;simp only[←hn]at hv;obtain⟨T,hT⟩:=E1 ((s.drop 4).take 4);simp only[←hT]at k48;have hfi:=fun v=>zx v (t:=T) (m:=n);obtain⟨ok,hok⟩:=E1 ((aJ T&&decide (n≤2147483647)));simp only[←hok]at hfi;have HV:=qhz hv;have HFI:=qhz hfi;have HT:=qhz hT;have HNN:=qhz hn;have HOK:=qhz hok;have H8:=qhz h8;have HZ:=qhz hz;clear hI0 hB0 hz h8 hv hfi hT hn hok hs
  go_enter func47,ntmps47
  go_wp2
  go_quiet ((go_at_call 83;exact Calls.quiet_of (HV.out _)))
  go_upto_region 4 with(fail)
  obtain⟨W1,hW1⟩:=E1 ((w.alloc (.cells #[.string ⟨#[]⟩,.string ⟨#[]⟩] 42)).drewN nq);have HI1:=qhz (show Is W1 b0 42 #[strL [],strL []]by rw[hW1,hb0,IP];exact HI0.out.drewN nq);have HB1:=qhz (show But [] w W1 by rw[hW1];exact HB0.out.drewN nq);have hI1:=HI1.out;rw[←hb0,←hW1];obtain⟨c0,c1,_⟩:=hI1.c2;obtain⟨f0,f1⟩:=hI1.f2;have HBB:=qhz hb0;clear hW1 hI1 hb0;have HE3:=qhz (fun(er:Int) (hr:b9 s=(([],[]),[],er)) {tmps:Array Value} (h2:tmps[2]? =some (.pointer b0)) (h3:tmps[3]? =some (.string ⟨#[]⟩)) (h4:tmps[4]? =some (.int .i64 er)) {W:World} (hI:Is W b0 42 #[strL [],strL []]) (hB:But [] w W)=>
   tL (er:=er) (rest:=[]) (T:=[]) (D:=[]) hI hB h2 (by rw[lN];exact h3) h4 hr)
  cases ok with
  |false=>
   have HR:=qhz (show b9 s=(([],[]),[],21) by
    unfold b9;rw[if_neg H8.out,if_pos];rw[←HNN.out,←HT.out];have h:=HOK.out
    by_cases hb:n≤2147483647
    ·rw[decide_eq_true hb,Bool.and_true]at h;exact Or.inr h.symm
    ·exact Or.inl (by omega))
   have HI2:=qhz ((HI1.out.put 0 (.string ⟨#[]⟩)).put 1 (.string ⟨#[]⟩));have HB2:=qhz ((HB1.out.setCell (p:=⟨b0,0,none⟩) (.inr (by rw[HBB.out];exact Nat.le_refl _)) (.string ⟨#[]⟩)).setCell (p:=⟨b0,1,none⟩) (.inr (by rw[HBB.out];exact Nat.le_refl _)) (.string ⟨#[]⟩))
   go_wp2_with (go_at_call 67;refine(HFI.out _).mono ?_;rintro e w1 ⟨rfl,rfl⟩)
   refine HE3.out 21 HR.out ?_ ?_ ?_ (W:=_) (by rw[lN];exact HI2.out) HB2.out<;>rfl
  |true=>
   have hn31:n≤2147483647:=by
    have h:=HOK.out;rw[eq_comm,Bool.and_eq_true]at h;exact of_decide_eq_true h.2
   have HP:=qhz (show ¬(2147483647<ofL (s.take 4)∨aJ ((s.drop 4).take 4)=false) by
    have h:=HOK.out;rw[eq_comm,Bool.and_eq_true]at h;rw[←HNN.out,←HT.out,h.1];rintro(a|a)
    ·omega
    ·exact absurd a (by decide))
   by_cases h12:z<12+n
   ·have d12:decide ((z:Int)<8+(n:Int)+4)=true:=by simp;omega
    have HR:=qhz (show b9 s=(([],[]),[],3) by
     unfold b9;rw[if_neg H8.out,if_neg HP.out,if_pos];rw[←HNN.out,←HZ.out];exact h12)
    have HI2:=qhz ((HI1.out.put 0 (.string ⟨#[]⟩)).put 1 (.string ⟨#[]⟩));have HB2:=qhz ((HB1.out.setCell (p:=⟨b0,0,none⟩) (.inr (by rw[HBB.out];exact Nat.le_refl _)) (.string ⟨#[]⟩)).setCell (p:=⟨b0,1,none⟩) (.inr (by rw[HBB.out];exact Nat.le_refl _)) (.string ⟨#[]⟩))
    go_wp2_with (go_at_call 67;refine(HFI.out _).mono ?_;rintro e w1 ⟨rfl,rfl⟩)
    refine HE3.out 3 HR.out ?_ ?_ ?_ (W:=_) (by rw[lN];exact HI2.out) HB2.out<;>rfl
   ·have d12:decide ((z:Int)<8+(n:Int)+4)=false:=by simp;omega
    have w8:IntKind.i64.wrap (8+(n:Int))=8+(n:Int):=IntWalk.i64_in _ (by omega);have w12:IntKind.i64.wrap (8+(n:Int)+4)=8+(n:Int)+4:=IntWalk.i64_in _ (by omega);have kq:∀W,(Instr.slice 9 (.string (strL s)) (some (.int .i64 (8+(n:Int)))) (some (.int .i64 (8+(n:Int)+4))) none).run prog W=.ok (.string (strL ((s.drop (8+n)).take 4))) W:=fun W=>by
     have h:=ya s (i:=8+n) (j:=8+n+4) (by omega) W (by have:=HZ.out;omega);rw[show 8+n+4-(8+n)=4 by omega]at h;simpa using h
    have kc:∀W,(Instr.slice 9 (.string (strL s)) (some (.int .i64 4)) (some (.int .i64 (8+(n:Int)))) none).run prog W=.ok (.string (strL ((s.drop 4).take (4+n)))) W:=fun W=>by
     have h:=ya s (i:=4) (j:=8+n) (by omega) W (by have:=HZ.out;omega);rw[show 8+n-4=4+n by omega]at h;simpa using h
    have kd:∀W,(Instr.slice 9 (.string (strL s)) (some (.int .i64 8)) (some (.int .i64 (8+(n:Int)))) none).run prog W=.ok (.string (strL ((s.drop 8).take n))) W:=fun W=>by
     have h:=ya s (i:=8) (j:=8+n) (by omega) W (by have:=HZ.out;omega);rw[show 8+n-8=n by omega]at h;simpa using h
    have kr:∀W,(Instr.slice 9 (.string (strL s)) (some (.int .i64 (8+(n:Int)+4))) none none).run prog W=.ok (.string (strL (s.drop (12+n)))) W:=fun W=>by
     have h:=OZ s (i:=12+n) W (by have:=HZ.out;omega);have e:((12+n:Nat):Int)=8+(n:Int)+4:=by omega
     rw[e]at h;exact h
    have hcr:=fun v=>E2 (strL ((s.drop 4).take (4+n))) v (by rw[ac,List.length_take,List.length_drop];unfold maxLen;have:=HZ.out;omega);simp only[aj]at hcr;have hclt:=jF ((s.drop 4).take (4+n));obtain⟨q,hq⟩:=E1 (cR ((s.drop 4).take (4+n)));simp only[←hq]at hcr;rw[←hq]at hclt;have hnm:=fun v=>xk v (n:=q) (by omega);obtain⟨Q,hQ⟩:=E1 ((s.drop (8+n)).take 4);simp only[←hQ]at kq;have HCR:=qhz hcr;have HNM:=qhz hnm;have HQ:=qhz hQ;have HCQ:=qhz hq;have H12:=qhz (show ¬s.length<12+ofL (s.take 4)by rw[←HNN.out,←HZ.out];exact h12);have hqq:strL Q=strL (br q)↔Q=br q:=⟨Ni,fun h=>by rw[h]⟩
    obtain⟨X,hX⟩:=E1 (strL Q);obtain⟨Y,hY⟩:=E1 (strL (br q));rw[←hX,←hY]at hqq;simp only[←hX]at kq;simp only[←hY]at HNM;have HQQ:=qhz hqq;obtain⟨D,hD⟩:=E1 ((s.drop 8).take n);simp only[←hD]at kd;have HD:=qhz hD;clear hcr hnm hQ hq hqq h12 hX hY hD
    go_wp2_with (go_at_call 67;refine(HFI.out _).mono ?_;rintro e w1 ⟨rfl,rfl⟩)
    by_cases hxy:X=Y
    ·have HR:=qhz (show b9 s=((T,D),s.drop (12+n),0) by
      unfold b9;rw[if_neg H8.out,if_neg HP.out,if_neg H12.out,←HNN.out,←HT.out,←HQ.out,←HCQ.out,if_neg (fun hh=>hh (HQQ.out.1 hxy)),HD.out])
     subst hxy
     go_region_with (first|(go_at_call 69;refine(HCR.out _).mono ?_;rintro e w1 ⟨rfl,rfl⟩)|(go_at_call 68;refine(HNM.out _).mono ?_;rintro e w2 ⟨rfl,hB⟩;have HBn:=qhz hB;clear hB))
     all_goals
      have HI2:=qhz (((HI1.out.drew).but HBn.out (by simp)));have HB2:=qhz ((HB1.out.drew).trans HBn.out);obtain⟨W2,hW2⟩:=E1 w2;rw[←hW2]at HI2 HB2;rw[←hW2];clear hW2 HBn c0 c1 f0 f1;go_simp
      go_upto_region 11 with(fail)
      have HST:=qhz (show(strL T).size≤281474976710656 by rw[ac,HT.out,List.length_take];omega);have HSD:=qhz (show(strL D).size≤281474976710656 by rw[ac,HD.out,List.length_take];omega);have HBz:=qhz (But.refl [] W2);have hb0W:b0<W2.heap.size:=HI2.out.lt;have hWW:w.heap.size≤W2.heap.size:=HB2.out.size
      go_cut [8]from 43 to 49 (fun v wc=>∃g,v=.pointer (some ⟨g,0,none⟩)∧g≠b0∧Hid (Is wc g 42 #[strL T,strL D])∧Hid (Is wc b0 42 #[strL [],strL []])∧Hid (But [] w wc))
      case first=>
       go_region_with (go_at_call 84;refine(pN _ ?hs).mono ?_;(case hs=>first|exact HST.out|exact HSD.out);rintro e wk ⟨rfl,hB⟩;have HBk:=qhz hB;(first|have hI:=hI.but hB (by simp)|have hI:=(Is.fresh _ _ _).but hB (by simp)|have hI:=(Is.fresh _ _ _).drew.but hB (by simp)|skip);(try have c0:=hI.cell 0);(try have c1:=hI.cell 1);(try have f0:=hI.free 0);(try have f1:=hI.free 1);(first|have HBz:=qt HBz hB|have HBz:=qhz (HBz.out.drew.trans hB)|have HBz:=qhz ((HBz.out.alloc _).trans hB)|have HBz:=qhz (((HBz.out.alloc _).drew).trans hB));have hsz:=HBz.out.size;clear hB)
       all_goals (go_wp2;go_meet)
       ·exact⟨_,rfl,by omega,qhz (Is.fresh _ _ _),qhz ((HI2.out.but HBz.out (by simp)).alloc _),qhz ((HB2.out.trans HBz.out).alloc _)⟩
       ·exact⟨_,rfl,by omega,qhz ((hI.put 0 _).put 1 _),qhz (((HI2.out.but HBz.out (by simp)).far (by dsimp only;omega) _).far (by dsimp only;omega) _),qhz (((HB2.out.trans HBz.out).setCell (.inr (by dsimp only;omega)) _).setCell (.inr (by dsimp only;omega)) _)⟩
       ·exact⟨_,rfl,by omega,qhz ((hI.put 0 _).put 1 _),qhz (((HI2.out.but HBz.out (by simp)).far (by dsimp only;omega) _).far (by dsimp only;omega) _),qhz (((HB2.out.trans HBz.out).setCell (.inr (by dsimp only;omega)) _).setCell (.inr (by dsimp only;omega)) _)⟩
      case rest=>
       obtain⟨g,rfl,hg,HI3,HJ3,HB3⟩:=hcut;obtain⟨W3,rfl⟩:=E1 (wc:World);obtain⟨c0,c1,_⟩:=HI3.out.c2;obtain⟨b0c,b1c,_⟩:=HJ3.out.c2;obtain⟨f0,f1⟩:=HJ3.out.f2;have HI4:=qhz ((HJ3.out.put 0 (.string (strL T))).put 1 (.string (strL D)));have HB4:=qhz ((HB3.out.setCell (p:=⟨b0,0,none⟩) (.inr (by rw[HBB.out];exact Nat.le_refl _)) (.string (strL T))).setCell (p:=⟨b0,1,none⟩) (.inr (by rw[HBB.out];exact Nat.le_refl _)) (.string (strL D)));clear HBz
       go_upto_region 12 with(fail)
       go_region
       all_goals
        go_wp2;refine tL (W:=_) (b0:=b0) (T:=T) (D:=D) (rest:=s.drop (12+n)) (er:=0) HI4.out.drew HB4.out.drew ?_ ?_ ?_ HR.out<;>rfl
    ·have HR:=qhz (show b9 s=(([],[]),[],22) by
      unfold b9;rw[if_neg H8.out,if_neg HP.out,if_neg H12.out,←HNN.out,←HT.out,←HQ.out,←HCQ.out,if_pos (fun hh=>hxy (HQQ.out.2 hh))])
     have hne:¬X.toList=Y.toList:=fun e=>hxy (by
      rw[ByteArray.toList_eq,ByteArray.toList_eq]at e;apply ByteArray.ext;apply Array.ext';exact e)
     have hne2:(X.toList==Y.toList)=false:=by simpa using hne
     clear hxy
     go_region_with (first|(go_at_call 69;refine(HCR.out _).mono ?_;rintro e w1 ⟨rfl,rfl⟩)|(go_at_call 68;refine(HNM.out _).mono ?_;rintro e w2 ⟨rfl,hB⟩;have HBn:=qhz hB;clear hB))
     all_goals
      go_simp;have HI2:=qhz (((HI1.out.drew).but HBn.out (by simp)));have HB2:=qhz ((HB1.out.drew).trans HBn.out);have hI2:=HI2.out;obtain⟨c0,c1,_⟩:=hI2.c2;obtain⟨f0,f1⟩:=hI2.f2;have HI3:=qhz ((HI2.out.put 0 (.string ⟨#[]⟩)).put 1 (.string ⟨#[]⟩));have HB3:=qhz ((HB2.out.setCell (p:=⟨b0,0,none⟩) (.inr (by rw[HBB.out];exact Nat.le_refl _)) (.string ⟨#[]⟩)).setCell (p:=⟨b0,1,none⟩) (.inr (by rw[HBB.out];exact Nat.le_refl _)) (.string ⟨#[]⟩));clear hI2;go_wp2;refine HE3.out 22 HR.out ?_ ?_ ?_ (W:=_) (by rw[lN];exact HI3.out) HB3.out<;>rfl
end
section
theorem JZ{F:List UInt8}(h:¬F.take 8=bH):Lib.hasPrefix F bH=false:=by
 unfold Lib.hasPrefix;rw[Bool.eq_false_iff];intro e;obtain⟨r,hr⟩:=List.isPrefixOf_iff_prefix.1 e;exact h (by rw[←hr];exact List.take_left' rfl)
theorem vb{F:List UInt8}(h:F.take 8=bH):Lib.hasPrefix F bH=true:=by
 unfold Lib.hasPrefix;exact List.isPrefixOf_iff_prefix.2 ⟨F.drop 8,by rw[←h,List.take_append_drop]⟩
theorem M6{F:List UInt8}(h:F.take 8=bH):Lib.trimPrefix F bH=F.drop 8:=by
 have:=vb h;unfold Lib.trimPrefix;simp[this];rfl
theorem qw{s:List UInt8}(h:s≠[]):¬(strL s).toList=[]:=by
 rw[ByteArray.toList_eq,aj];exact h
theorem yN{s:List UInt8}(h:s≠[]):(strL s).toList.isEmpty=false:=by
 simpa using qw h
theorem yO:(strL []).toList=[]:=by rw[ByteArray.toList_eq,aj]
attribute [local irreducible] strL bH splK b9
theorem va(w:World){F:List UInt8}(hF:F.length≤1000000000):
 Calls prog 21 #[strL F] w (GotC w (splT F)):=by
 obtain⟨i0,hi0,hz0,hz1,hz2⟩:=info_parts QM;have hcp:=je (strL F) ⟨#[137,80,78,71,13,10,26,10]⟩ w;rw[nW,aj,aj]at hcp
 by_cases hs:F.take 8=bH
 ·have hR:splT F=splK (F.drop 8).length (F.drop 8) []:=by
   unfold splT;rw[if_neg (by simpa using hs)];exact yS _ _ _ _ (by rw[List.length_drop];omega) (Nat.le_refl _)
  rw[vb hs,M6 hs]at hcp;rw[show(⟨(F.drop 8).toArray⟩:ByteArray)=strL (F.drop 8)by unfold strL;rfl,←nW]at hcp;obtain⟨G,hG⟩:=E1 (F.drop 8);have hGl:G.length≤1000000000:=by rw[hG,List.length_drop];omega
  rw[←hG]at hR hcp;obtain⟨R,hRR⟩:=E1 (splT F);rw[←hRR]at hR⊢;have HR:=qhz hR.symm;have HCP:=qhz hcp;clear hs hR hG hRR hF hcp
  go_enter func21,ntmps21
  go_wp2_with fail
  refine HCP.out.mono ?_;rintro e w1 ⟨rfl,hw⟩;obtain rfl:w=w1:=hw.symm
  go_wp2_with fail
  go_loopw [4,6] (fun sv ov wr=>∃(s:List UInt8) (L:List Ck),sv=.string (strL s)∧s.length≤1000000000∧L.length+s.length≤1000000000∧Hid (splK s.length s L=R)∧Hid (OwnCk wr w.heap.size ov L)∧Hid (But [] w wr)) (fun sv _ _=>Sd sv)
  case atStart=>exact⟨G,[],rfl,hGl,by simpa using hGl,HR,qhz (OwnCk.nil _ _),qhz (But.refl [] w)⟩
  case round=>
   obtain⟨s,L,rfl,hsl,hLs,HK,HO,HB⟩:=hrel
   by_cases h0:s=[]
   ·subst h0;have de:=yO;have HN:=qhz (show R=(L,0)by rw[←HK.out];unfold splK;rfl);go_wp2
    go_ret2
    rw[HN.out];exact⟨_,rfl,HO.out,HB.out⟩
   ·have dm:=qw h0;have dn:=yN h0;have hnx:=Fl h0 L;rw[HK.out]at hnx;have hsh:=Av h0;have hfi:=fun v=>F0 v hsl;unfold Rm at hfi;obtain⟨r,hr⟩:=E1 (b9 s);rw[←hr]at hnx hsh;simp only[←hr]at hfi;obtain⟨⟨T,D⟩,E,er⟩:=r;have HFI:=qhz hfi;have hss:(strL s).size=s.length:=ac s;have hes:(strL E).size=E.length:=ac E;have HSH:=qhz hsh;have HSS:=qhz hss;have HES:=qhz hes;clear hr h0 hfi hss hes
    by_cases he:er=0
    ·subst he;have HN:=qhz (show splK E.length E (L++[(T,D)])=R by rw[hnx];rfl);clear hnx
     go_wp2_with fail
     refine(HFI.out wr).mono ?_;rintro e w1 ⟨rfl,hB⟩;unfold uc;have HB1:=qhz ((HB.out.trans hB).alloc (.cells #[strL T,strL D] 42));have HO1:=qhz (HO.out.but (hB.alloc (.cells #[strL T,strL D] 42)));have hI1:=Is.fresh w1 42 #[strL T,strL D];clear hB;obtain⟨A1,cc,rfl,_⟩:=HO.out.open;obtain⟨w2,hw2⟩:=E1 (w1.alloc (.cells #[strL T,strL D] 42));rw[←hw2]at HB1 HO1 hI1;have hbs:=HB1.out.size
     go_upto_region 7 with(fail)
     rw[←hw2];obtain⟨c0,c1,_⟩:=hI1.c2;obtain⟨g1,hg1⟩:=E1 w1.heap.size;rw[←hg1]at c0 c1⊢;clear hw2 hg1 hI1;have hLn:L.length≤1000000000:=by omega
     have hle:E.length≤1000000000:=by have:=HSH.out;omega
     have hle2:(L++[(T,D)]).length+E.length≤1000000000:=by have:=HSH.out;rw[List.length_append,List.length_singleton];omega
     have hms:(strL E).size<(strL s).size:=by rw[HES.out,HSS.out];exact HSH.out
     clear HB HO
     go_wp2_with (at_builtin;refine wpList_append_lies _ rfl _ _ _ rfl w.heap.size 42 i0 (.agg #[ByteArray.empty,ByteArray.empty]) 2 32 underlying44 hi0 hz0 hz1 hz2 rfl (by omega) (.slice A1 L.length cc) L.length (fH L) (by rfl) (World.ownsRow.alloc HO1.out _) ⟨w2.heap.size,0,none⟩ 1 1 [.string (strL T),.string (strL D)] (by rfl) (by rfl) (World.news_of_block (cs:=#[.string (strL T),.string (strL D)]) (t:=42) (fr:=(0,0)) (heap_alloc_new w2 _)) (by simp[Value.oneCell']) (by omega) (by unfold maxLen;omega) (by omega) (by simp;omega) (w2.heap.size+1) (by simp) ?_)
     intro gg cap w4 hown2 hgrow hat _;have HP:=qhz (OwnCk.pushed (x:=(T,D)) HB1.out HO1.out hown2 hgrow);clear hown2 hgrow hat;go_wp2
     go_roundw
     case rel=>exact⟨E,L++[(T,D)],rfl,hle,hle2,HN,qhz HP.out.1,qhz HP.out.2⟩
     case measure=>exact hms
    ·have HN:=qhz (show R=([],er)by rw[hnx];exact if_pos he);have dne:(er !=0)=true:=by simpa using he
     clear hnx he
     go_wp2_with fail
     refine(HFI.out wr).mono ?_;rintro e w1 ⟨rfl,hB⟩;unfold uc;have HB1:=qhz ((HB.out.trans hB).alloc (.cells #[strL T,strL D] 42));clear hB;go_wp2
     go_ret2
     rw[HN.out];exact⟨_,rfl,OwnCk.nil _ _,HB1.out⟩
 ·have hR:splT F=([],20):=by unfold splT;rw[if_pos hs]
  have HR:=qhz hR;rw[JZ hs,←nW]at hcp;have HCP:=qhz hcp;clear hs hR hF hcp
  go_enter func21,ntmps21
  go_wp2_with fail
  refine HCP.out.mono ?_;rintro e w1 ⟨rfl,hw⟩;obtain rfl:w=w1:=hw.symm;go_wp2
  go_ret2
  rw[HR.out];exact⟨_,rfl,OwnCk.nil _ _,But.refl [] w⟩
end
end Go.Proofs.YtbanopnofpjnbaaGreatDoor
