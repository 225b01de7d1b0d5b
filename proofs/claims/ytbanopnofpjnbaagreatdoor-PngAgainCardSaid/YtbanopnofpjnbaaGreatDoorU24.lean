/- Own texts in one: LcT, GlobZ, PnX. -/
import Derived.Test.YtbanopnofpjnbaaGreatDoorU23
import Derived.Test.YtbanopnofpjnbaaGreatDoorRows
import Derived.LaidMore
import Derived.SizedLaws
import Derived.Stop.Joined
set_option maxRecDepth 1000000
set_option linter.unusedVariables false
set_option maxHeartbeats 4000000
namespace Go.Proofs.YtbanopnofpjnbaaGreatDoor
open Go Go.RowKit Go.Proofs.Tryz
section
open Go.ChangeShapes Go.WideShapes
theorem Hm:prog.cellsOf 3=1:=by kernel_rfl
end
section
open Go.ChangeShapes Go.WideShapes Go.ChangeAt Go.WideMaps Go.WideElems
section
variable {P:Program} {H:Type} {enc:TypeId×Value→H} {w:World} {base:Nat} {spare:TypeId×Value→Bool} {held:Bool}
theorem o7{sp:_}{t e n m:Nat}{cs:List Value}{ds:List (DataW H)}{p:List MemPlace}{zs:List Int}(ht:P.underlying t=some (.array n e))(hce:P.cellsOf e=1)(he:P.underlying e=some (.int .i64))
 (h:DataW.trod enc P w base sp held m t cs=some (.agg ds,p)) (hd:ds=zs.map fun z=>.lit (.int .i64 z)):∀i,i<n→cs[i]? =some (.int .i64 (zs.getD i 0)):=by
 intro i hi;obtain⟨xs,k,rfl,hx,hlen,hxn,hel⟩:=DataW.trod_array ht h;injection hx with hx1 hx2;injection hx1 with hx1;have h1:=hel i hi;rw[hce,Nat.mul_one,List.getElem?_eq_getElem (by omega)]at h1;obtain⟨z,e1,e2,_⟩:=DataW.trod_int he h1;have hz:(zs.map fun z=>(DataW.lit (.int .i64 z):DataW H))[i]? =some (.lit (.int .i64 z)):=by
  rw[←hd,hx1,List.getElem?_map,List.getElem?_eq_getElem (by omega),e2];rfl
 rw[List.getElem?_map]at hz;cases hzi:zs[i]? with
 |none=>rw[hzi]at hz;cases hz
 |some y=>
  rw[hzi]at hz;have hy:y=z:=by simpa using hz
  rw[List.getD_eq_getElem?_getD,hzi];have h2:((cs.drop i).take 1)[0]? =some (.int .i64 z):=by rw[e1];rfl
  rw[List.getElem?_take_of_lt (by omega),List.getElem?_drop,Nat.add_zero]at h2;rw[h2,hy];rfl
end
def G0{H:Type}(p:bj):DataW H:=.agg [.lit (.int .i64 (p.x:Nat)),.lit (.int .i64 (p.y:Nat)),.lit (.int .i64 (p.dx:Nat)),.lit (.int .i64 (p.dy:Nat))]
theorem oY:prog.cellsOf 175=4:=by kernel_rfl
section
variable {H:Type} {enc:TypeId×Value→H} {w:World} {base:Nat} {spare:Nat→Bool} {held:Bool}
theorem zr{m:Nat}{cs:List Value}{q:List MemPlace}{p:bj}(h:DataW.trod enc prog w base spare held m 175 cs=some (G0 p,q)):
 cs=[.int .i64 (p.x:Nat),.int .i64 (p.y:Nat),.int .i64 (p.dx:Nat),.int .i64 (p.dy:Nat)]:=by
 obtain⟨ys,n',_,hx,hcl,hyl,hfs⟩:=DataW.trod_struct underlying175 h;injection hx with hx1 hx2;injection hx1 with hx1;rw[oY]at hcl
 match cs,hcl with
 |[x0,x1,x2,x3],_=>
  have hy:ys.length=4:=hyl
  match ys,hy with
  |[y0,y1,y2,y3],_=>
   have g0:=hfs 0 _ rfl;have g1:=hfs 1 _ rfl;have g2:=hfs 2 _ rfl;have g3:=hfs 3 _ rfl;obtain⟨q0,c0,z0,_⟩:=DataW.trod_int underlying3 (x:=y0) g0;obtain⟨q1,c1,z1,_⟩:=DataW.trod_int underlying3 (x:=y1) g1;obtain⟨q2,c2,z2,_⟩:=DataW.trod_int underlying3 (x:=y2) g2;obtain⟨q3,c3,z3,_⟩:=DataW.trod_int underlying3 (x:=y3) g3;have c0:([x0,x1,x2,x3].drop 0).take (prog.cellsOf 3)=[.int .i64 q0]:=c0;have c1:([x0,x1,x2,x3].drop 1).take (prog.cellsOf 3)=[.int .i64 q1]:=c1;have c2:([x0,x1,x2,x3].drop 2).take (prog.cellsOf 3)=[.int .i64 q2]:=c2;have c3:([x0,x1,x2,x3].drop 3).take (prog.cellsOf 3)=[.int .i64 q3]:=c3;rw[Hm]at c0 c1 c2 c3;have e0:x0=.int .i64 q0:=by simpa using c0
   have e1:x1=.int .i64 q1:=by simpa using c1
   have e2:x2=.int .i64 q2:=by simpa using c2
   have e3:x3=.int .i64 q3:=by simpa using c3
   subst z0 z1 z2 z3;simp at hx1;obtain⟨r0,r1,r2,r3⟩:=hx1;rw[e0,e1,e2,e3,←r0,←r1,←r2,←r3]
theorem xl{m:Nat}{cs:List Value}{q:List MemPlace}(h:DataW.trod enc prog w base spare held m 176 cs=some (.agg (kY.map G0),q)):
 ∀i p,kY[i]? =some p→(cs.drop (i*4)).take 4=[.int .i64 (p.x:Nat),.int .i64 (p.y:Nat),.int .i64 (p.dx:Nat),.int .i64 (p.dy:Nat)]:=by
 intro i p hp;obtain⟨xs,k,rfl,hx,hlen,hxn,hel⟩:=DataW.trod_array underlying176 h;injection hx with hx1 hx2;injection hx1 with hx1;have hi:i<8:=(List.getElem?_eq_some_iff.1 hp).1;have h1:=hel i hi;rw[oY,List.getElem?_eq_getElem (by omega)]at h1;have hz:(kY.map (G0 (H:=H)))[i]? =some (G0 p):=by rw[List.getElem?_map,hp];rfl
 rw[hx1,List.getElem?_map,List.getElem?_eq_getElem (by omega)]at hz;have hz2:(xs[i]'(by omega)).1=G0 p:=by simpa using hz
 have h2:xs[i]'(by omega)=(G0 p,(xs[i]'(by omega)).2):=by rw[←hz2]
 rw[h2]at h1;exact zr h1
end
theorem O8{W:World}{a:Addr}{v:Value}(h:W.cell? a=some v):a.block<W.heap.size:=by
 by_cases hl:a.block<W.heap.size
 ·exact hl
 ·unfold World.cell? at h;rw[Array.getElem?_eq_none (by omega)]at h;cases h
def laidL:List (String×DataW Unit):=[("vitrine/inflate.smallOrder",Rows.laid_vitrine_inflate_smallOrder),("vitrine/inflate.leastTimes",Rows.laid_vitrine_inflate_leastTimes),("vitrine/inflate.timesBits",Rows.laid_vitrine_inflate_timesBits),("vitrine/lace.places",Rows.laid_vitrine_lace_places),("vitrine/deflate.smallOrder",Rows.laid_vitrine_deflate_smallOrder)]
theorem gZ0:prog.globalNamed "vitrine/inflate.smallOrder" =some 2:=by kernel_rfl
theorem gZ1:prog.globalNamed "vitrine/inflate.leastTimes" =some 4:=by kernel_rfl
theorem gZ2:prog.globalNamed "vitrine/inflate.timesBits" =some 3:=by kernel_rfl
theorem gZ3:prog.globalNamed "vitrine/lace.places" =some 0:=by kernel_rfl
theorem gZ4:prog.globalNamed "vitrine/deflate.smallOrder" =some 1:=by kernel_rfl
theorem tZ0:(prog.globals[2]?).map (·.type)=some 259:=by kernel_rfl
theorem tZ1:(prog.globals[4]?).map (·.type)=some 282:=by kernel_rfl
theorem tZ2:(prog.globals[3]?).map (·.type)=some 282:=by kernel_rfl
theorem tZ3:(prog.globals[0]?).map (·.type)=some 176:=by kernel_rfl
theorem tZ4:(prog.globals[1]?).map (·.type)=some 259:=by kernel_rfl
theorem rh:prog.cellsOf 3=1:=by kernel_rfl
theorem door_met(os:Os)(args:Array Value):laidMetH prog laidL ((World.doorLaid prog 400 os).forCall (fun _ _=>0) ⟨#[],args,[]⟩).memory:=
 laidMetH_of_parts3 (fuel:=8) (laidMet_of_run' 8 (by kernel_rfl) (by kernel_rfl)) (by kernel_rfl) (by kernel_rfl)
def GA(w:World):Prop:=GL w∧GD w∧GP w
theorem of_laid{W:World}(h:laidMetH prog laidL W):GA W:=by
 rw[MakeChecks.laidMetH_plain _ _ _ (by kernel_rfl)]at h;obtain⟨ps,⟨g0',t0',cs0,f0,p0,q0,hg0,ht0,hv0,hd0,⟨g1',t1',cs1,f1,p1,q1,hg1,ht1,hv1,hd1,⟨g2',t2',cs2,f2,p2,q2,hg2,ht2,hv2,hd2,⟨g3',t3',cs3,f3,p3,q3,hg3,ht3,hv3,hd3,⟨g4',t4',cs4,f4,p4,q4,hg4,ht4,hv4,hd4,_,_⟩,_⟩,_⟩,_⟩,_⟩,_,_⟩:=h;obtain rfl:=Option.some.inj (gZ0.symm.trans hg0);obtain rfl:=Option.some.inj (gZ1.symm.trans hg1);obtain rfl:=Option.some.inj (gZ2.symm.trans hg2);obtain rfl:=Option.some.inj (gZ3.symm.trans hg3);obtain rfl:=Option.some.inj (gZ4.symm.trans hg4);obtain rfl:=Option.some.inj (tZ0.symm.trans ht0);obtain rfl:=Option.some.inj (tZ1.symm.trans ht1);obtain rfl:=Option.some.inj (tZ2.symm.trans ht2);obtain rfl:=Option.some.inj (tZ3.symm.trans ht3);obtain rfl:=Option.some.inj (tZ4.symm.trans ht4);have a0:=o7 (zs:=[16,17,18,0,8,7,9,6,10,5,11,4,12,3,13,2,14,1,15]) underlying259 rh underlying3 hd0 rfl;have a1:=o7 (zs:=[3,3,11]) underlying282 rh underlying3 hd1 rfl;have a2:=o7 (zs:=[2,3,7]) underlying282 rh underlying3 hd2 rfl;have a4:=o7 (zs:=[16,17,18,0,8,7,9,6,10,5,11,4,12,3,13,2,14,1,15]) underlying259 rh underlying3 hd4 rfl;have a3:=xl hd3;have b0:=fun i=>World.var?_cell hg0 hv0 i;have b1:=fun i=>World.var?_cell hg1 hv1 i;have b2:=fun i=>World.var?_cell hg2 hv2 i;have b3:=fun i=>World.var?_cell hg3 hv3 i;have b4:=fun i=>World.var?_cell hg4 hv4 i;have c:∀(cs:Array Value) (i:Nat),cs.toList[i]? =cs[i]?:=fun cs i=>by simp
 have ho:∀i,i<19→([16,17,18,0,8,7,9,6,10,5,11,4,12,3,13,2,14,1,15]:List Int).getD i 0=((ordS.getD i 0:Nat):Int):=by decide
 refine⟨⟨fun i hi=>?_,⟨?_,?_,?_⟩,⟨?_,?_,?_⟩⟩,fun i hi=>?_,fun i p hp=>?_⟩
 ·rw[b0 i,←c,a0 i hi,ho i hi]
 ·rw[b2 0,←c,a2 0 (by omega)];rfl
 ·rw[b2 1,←c,a2 1 (by omega)];rfl
 ·rw[b2 2,←c,a2 2 (by omega)];rfl
 ·rw[b1 0,←c,a1 0 (by omega)];rfl
 ·rw[b1 1,←c,a1 1 (by omega)];rfl
 ·rw[b1 2,←c,a1 2 (by omega)];rfl
 ·rw[b4 i,←c,a4 i hi,ho i hi]
 ·have hc:=a3 i p hp;have hk:∀k,k<4→W.cell? ⟨0,i*4+k,none⟩=([.int .i64 (p.x:Nat),.int .i64 (p.y:Nat),.int .i64 (p.dx:Nat),.int .i64 (p.dy:Nat)]:List Value)[k]?:=fun k hk=>by
   rw[b3 (i*4+k),←c,←hc,List.getElem?_take_of_lt hk,List.getElem?_drop]
  have h0:=hk 0 (by omega);exact⟨⟨h0,hk 1 (by omega),hk 2 (by omega),hk 3 (by omega)⟩,O8 h0⟩
theorem GA.but{w w':World}(h:GA w)(hB:But [] w w'):GA w':=⟨h.1.but hB,h.2.1.but hB,h.2.2.but hB⟩
end
theorem lastsA:Ib GA:=fun _ _ h hB=>h.but hB
theorem enCA:EnC GA:=fun v _ _ _ hG hp=>B5 v hG.2.1 hp
theorem deSA:DeS GA:=fun v _ _ hf hs=>NL v hf hs
theorem awk13A:Ie GA:=Ia lastsA enCA deSA
end Go.Proofs.YtbanopnofpjnbaaGreatDoor
