/- Own texts in one: RaO. -/
import Derived.Test.YtbanopnofpjnbaaGreatDoorU00
import Derived.SizedLaws
set_option maxRecDepth 1000000
set_option linter.unusedVariables false
set_option maxHeartbeats 4000000
namespace Go.Proofs.YtbanopnofpjnbaaGreatDoor
open Go Go.RowKit Tryz
section
open Go.ChangeShapes Go.WideShapes
theorem yk:prog.cellsOf 23=3:=by kernel_rfl
theorem Hl:prog.cellsOf 3=1:=by kernel_rfl
theorem Hk:prog.cellsOf 9=1:=by kernel_rfl
theorem open_raster{H:Type}{enc:TypeId×Value→H}{W:World}{base:Nat}{v:Value}{d:DataW H}{p:List MemPlace}(hv:Value.okWide prog W .any base 23 v)
 (hk:DataW.Trod enc prog W 0 (fun _=>true) true 23 v d p) {ts:List TypeId} {ds:List (DataW H)} (hsz:(DataW.weightsEach prog ts ds).all (· ≤reachBytes)=true) {j:Nat} (ht:ts[j]? =some 23) (hd:ds[j]? =some d):
 ∃(x y:Int) (a:ByteArray),v=.agg #[x,y,a]∧a.size≤140737488351232:=by
 obtain⟨cs,rfl,hcs⟩:=okWide_struct underlying23 hv;obtain⟨fuel,hf⟩:=hk;obtain⟨ys,n',_,hD,hcl,hyl,hfs⟩:=DataW.trod_struct underlying23 hf;rw[yk]at hcl;obtain⟨xs,hxs⟩:=E1 ((Value.agg cs).cells.toList);rw[←hxs]at hcl hfs
 match xs,hcl with
 |[x0,x1,x2],_=>
  have g0:=hfs 0 _ rfl;have g1:=hfs 1 _ rfl;have g2:=hfs 2 _ rfl;have hy:ys.length=3:=hyl
  match ys,hy with
  |[y0,y1,y2],_=>
   obtain⟨q0,c0,d0,_⟩:=DataW.trod_int underlying3 (x:=y0) g0;obtain⟨q1,c1,d1,_⟩:=DataW.trod_int underlying3 (x:=y1) g1;obtain⟨a,c2,d2,_⟩:=DataW.trod_string underlying9 (x:=y2) g2;have c0:([x0,x1,x2].drop 0).take (prog.cellsOf 3)=[.int .i64 q0]:=c0;have c1:([x0,x1,x2].drop 1).take (prog.cellsOf 3)=[.int .i64 q1]:=c1;have c2:([x0,x1,x2].drop 2).take (prog.cellsOf 9)=[.string a]:=c2;rw[Hl]at c0 c1;rw[Hk]at c2;have e0:x0=.int .i64 q0:=by simpa using c0
   have e1:x1=.int .i64 q1:=by simpa using c1
   have e2:x2=.string a:=by simpa using c2
   have hDD:d=.agg [.lit (.int .i64 q0),.lit (.int .i64 q1),.lit (.string a.data.toList)]:=by
    have hD1:=(Prod.mk.inj hD).1;rw[hD1,d0,d1,d2];rfl
   have hr:reachBytes=140737488351232:=rfl;have hww:∀k∈(d.weights prog 23),k≤reachBytes:=fun k hk=>by
    have h3:=List.all_eq_true.1 hsz k (DataW.weights_mem_each ht hd k hk);simpa using h3
   have hmem:a.data.toList.length∈d.weights prog 23:=by
    rw[hDD];simp only[DataW.weights,underlying23];exact List.mem_append.2 (Or.inr (List.mem_append.2 (Or.inr (List.mem_append.2 (Or.inl (List.mem_singleton.2 rfl))))))
   refine⟨q0,q1,a,?_,?_⟩
   ·obtain⟨l⟩:=cs;simp only[Value.cells]at hxs;have e:l=[x0,x1,x2]:=by simpa using hxs.symm
    rw[e,e0,e1,e2]
   ·have:=hww _ hmem;rw[hr,Array.length_toList]at this;exact this
end
end Go.Proofs.YtbanopnofpjnbaaGreatDoor
