/- Own texts in one: RegM, RegN, Mem, Ab, Math, Words, Four. -/
import Derived.Test.YtbanopnofpjnbaaGreatDoorU00
set_option maxRecDepth 1000000
set_option linter.unusedVariables false
set_option maxHeartbeats 4000000
namespace Go.Proofs.YtbanopnofpjnbaaGreatDoor
open Go Go.RowKit Tryz
section
section
variable {P:Program} {ops:Array Oper} {Q:Exit→Act→World→Prop} {md:Region.Mode} {S:World→Prop} {R:World→World→Prop}
theorem Dm{j:Nat}{oj:Oper}(hj:ops[j]? =some oj){K:Act→World→Prop}{a:Act}{w:World}(C:Act→Prop)
 (hput:∀u,C (a.put oj.dst u)) (hdef:∀d u,C (({a with defers:=d::a.defers}:Act).put oj.dst u)) (h:wpOp P ops Q j K a w):
 wpOp P ops Q j (fun b w1=>C b∧K b w1) a w:=by
 unfold wpOp at*;simp only[hj]at *
 by_cases hw:Region.wanted oj (yielded ops a.tmps)=true
 ·rw[if_pos hw]at h⊢;rcases h with h|h
  ·left;unfold Oper.wp at*;cases hr:(execOp a.eval oj).run P w with
   |ok n w1=>
    rw[hr]at h;cases n with
    |value u=>exact⟨hput u,h⟩
    |skip=>exact⟨hput _,h⟩
    |defer d=>exact⟨hdef d _,h⟩
    |enter f args=>
     refine Calls.mono h fun e w2 he=>?_;cases e with
     |returned u=>exact⟨hput u,he⟩
     |panicked c=>exact he
     |outgrown=>exact he
    |row r args=>exact Rows.mono h fun u w2 he=>⟨hput u,he⟩
    |_=>exact h
   |halt x w1=>
    rw[hr]at h;cases x<;>exact h
  ·exact .inr h
 ·rw[if_neg hw]at h⊢;exact⟨hput _,h⟩
def YieldsR(P:Program)(ops:Array Oper)(S:World→Prop)(R:World→World→Prop)(o:Oper)(v:Value)(a:Act):Prop:=
 (Region.wanted o (yielded ops a.tmps)=true∧∀w,S w→((∃w1,(execOp a.eval o).run P w=.ok (.value v) w1∧S w1∧R w w1)∨
  ∃f args,(execOp a.eval o).run P w=.ok (.enter f args) w∧Calls P f args w fun e w1=>e=.returned v∧S w1∧R w w1))∨
 (Region.wanted o (yielded ops a.tmps)=false∧v=undef)
theorem YieldsR.of_same{o:Oper}{v:Value}{a a':Act}(hy:YieldsR P ops S R o v a)(he:execOp a'.eval o=execOp a.eval o)
 (hw:Region.wanted o (yielded ops a'.tmps)=Region.wanted o (yielded ops a.tmps)):YieldsR P ops S R o v a':=by
 unfold YieldsR at*;rw[he,hw];exact hy
theorem YieldsR.wpOp{i:Nat}{o:Oper}{v:Value}{a:Act}(hi:ops[i]? =some o)(hy:YieldsR P ops S R o v a)(hrefl:∀w,R w w)
 {K:Act→World→Prop} {w:World} (hS:S w) (h:∀w1,S w1→R w w1→K (a.put o.dst v) w1):wpOp P ops Q i K a w:=by
 unfold Go.wpOp;simp only[hi];rcases hy with⟨hw,hv⟩|⟨hw,rfl⟩
 ·rw[if_pos hw];left;unfold Oper.wp;rcases hv w hS with⟨w1,hr,h1,h2⟩|⟨f,args,hr,hc⟩
  ·rw[hr];exact h w1 h1 h2
  ·rw[hr];refine Calls.mono hc fun e w1 he=>?_;obtain⟨rfl,h1,h2⟩:=he;exact h w1 h1 h2
 ·rw[if_neg (by simp[hw])];exact h w hS (hrefl w)
def wpM(P:Program)(md:Region.Mode)(ops:Array Oper)(Q:Exit→Act→World→Prop)(S:World→Prop)(R:World→World→Prop):Nat→Array Bool→Act→World→Prop
 |0,listed,a,w=>Region.ready md ops listed=[]∧∀w1,R w w1→S w1→Q .normal a w1
 |f+1,listed,a,w=>∀w1,R w w1→S w1→(Region.ready md ops listed=[]→Q .normal a w1)∧
  ∀i∈Region.ready md ops listed,wpOp P ops Q i (fun a' w'=>S w'∧wpM P md ops Q S R f (listed.setIfInBounds i true) a' w') a w1
theorem Dn(htr:∀x y z,R x y→R y z→R x z):∀{f:Nat} {listed:Array Bool} {a:Act} {w w':World},wpM P md ops Q S R f listed a w→R w w'→wpM P md ops Q S R f listed a w'
 |0,_,_,_,_,h,hr=>⟨h.1,fun w1 h1 h2=>h.2 w1 (htr _ _ _ hr h1) h2⟩
 |_+1,_,_,_,_,h,hr=>fun w1 h1 h2=>h w1 (htr _ _ _ hr h1) h2
theorem uE(hrefl:∀w,R w w):∀(f:Nat) (listed:Array Bool) (a:Act) (w:World),S w→wpM P md ops Q S R f listed a w→wpAny P md ops Q f listed a w
 |0,_,_,w,hS,h=>⟨h.1,h.2 w (hrefl w) hS⟩
 |f+1,_,_,w,hS,h=>⟨(h w (hrefl w) hS).1,fun i hi=>wpOp_mono (fun a' w' h'=>uE hrefl f _ a' w' h'.1 h'.2) ((h w (hrefl w) hS).2 i hi)⟩
theorem Ik(hrefl:∀w,R w w)(htr:∀x y z,R x y→R y z→R x z){i:Nat}{oi:Oper}{v:Value}(hi:ops[i]? =some oi)
 (hsel:∀(j:Nat) (o:Oper) cs b,ops[j]? =some o→o.op≠ .select cs b)
 (hQ:∀c a w,Q (.panic c) (a.put oi.dst v) w→Q (.panic c) a w):
 ∀(f:Nat) (listed:Array Bool) (a:Act) (w:World),
  (∀j oj,ops[j]? =some oj→j≠i→listed.getD j true=false→(∀e∈oj.after,Region.binds md e=true→e.on≠i)→oi.apart ops oj=true)→
  i∈Region.ready md ops listed→YieldsR P ops S R oi v a→
  wpM P md ops Q S R f (listed.setIfInBounds i true) (a.put oi.dst v) w→wpM P md ops Q S R (f+1) listed a w:=by
 intro f
 induction f with
 |zero=>
  intro listed a w _ hr hy H w1 hR hS;refine⟨fun h=>(by rw[h]at hr;cases hr),fun j hj=>?_⟩
  by_cases hji:j=i
  ·subst hji;exact hy.wpOp hi hrefl hS fun w2 h1 h2=>⟨h1,Dn htr H (htr _ _ _ hR h2)⟩
  ·have:=ready_mono hj hji;rw[H.1]at this;cases this
 |succ f ih=>
  intro listed a w hfree hr hy H w1 hR hS;refine⟨fun h=>(by rw[h]at hr;cases hr),fun j hj=>?_⟩
  by_cases hji:j=i
  ·subst hji;exact hy.wpOp hi hrefl hS fun w2 h1 h2=>⟨h1,Dn htr H (htr _ _ _ hR h2)⟩
  ·have h1:=(H w1 hR hS).2 j (ready_mono hj hji);obtain⟨hjun,oj,hoj,hall⟩:=mem_ready.1 hj;have hnot:∀e∈oj.after,Region.binds md e=true→e.on≠i:=fun e he hb heq=>by
    have h2:=hall e he hb;have h0:=(mem_ready.1 hr).1;rw[heq]at h2;rcases Nat.lt_or_ge i listed.size with h'|h'
    ·simp[h']at h0 h2;rw[h0]at h2;cases h2
    ·simp[Array.getElem?_eq_none h']at h2
   have hap:=hfree j oj hoj hji hjun hnot;obtain⟨_,_,h3⟩:=Oper.apart_spec hap;have triv:YieldsIf P ops (fun _=>False) oi v a:=by
    rcases hy with⟨hw,_⟩|⟨hw,hv⟩
    ·exact .inl ⟨hw,fun _ h=>h.elim⟩
    ·exact .inr ⟨hw,hv⟩
   have keep:∀(b:Act),YieldsR P ops S R oi v b→∀u,YieldsR P ops S R oi v (b.put oj.dst u):=fun b hb u=>
    hb.of_same (execOp_put oi (fun cs c=>hsel i oi cs c hi) b oj.dst u h3) (wanted_put oi b oj.dst u h3)
   have h2:=wpOp_putIf hoj hap (fun cs b=>hsel i oi cs b hi) (fun cs b=>hsel j oj cs b hoj) hQ triv h1;have h4:=Dm hoj (YieldsR P ops S R oi v) (fun u=>keep a hy u) (fun d u=>keep {a with defers:=d::a.defers} (hy.of_same rfl rfl) u) h2;have hfree':∀k ok,ops[k]? =some ok→k≠i→(listed.setIfInBounds j true).getD k true=false→
    (∀e∈ok.after,Region.binds md e=true→e.on≠i)→oi.apart ops ok=true:=fun k ok hk hki hun hno=>by
    refine hfree k ok hk hki ?_ hno
    by_cases hjk:j=k
    ·subst hjk;exact hjun
    ·rw[getD_set_ne true hjk]at hun;exact hun
   refine wpOp_mono (fun a' w' h5=>⟨h5.2.2.1,ih (listed.setIfInBounds j true) a' w' hfree' (ready_mono hr (Ne.symm hji)) h5.1 ?_⟩) h4;rw[Array.setIfInBounds_comm _ _ hji];exact h5.2.2.2
theorem bw(hrefl:∀w,R w w){id:Nat}{a:Act}{w:World}(hm:P.follows .mixedOrders=true)(hS:S {w with drawn:=w.drawn+1})
 (h:wpM P .any ops Q S R ops.size (Array.replicate ops.size false) a {w with drawn:=w.drawn+1}):(Code.region id ops true).wp P Q a w:=
 wp_region_any hm (uE hrefl _ _ _ _ hS h)
theorem cr(hrefl:∀w,R w w)(htr:∀x y z,R x y→R y z→R x z){i:Nat}{oi:Oper}{v:Value}{f:Nat}{listed:Array Bool}{a:Act}{w:World}(hi:ops[i]? =some oi)
 (hs:Region.noSelect ops=true) (hf:Region.free md ops listed i=true) (hr:(Region.ready md ops listed).contains i=true)
 (hQ:∀c a w,Q (.panic c) (a.put oi.dst v) w→Q (.panic c) a w) (hy:YieldsR P ops S R oi v a)
 (h:wpM P md ops Q S R f (listed.setIfInBounds i true) (a.put oi.dst v) w):wpM P md ops Q S R (f+1) listed a w:=
 Ik hrefl htr hi (Region.noSelect_spec hs) hQ f listed a w (Region.free_spec hi hf) (by simpa using hr) hy h
theorem YieldsR.read(hrefl:∀w,R w w){o:Oper}{v:Value}{a:Act}(hw:Region.wanted o (yielded ops a.tmps)=true)(h:∀w,S w→(execOp a.eval o).run P w=.ok (.value v) w):YieldsR P ops S R o v a:=
 .inl ⟨hw,fun w hS=>.inl ⟨w,h w hS,hS,hrefl w⟩⟩
theorem cI{i:Nat}{oi:Oper}{f:Nat}{listed:Array Bool}{a:Act}{w:World}(hi:ops[i]? =some oi)(hr:Region.ready md ops listed=[i])
 (h:∀w1,R w w1→S w1→∀K':Act→World→Prop,(∀a' w',(S w'∧wpM P md ops Q S R f (listed.setIfInBounds i true) a' w')→K' a' w')→
  if Region.wanted oi (yielded ops a.tmps)=true then Oper.wp P oi a w1 K' Q else K' (a.put oi.dst undef) w1):wpM P md ops Q S R (f+1) listed a w:=by
 intro w1 hR hS;refine⟨fun h0=>(by rw[hr]at h0;cases h0),fun j hj=>?_⟩;rw[hr]at hj;have hji:j=i:=by simpa using hj
 subst hji;exact wpOp_step hi (h w1 hR hS)
end
end
section
section
variable {P:Program} {ops:Array Oper} {Q:Exit→Act→World→Prop} {md:Region.Mode} {S:World→Prop} {R:World→World→Prop}
theorem Ij{i j:Nat}{oi oj:Oper}{f:Nat}{listed:Array Bool}{a:Act}{w:World}(hi:ops[i]? =some oi)(hj:ops[j]? =some oj)(hr:Region.ready md ops listed=[i,j])
 (h1:∀w1,R w w1→S w1→∀K':Act→World→Prop,(∀a' w',(S w'∧wpM P md ops Q S R f (listed.setIfInBounds i true) a' w')→K' a' w')→
  if Region.wanted oi (yielded ops a.tmps)=true then Oper.wp P oi a w1 K' Q else K' (a.put oi.dst undef) w1)
 (h2:∀w1,R w w1→S w1→∀K':Act→World→Prop,(∀a' w',(S w'∧wpM P md ops Q S R f (listed.setIfInBounds j true) a' w')→K' a' w')→
  if Region.wanted oj (yielded ops a.tmps)=true then Oper.wp P oj a w1 K' Q else K' (a.put oj.dst undef) w1):wpM P md ops Q S R (f+1) listed a w:=by
 intro w1 hR hS;refine⟨fun h0=>(by rw[hr]at h0;cases h0),fun k hk=>?_⟩;rw[hr]at hk;rcases List.mem_cons.1 hk with rfl|hk
 ·exact wpOp_step hi (h1 w1 hR hS)
 ·have hkj:k=j:=by simpa using hk
  subst hkj;exact wpOp_step hj (h2 w1 hR hS)
end
end
section
def Is(w:World)(b:Nat)(t:TypeId)(cs:Array Value):Prop:=w.heap[b]? =some (.cells cs t (0,0))
structure But(S:List Nat)(w w':World):Prop where
 os:w'.os=w.os
 tape:w'.tape=w.tape
 output:w'.output=w.output
 size:w.heap.size≤w'.heap.size
 block:∀k,k<w.heap.size→k∉S→w'.heap[k]? =w.heap[k]?
def ByteRow(w:World)(A:Option Addr)(n:Nat)(l:List UInt8):Prop:=
 l.length=n∧(0<n→∃g o,A=some ⟨g,o,none⟩∧∀(i:Nat) (h:i<l.length),w.cell? ⟨g,o+i,none⟩=some (.int .u8 l[i].toNat))
def Off(A:Option Addr)(b:Nat):Prop:=∀a,A=some a→a.block≠b
section
variable {w w' w'':World} {b:Nat} {t:TypeId} {cs:Array Value} {S T:List Nat}
theorem Is.lt(h:Is w b t cs):b<w.heap.size:=(Array.getElem?_eq_some_iff.1 h).1
theorem Is.cell(h:Is w b t cs)(i:Nat):w.cell? ⟨b,i,none⟩=cs[i]?:=by unfold Is at h;simp[World.cell?,h]
theorem Is.free(h:Is w b t cs)(i:Nat):w.frozen? ⟨b,i,none⟩=false:=by unfold Is at h;simp[World.frozen?,h]
theorem Is.c2{w:World}{b:Nat}{t:TypeId}{cs:Array Value}(h:Is w b t cs):w.cell? ⟨b,0,none⟩=cs[0]?∧w.cell? ⟨b,1,none⟩=cs[1]?∧b<w.heap.size:=⟨h.cell 0,h.cell 1,h.lt⟩
theorem Is.f2{w:World}{b:Nat}{t:TypeId}{cs:Array Value}(h:Is w b t cs):w.frozen? ⟨b,0,none⟩=false∧w.frozen? ⟨b,1,none⟩=false:=⟨h.free 0,h.free 1⟩
theorem Is.c3{w:World}{b:Nat}{t:TypeId}{cs:Array Value}(h:Is w b t cs):w.cell? ⟨b,0,none⟩=cs[0]?∧w.cell? ⟨b,1,none⟩=cs[1]?∧w.cell? ⟨b,2,none⟩=cs[2]?∧b<w.heap.size:=⟨h.cell 0,h.cell 1,h.cell 2,h.lt⟩
theorem Is.f3{w:World}{b:Nat}{t:TypeId}{cs:Array Value}(h:Is w b t cs):w.frozen? ⟨b,0,none⟩=false∧w.frozen? ⟨b,1,none⟩=false∧w.frozen? ⟨b,2,none⟩=false:=⟨h.free 0,h.free 1,h.free 2⟩
theorem Is.c4{w:World}{b:Nat}{t:TypeId}{cs:Array Value}(h:Is w b t cs):w.cell? ⟨b,0,none⟩=cs[0]?∧w.cell? ⟨b,1,none⟩=cs[1]?∧w.cell? ⟨b,2,none⟩=cs[2]?∧w.cell? ⟨b,3,none⟩=cs[3]?∧b<w.heap.size:=⟨h.cell 0,h.cell 1,h.cell 2,h.cell 3,h.lt⟩
theorem Is.f4{w:World}{b:Nat}{t:TypeId}{cs:Array Value}(h:Is w b t cs):w.frozen? ⟨b,0,none⟩=false∧w.frozen? ⟨b,1,none⟩=false∧w.frozen? ⟨b,2,none⟩=false∧w.frozen? ⟨b,3,none⟩=false:=⟨h.free 0,h.free 1,h.free 2,h.free 3⟩
theorem Is.c5{w:World}{b:Nat}{t:TypeId}{cs:Array Value}(h:Is w b t cs):w.cell? ⟨b,0,none⟩=cs[0]?∧w.cell? ⟨b,1,none⟩=cs[1]?∧w.cell? ⟨b,2,none⟩=cs[2]?∧w.cell? ⟨b,3,none⟩=cs[3]?∧w.cell? ⟨b,4,none⟩=cs[4]?∧b<w.heap.size:=⟨h.cell 0,h.cell 1,h.cell 2,h.cell 3,h.cell 4,h.lt⟩
theorem Is.f5{w:World}{b:Nat}{t:TypeId}{cs:Array Value}(h:Is w b t cs):w.frozen? ⟨b,0,none⟩=false∧w.frozen? ⟨b,1,none⟩=false∧w.frozen? ⟨b,2,none⟩=false∧w.frozen? ⟨b,3,none⟩=false∧w.frozen? ⟨b,4,none⟩=false:=⟨h.free 0,h.free 1,h.free 2,h.free 3,h.free 4⟩
theorem Is.c6{w:World}{b:Nat}{t:TypeId}{cs:Array Value}(h:Is w b t cs):w.cell? ⟨b,0,none⟩=cs[0]?∧w.cell? ⟨b,1,none⟩=cs[1]?∧w.cell? ⟨b,2,none⟩=cs[2]?∧w.cell? ⟨b,3,none⟩=cs[3]?∧w.cell? ⟨b,4,none⟩=cs[4]?∧w.cell? ⟨b,5,none⟩=cs[5]?∧b<w.heap.size:=⟨h.cell 0,h.cell 1,h.cell 2,h.cell 3,h.cell 4,h.cell 5,h.lt⟩
theorem Is.f6{w:World}{b:Nat}{t:TypeId}{cs:Array Value}(h:Is w b t cs):w.frozen? ⟨b,0,none⟩=false∧w.frozen? ⟨b,1,none⟩=false∧w.frozen? ⟨b,2,none⟩=false∧w.frozen? ⟨b,3,none⟩=false∧w.frozen? ⟨b,4,none⟩=false∧w.frozen? ⟨b,5,none⟩=false:=⟨h.free 0,h.free 1,h.free 2,h.free 3,h.free 4,h.free 5⟩
theorem Is.c7{w:World}{b:Nat}{t:TypeId}{cs:Array Value}(h:Is w b t cs):w.cell? ⟨b,0,none⟩=cs[0]?∧w.cell? ⟨b,1,none⟩=cs[1]?∧w.cell? ⟨b,2,none⟩=cs[2]?∧w.cell? ⟨b,3,none⟩=cs[3]?∧w.cell? ⟨b,4,none⟩=cs[4]?∧w.cell? ⟨b,5,none⟩=cs[5]?∧w.cell? ⟨b,6,none⟩=cs[6]?∧b<w.heap.size:=⟨h.cell 0,h.cell 1,h.cell 2,h.cell 3,h.cell 4,h.cell 5,h.cell 6,h.lt⟩
theorem Is.f7{w:World}{b:Nat}{t:TypeId}{cs:Array Value}(h:Is w b t cs):w.frozen? ⟨b,0,none⟩=false∧w.frozen? ⟨b,1,none⟩=false∧w.frozen? ⟨b,2,none⟩=false∧w.frozen? ⟨b,3,none⟩=false∧w.frozen? ⟨b,4,none⟩=false∧w.frozen? ⟨b,5,none⟩=false∧w.frozen? ⟨b,6,none⟩=false:=⟨h.free 0,h.free 1,h.free 2,h.free 3,h.free 4,h.free 5,h.free 6⟩
theorem Is.c8{w:World}{b:Nat}{t:TypeId}{cs:Array Value}(h:Is w b t cs):w.cell? ⟨b,0,none⟩=cs[0]?∧w.cell? ⟨b,1,none⟩=cs[1]?∧w.cell? ⟨b,2,none⟩=cs[2]?∧w.cell? ⟨b,3,none⟩=cs[3]?∧w.cell? ⟨b,4,none⟩=cs[4]?∧w.cell? ⟨b,5,none⟩=cs[5]?∧w.cell? ⟨b,6,none⟩=cs[6]?∧w.cell? ⟨b,7,none⟩=cs[7]?∧b<w.heap.size:=⟨h.cell 0,h.cell 1,h.cell 2,h.cell 3,h.cell 4,h.cell 5,h.cell 6,h.cell 7,h.lt⟩
theorem Is.f8{w:World}{b:Nat}{t:TypeId}{cs:Array Value}(h:Is w b t cs):w.frozen? ⟨b,0,none⟩=false∧w.frozen? ⟨b,1,none⟩=false∧w.frozen? ⟨b,2,none⟩=false∧w.frozen? ⟨b,3,none⟩=false∧w.frozen? ⟨b,4,none⟩=false∧w.frozen? ⟨b,5,none⟩=false∧w.frozen? ⟨b,6,none⟩=false∧w.frozen? ⟨b,7,none⟩=false:=⟨h.free 0,h.free 1,h.free 2,h.free 3,h.free 4,h.free 5,h.free 6,h.free 7⟩
theorem Is.c9{w:World}{b:Nat}{t:TypeId}{cs:Array Value}(h:Is w b t cs):w.cell? ⟨b,0,none⟩=cs[0]?∧w.cell? ⟨b,1,none⟩=cs[1]?∧w.cell? ⟨b,2,none⟩=cs[2]?∧w.cell? ⟨b,3,none⟩=cs[3]?∧w.cell? ⟨b,4,none⟩=cs[4]?∧w.cell? ⟨b,5,none⟩=cs[5]?∧w.cell? ⟨b,6,none⟩=cs[6]?∧w.cell? ⟨b,7,none⟩=cs[7]?∧w.cell? ⟨b,8,none⟩=cs[8]?∧b<w.heap.size:=⟨h.cell 0,h.cell 1,h.cell 2,h.cell 3,h.cell 4,h.cell 5,h.cell 6,h.cell 7,h.cell 8,h.lt⟩
theorem Is.f9{w:World}{b:Nat}{t:TypeId}{cs:Array Value}(h:Is w b t cs):w.frozen? ⟨b,0,none⟩=false∧w.frozen? ⟨b,1,none⟩=false∧w.frozen? ⟨b,2,none⟩=false∧w.frozen? ⟨b,3,none⟩=false∧w.frozen? ⟨b,4,none⟩=false∧w.frozen? ⟨b,5,none⟩=false∧w.frozen? ⟨b,6,none⟩=false∧w.frozen? ⟨b,7,none⟩=false∧w.frozen? ⟨b,8,none⟩=false:=⟨h.free 0,h.free 1,h.free 2,h.free 3,h.free 4,h.free 5,h.free 6,h.free 7,h.free 8⟩
theorem Is.c10{w:World}{b:Nat}{t:TypeId}{cs:Array Value}(h:Is w b t cs):w.cell? ⟨b,0,none⟩=cs[0]?∧w.cell? ⟨b,1,none⟩=cs[1]?∧w.cell? ⟨b,2,none⟩=cs[2]?∧w.cell? ⟨b,3,none⟩=cs[3]?∧w.cell? ⟨b,4,none⟩=cs[4]?∧w.cell? ⟨b,5,none⟩=cs[5]?∧w.cell? ⟨b,6,none⟩=cs[6]?∧w.cell? ⟨b,7,none⟩=cs[7]?∧w.cell? ⟨b,8,none⟩=cs[8]?∧w.cell? ⟨b,9,none⟩=cs[9]?∧b<w.heap.size:=⟨h.cell 0,h.cell 1,h.cell 2,h.cell 3,h.cell 4,h.cell 5,h.cell 6,h.cell 7,h.cell 8,h.cell 9,h.lt⟩
theorem Is.f10{w:World}{b:Nat}{t:TypeId}{cs:Array Value}(h:Is w b t cs):w.frozen? ⟨b,0,none⟩=false∧w.frozen? ⟨b,1,none⟩=false∧w.frozen? ⟨b,2,none⟩=false∧w.frozen? ⟨b,3,none⟩=false∧w.frozen? ⟨b,4,none⟩=false∧w.frozen? ⟨b,5,none⟩=false∧w.frozen? ⟨b,6,none⟩=false∧w.frozen? ⟨b,7,none⟩=false∧w.frozen? ⟨b,8,none⟩=false∧w.frozen? ⟨b,9,none⟩=false:=⟨h.free 0,h.free 1,h.free 2,h.free 3,h.free 4,h.free 5,h.free 6,h.free 7,h.free 8,h.free 9⟩
theorem Is.c11{w:World}{b:Nat}{t:TypeId}{cs:Array Value}(h:Is w b t cs):w.cell? ⟨b,0,none⟩=cs[0]?∧w.cell? ⟨b,1,none⟩=cs[1]?∧w.cell? ⟨b,2,none⟩=cs[2]?∧w.cell? ⟨b,3,none⟩=cs[3]?∧w.cell? ⟨b,4,none⟩=cs[4]?∧w.cell? ⟨b,5,none⟩=cs[5]?∧w.cell? ⟨b,6,none⟩=cs[6]?∧w.cell? ⟨b,7,none⟩=cs[7]?∧w.cell? ⟨b,8,none⟩=cs[8]?∧w.cell? ⟨b,9,none⟩=cs[9]?∧w.cell? ⟨b,10,none⟩=cs[10]?∧b<w.heap.size:=⟨h.cell 0,h.cell 1,h.cell 2,h.cell 3,h.cell 4,h.cell 5,h.cell 6,h.cell 7,h.cell 8,h.cell 9,h.cell 10,h.lt⟩
theorem Is.f11{w:World}{b:Nat}{t:TypeId}{cs:Array Value}(h:Is w b t cs):w.frozen? ⟨b,0,none⟩=false∧w.frozen? ⟨b,1,none⟩=false∧w.frozen? ⟨b,2,none⟩=false∧w.frozen? ⟨b,3,none⟩=false∧w.frozen? ⟨b,4,none⟩=false∧w.frozen? ⟨b,5,none⟩=false∧w.frozen? ⟨b,6,none⟩=false∧w.frozen? ⟨b,7,none⟩=false∧w.frozen? ⟨b,8,none⟩=false∧w.frozen? ⟨b,9,none⟩=false∧w.frozen? ⟨b,10,none⟩=false:=⟨h.free 0,h.free 1,h.free 2,h.free 3,h.free 4,h.free 5,h.free 6,h.free 7,h.free 8,h.free 9,h.free 10⟩
theorem Is.c12{w:World}{b:Nat}{t:TypeId}{cs:Array Value}(h:Is w b t cs):w.cell? ⟨b,0,none⟩=cs[0]?∧w.cell? ⟨b,1,none⟩=cs[1]?∧w.cell? ⟨b,2,none⟩=cs[2]?∧w.cell? ⟨b,3,none⟩=cs[3]?∧w.cell? ⟨b,4,none⟩=cs[4]?∧w.cell? ⟨b,5,none⟩=cs[5]?∧w.cell? ⟨b,6,none⟩=cs[6]?∧w.cell? ⟨b,7,none⟩=cs[7]?∧w.cell? ⟨b,8,none⟩=cs[8]?∧w.cell? ⟨b,9,none⟩=cs[9]?∧w.cell? ⟨b,10,none⟩=cs[10]?∧w.cell? ⟨b,11,none⟩=cs[11]?∧b<w.heap.size:=⟨h.cell 0,h.cell 1,h.cell 2,h.cell 3,h.cell 4,h.cell 5,h.cell 6,h.cell 7,h.cell 8,h.cell 9,h.cell 10,h.cell 11,h.lt⟩
theorem Is.f12{w:World}{b:Nat}{t:TypeId}{cs:Array Value}(h:Is w b t cs):w.frozen? ⟨b,0,none⟩=false∧w.frozen? ⟨b,1,none⟩=false∧w.frozen? ⟨b,2,none⟩=false∧w.frozen? ⟨b,3,none⟩=false∧w.frozen? ⟨b,4,none⟩=false∧w.frozen? ⟨b,5,none⟩=false∧w.frozen? ⟨b,6,none⟩=false∧w.frozen? ⟨b,7,none⟩=false∧w.frozen? ⟨b,8,none⟩=false∧w.frozen? ⟨b,9,none⟩=false∧w.frozen? ⟨b,10,none⟩=false∧w.frozen? ⟨b,11,none⟩=false:=⟨h.free 0,h.free 1,h.free 2,h.free 3,h.free 4,h.free 5,h.free 6,h.free 7,h.free 8,h.free 9,h.free 10,h.free 11⟩
theorem Is.fresh(w:World)(t:TypeId)(cs:Array Value):Is (w.alloc (.cells cs t)) w.heap.size t cs:=by unfold Is World.alloc;simp
theorem Is.drew(h:Is w b t cs):Is w.drew b t cs:=h
theorem Is.drewN(h:Is w b t cs)(n:Nat):Is (w.drewN n) b t cs:=h
theorem Is.alloc(h:Is w b t cs)(o:Obj):Is (w.alloc o) b t cs:=(Below.heap_alloc w o b h.lt).trans h
theorem Is.put(h:Is w b t cs)(i:Nat)(u:Value):Is (w.setCell ⟨b,i,none⟩ u) b t (cs.setIfInBounds i u):=by
 unfold Is at h⊢;simp[World.setCell,Array.getElem?_modify,h]
theorem Is.far(h:Is w b t cs){p:Addr}(hp:b≠p.block)(u:Value):Is (w.setCell p u) b t cs:=(Below.heap_setCell w p u b hp).trans h
theorem Is.but(h:Is w b t cs)(hw:But S w w')(hb:b∉S):Is w' b t cs:=(hw.block b h.lt hb).trans h
theorem Is.grown(h:Is w b t cs){row:Option Nat}(hw:w.grownBy w' row)(hb:some b≠row):Is w' b t cs:=(hw.block b h.lt hb).trans h
theorem Is.ne(h:Is w b t cs){b':Nat}{t':TypeId}{cs':Array Value}(h':Is w b' t' cs')(hne:t≠t'):b≠b':=by
 rintro rfl;exact hne (Obj.cells.inj (Option.some.inj (h.symm.trans h'))).2.1
theorem But.refl(S:List Nat)(w:World):But S w w:=⟨rfl,rfl,rfl,Nat.le_refl _,fun _ _ _=>rfl⟩
theorem But.trans(h:But S w w')(k:But S w' w''):But S w w'':=
 ⟨k.os.trans h.os,k.tape.trans h.tape,k.output.trans h.output,Nat.le_trans h.size k.size,fun i hi hS=>(k.block i (Nat.lt_of_lt_of_le hi h.size) hS).trans (h.block i hi hS)⟩
abbrev R1z(v:Value)(W:World)(e:Ending)(w:World):Prop:=e=.returned v∧But [] W w
theorem qbz{w v:World}{b:Nat}{t:TypeId}{cs:Array Value}{S:List Nat}(h:Hid (Is w b t cs))(k:But S w v)(hb:b∉S:=by simp):Hid (Is v b t cs):=h.out.but k hb
theorem qt{w v u:World}{S:List Nat}(h:Hid (But S w v))(k:But S v u):Hid (But S w u):=h.out.trans k
theorem But.more(h:But S w w')(hS:∀k∈S,k∈T):But T w w':=⟨h.os,h.tape,h.output,h.size,fun k hk hT=>h.block k hk (fun e=>hT (hS k e))⟩
theorem But.drew(h:But S w w'):But S w w'.drew:=⟨h.os,h.tape,h.output,h.size,h.block⟩
theorem But.drewN(h:But S w w')(n:Nat):But S w (w'.drewN n):=⟨h.os,h.tape,h.output,h.size,h.block⟩
theorem But.alloc(h:But S w w')(o:Obj):But S w (w'.alloc o):=
 h.trans ⟨rfl,rfl,rfl,by simp,fun k hk _=>Below.heap_alloc _ _ _ hk⟩
theorem But.setCell(h:But S w w'){p:Addr}(hp:p.block∈S∨w.heap.size≤p.block)(u:Value):But S w (w'.setCell p u):=
 ⟨h.os,h.tape,h.output,by have:=h.size;simpa using this,fun k hk hS=>(Below.heap_setCell w' p u k (by
  rcases hp with e|e
  ·intro e';subst e';exact hS e
  ·omega)).trans (h.block k hk hS)⟩
theorem But.grown(h:But S w w'){row:Option Nat}(hw:w'.grownBy w'' row)(hr:∀g,row=some g→g∈S∨w.heap.size≤g):But S w w'':=
 ⟨hw.os.trans h.os,hw.tape.trans h.tape,hw.output.trans h.output,Nat.le_trans h.size hw.size,fun k hk hS=>(hw.block k (Nat.lt_of_lt_of_le hk h.size) (fun e=>by
  rcases hr k e.symm with g|g
  ·exact hS g
  ·omega)).trans (h.block k hk hS)⟩
theorem But.cell(h:But S w w'){a:Addr}{v:Value}(hc:w.cell? a=some v)(ha:a.block∉S):w'.cell? a=some v:=
 (World.cell?_of_block (h.block a.block (World.block_lt_of_cell? w a hc) ha)).trans hc
variable {A:Option Addr} {n:Nat} {l:List UInt8}
end
end
section
section
variable {P:Program} {ops:Array Oper} {Q:Exit→Act→World→Prop} {md:Region.Mode} {S:World→Prop}
theorem rdq(i:Nat)(v:Value){oi:Oper}{f:Nat}{listed:Array Bool}{a:Act}{w:World}
 (hv:∀w,S w→(execOp a.eval oi).run P w=.ok (.value v) w)
 (h:wpM P md ops Q S (fun v v'=>But [] v v') f (listed.setIfInBounds i true) (a.put oi.dst v) w)
 (hi:ops[i]? =some oi:=by rfl) (hs:Region.noSelect ops=true:=by kernel_rfl) (hf:Region.free md ops listed i=true:=by kernel_rfl)
 (hr:(Region.ready md ops listed).contains i=true:=by kernel_rfl) (hw:Region.wanted oi (yielded ops a.tmps)=true:=by first|kernel_rfl|go_simp)
 (hQ:∀c a w,Q (.panic c) (a.put oi.dst v) w→Q (.panic c) a w:=by exact fun _ _ _ h=>h):wpM P md ops Q S (fun v v'=>But [] v v') (f+1) listed a w:=
 cr (fun w=>But.refl [] w) (fun x y z h k=>h.trans k) hi hs hf hr hQ (YieldsR.read (fun w=>But.refl [] w) hw hv) h
theorem rdk(i:Nat)(v:Value){oi:Oper}{f:Nat}{listed:Array Bool}{a:Act}{w:World}
 (h:wpM P md ops Q S (fun v v'=>But [] v v') f (listed.setIfInBounds i true) (a.put oi.dst v) w)
 (hi:ops[i]? =some oi:=by rfl) (hs:Region.noSelect ops=true:=by kernel_rfl) (hf:Region.free md ops listed i=true:=by kernel_rfl)
 (hr:(Region.ready md ops listed).contains i=true:=by kernel_rfl) (hw:Region.wanted oi (yielded ops a.tmps)=true:=by first|kernel_rfl|go_simp)
 (hv:∀w,S w→(execOp a.eval oi).run P w=.ok (.value v) w:=by intro w hS;go_simp)
 (hQ:∀c a w,Q (.panic c) (a.put oi.dst v) w→Q (.panic c) a w:=by exact fun _ _ _ h=>h):wpM P md ops Q S (fun v v'=>But [] v v') (f+1) listed a w:=
 rdq i v hv h hi hs hf hr hw hQ
end
end
def qJ(c:Nat):Nat:=if c%2=1 then(c/2) ^^^ 3988292384 else c/2
def bh:Nat→Nat→Nat
 |0,c=>c
 |n+1,c=>qJ (bh n c)
def yb(c:Nat)(b:UInt8):Nat:=bh 8 (c ^^^ b.toNat)
def fG(l:List UInt8):Nat:=l.foldl yb 4294967295
def cR(l:List UInt8):Nat:=fG l ^^^ 4294967295
theorem ns{a b:Nat}(ha:a<4294967296)(hb:b<4294967296):a ^^^ b<4294967296:=
 Nat.xor_lt_two_pow (n:=32) (by omega) (by omega)
theorem L4{c:Nat}(h:c<4294967296):qJ c<4294967296:=by
 unfold qJ;split
 ·exact ns (by omega) (by decide)
 ·omega
theorem qe{c:Nat}(n:Nat)(h:c<4294967296):bh n c<4294967296:=by
 induction n with
 |zero=>exact h
 |succ n ih=>exact L4 ih
theorem G8{c:Nat}(b:UInt8)(h:c<4294967296):yb c b<4294967296:=
 qe 8 (ns h (by have:=b.toNat_lt;omega))
theorem G7(l:List UInt8):∀c:Nat,c<4294967296→l.foldl yb c<4294967296:=by
 induction l with
 |nil=>intro c h;exact h
 |cons b l ih=>intro c h;exact ih _ (G8 b h)
theorem tU(l:List UInt8):fG l<4294967296:=G7 l _ (by decide)
theorem jF(l:List UInt8):cR l<4294967296:=ns (tU l) (by decide)
theorem tT(l:List UInt8)(b:UInt8):fG (l++[b])=yb (fG l) b:=by
 unfold fG;rw[List.foldl_append];rfl
def adP(l:List UInt8):Nat×Nat:=l.foldl (fun p b=>((p.1+b.toNat)%65521,(p.2+(p.1+b.toNat)%65521)%65521)) (1,0)
def eD(l:List UInt8):Nat:=65536*(adP l).2+(adP l).1
theorem E4(l:List UInt8)(b:UInt8):adP (l++[b])=(((adP l).1+b.toNat)%65521,((adP l).2+((adP l).1+b.toNat)%65521)%65521):=by
 unfold adP;rw[List.foldl_append];rfl
theorem Rh(l:List UInt8):∀p:Nat×Nat,p.1<65521→p.2<65521→
 (l.foldl (fun p b=>((p.1+b.toNat)%65521,(p.2+(p.1+b.toNat)%65521)%65521)) p).1<65521∧(l.foldl (fun(p:Nat×Nat) (b:UInt8)=>((p.1+b.toNat)%65521,(p.2+(p.1+b.toNat)%65521)%65521)) p).2<65521:=by
 induction l with
 |nil=>intro p h1 h2;exact⟨h1,h2⟩
 |cons b l ih=>intro p _ _;exact ih _ (Nat.mod_lt _ (by decide)) (Nat.mod_lt _ (by decide))
theorem MG(l:List UInt8):(adP l).1<65521∧(adP l).2<65521:=Rh l _ (by decide) (by decide)
theorem nL(s:ByteArray)(k:Nat)(h:k<s.size):s.data.toList.take (k+1)=s.data.toList.take k++[s[k]]:=by
 rw[List.take_succ_eq_append_getElem (by simpa using h)];rfl
theorem qY(s:ByteArray):s.data.toList.take s.size=s.data.toList:=List.take_of_length_le (Nat.le_of_eq (Array.length_toList.trans rfl))
theorem rH(n:Int)(h₀:0≤n)(h₁:n<2^63):IntKind.i64.wrap n=n:=by rw[IntKind.wrap_i64];omega
theorem jm(a:Nat)(ha:a<9223372036854775808):(BitVec.ofInt 64 (a:Int)).toNat=a:=by
 rw[BitVec.ofInt_natCast,BitVec.toNat_ofNat];exact Nat.mod_eq_of_lt (by omega)
theorem Lg(a b:Nat)(ha:a<9223372036854775808)(hb:b<9223372036854775808):bits .or .i64 (a:Int) (b:Int)=((a ||| b:Nat):Int):=by
 have hx:a ||| b<2^63:=Nat.or_lt_two_pow (by omega) (by omega)
 show IntKind.i64.wrap ((BitVec.ofInt 64 (a:Int) ||| BitVec.ofInt 64 (b:Int)).toNat:Int)=_;rw[BitVec.toNat_or,jm a ha,jm b hb];exact rH _ (by omega) (by omega)
theorem iO(v:Int)(n:Nat)(hn:n≤62):bits .and .i64 v (2^n-1)=v%2^n:=by
 have hp:2^n≤2^62:=Nat.pow_le_pow_right (by decide) hn;have hpos:0<2^n:=Nat.two_pow_pos n;have e:((2:Int)^n-1)=((2^n-1:Nat):Int):=by rw[Int.natCast_sub hpos];simp
 have g1:(BitVec.ofInt 64 v).toNat=(v%18446744073709551616).toNat:=by rw[BitVec.toNat_ofInt];rfl
 have hm:(v%18446744073709551616).toNat%2^n<2^n:=Nat.mod_lt _ hpos;have hd:((2:Int)^n)∣18446744073709551616:=by
  have h:2^n∣(18446744073709551616:Nat):=(by decide:(18446744073709551616:Nat)=2^64)▸Nat.pow_dvd_pow 2 (by omega);have:=Int.natCast_dvd_natCast.2 h;simpa using this
 have hc:(((v%18446744073709551616).toNat%2^n:Nat):Int)=v%2^n:=by
  rw[Int.natCast_emod,Int.toNat_of_nonneg (Int.emod_nonneg _ (by decide))];have e2:((2^n:Nat):Int)=(2:Int)^n:=by simp
  rw[e2,Int.emod_emod_of_dvd _ hd]
 show IntKind.i64.wrap ((BitVec.ofInt 64 v &&& BitVec.ofInt 64 (2^n-1)).toNat:Int)=_;rw[e,BitVec.toNat_and,jm _ (by omega),g1,Nat.and_two_pow_sub_one_eq_mod,←hc];have hlast:(v%18446744073709551616).toNat%2^n<9223372036854775808:=by omega
 exact rH _ (by omega) (by omega)
theorem xT(x y i:Nat)(hx:x<9223372036854775808)(hy:y<2^i)(hd:x%2^i=0)(hi:i≤62):bits .or .i64 (y:Int) (x:Int)=((y+x:Nat):Int):=by
 have hp:2^i≤2^62:=Nat.pow_le_pow_right (by decide) hi;rw[Lg _ _ (by omega) hx,Nat.or_comm,nat_join i x y hd hy,Nat.add_comm]
def br(n:Nat):List UInt8:=[UInt8.ofNat (n/16777216),UInt8.ofNat (n/65536),UInt8.ofNat (n/256),UInt8.ofNat n]
def ofL(l:List UInt8):Nat:=l.foldl (fun n b=>256*n+b.toNat) 0
theorem gJ{n:Nat}(h:n<4294967296):ofL (br n)=n:=by
 have a:=UInt8.toNat_ofNat' (n:=n/16777216);have b:=UInt8.toNat_ofNat' (n:=n/65536);have c:=UInt8.toNat_ofNat' (n:=n/256);have d:=UInt8.toNat_ofNat' (n:=n);show 256*(256*(256*(256*0+(UInt8.ofNat (n/16777216)).toNat)+(UInt8.ofNat (n/65536)).toNat)+(UInt8.ofNat (n/256)).toNat)+(UInt8.ofNat n).toNat=n;omega
theorem Ee:∀{a b:List UInt8},a.length=4→b.length=4→ofL a=ofL b→a=b
 |[a1,a2,a3,a4],[b1,b2,b3,b4],_,_,h=>by
  have h':256*(256*(256*(256*0+a1.toNat)+a2.toNat)+a3.toNat)+a4.toNat=256*(256*(256*(256*0+b1.toNat)+b2.toNat)+b3.toNat)+b4.toNat:=h;have l1:=a1.toNat_lt;have l2:=a2.toNat_lt;have l3:=a3.toNat_lt;have l4:=a4.toNat_lt
  have m1:=b1.toNat_lt;have m2:=b2.toNat_lt;have m3:=b3.toNat_lt;have m4:=b4.toNat_lt
  have e1:a1.toNat=b1.toNat:=by omega
  have e2:a2.toNat=b2.toNat:=by omega
  have e3:a3.toNat=b3.toNat:=by omega
  have e4:a4.toNat=b4.toNat:=by omega
  rw[UInt8.toNat_inj.1 e1,UInt8.toNat_inj.1 e2,UInt8.toNat_inj.1 e3,UInt8.toNat_inj.1 e4]
def strL(l:List UInt8):ByteArray:=⟨l.toArray⟩
theorem aj(l:List UInt8):(strL l).data.toList=l:=by unfold strL;simp
theorem ac(l:List UInt8):(strL l).size=l.length:=by unfold strL;show l.toArray.size=l.length;simp
theorem jO(s:ByteArray):strL s.data.toList=s:=by unfold strL;apply ByteArray.ext;simp
theorem fR(a b:List UInt8):strL (a++b)=strL a++strL b:=by
 unfold strL;apply ByteArray.ext;simp
theorem gO(s:ByteArray)(i j:Nat):s.extract i j=strL ((s.data.toList.take j).drop i):=by
 unfold strL;apply ByteArray.ext;rw[ByteArray.data_extract];apply Array.ext';rw[Array.toList_extract,List.extract_eq_take_drop];simp only;rw[List.drop_take]
theorem az(n:Nat):(br n).length=4:=rfl
theorem Kz:∀{a:List UInt8},a.length=4→ofL a<4294967296
 |[a1,a2,a3,a4],_=>by
  have l1:=a1.toNat_lt;have l2:=a2.toNat_lt;have l3:=a3.toNat_lt;have l4:=a4.toNat_lt
  show 256*(256*(256*(256*0+a1.toNat)+a2.toNat)+a3.toNat)+a4.toNat<4294967296;omega
theorem OH{a:List UInt8}(h:a.length=4):br (ofL a)=a:=Ee (az _) h (gJ (Kz h))
theorem pc(l:List UInt8):eD l<4294967296:=by
 have h:=MG l;unfold eD;omega
end Go.Proofs.YtbanopnofpjnbaaGreatDoor
