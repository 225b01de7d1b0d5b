/- Own texts in one: RoundW, RegZ, LcA, LcC, LcD, LcO, RangeB, LcP. -/
import Derived.Test.YtbanopnofpjnbaaGreatDoorU27
import Derived.Test.YtbanopnofpjnbaaGreatDoorU28
set_option maxRecDepth 1000000
set_option linter.unusedVariables false
set_option maxHeartbeats 4000000
namespace Go.Proofs.YtbanopnofpjnbaaGreatDoor
open Go Go.RowKit Tryz
section
section
variable {P:Program} {ops:Array Oper} {Q:Exit→Act→World→Prop}
theorem Fx{n l:Nat}{row:String}{args:Array Value}{w:World}{R:Value→World→Prop}(h:Rows P row args w R):RowsIn (Fence.wide.inRound l) n P row args w R:=fun c cs _=>
 let⟨v,w',r,s⟩:=h c cs
 ⟨v,w',r,(stepsIn_wide (P:=P)).2 s⟩
theorem yx{n l i:Nat}{K:Act→World→Prop}{a:Act}{w:World}(hnd:∀(i:Nat) (o:Oper),ops[i]? =some o→∀c,o.op≠Op.defer c)(hlo:¬LetsOut Q)(h:wpOp P ops Q i K a w):wpOpIn (Fence.wide.inRound l) n P ops Q i K a w:=by
 unfold wpOp at h;unfold wpOpIn;cases ho:ops[i]? with
 |none=>rw[ho]at h;exact h
 |some o=>
  rw[ho]at h;dsimp only at h⊢
  by_cases hw:Region.wanted o (yielded ops a.tmps)=true
  ·rw[if_pos hw]at h⊢;rcases h with h|h
   ·unfold Oper.wp at h;unfold Oper.wpIn;refine⟨fun f _=>trivial,?_⟩;rw[Oper.semAt_plain _ _ _ (hnd i o ho)];generalize(execOp a.eval o).run P w=r at*;cases r with
    |ok x w'=>
     cases x<;>simp only[Oper.upon,Oper.uponIn]at h⊢
     case value u=>exact h
     case skip=>exact h
     case defer d=>exact h
     case enter f args=>exact⟨fun hd=>(by cases hd),CallsIn.inRound l (callsIn_wide.2 h)⟩
     case row r args=>exact⟨fun hd=>(by cases hd),Fx h⟩
    |halt x w'=>
     cases x<;>simp only[Oper.upon,Oper.uponIn]at h⊢;exact h
   ·exact absurd h.2 hlo
  ·rw[if_neg hw]at h⊢;exact⟨fun f _=>trivial,h⟩
theorem nw{n l:Nat}{md:Region.Mode}(hnd:∀(i:Nat) (o:Oper),ops[i]? =some o→∀c,o.op≠Op.defer c)(hlo:¬LetsOut Q):∀(f:Nat) (listed:Array Bool) (a:Act) (w:World),wpAny P md ops Q f listed a w→wpAnyIn (Fence.wide.inRound l) n P md ops Q f listed a w
 |0,_,_,_,h=>h
 |f+1,listed,a,w,h=>⟨h.1,fun i hi=>yx hnd hlo (wpOp_mono (fun a' w' h'=>nw hnd hlo f _ a' w' h') (h.2 i hi))⟩
end
end
section
section
variable {P:Program} {ops:Array Oper} {Q:Exit→Act→World→Prop} {md:Region.Mode} {S:World→Prop} {R:World→World→Prop} {z:Nat}
def wpZ(P:Program)(md:Region.Mode)(ops:Array Oper)(Q:Exit→Act→World→Prop)(S:World→Prop)(R:World→World→Prop)(z:Nat):Nat→Array Bool→Act→World→Prop
 |0,listed,a,w=>Region.ready md ops listed=[]∧∀w1,R w w1→S w1→Q .normal a w1
 |f+1,listed,a,w=>∀w1,R w w1→S w1→(Region.ready md ops listed=[]→Q .normal a w1)∧
  ∀i∈Region.ready md ops listed,wpOp P ops Q i (fun a' w'=>if i=z then wpAny P md ops Q f (listed.setIfInBounds i true) a' w' else S w'∧wpZ P md ops Q S R z f (listed.setIfInBounds i true) a' w') a w1
theorem Dl(htr:∀x y z,R x y→R y z→R x z):∀{f:Nat} {listed:Array Bool} {a:Act} {w w':World},wpZ P md ops Q S R z f listed a w→R w w'→wpZ P md ops Q S R z f listed a w'
 |0,_,_,_,_,h,hr=>⟨h.1,fun w1 h1 h2=>h.2 w1 (htr _ _ _ hr h1) h2⟩
 |_+1,_,_,_,_,h,hr=>fun w1 h1 h2=>h w1 (htr _ _ _ hr h1) h2
theorem uD(hrefl:∀w,R w w):∀(f:Nat) (listed:Array Bool) (a:Act) (w:World),S w→wpZ P md ops Q S R z f listed a w→wpAny P md ops Q f listed a w
 |0,_,_,w,hS,h=>⟨h.1,h.2 w (hrefl w) hS⟩
 |f+1,_,_,w,hS,h=>⟨(h w (hrefl w) hS).1,fun i hi=>wpOp_mono (fun a' w' h'=>by
  by_cases e:i=z
  ·rw[if_pos e]at h';exact h'
  ·rw[if_neg e]at h';exact uD hrefl f _ a' w' h'.1 h'.2) ((h w (hrefl w) hS).2 i hi)⟩
theorem Ii(hrefl:∀w,R w w)(htr:∀x y z,R x y→R y z→R x z){i:Nat}{oi oz:Oper}{v:Value}(hi:ops[i]? =some oi)(hz:ops[z]? =some oz)(haz:∃e∈oz.after,Region.binds md e=true∧e.on=i)(hiz:i≠z)
 (hsel:∀(j:Nat) (o:Oper) cs b,ops[j]? =some o→o.op≠ .select cs b)
 (hQ:∀c a w,Q (.panic c) (a.put oi.dst v) w→Q (.panic c) a w):
 ∀(f:Nat) (listed:Array Bool) (a:Act) (w:World),
  (∀j oj,ops[j]? =some oj→j≠i→listed.getD j true=false→(∀e∈oj.after,Region.binds md e=true→e.on≠i)→oi.apart ops oj=true)→
  i∈Region.ready md ops listed→YieldsR P ops S R oi v a→
  wpZ P md ops Q S R z f (listed.setIfInBounds i true) (a.put oi.dst v) w→wpZ P md ops Q S R z (f+1) listed a w:=by
 intro f
 induction f with
 |zero=>
  intro listed a w _ hr hy H w1 hR hS;refine⟨fun h=>(by rw[h]at hr;cases hr),fun j hj=>?_⟩
  by_cases hji:j=i
  ·subst hji;refine hy.wpOp hi hrefl hS fun w2 h1 h2=>?_;rw[if_neg hiz];exact⟨h1,Dl htr H (htr _ _ _ hR h2)⟩
  ·have:=ready_mono hj hji;rw[H.1]at this;cases this
 |succ f ih=>
  intro listed a w hfree hr hy H w1 hR hS;refine⟨fun h=>(by rw[h]at hr;cases hr),fun j hj=>?_⟩
  by_cases hji:j=i
  ·subst hji;refine hy.wpOp hi hrefl hS fun w2 h1 h2=>?_;rw[if_neg hiz];exact⟨h1,Dl htr H (htr _ _ _ hR h2)⟩
  ·have h1:=(H w1 hR hS).2 j (ready_mono hj hji);obtain⟨hjun,oj,hoj,hall⟩:=mem_ready.1 hj;have hnot:∀e∈oj.after,Region.binds md e=true→e.on≠i:=fun e he hb heq=>by
    have h2:=hall e he hb;have h0:=(mem_ready.1 hr).1;rw[heq]at h2;rcases Nat.lt_or_ge i listed.size with h'|h'
    ·simp[h']at h0 h2;rw[h0]at h2;cases h2
    ·simp[Array.getElem?_eq_none h']at h2
   have hjz:j≠z:=fun e=>by
    rw[e,hz]at hoj;cases hoj;obtain⟨x,hx,hb,hon⟩:=haz;exact hnot x hx hb hon
   simp only[if_neg hjz]at h1;have hap:=hfree j oj hoj hji hjun hnot;obtain⟨_,_,h3⟩:=Oper.apart_spec hap;have triv:YieldsIf P ops (fun _=>False) oi v a:=by
    rcases hy with⟨hw,_⟩|⟨hw,hv⟩
    ·exact .inl ⟨hw,fun _ h=>h.elim⟩
    ·exact .inr ⟨hw,hv⟩
   have keep:∀(b:Act),YieldsR P ops S R oi v b→∀u,YieldsR P ops S R oi v (b.put oj.dst u):=fun b hb u=>
    hb.of_same (execOp_put oi (fun cs c=>hsel i oi cs c hi) b oj.dst u h3) (wanted_put oi b oj.dst u h3)
   have h2:=wpOp_putIf hoj hap (fun cs b=>hsel i oi cs b hi) (fun cs b=>hsel j oj cs b hoj) hQ triv h1;have h4:=Dm hoj (YieldsR P ops S R oi v) (fun u=>keep a hy u) (fun d u=>keep {a with defers:=d::a.defers} (hy.of_same rfl rfl) u) h2;have hfree':∀k ok,ops[k]? =some ok→k≠i→(listed.setIfInBounds j true).getD k true=false→
    (∀e∈ok.after,Region.binds md e=true→e.on≠i)→oi.apart ops ok=true:=fun k ok hk hki hun hno=>by
    refine hfree k ok hk hki ?_ hno
    by_cases hjk:j=k
    ·subst hjk;exact hjun
    ·rw[getD_set_ne true hjk]at hun;exact hun
   refine wpOp_mono (fun a' w' h5=>?_) h4;rw[if_neg hjz];refine⟨h5.2.2.1,ih (listed.setIfInBounds j true) a' w' hfree' (ready_mono hr (Ne.symm hji)) h5.1 ?_⟩;rw[Array.setIfInBounds_comm _ _ hji];exact h5.2.2.2
def Ro(md:Region.Mode)(ops:Array Oper)(z i:Nat):Bool:=match ops[z]? with
 |some o=>o.after.toList.any fun e=>Region.binds md e&&(e.on==i)
 |none=>false
theorem go(hrefl:∀w,R w w)(htr:∀x y z,R x y→R y z→R x z){i:Nat}{oi:Oper}{v:Value}{f:Nat}{listed:Array Bool}{a:Act}{w:World}(hi:ops[i]? =some oi)
 (hz:Ro md ops z i=true) (hiz:i≠z) (hs:Region.noSelect ops=true) (hf:Region.free md ops listed i=true) (hr:(Region.ready md ops listed).contains i=true)
 (hQ:∀c a w,Q (.panic c) (a.put oi.dst v) w→Q (.panic c) a w) (hy:YieldsR P ops S R oi v a)
 (h:wpZ P md ops Q S R z f (listed.setIfInBounds i true) (a.put oi.dst v) w):wpZ P md ops Q S R z (f+1) listed a w:=by
 unfold Ro at hz;cases ho:ops[z]? with
 |none=>rw[ho]at hz;cases hz
 |some oz=>
  rw[ho]at hz;obtain⟨e,he,hb⟩:=List.any_eq_true.1 hz;rw[Bool.and_eq_true]at hb;exact Ii hrefl htr hi ho ⟨e,by simpa using he,hb.1,by simpa using hb.2⟩ hiz (Region.noSelect_spec hs) hQ f listed a w (Region.free_spec hi hf) (by simpa using hr) hy h
theorem MS{oz:Oper}{listed:Array Bool}{a:Act}{w:World}(hz:ops[z]? =some oz)(hr:Region.ready md ops listed=[z])(hr2:Region.ready md ops (listed.setIfInBounds z true)=[])
 (h:∀w1,R w w1→S w1→∀K':Act→World→Prop,(∀a' w',Q .normal a' w'→K' a' w')→
  if Region.wanted oz (yielded ops a.tmps)=true then Oper.wp P oz a w1 K' Q else K' (a.put oz.dst undef) w1):wpZ P md ops Q S R z 1 listed a w:=by
 intro w1 hR hS;refine⟨fun h0=>(by rw[hr]at h0;cases h0),fun j hj=>?_⟩;rw[hr]at hj;have hji:j=z:=by simpa using hj
 subst hji;exact wpOp_step hz (fun K' hK=>h w1 hR hS K' fun a' w' hq=>hK a' w' (by rw[if_pos rfl];exact⟨hr2,hq⟩))
theorem uv{F:Fence}(hF:F=Fence.wide)(hrefl:∀w,R w w){n l id:Nat}{a:Act}{w:World}(hm:P.follows .mixedOrders=true)(hnd:ops.toList.all (fun o=>match o.op with|.defer _=>false|_=>true)=true)(hlo:¬LetsOut Q)
 (hS:S {w with drawn:=w.drawn+1}) (h:wpZ P .any ops Q S R z ops.size (Array.replicate ops.size false) a {w with drawn:=w.drawn+1}):(Code.region id ops true).wpIn (F.inRound l) n P Q a w:=by
 subst hF;refine wpIn_region_any hm (nw (fun i o ho c e=>?_) hlo _ _ _ _ (uD hrefl _ _ _ _ hS h));have hmem:o∈ops.toList:=List.mem_of_getElem? (show ops.toList[i]? =some o by rw[Array.getElem?_toList];exact ho);have:=List.all_eq_true.1 hnd o hmem;rw[e]at this;cases this
end
end
def sU(p:P6):Value:=.agg #[p.1,p.2.1,p.2.2.1,p.2.2.2.1,p.2.2.2.2.1,p.2.2.2.2.2]
theorem wR{a b d c l n:Int}(h:ak a b d c l≠0∨n<1∨1024<n):rowA a b d c l n=0:=by unfold rowA;rw[if_pos h]
theorem Fp(a b d c l:Int)(L:List P6)(p:P6):mR a b d c l (L++[p])=mR a b d c l L+p.2.2.2.2.2*(1+rowA a b d c l (p.2.2.2.2.1:Nat)):=by
 unfold mR;rw[List.map_append,List.sum_append];simp
theorem uL{L:List P6}{i:Nat}{p:P6}(hp:L[i]? =some p):L.take (i+1)=L.take i++[p]:=by
 rw[List.take_succ_eq_append_getElem (List.getElem?_eq_some_iff.1 hp).1]
 congr 1
 rw[(List.getElem?_eq_some_iff.1 hp).2]
theorem vh(w:World){n first step:Nat}(hn:n≤100000)(hf:first<step)(h2:step≤100):
 Calls prog 177 #[n,first,step] w fun e w'=>e=.returned (.int .i64 (ay n first step:Nat))∧w=w':=by
 obtain⟨m,hm⟩:=E1 (ay n first step);rw[←hm];have h0:0≤(n:Int)-(first:Int)+(step:Int)-1:=by omega
 have e0:((n:Int)-(first:Int)+(step:Int)-1).tdiv (step:Int)=(m:Int):=by
  rw[Int.tdiv_eq_ediv_of_nonneg h0,hm];unfold ay
  by_cases h:first≤n
  ·rw[show(n:Int)-(first:Int)+(step:Int)-1=((n-first+step-1:Nat):Int)by omega];rfl
  ·rw[Int.ediv_eq_zero_of_lt h0 (by omega),show n-first+step-1=step-1 by omega,Nat.div_eq_of_lt (by omega)];rfl
 have e1:((n:Int)-(first:Int)+(step:Int)-1)/(step:Int)=(m:Int):=by rw[←Int.tdiv_eq_ediv_of_nonneg h0];exact e0
 have hm2:m≤100000:=by rw[hm];exact Nat.le_trans (da _ _ _ (by omega)) hn
 have s0:step≠0:=by omega
 have s1:(step:Int)≠0:=by omega
 clear hm
 go_enter func177,ntmps177
 go_wp2;go_ret;exact⟨rfl,rfl⟩
theorem NN{w V:World}{b0:Nat}{tmps:Array Value}{x y dx dy mW mH:Nat}(hI:Is V b0 64 #[x,y,dx,dy,mW,mH])(hB:But [] w V)(ht:tmps[4]? =some (.pointer b0)):
 bodyPost prog Tryz.f143 (R1z (sU (x,y,dx,dy,mW,mH)) w) Exit.ret {tmps:=tmps,defers:=[]} V:=by
 obtain⟨e0,e1,e2,e3,e4,e5,_⟩:=hI.c6;refine bodyPost_ret (v:=sU (x,y,dx,dy,mW,mH)) ?_ rfl ⟨rfl,hB⟩;simp[results,results143,go_sem,e0,e1,e2,e3,e4,e5,ht,sU]
def PaS(w:World)(g:Nat)(x y dx dy:Nat)(a b d c l:Int)(v:World):Prop:=
 Is v g 175 #[x,y,dx,dy]∧Is v (g+1) 33 #[a,b,d,c,l]∧But [] w v
theorem PaS.but{w v v':World}{g x y dx dy:Nat}{a b d c l:Int}(h:PaS w g x y dx dy a b d c l v)(k:But [] v v'):PaS w g x y dx dy a b d c l v':=⟨h.1.but k (by simp),h.2.1.but k (by simp),h.2.2.trans k⟩
theorem PaS.put{w v:World}{g x y dx dy:Nat}{a b d c l:Int}(h:PaS w g x y dx dy a b d c l v)(hg:w.heap.size≤g+1+1)(i:Nat)(u:Value):PaS w g x y dx dy a b d c l (v.setCell ⟨g+1+1,i,none⟩ u):=
 ⟨h.1.far (by show g≠g+1+1;omega) u,h.2.1.far (by show g+1≠g+1+1;omega) u,h.2.2.setCell (.inr hg) u⟩
theorem sO(w:World){x y dx dy W H:Nat}{d c l:Int}(hx:x<dx)(hy:y<dy)(h1:dx≤8)(h2:dy≤8)(hW:W≤1024)(hH:H≤1024):
 Calls Tryz.prog 143 #[.agg #[.int .i64 x,.int .i64 y,.int .i64 dx,.int .i64 dy],.agg #[.int .i64 W,.int .i64 H,.int .i64 d,.int .i64 c,.int .i64 l]] w fun e w'=>e=.returned (sU (x,y,dx,dy,ay W x dx,ay H y dy))∧But [] w w':=by
 obtain⟨mW,hmW⟩:∃m,m=ay W x dx:=⟨_,rfl⟩
 obtain⟨mH,hmH⟩:∃m,m=ay H y dy:=⟨_,rfl⟩
 have HM1:Hid (∀v,Calls Tryz.prog 177 #[.int .i64 W,.int .i64 x,.int .i64 dx] v fun e w'=>e=.returned (.int .i64 (mW:Nat))∧v=w'):=qhz fun v=>by rw[hmW];exact vh v (by omega) hx (by omega)
 have HM2:Hid (∀v,Calls Tryz.prog 177 #[.int .i64 H,.int .i64 y,.int .i64 dy] v fun e w'=>e=.returned (.int .i64 (mH:Nat))∧v=w'):=qhz fun v=>by rw[hmH];exact vh v (by omega) hy (by omega)
 rw[←hmW,←hmH];have hB:=(((But.refl [] w).alloc (.cells #[.int .i64 x,.int .i64 y,.int .i64 dx,.int .i64 dy] 175)).alloc (.cells #[.int .i64 W,.int .i64 H,.int .i64 d,.int .i64 c,.int .i64 l] 33)).alloc (.cells #[.int .i64 0,.int .i64 0,.int .i64 0,.int .i64 0,.int .i64 0,.int .i64 0] 64);obtain⟨b0,hb0⟩:∃g,g=w.heap.size:=⟨_,rfl⟩
 have i0:=((Is.fresh w 175 #[.int .i64 x,.int .i64 y,.int .i64 dx,.int .i64 dy]).alloc (.cells #[.int .i64 W,.int .i64 H,.int .i64 d,.int .i64 c,.int .i64 l] 33)).alloc (.cells #[.int .i64 0,.int .i64 0,.int .i64 0,.int .i64 0,.int .i64 0,.int .i64 0] 64);have i1:=(Is.fresh (w.alloc (.cells #[.int .i64 x,.int .i64 y,.int .i64 dx,.int .i64 dy] 175)) 33 #[.int .i64 W,.int .i64 H,.int .i64 d,.int .i64 c,.int .i64 l]).alloc (.cells #[.int .i64 0,.int .i64 0,.int .i64 0,.int .i64 0,.int .i64 0,.int .i64 0] 64);have i2:=Is.fresh ((w.alloc (.cells #[.int .i64 x,.int .i64 y,.int .i64 dx,.int .i64 dy] 175)).alloc (.cells #[.int .i64 W,.int .i64 H,.int .i64 d,.int .i64 c,.int .i64 l] 33)) 64 #[.int .i64 0,.int .i64 0,.int .i64 0,.int .i64 0,.int .i64 0,.int .i64 0];rw[World.size_alloc]at i1 i2;rw[World.size_alloc]at i2;rw[←hb0]at i0 i1 i2;have hbw:w.heap.size≤b0+1+1:=by omega
 clear hmW hmH hx hy h1 h2 hW hH
 go_enter Tryz.func143,Tryz.ntmps143
 go_upto_region 1 with(fail)
 rw[←hb0];obtain⟨w3,hw3⟩:∃X,X=(((w.alloc (.cells #[.int .i64 x,.int .i64 y,.int .i64 dx,.int .i64 dy] 175)).alloc (.cells #[.int .i64 W,.int .i64 H,.int .i64 d,.int .i64 c,.int .i64 l] 33)).alloc (.cells #[.int .i64 0,.int .i64 0,.int .i64 0,.int .i64 0,.int .i64 0,.int .i64 0] 64)):=⟨_,rfl⟩
 rw[←hw3]at hB i0 i1 i2⊢;have HJ:=qhz i2;have HBW:=qhz hbw;have HS:Hid (PaS w b0 x y dx dy W H d c l w3):=qhz ⟨i0,i1,hB⟩;clear i0 i1 i2 hB hbw hw3 hb0;refine bw (S:=PaS w b0 x y dx dy W H d c l) (R:=fun v v'=>But [] v v') (fun w=>But.refl [] w) (by kernel_rfl) (HS.out.but ((But.refl [] _).drew)) ?_;refine rdk 0 (.pointer (some ⟨b0,0,none⟩)) ?_;refine rdq 1 (.int .i64 (x:Nat)) (fun w hS=>?_) ?_
 ·have z0:=hS.1.cell 0;have z1:=hS.1.cell 1;have z2:=hS.1.cell 2;have z3:=hS.1.cell 3;go_simp
 refine rdk 2 (.pointer (some ⟨b0,1,none⟩)) ?_;refine rdq 3 (.int .i64 (y:Nat)) (fun w hS=>?_) ?_
 ·have z0:=hS.1.cell 0;have z1:=hS.1.cell 1;have z2:=hS.1.cell 2;have z3:=hS.1.cell 3;go_simp
 refine rdk 4 (.pointer (some ⟨b0,2,none⟩)) ?_;refine rdq 5 (.int .i64 (dx:Nat)) (fun w hS=>?_) ?_
 ·have z0:=hS.1.cell 0;have z1:=hS.1.cell 1;have z2:=hS.1.cell 2;have z3:=hS.1.cell 3;go_simp
 refine rdk 6 (.pointer (some ⟨b0,3,none⟩)) ?_;refine rdq 7 (.int .i64 (dy:Nat)) (fun w hS=>?_) ?_
 ·have z0:=hS.1.cell 0;have z1:=hS.1.cell 1;have z2:=hS.1.cell 2;have z3:=hS.1.cell 3;go_simp
 refine rdk 8 (.pointer (some ⟨b0+1,0,none⟩)) ?_;refine rdq 9 (.int .i64 (W:Nat)) (fun w hS=>?_) ?_
 ·have z0:=hS.2.1.cell 0;have z1:=hS.2.1.cell 1;go_simp
 refine rdk 10 (.pointer (some ⟨b0,0,none⟩)) ?_;refine rdq 11 (.int .i64 (x:Nat)) (fun w hS=>?_) ?_
 ·have z0:=hS.1.cell 0;have z1:=hS.1.cell 1;have z2:=hS.1.cell 2;have z3:=hS.1.cell 3;go_simp
 refine rdk 12 (.pointer (some ⟨b0,2,none⟩)) ?_;refine rdq 13 (.int .i64 (dx:Nat)) (fun w hS=>?_) ?_
 ·have z0:=hS.1.cell 0;have z1:=hS.1.cell 1;have z2:=hS.1.cell 2;have z3:=hS.1.cell 3;go_simp
 refine cr (fun w=>But.refl [] w) (fun x y z h k=>h.trans k) (i:=14) (v:=.int .i64 (mW:Nat)) rfl (by kernel_rfl) (by kernel_rfl) (by kernel_rfl) (fun _ _ _ h=>h) (.inl ⟨?_,fun w hS=>.inr ⟨_,_,?_,(HM1.out w).mono ?_⟩⟩) ?_
 ·go_simp
 ·go_simp
 ·rintro e wy ⟨rfl,rfl⟩;exact⟨rfl,hS,But.refl [] _⟩
 refine rdk 15 (.pointer (some ⟨b0+1,1,none⟩)) ?_;refine rdq 16 (.int .i64 (H:Nat)) (fun w hS=>?_) ?_
 ·have z0:=hS.2.1.cell 0;have z1:=hS.2.1.cell 1;go_simp
 refine rdk 17 (.pointer (some ⟨b0,1,none⟩)) ?_;refine rdq 18 (.int .i64 (y:Nat)) (fun w hS=>?_) ?_
 ·have z0:=hS.1.cell 0;have z1:=hS.1.cell 1;have z2:=hS.1.cell 2;have z3:=hS.1.cell 3;go_simp
 refine rdk 19 (.pointer (some ⟨b0,3,none⟩)) ?_;refine rdq 20 (.int .i64 (dy:Nat)) (fun w hS=>?_) ?_
 ·have z0:=hS.1.cell 0;have z1:=hS.1.cell 1;have z2:=hS.1.cell 2;have z3:=hS.1.cell 3;go_simp
 refine cr (fun w=>But.refl [] w) (fun x y z h k=>h.trans k) (i:=21) (v:=.int .i64 (mH:Nat)) rfl (by kernel_rfl) (by kernel_rfl) (by kernel_rfl) (fun _ _ _ h=>h) (.inl ⟨?_,fun w hS=>.inr ⟨_,_,?_,(HM2.out w).mono ?_⟩⟩) ?_
 ·go_simp
 ·go_simp
 ·rintro e wy ⟨rfl,rfl⟩;exact⟨rfl,hS,But.refl [] _⟩
 refine rdk 22 (.agg #[.int .i64 (x:Nat),.int .i64 (y:Nat),.int .i64 (dx:Nat),.int .i64 (dy:Nat),.int .i64 (mW:Nat),.int .i64 (mH:Nat)]) ?_;refine cI (i:=23) rfl (by kernel_rfl) fun w6 hR6 hS6 K' hK=>?_;have j2:=HJ.out.but (((But.refl [] _).drew).trans hR6) (by simp);have t0:=j2.free 0;have t1:=j2.free 1;have t2:=j2.free 2;have t3:=j2.free 3;have t4:=j2.free 4;have t5:=j2.free 5;have s0:=j2.cell 0;have s1:=j2.cell 1;have s2:=j2.cell 2;have s3:=j2.cell 3;have s4:=j2.cell 4;have s5:=j2.cell 5;clear hR6;have HJ2:=qhz j2;have HS6:=qhz hS6;clear j2 hS6 HS HJ;go_simp;refine hK _ _ ⟨(((((HS6.out.put HBW.out 0 _).put HBW.out 1 _).put HBW.out 2 _).put HBW.out 3 _).put HBW.out 4 _).put HBW.out 5 _,?_⟩;clear hK K' s0 s1 s2 s3 s4 s5 t0 t1 t2 t3 t4 t5;refine⟨by kernel_rfl,fun w9 hR9 hS9=>?_⟩;have j9:Is w9 (b0+1+1) 64 #[.int .i64 x,.int .i64 y,.int .i64 dx,.int .i64 dy,.int .i64 mW,.int .i64 mH]:=Is.but ((((((HJ2.out.put 0 (.int .i64 x)).put 1 (.int .i64 y)).put 2 (.int .i64 dx)).put 3 (.int .i64 dy)).put 4 (.int .i64 mW)).put 5 (.int .i64 mH)) hR9 (by simp);clear hR9;have hB9:=hS9.2.2;have HJ9:=qhz j9;have HB9:=qhz hB9;clear hS9 j9 hB9 HJ2 HS6;go_simp;go_wp2;exact NN HJ9.out HB9.out rfl
theorem xF(w:World)(a b d c l n:Int):
 Calls prog 93 #[.agg #[a,b,d,c,l],n] w (R1z (.int .i64 (rowA a b d c l n:Nat)) w):=by
 have hE:=fun v=>oq v a b d c l;obtain⟨er,her⟩:=E1 (ak a b d c l);have HER:=qhz her;simp only[←her]at hE;have HE:=qhz hE;have hI:=Is.fresh w 33 #[a,b,d,c,l];have HA:=qhz ((But.refl [] w).alloc (.cells #[a,b,d,c,l] 33));obtain⟨c0,c1,c2,c3,c4,_⟩:=hI.c5;have HI:=qhz hI;clear hE hI
 by_cases h0:er=0
 ·subst h0
  by_cases h1:n<1
  ·have HR:=qhz (wR (a:=a) (b:=b) (d:=d) (c:=c) (l:=l) (n:=n) (.inr (.inl h1)));rw[HR.out];clear her
   go_enter func93,ntmps93
   go_wp2_with fail
   refine(HE.out _).mono ?_;rintro e w1 ⟨rfl,hB⟩;have HB:=qhz (HA.out.trans hB);clear hB;go_wp2;go_ret;exact⟨rfl,HB.out⟩
  ·by_cases h2:1024<n
   ·have HR:=qhz (wR (a:=a) (b:=b) (d:=d) (c:=c) (l:=l) (n:=n) (.inr (.inr h2)));rw[HR.out];clear her
    go_enter func93,ntmps93
    go_wp2_with fail
    refine(HE.out _).mono ?_;rintro e w1 ⟨rfl,hB⟩;have HB:=qhz (HA.out.trans hB);clear hB;go_wp2;go_ret;exact⟨rfl,HB.out⟩
   ·obtain⟨D,S,hd,hs,hD,hS,hm,_⟩:=AG (ii her.symm).2.2.2.2;obtain⟨P,rfl⟩:∃P:Nat,n=(P:Int):=⟨n.toNat,by omega⟩
    have hr:=JC her.symm hd hs (n:=P) (by omega) (by omega);obtain⟨q,hq⟩:=E1 (D*S);rw[←hq]at hr hm;obtain⟨r,hr2⟩:=E1 (q*P);rw[←hr2]at hr;have hr3:r≤65536:=by rw[hr2];show _≤64*1024;exact Nat.mul_le_mul hm (by omega)
    have e1:(D:Int)*(S:Int)=(q:Int):=by rw[hq,Int.natCast_mul]
    have e2:(q:Int)*(P:Int)=(r:Int):=by rw[hr2,Int.natCast_mul]
    subst hd;have HSM:Hid (∀v,Calls prog 144 #[c] v fun e w'=>e=.returned (.int .i64 (S:Int))∧v=w'):=qhz fun v=>by rw[←hs];exact iK v c
    have HR:=qhz hr;rw[HR.out];obtain⟨x,hx⟩:=E1 ((r+7)/8);have f1:((r:Int)+7).tdiv 8=(x:Int):=by rw[Int.tdiv_eq_ediv_of_nonneg (by omega)];omega
    have f2:((r:Int)+7)/8=(x:Int):=by omega
    have v1:IntKind.i64.wrap (q:Int)=(q:Int):=by rw[IntKind.wrap_i64];omega
    have v2:IntKind.i64.wrap (r:Int)=(r:Int):=by rw[IntKind.wrap_i64];omega
    rw[←hx];clear hx;obtain⟨D1,D2⟩:=hD;obtain⟨S1,S2⟩:=hS;clear her hr hs hq hr2
    go_enter func93,ntmps93
    go_wp2_with fail
    refine(HE.out _).mono ?_;rintro e w1 ⟨rfl,hB⟩;have HB:=qhz (HA.out.trans hB);have hI1:=HI.out.but hB (by simp);have c2:=hI1.cell 2;have c3:=hI1.cell 3;have k2:=(hI1.drew).cell 2;have k3:=(hI1.drew).cell 3;have hlt:=hI1.lt;clear hB hI1
    go_upto_region 3 with(fail)
    go_region_with (refine(HSM.out _).mono ?_;rintro e w6 ⟨rfl,rfl⟩)
    all_goals go_wp2
    all_goals go_ret
    all_goals refine⟨?_,HB.out.drew⟩
    all_goals go_simp
 ·have h1:er=5∨er=24:=by rcases iJ a b d c l with h|h|h<;>simp_all
  have HR:=qhz (wR (a:=a) (b:=b) (d:=d) (c:=c) (l:=l) (n:=n) (.inl (by rw[←her];exact h0)));rw[HR.out];clear her h0 HER;rcases h1 with rfl|rfl
  ·go_enter func93,ntmps93
   go_wp2_with fail
   refine(HE.out _).mono ?_;rintro e w1 ⟨rfl,hB⟩;have HB:=qhz (HA.out.trans hB);clear hB;go_wp2;go_ret;exact⟨rfl,HB.out⟩
  ·go_enter func93,ntmps93
   go_wp2_with fail
   refine(HE.out _).mono ?_;rintro e w1 ⟨rfl,hB⟩;have HB:=qhz (HA.out.trans hB);clear hB;go_wp2;go_ret;exact⟨rfl,HB.out⟩
section
open Go.Shelf
def yp(F:Fence)(m:Nat)(P:Program)(gf:Nat)(lb:Array Value)(encs:Nat→Array Value)(Kp:World→World→Prop)(N:Nat)(w:World):Prop:=
 ∀(l:Nat) (J:Nat→World→Prop) (W:World),Below w.heap.size w W→(∀k W1 W2,J k W1→But [] W1 W2→J k W2)→
  (∀k W1,J k W1→k<N→YieldAt F (m-1) P l (encs k) W1 fun e W'=>e=.returned (.bool true)∧J (k+1) W'∧Kp W1 W')→J 0 W→
  CallsIn F m P gf (#[.func (.yield l) #[] #[]]++lb) W fun e W'=>(∃v,e=.returned v)∧J N W'
theorem gZ{W:World}{l:Nat}{S:List Nat}(o:Obj)(h:l∈S):But S W (W.putObj l o):=(But.refl S W).grown (grownBy_putObj' W l o) (fun g e=>by cases e;exact .inl h)
theorem mx{F:Fence}{n:Nat}{P:Program}{g:Operand}{ps:Array Tmp}{assign body:Code}{Q:Exit→Act→World→Prop}{a:Act}{w:World}
 (hro:F.round=none) (h1:1≤n) {gf:Nat} {lb:Array Value} (hg:a.eval g=.func (.func gf) #[] lb) (hF:F.fn gf) (eg:∀args w,(callFunc gf args).run P w=.ok (.enter gf args) w)
 {encs:Nat→Array Value} {Kp:World→World→Prop} {N:Nat} (hseq:yp F (n-1) P gf lb encs Kp N w)
 (hKt:∀{A B C:World},Kp A B→Kp B C→Kp A C) (hKb:∀{A B:World},Below w.heap.size A B→Kp A B) (hps:∀k,(encs k).size=ps.size)
 (I:Nat→World→Prop) (hI:∀k W W',I k W→But [w.heap.size,w.heap.size+1] W W'→I k W') (h0:I 0 w) (a₁:Nat→Nat→Act) (t:TypeId) (cs:Nat→Array Value)
 (hassign:∀(l k:Nat) (W:World) (K:Act→World→Prop),k<N→K (a₁ k W.heap.size) (W.alloc (.cells (cs k) t))→
  assign.wpIn (F.inRound l) (n-1-1) P (Exit.then K (fun _ _ _=>False)) {tmps:=(ps.zip (encs k)).foldl (fun t (p,v)=>t.setIfInBounds p v) a.tmps,defers:=[]} W)
 (hbody:∀(l k b:Nat) (W:World),I k W→k<N→w.heap.size+2≤b→Is W b t (cs k)→w.heap.size+2≤W.heap.size→body.wpIn (F.inRound l) (n-1-1) P (PE Kp I (k+1) W) (a₁ k b) W)
 (hdone:∀W:World,I N W→w.heap.size<W.heap.size→W.heap[w.heap.size]? =some (.deferred (some []))→Q .normal {a with defers:={target:=.collected w.heap.size,args:=#[]}::a.defers} W):
 (Code.rangeFunc g ps assign body).wpIn F n P Q a w:=by
 refine wpIn_rangeFunc fun fn hfn=>?_;rw[hro];obtain⟨D,hD⟩:=E1 w.heap.size;obtain⟨rc,hrc⟩:∃rc:_→Loop,rc=fun st=>{state:=st,pending:=none,fn,tmps:=a.tmps,params:=ps,assign,body,defers:=D}:=⟨_,rfl⟩
 have hb1:Below w.heap.size w ((w.alloc (.deferred (some []))).alloc (.loop (rc .ready))):=((Below.refl _ w).alloc (Nat.le_refl _) _).alloc (by simp) _;have hb2:But [] w ((w.alloc (.deferred (some []))).alloc (.loop (rc .ready))):=((But.refl [] w).alloc _).alloc _;have hl1:((w.alloc (.deferred (some []))).alloc (.loop (rc .ready))).heap[D+1]? =some (.loop (rc .ready)):=by
  have h:=World.alloc_heap_new (w.alloc (.deferred (some []))) (.loop (rc .ready));rw[World.size_alloc,←hD]at h;exact h
 have hk1:((w.alloc (.deferred (some []))).alloc (.loop (rc .ready))).heap[D]? =some (.deferred (some [])):=by
  rw[Below.heap_alloc _ _ _ (by simp[hD]),hD];exact World.alloc_heap_new w _
 have he:(Instr.enterLoop fn a.tmps ps assign body none).run P w=.ok (D+1,[{target:=.collected D,args:=#[]}]) ((w.alloc (.deferred (some []))).alloc (.loop (rc .ready))):=by
  rw[hrc,hD];exact run_enterLoop_outer fn a.tmps ps assign body
 generalize(w.alloc (.deferred (some []))).alloc (.loop (rc .ready))=W1 at*;refine⟨D+1,_,W1,{target:=.fn (.func gf) lb,args:=#[.func (.yield (D+1)) #[] #[]]},W1,gf,#[.func (.yield (D+1)) #[] #[]]++lb,W1,he,by simp only[resolve,hg];simp[go_sem],fun f' hf'=>?_,by simp[invoke,go_sem,eg],fun _=>h1,?_⟩
 ·simp[Target.leads]at hf';subst hf';exact hF
 refine(hseq (D+1) (fun k W=>I k W∧W.heap[D+1]? =some (.loop (rc .ready))∧W.heap[D]? =some (.deferred (some []))) W1 hb1 ?_ ?_ ⟨hI 0 w W1 h0 (hb2.more (by simp)),hl1,hk1⟩).mono ?_
 ·rintro k A B ⟨hi,hl,hk⟩ hB;exact⟨hI k A B hi (hB.more (by simp)),(hB.block _ (Array.getElem?_eq_some_iff.1 hl).1 (by simp)).trans hl,(hB.block _ (Array.getElem?_eq_some_iff.1 hk).1 (by simp)).trans hk⟩
 ·rintro k W ⟨hi,hl,hk⟩ hkN;have hlt:D+1<W.heap.size:=(Array.getElem?_eq_some_iff.1 hl).1;have hy:=run_yield (P:=P) (args:=encs k) hl (by rw[hrc];exact hps k);rw[hrc]at hy;have hWa:But [] W (W.alloc (.cells (cs k) t)):=(But.refl [] W).alloc _;have hla:(W.alloc (.cells (cs k) t)).heap[D+1]? =some (.loop (rc .ready)):=(hWa.block _ hlt (by simp)).trans hl;have hka:(W.alloc (.cells (cs k) t)).heap[D]? =some (.deferred (some [])):=(hWa.block _ (by omega) (by simp)).trans hk;have hia:=hI k W _ hi (hWa.more (by simp));have hna:Is (W.alloc (.cells (cs k) t)) W.heap.size t (cs k):=Is.fresh W t (cs k);have hba:Below w.heap.size W (W.alloc (.cells (cs k) t)):=(Below.refl _ W).alloc (by omega) _;have hlta:D+1<(W.alloc (.cells (cs k) t)).heap.size:=by rw[World.size_alloc];omega
  refine⟨fn,_,assign,body,hy,roundIn_of_wpIn hfn (hassign _ k W _ hkN ⟨_,run_beginRound hla (by rw[hrc]),?_⟩)⟩;obtain⟨b,hb⟩:=E1 W.heap.size;rw[←hb]at hna⊢;generalize W.alloc (.cells (cs k) t)=V at*;have hbb:Below w.heap.size V (V.putObj (D+1) (.loop {rc .ready with state:=.busy})):=fi _ hla (by omega);have hbB:But [D,D+1] V (V.putObj (D+1) (.loop {rc .ready with state:=.busy})):=gZ _ (by simp);have hl2:(V.putObj (D+1) (.loop {rc .ready with state:=.busy})).heap[D+1]? =some (.loop {rc .ready with state:=.busy}):=World.putObj_heap_same hlta;have hk2:(V.putObj (D+1) (.loop {rc .ready with state:=.busy})).heap[D]? =some (.deferred (some [])):=(World.putObj_heap_other (by omega)).trans hka;have hsz:w.heap.size+2≤(V.putObj (D+1) (.loop {rc .ready with state:=.busy})).heap.size:=by have:=hbB.size;omega
  refine wpIn_mono (hbody _ k b _ (hI _ _ _ hia (by rw[←hD];exact hbB)) hkN (by omega) (hna.but hbB (by simp;omega)) hsz) ?_;rintro e a3 W3 hp;cases e with
  |normal=>
   obtain⟨hk3,hkp3,hi3⟩:=hp;have hl3:=hk3.same _ _ hl2 rfl;have hk3':=hk3.same _ _ hk2 rfl;have hbe:Below w.heap.size W3 (W3.putObj (D+1) (.loop (rc .ready))):=fi _ hl3 (by omega);have hbE:But [D,D+1] W3 (W3.putObj (D+1) (.loop (rc .ready))):=gZ _ (by simp);refine⟨.bool true,W3.putObj (D+1) (.loop (rc .ready)),?_,rfl,⟨hI _ _ _ hi3 (by rw[←hD];exact hbE),World.putObj_heap_same (Array.getElem?_eq_some_iff.1 hl3).1,(World.putObj_heap_other (by omega)).trans hk3'⟩,hKt (hKt (hKt (hKb hba) (hKb hbb)) hkp3) (hKb hbe)⟩;have hr:=run_endRound (P:=P) none hl3;rw[hrc]at hr⊢;exact hr
  |ret=>exact hp.elim
  |exit id=>exact hp.elim
  |goto t=>exact hp.elim
  |panic ch=>exact hp.elim
  |outgrown=>exact hp.elim
 ·rintro e W2 ⟨⟨v,rfl⟩,hi,hl,hk⟩;have hlt:D+1<W2.heap.size:=(Array.getElem?_eq_some_iff.1 hl).1;have hr:=run_endLoop (P:=P) hl (by rw[hrc];simp);rw[hrc]at hr;have hbX:But [D,D+1] W2 (W2.putObj (D+1) (.loop {rc .ready with state:=.exhausted})):=gZ _ (by simp);refine⟨none,_,hr,?_⟩;have:=hdone _ (hI _ _ _ hi (by rw[hD]at hbX;exact hbX)) (by simp;omega) (by rw[←hD];exact(World.putObj_heap_other (by omega)).trans hk);rw[hrc,←hD]at this;exact this
end
section
open Go.Shelf
attribute [local go_sem] Oper.semAt_some
def KeptS(R:Nat→Prop)(W W':World):Prop:=W.heap.size≤W'.heap.size∧∀b,R b→W'.heap[b]? =W.heap[b]?
theorem KeptS.trans{R:Nat→Prop}{A B C:World}(h:KeptS R A B)(k:KeptS R B C):KeptS R A C:=⟨Nat.le_trans h.1 k.1,fun b hb=>(k.2 b hb).trans (h.2 b hb)⟩
theorem KeptS.cell{R:Nat→Prop}{A B:World}(h:KeptS R A B){a:Addr}(ha:R a.block):B.cell? a=A.cell? a:=World.cell?_of_block (h.2 a.block ha)
theorem KeptS.is{R:Nat→Prop}{A B:World}(h:KeptS R A B){b:Nat}{t:TypeId}{cs:Array Value}(hI:Is A b t cs)(hb:R b):Is B b t cs:=(h.2 b hb).trans hI
theorem KeptS.but{R:Nat→Prop}{W A B:World}(h:KeptS R W A)(hR:∀b,R b→b<W.heap.size)(k:But [] A B):KeptS R W B:=
 ⟨Nat.le_trans h.1 k.size,fun b hb=>(k.block b (Nat.lt_of_lt_of_le (hR b hb) h.1) (by simp)).trans (h.2 b hb)⟩
theorem dY{F:Fence}(hF:F=Fence.wide){n:Nat}{P:Program}{f:FuncId}{args:Array Value}{w:World}{R:Ending→World→Prop}(h:Calls P f args w R):CallsIn F n P f args w R:=by rw[hF];exact callsIn_wide.2 h
def encP(M:List P6)(k:Nat):Array Value:=#[sU (M.getD k (0,0,0,0,0,0))]
theorem LD{M:List P6}{k:Nat}{x y dx dy mW mH:Nat}(h:M[k]? =some (x,y,dx,dy,mW,mH)):encP M k=#[.agg #[x,y,dx,dy,mW,mH]]:=by
 unfold encP;rw[List.getD_eq_getElem?_getD,h];rfl
theorem Ji{w v:World}{b:Nat}{x0 x1 x2 x3 x4 x5:Value}(h:But [] w v)(hb:w.heap.size≤b):But [] w ((((((v.setCell ⟨b,0,none⟩ x0).setCell ⟨b,1,none⟩ x1).setCell ⟨b,2,none⟩ x2).setCell ⟨b,3,none⟩ x3).setCell ⟨b,4,none⟩ x4).setCell ⟨b,5,none⟩ x5):=
 (((((h.setCell (.inr hb) x0).setCell (.inr hb) x1).setCell (.inr hb) x2).setCell (.inr hb) x3).setCell (.inr hb) x4).setCell (.inr hb) x5
theorem Pt{v:World}{b:Nat}{t:TypeId}{y0 y1 y2 y3 y4 y5 x0 x1 x2 x3 x4 x5:Value}(h:Is v b t #[y0,y1,y2,y3,y4,y5]):Is ((((((v.setCell ⟨b,0,none⟩ x0).setCell ⟨b,1,none⟩ x1).setCell ⟨b,2,none⟩ x2).setCell ⟨b,3,none⟩ x3).setCell ⟨b,4,none⟩ x4).setCell ⟨b,5,none⟩ x5) b t #[x0,x1,x2,x3,x4,x5]:=
 (((((h.put 0 x0).put 1 x1).put 2 x2).put 3 x3).put 4 x4).put 5 x5
theorem uK{w h:Nat}{B:List bj}{i:Nat}{p:bj}(hp:B[i]? =some p)(hs:cj w h p=true):(aH w h B B.length)[(aH w h B i).length]? =some (p6 w h p):=by
 have h1:aH w h B B.length=aH w h B (i+1)++((B.drop (i+1)).filter (cj w h)).map (p6 w h):=by
  unfold aH;rw[List.take_length,←List.map_append,←List.filter_append,List.take_append_drop]
 rw[h1,ib hp,if_pos hs];simp
theorem vm(w:World)(v:Value){a b d c l:Int}(hv:v=.agg #[a,b,d,c,l]):
 Calls prog 92 #[v] w fun e w'=>e=.returned (.func (.func 142) #[] #[.pointer w.heap.size])∧w'=w.alloc (.cells #[a,b,d,c,l] 33):=by
 subst hv
 go_enter func92,ntmps92
 go_wp2;go_ret;exact⟨rfl,rfl⟩
theorem mC{F:Fence}(hFW:F=Fence.wide)(hFn:F.fn 142)(hro:F.round=none){m:Nat}(hm:1≤m){g1:Nat}{a b d c l:Int}{R:Nat→Prop}{w:World}(hI:Is w g1 33 #[a,.int .i64 b,d,c,l])(hG:GP w)(hR1:R g1)(hR2:R 0)(hRl:∀b,R b→b<w.heap.size):
 yp F m prog 142 #[.pointer g1] (encP (cy a b d c l)) (KeptS R) (cy a b d c l).length w:=by
 intro l0 J W hW hJs hY hJ;have hE:=fun v=>oq v a b d c l;have f21:F.fn 86:=by rw[hFW];trivial
 have f25:F.fn 143:=by rw[hFW];trivial
 have HFW:=qhz hFW;have HRL:Hid (∀b,R b→b<W.heap.size):=qhz fun b hb=>Nat.lt_of_lt_of_le (hRl b hb) hW.size;have HI:Hid (Is W g1 33 #[a,.int .i64 b,d,c,l]):=qhz (hI.below hW hI.lt);have HG:Hid (∀i p,kY[i]? =some p→(W.cell? ⟨0,i*4,none⟩=some (.int .i64 (p.x:Nat))∧W.cell? ⟨0,i*4+1,none⟩=some (.int .i64 (p.y:Nat))∧W.cell? ⟨0,i*4+2,none⟩=some (.int .i64 (p.dx:Nat))∧W.cell? ⟨0,i*4+3,none⟩=some (.int .i64 (p.dy:Nat)))):=qhz fun i p hp=>by
  obtain⟨⟨h0,h1,h2,h3⟩,h4⟩:=hG i p hp;exact⟨(hW.cell (p:=⟨_,_,none⟩) h4).trans h0,(hW.cell (p:=⟨_,_,none⟩) h4).trans h1,(hW.cell (p:=⟨_,_,none⟩) h4).trans h2,(hW.cell (p:=⟨_,_,none⟩) h4).trans h3⟩
 have HR1:=qhz hR1;have HR2:=qhz hR2;clear hFW hW hI hG hR1 hR2 hRl
 by_cases h0:ak a b d c l≠0
 ·obtain⟨er,her⟩:=E1 (ak a b d c l);rw[zB h0]at hY⊢;have h1:er=5∨er=24:=by rcases iJ a b d c l with h|h|h<;>simp_all
  simp only[←her]at hE;have HE:=qhz hE;have HJS:=qhz hJs;have HJ:=qhz hJ;clear hE her h0 hY hJs hJ;rcases h1 with rfl|rfl
  ·refine callsIn_of_wp func142 rfl hFn ?_ hro;simp only[ntmps142,List.size_toArray,List.length_cons,List.length_nil,Nat.reduceAdd,Nat.reduceSub,Array.replicate_succ,Array.replicate_zero,List.push_toArray,List.append_toArray,List.nil_append,List.cons_append];obtain⟨c0,c1,c2,c3,c4,_⟩:=HI.out.c5
   gi_wp2_with (gi_at_call 86;refine(dY HFW.out (HE.out _)).mono ?_;rintro e w1 ⟨rfl,hB1⟩;have HB1:=qhz hB1;clear hB1)
   exact bodyPost_ret (results_none rfl _ _ _) rfl ⟨⟨_,rfl⟩,HJS.out _ _ _ HJ.out HB1.out⟩
  ·refine callsIn_of_wp func142 rfl hFn ?_ hro;simp only[ntmps142,List.size_toArray,List.length_cons,List.length_nil,Nat.reduceAdd,Nat.reduceSub,Array.replicate_succ,Array.replicate_zero,List.push_toArray,List.append_toArray,List.nil_append,List.cons_append];obtain⟨c0,c1,c2,c3,c4,_⟩:=HI.out.c5
   gi_wp2_with (gi_at_call 86;refine(dY HFW.out (HE.out _)).mono ?_;rintro e w1 ⟨rfl,hB1⟩;have HB1:=qhz hB1;clear hB1)
   exact bodyPost_ret (results_none rfl _ _ _) rfl ⟨⟨_,rfl⟩,HJS.out _ _ _ HJ.out HB1.out⟩
 have h0:ak a b d c l=0:=by simpa using h0
 obtain⟨⟨a1,a2⟩,⟨b1,b2⟩,hab,hl,_⟩:=ii h0;obtain⟨H0,rfl⟩:∃n:Nat,a=(n:Int):=⟨a.toNat,by omega⟩
 obtain⟨H1,rfl⟩:∃n:Nat,b=(n:Int):=⟨b.toNat,by omega⟩
 rw[h0]at hE;have HE:=qhz hE;clear hab;rcases hl with hl|hl
 ·subst hl;obtain⟨B,hB⟩:=E1 bM;have hBl:B.length=1:=by rw[hB];rfl
  have hBs:∀p,p∈B→(p.x<p.dx∧p.y<p.dy)∧(p.dx≤8∧p.dy≤8):=by rw[hB];decide
  have hBp:∀(i:Nat) p,B[i]? =some p→kY[0+i]? =some p:=by
   intro i p hp;rw[hB]at hp;have hi:=(List.getElem?_eq_some_iff.1 hp).1;rw[Nat.zero_add];unfold kY;rw[List.getElem?_append_left hi];exact hp
  have HM:Hid (cy (H0:Nat) (H1:Nat) d c 0=aH H0 H1 B B.length):=qhz (by rw[rf h0];unfold aH;rw[List.take_length,hB];rfl);rw[HM.out]at hY⊢;have HBL:=qhz hBl;have HBS:=qhz hBs;have HBP:=qhz hBp;have HY:=qhz hY;have HJS:=qhz hJs;have HJ0:Hid (J (aH H0 H1 B 0).length W):=qhz hJ;clear hB hBl hBs hBp hY hJs hJ h0 hE;refine callsIn_of_wp func142 rfl hFn ?_ hro;simp only[ntmps142,List.size_toArray,List.length_cons,List.length_nil,Nat.reduceAdd,Nat.reduceSub,Array.replicate_succ,Array.replicate_zero,List.push_toArray,List.append_toArray,List.nil_append,List.cons_append];obtain⟨c0,c1,c2,c3,c4,_⟩:=HI.out.c5
  gi_wp2_with (gi_at_call 86;refine(dY HFW.out (HE.out _)).mono ?_;rintro e w1 ⟨rfl,hB1⟩;have HJ1:=qhz (HJS.out _ _ _ HJ0.out hB1);have HK1:Hid (KeptS R W w1):=qhz (KeptS.but (R:=R) ⟨Nat.le_refl _,fun _ _=>rfl⟩ HRL.out hB1);have hI1:=HI.out.but hB1 (by simp);clear hB1 c0 c1 c2 c3 c4 HJ0;have c4:=hI1.cell 4;clear hI1)
  clear c4
  gi_loopw [5] (fun iv wr=>∃j:Nat,j≤1∧iv=.int .i64 ((0+j:Nat):Int)∧Hid (J (aH H0 H1 B j).length wr)∧Hid (KeptS R W wr)) (fun iv _=>1-(intOf iv).toNat)
  case atStart=>exact⟨0,Nat.zero_le _,rfl,HJ1,HK1⟩
  case round=>
   clear HJ1 HK1;obtain⟨j,hj,rfl,HJ,HK⟩:=hrel
   by_cases hlt:j<1
   ·obtain⟨p,hp⟩:∃p,B[j]? =some p:=⟨_,List.getElem?_eq_getElem (by have:=HBL.out;omega)⟩
    have hpm:=HBS.out p (List.mem_of_getElem? hp);have hpc:=HG.out _ p (HBP.out j p hp);obtain⟨k0,k1,k2,k3⟩:=hpc;replace k0:=(HK.out.cell (a:=⟨_,_,none⟩) HR2.out).trans k0;replace k1:=(HK.out.cell (a:=⟨_,_,none⟩) HR2.out).trans k1;replace k2:=(HK.out.cell (a:=⟨_,_,none⟩) HR2.out).trans k2;replace k3:=(HK.out.cell (a:=⟨_,_,none⟩) HR2.out).trans k3;have HNX:=qhz (ib (w:=H0) (h:=H1) hp);have HPRE:=qhz (uK (w:=H0) (h:=H1) hp);obtain⟨x,y,dx,dy⟩:=p;obtain⟨⟨s1,s2⟩,s3,s4⟩:=hpm;dsimp only at s1 s2 s3 s4 k0 k1 k2 k3;obtain⟨mW,hmW⟩:=E1 (ay H0 x dx);obtain⟨mH,hmH⟩:=E1 (ay H1 y dy);have HPA:Hid (∀v,Calls prog 143 #[.agg #[x,y,dx,dy],.agg #[H0,H1,d,c,(0:Int)]] v (R1z (.agg #[x,y,dx,dy,mW,mH]) v)):=qhz fun v=>by rw[hmW,hmH];exact sO v s1 s2 s3 s4 (by omega) (by omega)
    have HSO:Hid (cj H0 H1 ⟨x,y,dx,dy⟩=decide (0<mW∧0<mH)):=qhz (by rw[hmW,hmH];rfl);have HP6:Hid (p6 H0 H1 ⟨x,y,dx,dy⟩=(x,y,dx,dy,mW,mH)):=qhz (by rw[hmW,hmH];rfl);have hgb:0<wr.heap.size:=Nat.lt_of_lt_of_le (HRL.out _ HR2.out) HK.out.1;have HII:=qhz (HK.out.is HI.out HR1.out);clear hmW hmH s1 s2 s3 s4 hp;obtain⟨i,hi⟩:∃i,i=0+j:=⟨_,rfl⟩
    rw[←hi]at k0 k1 k2 k3⊢;have i0:(0:Int)≤(i:Int):=by omega
    have i1:(i:Int)<8:=by omega
    have i2:(i:Int)<1:=by omega
    have HIE:=qhz hi;clear hi
    gi_upto_region 7 with(fail)
    gi_cut [6]from 19 (fun v wx=>∃g,v=.pointer (some ⟨g,0,none⟩)∧Hid (But [] wr wx)∧Hid (Is wx g 64 #[x,y,dx,dy,mW,mH]))
    case first=>
     have hmix:prog.follows .mixedOrders=true:=by kernel_rfl
     have z0:wr.drew.cell? ⟨0,i*4,none⟩=some (.int .i64 x):=k0;have z1:wr.drew.cell? ⟨0,i*4+1,none⟩=some (.int .i64 y):=k1;have z2:wr.drew.cell? ⟨0,i*4+2,none⟩=some (.int .i64 dx):=k2;have z3:wr.drew.cell? ⟨0,i*4+3,none⟩=some (.int .i64 dy):=k3;obtain⟨y0,y1,y2,y3,y4,_⟩:=HII.out.drew.c5;have hgl:g1<wr.heap.size:=HII.out.lt;obtain⟨x0,x1,x2,x3,x4,_⟩:=HII.out.c5
     gi_region_with_o (gi_at_call 143;refine(dY HFW.out (HPA.out _)).mono ?_;rintro e w6 ⟨rfl,hB6⟩;first|(have hI6:=((Is.fresh wr 64 #[(0:Int),(0:Int),(0:Int),(0:Int),(0:Int),(0:Int)]).drew).but hB6 (by simp);have HB6:=qhz ((((But.refl [] wr).alloc _).drew).trans hB6);have s0:=hI6.cell 0;have s1:=hI6.cell 1;have s2:=hI6.cell 2;have s3:=hI6.cell 3;have s4:=hI6.cell 4;have s5:=hI6.cell 5;have t0:=hI6.free 0;have t1:=hI6.free 1;have t2:=hI6.free 2;have t3:=hI6.free 3;have t4:=hI6.free 4;have t5:=hI6.free 5;have HI6:=qhz hI6;clear hI6 hB6)|(have HB6:=qhz (((But.refl [] wr).drew).trans hB6);clear hB6))
     all_goals gi_wp2
     all_goals gi_meet
     all_goals first
      |(have h6:=HI6.out;exact⟨_,rfl,qhz (Ji HB6.out (Nat.le_refl _)),qhz (Pt h6)⟩)
      |exact⟨_,rfl,qhz (HB6.out.alloc _),qhz (Is.fresh _ _ _)⟩
    case rest=>
    clear k0 k1 k2 k3 i1;obtain⟨g,rfl,HBx,HIx⟩:=hcut;have HJ2:=qhz (HJS.out _ _ _ HJ.out HBx.out);have HK2:=qhz (HK.out.but HRL.out HBx.out);have q4:=HIx.out.cell 4;have q5:=HIx.out.cell 5;clear HII HBx HJ HK hgb HPA
    by_cases hm:0<mW∧0<mH
    ·have hs:=HSO.out.trans (decide_eq_true hm);have hpre:=HPRE.out hs;rw[HP6.out]at hpre;have hy:=HY.out _ _ HJ2.out (List.getElem?_eq_some_iff.1 hpre).1;rw[LD hpre]at hy;have HN:Hid (aH H0 H1 B (j+1)=aH H0 H1 B j++[(x,y,dx,dy,mW,mH)]):=qhz (by rw[HNX.out,if_pos hs,HP6.out]);obtain⟨fn,tmps,assign,body,hy,hR⟩:=hy;obtain⟨q0,q1,q2,q3,_⟩:=HIx.out.c4;obtain⟨hm1,hm2⟩:=hm;clear hs hpre HSO HPRE HP6 HNX
     gi_wp2
     refine hR.mono ?_;rintro e W3 ⟨rfl,hJ3,hk3⟩;have HJ3:Hid (J (aH H0 H1 B (j+1)).length W3):=qhz (by rw[HN.out,List.length_append];exact hJ3);have HK3:=qhz (HK2.out.trans hk3);clear hJ3 hk3 hR hy
     gi_wp2
     go_roundw
     case rel=>exact⟨j+1,by omega,by congr 1;have:=HIE.out;omega,HJ3,HK3⟩
     case measure=>have:=HIE.out;simp[intOf]<;>omega
    ·have hs:=HSO.out.trans (decide_eq_false hm);have HJ3:Hid (J (aH H0 H1 B (j+1)).length wc):=qhz (by rw[HNX.out,if_neg (by rw[hs];decide),List.append_nil];exact HJ2.out);clear hs HSO HPRE HP6 HNX;obtain⟨wv,rfl⟩:=E1 wc
     by_cases hm1:0<mW
     ·have hm2:¬0<mH:=fun h=>hm ⟨hm1,h⟩;clear hm
      gi_wp2
      refine⟨(fun f hf=>nomatch hf),?_⟩
      gi_wp2
      go_roundw
      case rel=>exact⟨j+1,by omega,by congr 1;have:=HIE.out;omega,HJ3,HK2⟩
      case measure=>have:=HIE.out;simp[intOf]<;>omega
     ·clear hm
      gi_wp2
      refine⟨(fun f hf=>nomatch hf),?_⟩
      gi_wp2
      go_roundw
      case rel=>exact⟨j+1,by omega,by congr 1;have:=HIE.out;omega,HJ3,HK2⟩
      case measure=>have:=HIE.out;simp[intOf]<;>omega
   ·obtain rfl:j=1:=by omega
    gi_wp2
    go_end0
    exact⟨⟨_,rfl⟩,by rw[HBL.out];exact HJ.out⟩
 ·subst hl;obtain⟨B,hB⟩:=E1 fL;have hBl:B.length=7:=by rw[hB];rfl
  have hBs:∀p,p∈B→(p.x<p.dx∧p.y<p.dy)∧(p.dx≤8∧p.dy≤8):=by rw[hB];decide
  have hBp:∀(i:Nat) p,B[i]? =some p→kY[1+i]? =some p:=by
   intro i p hp;rw[hB]at hp;have hi:=(List.getElem?_eq_some_iff.1 hp).1;rw[Nat.add_comm];exact hp
  have HM:Hid (cy (H0:Nat) (H1:Nat) d c 1=aH H0 H1 B B.length):=qhz (by rw[rf h0];unfold aH;rw[List.take_length,hB];rfl);rw[HM.out]at hY⊢;have HBL:=qhz hBl;have HBS:=qhz hBs;have HBP:=qhz hBp;have HY:=qhz hY;have HJS:=qhz hJs;have HJ0:Hid (J (aH H0 H1 B 0).length W):=qhz hJ;clear hB hBl hBs hBp hY hJs hJ h0 hE;refine callsIn_of_wp func142 rfl hFn ?_ hro;simp only[ntmps142,List.size_toArray,List.length_cons,List.length_nil,Nat.reduceAdd,Nat.reduceSub,Array.replicate_succ,Array.replicate_zero,List.push_toArray,List.append_toArray,List.nil_append,List.cons_append];obtain⟨c0,c1,c2,c3,c4,_⟩:=HI.out.c5
  gi_wp2_with (gi_at_call 86;refine(dY HFW.out (HE.out _)).mono ?_;rintro e w1 ⟨rfl,hB1⟩;have HJ1:=qhz (HJS.out _ _ _ HJ0.out hB1);have HK1:Hid (KeptS R W w1):=qhz (KeptS.but (R:=R) ⟨Nat.le_refl _,fun _ _=>rfl⟩ HRL.out hB1);have hI1:=HI.out.but hB1 (by simp);clear hB1 c0 c1 c2 c3 c4 HJ0;have c4:=hI1.cell 4;clear hI1)
  clear c4
  gi_loopw [5] (fun iv wr=>∃j:Nat,j≤7∧iv=.int .i64 ((1+j:Nat):Int)∧Hid (J (aH H0 H1 B j).length wr)∧Hid (KeptS R W wr)) (fun iv _=>8-(intOf iv).toNat)
  case atStart=>exact⟨0,Nat.zero_le _,rfl,HJ1,HK1⟩
  case round=>
   clear HJ1 HK1;obtain⟨j,hj,rfl,HJ,HK⟩:=hrel
   by_cases hlt:j<7
   ·obtain⟨p,hp⟩:∃p,B[j]? =some p:=⟨_,List.getElem?_eq_getElem (by have:=HBL.out;omega)⟩
    have hpm:=HBS.out p (List.mem_of_getElem? hp);have hpc:=HG.out _ p (HBP.out j p hp);obtain⟨k0,k1,k2,k3⟩:=hpc;replace k0:=(HK.out.cell (a:=⟨_,_,none⟩) HR2.out).trans k0;replace k1:=(HK.out.cell (a:=⟨_,_,none⟩) HR2.out).trans k1;replace k2:=(HK.out.cell (a:=⟨_,_,none⟩) HR2.out).trans k2;replace k3:=(HK.out.cell (a:=⟨_,_,none⟩) HR2.out).trans k3;have HNX:=qhz (ib (w:=H0) (h:=H1) hp);have HPRE:=qhz (uK (w:=H0) (h:=H1) hp);obtain⟨x,y,dx,dy⟩:=p;obtain⟨⟨s1,s2⟩,s3,s4⟩:=hpm;dsimp only at s1 s2 s3 s4 k0 k1 k2 k3;obtain⟨mW,hmW⟩:=E1 (ay H0 x dx);obtain⟨mH,hmH⟩:=E1 (ay H1 y dy);have HPA:Hid (∀v,Calls prog 143 #[.agg #[x,y,dx,dy],.agg #[H0,H1,d,c,(1:Int)]] v (R1z (.agg #[x,y,dx,dy,mW,mH]) v)):=qhz fun v=>by rw[hmW,hmH];exact sO v s1 s2 s3 s4 (by omega) (by omega)
    have HSO:Hid (cj H0 H1 ⟨x,y,dx,dy⟩=decide (0<mW∧0<mH)):=qhz (by rw[hmW,hmH];rfl);have HP6:Hid (p6 H0 H1 ⟨x,y,dx,dy⟩=(x,y,dx,dy,mW,mH)):=qhz (by rw[hmW,hmH];rfl);have hgb:0<wr.heap.size:=Nat.lt_of_lt_of_le (HRL.out _ HR2.out) HK.out.1;have HII:=qhz (HK.out.is HI.out HR1.out);clear hmW hmH s1 s2 s3 s4 hp;obtain⟨i,hi⟩:∃i,i=1+j:=⟨_,rfl⟩
    rw[←hi]at k0 k1 k2 k3⊢;have i0:(0:Int)≤(i:Int):=by omega
    have i1:(i:Int)<8:=by omega
    have i2:(i:Int)<8:=by omega
    have HIE:=qhz hi;clear hi
    gi_upto_region 7 with(fail)
    gi_cut [6]from 19 (fun v wx=>∃g,v=.pointer (some ⟨g,0,none⟩)∧Hid (But [] wr wx)∧Hid (Is wx g 64 #[x,y,dx,dy,mW,mH]))
    case first=>
     have hmix:prog.follows .mixedOrders=true:=by kernel_rfl
     have z0:wr.drew.cell? ⟨0,i*4,none⟩=some (.int .i64 x):=k0;have z1:wr.drew.cell? ⟨0,i*4+1,none⟩=some (.int .i64 y):=k1;have z2:wr.drew.cell? ⟨0,i*4+2,none⟩=some (.int .i64 dx):=k2;have z3:wr.drew.cell? ⟨0,i*4+3,none⟩=some (.int .i64 dy):=k3;obtain⟨y0,y1,y2,y3,y4,_⟩:=HII.out.drew.c5;have hgl:g1<wr.heap.size:=HII.out.lt;obtain⟨x0,x1,x2,x3,x4,_⟩:=HII.out.c5
     gi_region_with_o (gi_at_call 143;refine(dY HFW.out (HPA.out _)).mono ?_;rintro e w6 ⟨rfl,hB6⟩;first|(have hI6:=((Is.fresh wr 64 #[(0:Int),(0:Int),(0:Int),(0:Int),(0:Int),(0:Int)]).drew).but hB6 (by simp);have HB6:=qhz ((((But.refl [] wr).alloc _).drew).trans hB6);have s0:=hI6.cell 0;have s1:=hI6.cell 1;have s2:=hI6.cell 2;have s3:=hI6.cell 3;have s4:=hI6.cell 4;have s5:=hI6.cell 5;have t0:=hI6.free 0;have t1:=hI6.free 1;have t2:=hI6.free 2;have t3:=hI6.free 3;have t4:=hI6.free 4;have t5:=hI6.free 5;have HI6:=qhz hI6;clear hI6 hB6)|(have HB6:=qhz (((But.refl [] wr).drew).trans hB6);clear hB6))
     all_goals gi_wp2
     all_goals gi_meet
     all_goals first
      |(have h6:=HI6.out;exact⟨_,rfl,qhz (Ji HB6.out (Nat.le_refl _)),qhz (Pt h6)⟩)
      |exact⟨_,rfl,qhz (HB6.out.alloc _),qhz (Is.fresh _ _ _)⟩
    case rest=>
    clear k0 k1 k2 k3 i1;obtain⟨g,rfl,HBx,HIx⟩:=hcut;have HJ2:=qhz (HJS.out _ _ _ HJ.out HBx.out);have HK2:=qhz (HK.out.but HRL.out HBx.out);have q4:=HIx.out.cell 4;have q5:=HIx.out.cell 5;clear HII HBx HJ HK hgb HPA
    by_cases hm:0<mW∧0<mH
    ·have hs:=HSO.out.trans (decide_eq_true hm);have hpre:=HPRE.out hs;rw[HP6.out]at hpre;have hy:=HY.out _ _ HJ2.out (List.getElem?_eq_some_iff.1 hpre).1;rw[LD hpre]at hy;have HN:Hid (aH H0 H1 B (j+1)=aH H0 H1 B j++[(x,y,dx,dy,mW,mH)]):=qhz (by rw[HNX.out,if_pos hs,HP6.out]);obtain⟨fn,tmps,assign,body,hy,hR⟩:=hy;obtain⟨q0,q1,q2,q3,_⟩:=HIx.out.c4;obtain⟨hm1,hm2⟩:=hm;clear hs hpre HSO HPRE HP6 HNX
     gi_wp2
     refine hR.mono ?_;rintro e W3 ⟨rfl,hJ3,hk3⟩;have HJ3:Hid (J (aH H0 H1 B (j+1)).length W3):=qhz (by rw[HN.out,List.length_append];exact hJ3);have HK3:=qhz (HK2.out.trans hk3);clear hJ3 hk3 hR hy
     gi_wp2
     go_roundw
     case rel=>exact⟨j+1,by omega,by congr 1;have:=HIE.out;omega,HJ3,HK3⟩
     case measure=>have:=HIE.out;simp[intOf]<;>omega
    ·have hs:=HSO.out.trans (decide_eq_false hm);have HJ3:Hid (J (aH H0 H1 B (j+1)).length wc):=qhz (by rw[HNX.out,if_neg (by rw[hs];decide),List.append_nil];exact HJ2.out);clear hs HSO HPRE HP6 HNX;obtain⟨wv,rfl⟩:=E1 wc
     by_cases hm1:0<mW
     ·have hm2:¬0<mH:=fun h=>hm ⟨hm1,h⟩;clear hm
      gi_wp2
      refine⟨(fun f hf=>nomatch hf),?_⟩
      gi_wp2
      go_roundw
      case rel=>exact⟨j+1,by omega,by congr 1;have:=HIE.out;omega,HJ3,HK2⟩
      case measure=>have:=HIE.out;simp[intOf]<;>omega
     ·clear hm
      gi_wp2
      refine⟨(fun f hf=>nomatch hf),?_⟩
      gi_wp2
      go_roundw
      case rel=>exact⟨j+1,by omega,by congr 1;have:=HIE.out;omega,HJ3,HK2⟩
      case measure=>have:=HIE.out;simp[intOf]<;>omega
   ·obtain rfl:j=7:=by omega
    gi_wp2
    go_end0
    exact⟨⟨_,rfl⟩,by rw[HBL.out];exact HJ.out⟩
end
end Go.Proofs.YtbanopnofpjnbaaGreatDoor
