/- Own texts in one: LcS, LcU. -/
import Derived.Test.YtbanopnofpjnbaaGreatDoorU29
set_option maxRecDepth 1000000
set_option linter.unusedVariables false
set_option maxHeartbeats 4000000
namespace Go.Proofs.YtbanopnofpjnbaaGreatDoor
open Go Go.RowKit Tryz
section
open Go.Shelf
attribute [local go_sem] Oper.semAt_some
def PasI(w:World)(bl D:Nat)(M:List P6)(k:Nat)(W:World):Prop:=
 But [bl] w W∧∃v,Is W bl 61 #[v]∧W.ownsRow (D+2) 64 6 v (M.take k).length (bL (M.take k))
theorem ow{w w':World}{base:Nat}{v:Value}{L:List P6}(h:w.ownsRow base 64 6 v L.length (bL L)){S:List Nat}(hw:But S w w')(hS:∀b∈S,b<base):w'.ownsRow base 64 6 v L.length (bL L):=by
 obtain⟨h1,h2⟩:=h;refine⟨h1,?_⟩;rcases h2 with h2|⟨g,cap,cur,rfl,hg,hh,r⟩
 ·exact .inl h2
 ·have hlt:g<w.heap.size:=(Array.getElem?_eq_some_iff.1 hh).1;exact .inr ⟨g,cap,cur,rfl,hg,(hw.block g hlt (fun h=>by have:=hS g h;omega)).trans hh,r⟩
theorem qU{w W W':World}{S T:List Nat}(h:But S w W)(k:But T W W')(hT:∀b∈T,w.heap.size≤b):But S w W':=
 ⟨k.os.trans h.os,k.tape.trans h.tape,k.output.trans h.output,Nat.le_trans h.size k.size,fun b hb hS=>(k.block b (Nat.lt_of_lt_of_le hb h.size) (fun hk=>by have:=hT b hk;omega)).trans (h.block b hb hS)⟩
theorem PasI.far{w W W':World}{bl D:Nat}{M:List P6}{k:Nat}(h:PasI w bl D M k W)(hk:But [D,D+1] W W')(hb:bl<D)(hD:w.heap.size≤D):PasI w bl D M k W':=by
 obtain⟨h1,v,h2,h3⟩:=h;refine⟨qU h1 hk (fun b hb=>?_),v,h2.but hk (by simp;omega),ow h3 hk (fun b hb=>?_)⟩
 ·simp only[List.mem_cons,List.not_mem_nil,or_false]at hb;rcases hb with rfl|rfl<;>omega
 ·simp only[List.mem_cons,List.not_mem_nil,or_false]at hb;rcases hb with rfl|rfl<;>omega
theorem nu{F:Fence}{n:Nat}(w:World){ops:Array Oper}{rest:List Oper}{o:Oper}{a:Act}{Q:Exit→Act→World→Prop}(hgd:o.guard=none)(sl x:Operand)
 (ho:o.op=.call {callee:=.builtin .append,args:=#[sl,x],argTypes:=#[61,61]})
 (base:Nat) (v:Value) (L:List P6) (hs:a.eval sl=v) (hO:w.ownsRow base 64 6 v L.length (bL L)) (hb:base≤w.heap.size) (p:P6) {cs:Array Value} (hcs:cs.toList=dG p) {g:Nat} (hx:a.eval x=.slice g 1 1) (hI:Is w g 64 cs) (hbound:L.length<1000000)
 (h:∀v' w',w'.ownsRow base 64 6 v' (L++[p]).length (bL (L++[p]))→w.grownBy w' v.ownBlock→wpListIn F n prog ops Q rest (a.put o.dst v') w'):wpListIn F n prog ops Q (o::rest) a w:=by
 obtain⟨i0,hi0,hz0,hz1,hz2⟩:=info_parts oJ;refine wpListIn_append_own w hgd sl x 61 ho base 64 i0 _ 6 48 underlying61 hi0 hz0 hz1 hz2 rfl (by decide) v L.length (bL L) hs hO ⟨g,0,none⟩ 1 1 cs.toList hx (by rw[hcs];rfl) (KB hI) (by rw[hcs];simp[Value.oneCell',dG]) (by unfold maxLen;omega) (by omega) hb ?_;intro v' w' hown hgrow _;refine h v' w' ?_ hgrow;rw[List.length_append,my];have e:bL [p]=cs.toList:=by rw[hcs];simp[bL]
 rw[e];exact hown
theorem F9{w:World}{base:Nat}{v:Value}{L:List P6}(h:w.ownsRow base 64 6 v L.length (bL L)):∀(j:Nat) (o:Obj),v.ownBlock=some j→w.heap[j]? =some o→o.isCells=true:=by
 intro j o hj ho;rcases h.2 with⟨rfl,_⟩|⟨g,cap,cur,rfl,_,hh,_⟩
 ·cases hj
 ·have e:g=j:=by simpa[Value.ownBlock]using hj
  rw[e]at hh;rw[hh]at ho;cases ho;rfl
theorem Ko{w W w9:World}{bl D k:Nat}{M:List P6}{p:P6}{v v':Value}{o:Obj}(hB:But [bl] w W)(hI:Is W bl 61 #[v])(hO:W.ownsRow (D+2) 64 6 v (M.take k).length (bL (M.take k)))(hp:M[k]? =some p)
 (hg:(W.alloc o).grownBy w9 v.ownBlock) (hO':w9.ownsRow (D+2) 64 6 v' (M.take k++[p]).length (bL (M.take k++[p]))) (hbl:bl<D) (hD:D=w.heap.size):
 KeepsOthers W (w9.setCell ⟨bl,0,none⟩ v')∧KeptS (fun b=>b<w.heap.size∧b≠bl) W (w9.setCell ⟨bl,0,none⟩ v')∧PasI w bl D M (k+1) (w9.setCell ⟨bl,0,none⟩ v'):=by
 have hrow:∀g,v.ownBlock=some g→D+2≤g:=fun g e=>(World.ownsRow.lt hO g e).1;have hOa:=ow hO ((But.refl [] W).alloc o) (by simp);have hb1:But [bl] W (W.alloc o):=(But.refl _ W).alloc o;have hb9:But [bl] w w9:=((hB.trans hb1)).grown hg (fun g e=>.inr (by have:=hrow g e;omega));have hne:some bl≠v.ownBlock:=fun e=>by have:=hrow bl e.symm;omega
 have hI9:Is w9 bl 61 #[v]:=(hI.alloc o).grown hg hne;refine⟨((KeepsOthers.alloc W o).trans (KeepsOthers.of_grownBy hg (F9 hOa))).trans (KeepsOthers.setCell w9 _ _),⟨?_,fun b hb=>?_⟩,hb9.setCell (.inl (by simp)) _,v',?_,?_⟩
 ·have h1:=hb1.size;have h2:=hg.size;have h3:=((But.refl [bl] w9).setCell (p:=⟨bl,0,none⟩) (.inl (by simp)) v').size;omega
 ·have hbs:b<W.heap.size:=Nat.lt_of_lt_of_le hb.1 hB.size;rw[Below.heap_setCell w9 ⟨bl,0,none⟩ v' b hb.2,hg.block b (Nat.lt_of_lt_of_le hbs hb1.size) (fun e=>by have:=hrow b e.symm;omega)];exact Below.heap_alloc W o b hbs
 ·simpa using hI9.put 0 v'
 ·have e:M.take (k+1)=M.take k++[p]:=uL hp;rw[e];exact ow hO' ((But.refl [bl] w9).setCell (p:=⟨bl,0,none⟩) (.inl (by simp)) v') (by simp;omega)
def vX(M:List P6)(k:Nat):Array Value:=(dG (M.getD k (0,0,0,0,0,0))).toArray
theorem Gk{F:Fence}{N:Nat}(hFW:F=Fence.wide)(hro:F.round=none)(hN:3≤N)(w:World)(hG:GP w)(a b d c l:Int):
 CallsIn F N prog 54 #[.agg #[a,.int .i64 b,d,.int .i64 c,l]] w fun e w'=>∃A cap,e=.returned (.slice A (cy a b d c l).length cap)∧Pss w' A (cy a b d c l).length (cy a b d c l)∧(cy a b d c l).length≤cap∧But [] w w':=by
 have h1:1≤N:=by omega
 have f11:F.fn 54:=by rw[hFW];trivial
 have f18:F.fn 92:=by rw[hFW];trivial
 have f24:F.fn 142:=by rw[hFW];trivial
 have hcl:∀W,GP W→But [] w W→Is W (w.heap.size+1+1) 33 #[a,.int .i64 b,d,.int .i64 c,l]→yp F (N-1) prog 142 #[.pointer (some ⟨w.heap.size+1+1,0,none⟩)] (encP (cy a b d c l)) (KeptS fun b=>b<W.heap.size∧b≠w.heap.size+1) (cy a b d c l).length W:=fun W hGW hBW hIW=>
  mC hFW f24 hro (by omega) hIW hGW ⟨hIW.lt,by omega⟩ ⟨(hGW 0 _ rfl).2,by have:=(hG 0 _ rfl).2;omega⟩ (fun b hb=>hb.1)
 obtain⟨M,hM⟩:=E1 (cy a b d c l);have hM7:M.length≤7:=by rw[hM];exact jk a b d c l
 rw[←hM]at hcl⊢;have hI:=Is.fresh w 33 #[a,.int .i64 b,d,.int .i64 c,l];obtain⟨c0,c1,c2,c3,c4,_⟩:=hI.c5;have HG:=qhz hG;have HCL:=qhz hcl;have HFW:=qhz hFW;clear hM hI hG hcl hFW;refine callsIn_of_wp_marks func54 rfl f11 ?_ hro;simp only[ntmps54,List.size_toArray,List.length_cons,List.length_nil,Nat.reduceAdd,Nat.reduceSub,Array.replicate_succ,Array.replicate_zero,List.push_toArray,List.append_toArray,List.nil_append,List.cons_append]
 gi_wp2_with (gi_at_call 92;refine(dY HFW.out (vm _ _ rfl)).mono ?_;rintro e w' ⟨rfl,rfl⟩)
 clear c0 c1 c2 c3 c4;obtain⟨b0,hb0⟩:=E1 w.heap.size;have hbl:But [] w (((w.alloc (.cells #[a,.int .i64 b,d,.int .i64 c,l] 33)).alloc (.cells #[.slice none 0 0] 61)).alloc (.cells #[a,.int .i64 b,d,.int .i64 c,l] 33)):=(((But.refl [] w).alloc _).alloc _).alloc _;have i1:=(Is.fresh (w.alloc (.cells #[a,.int .i64 b,d,.int .i64 c,l] 33)) 61 #[.slice none 0 0]).alloc (.cells #[a,.int .i64 b,d,.int .i64 c,l] 33);have i2:=Is.fresh ((w.alloc (.cells #[a,.int .i64 b,d,.int .i64 c,l] 33)).alloc (.cells #[.slice none 0 0] 61)) 33 #[a,.int .i64 b,d,.int .i64 c,l];have isz:(((w.alloc (.cells #[a,.int .i64 b,d,.int .i64 c,l] 33)).alloc (.cells #[.slice none 0 0] 61)).alloc (.cells #[a,.int .i64 b,d,.int .i64 c,l] 33)).heap.size=w.heap.size+1+1+1:=by simp
 rw[World.size_alloc]at i1 i2;rw[World.size_alloc]at i2;generalize(((w.alloc (.cells #[a,.int .i64 b,d,.int .i64 c,l] 33)).alloc (.cells #[.slice none 0 0] 61)).alloc (.cells #[a,.int .i64 b,d,.int .i64 c,l] 33))=wL at*;have hcl:=HCL.out wL (HG.out.but hbl) hbl i2;rw[←hb0]at hcl i1 i2 isz⊢;have HB0:=qhz hb0;have HBL:=qhz hbl;have HI1:=qhz i1;have ISZ:=qhz isz;clear hb0 hbl i1 i2 isz HCL;refine mx (Kp:=KeptS fun b=>b<wL.heap.size∧b≠b0+1) hro h1 (gf:=142) (lb:=#[.pointer (some ⟨b0+1+1,0,none⟩)]) rfl f24 (enters_of func142 (by kernel_rfl) rfl) hcl
  (fun h k=>KeptS.trans h k) (fun h=>⟨h.size,fun b hb=>h.block b hb.1⟩) (fun k=>rfl)
  (PasI wL (b0+1) wL.heap.size M) ?hI ?hstart
  (fun k g=>{tmps:=#[.agg #[a,.int .i64 b,d,.int .i64 c,l],.pointer b0,.slice none 0 0,.pointer (some ⟨b0+1,0,none⟩),.pointer (some ⟨g,0,none⟩),.agg #[a,.int .i64 b,d,.int .i64 c,l],.func (.func 142) #[] #[.pointer (some ⟨b0+1+1,0,none⟩)],sU (M.getD k (0,0,0,0,0,0)),undef,undef,undef,undef,undef],defers:=[]})
  64 (vX M) ?assign ?body ?done
 case hI=>exact fun k W W' h hk=>h.far hk (by have:=ISZ.out;omega) (Nat.le_refl _)
 case hstart=>exact⟨But.refl _ _,_,HI1.out,World.ownsRow_nil _ _ _ _⟩
 case assign=>
  intro l k W K hk hK;unfold encP;unfold vX at hK;generalize M.getD k (0,0,0,0,0,0)=p at*;obtain⟨x,y,dx,dy,pw,ph⟩:=p;unfold sU dG at*;dsimp only at *
  gi_wp2
  exact hK
 case body=>
  rintro l k g W ⟨hB,v,hIv,hO⟩ hk hg hIg hsz;have hp:M[k]? =some (M.getD k (0,0,0,0,0,0)):=by rw[List.getD_eq_getElem?_getD,List.getElem?_eq_getElem hk];rfl
  unfold vX at hIg;generalize M.getD k (0,0,0,0,0,0)=p at*;obtain⟨x,y,dx,dy,pw,ph⟩:=p;unfold sU;unfold dG at hIg;dsimp only at hIg⊢;have c0:=hIv.cell 0;have f0:=hIv.free 0;obtain⟨k0,k1,k2,k3,k4,k5,_⟩:=hIg.c6;have hlv:=hIv.lt;have hlt7:(M.take k).length<1000000:=by rw[List.length_take];omega
  have hne:some (b0+1)≠v.ownBlock:=fun e=>by have:=(World.ownsRow.lt hO (b0+1) e.symm).1;have:=ISZ.out;omega
  have HB:=qhz hB;have HIV:=qhz hIv;have HO:=qhz hO;have HP:=qhz hp;have HL7:=qhz hlt7;have HSZ:=qhz hsz;have HNE:=qhz hne;clear hB hIv hO hp hlt7 hsz hIg hg hcl hne
  gi_wp2_with (gi_at_builtin;refine nu _ rfl _ _ rfl (wL.heap.size+2) v (M.take k) rfl (ow HO.out ((But.refl [] _).alloc _) (by simp)) (Nat.le_trans HSZ.out ((But.refl [] _).alloc _).size) (x,y,dx,dy,pw,ph) rfl rfl (Is.fresh _ _ _) HL7.out ?_)
  intro v9 w9 hO9 hg9;have hO9':w9.ownsRow (wL.heap.size+2) 64 6 v9 (M.take k++[(x,y,dx,dy,pw,ph)]).length (bL (M.take k++[(x,y,dx,dy,pw,ph)])):=by rw[List.length_append,List.length_take];exact hO9
  have hsh:∃A c n,v9=.slice A n c:=by
   obtain⟨A,c,e,_⟩:=OwnP6.shape hO9';exact⟨A,c,_,e⟩
  obtain⟨A9,c9,n9,rfl⟩:=hsh;have hN:=Ko HB.out HIV.out HO.out HP.out hg9 hO9' (by have:=ISZ.out;omega) rfl;have hI9:Is w9 (b0+1) 61 #[v]:=(HIV.out.alloc _).grown hg9 HNE.out;have d0:=hI9.cell 0;have e0:=hI9.free 0;have HN:=qhz hN;clear hN hI9 hO9 hO9' hg9 c0 f0 k0 k1 k2 k3 k4 k5 hlv
  gi_wp2
  exact HN.out
 case done=>
  rintro W ⟨hB,v,hIv,hO⟩ hlt hD;rw[List.take_length]at hO;have hsh:∃A cp,v=.slice A M.length cp∧M.length≤cp:=OwnP6.shape hO;obtain⟨A,cp,rfl,hcp⟩:=hsh;have hB2:But [] w (W.putObj wL.heap.size (.deferred none)):=by
   have h:=qU hB (gZ (W:=W) (l:=wL.heap.size) (S:=[wL.heap.size]) (.deferred none) (by simp)) (by simp);refine⟨h.os.trans HBL.out.os,h.tape.trans HBL.out.tape,h.output.trans HBL.out.output,Nat.le_trans HBL.out.size h.size,fun b hb hS=>?_⟩;rw[h.block b (Nat.lt_of_lt_of_le hb HBL.out.size) (by have:=HB0.out;simp;omega)];exact HBL.out.block b hb (by simp)
  have hO2:=ow hO (gZ (W:=W) (l:=wL.heap.size) (S:=[wL.heap.size]) (.deferred none) (by simp)) (by simp);have hps:Pss (W.putObj wL.heap.size (.deferred none)) A M.length M:=OwnP6.pss (base:=wL.heap.size+2) hO2;have c0:=hIv.cell 0;have HB2:=qhz hB2;have HPS:=qhz hps;clear hB hO hO2 hps hB2 hcl hIv
  gi_wp2
  refine⟨by simp,.inl ⟨_,_,rfl,run_takeDeferred hD,?_⟩⟩;exact⟨.slice A M.length cp,by simp[results,results54,go_sem],⟨A,cp,rfl,HPS.out,hcp,HB2.out⟩⟩
theorem Cr(w:World)(hG:GP w)(a b d c l:Int):
 Calls prog 54 #[.agg #[a,b,d,c,l]] w fun e w'=>∃A cap,e=.returned (.slice A (cy a b d c l).length cap)∧Pss w' A (cy a b d c l).length (cy a b d c l)∧(cy a b d c l).length≤cap∧But [] w w':=
 (callsIn_wide (n:=3)).1 (Gk (F:=.wide) (N:=3) rfl rfl (Nat.le_refl _) w hG a b d c l)
end
section
open Go.Shelf
attribute [local go_sem] Oper.semAt_some
def SizI(w:World)(bz:Nat)(Z:Nat→Nat)(k:Nat)(W:World):Prop:=But [bz] w W∧Is W bz 3 #[(Z k:Nat)]
theorem Jh{w W W1:World}{bz k z:Nat}{Z:Nat→Nat}(hB:But [bz] w W)(hI:Is W bz 3 #[.int .i64 (Z k:Nat)])(h1:But [] W W1)(hz:Z (k+1)=z):
 KeepsOthers W (W1.setCell ⟨bz,0,none⟩ (.int .i64 (z:Nat)))∧KeptS (fun b=>b<w.heap.size∧b≠bz) W (W1.setCell ⟨bz,0,none⟩ (.int .i64 (z:Nat)))∧SizI w bz Z (k+1) (W1.setCell ⟨bz,0,none⟩ (.int .i64 (z:Nat))):=by
 have h2:But [bz] W (W1.setCell ⟨bz,0,none⟩ (.int .i64 (z:Nat))):=(h1.more (by simp)).setCell (.inl (by simp)) _;have h3:=(hI.but h1 (by simp)).put 0 (.int .i64 (z:Nat));refine⟨(show KeepsOthers W W1 from⟨h1.size,fun k o hk _=>(h1.block k (Array.getElem?_eq_some_iff.1 hk).1 (by simp)).trans hk⟩).trans (KeepsOthers.setCell _ _ _),⟨h2.size,fun b hb=>h2.block b (Nat.lt_of_lt_of_le hb.1 hB.size) (by simpa using hb.2)⟩,hB.trans h2,?_⟩;rw[hz];simpa using h3
theorem Od{F:Fence}{N:Nat}(hFW:F=Fence.wide)(hro:F.round=none)(hN:3≤N)(w:World)(hG:GP w)(a b d c l:Int):
 CallsIn F N prog 52 #[.agg #[a,.int .i64 b,d,c,l]] w (R1z (.int .i64 (cJ a b d c l:Nat)) w):=by
 have h1:1≤N:=by omega
 have hd:1≤N-1-1:=by omega
 have f16:F.fn 52:=by rw[hFW];trivial
 have f14:F.fn 93:=by rw[hFW];trivial
 have f18:F.fn 92:=by rw[hFW];trivial
 have f24:F.fn 142:=by rw[hFW];trivial
 have hcl:∀W,GP W→But [] w W→Is W (w.heap.size+1+1) 33 #[a,.int .i64 b,d,c,l]→yp F (N-1) prog 142 #[.pointer (some ⟨w.heap.size+1+1,0,none⟩)] (encP (cy a b d c l)) (KeptS fun b=>b<W.heap.size∧b≠w.heap.size+1) (cy a b d c l).length W:=fun W hGW hBW hIW=>
  mC hFW f24 hro (by omega) hIW hGW ⟨hIW.lt,by omega⟩ ⟨(hGW 0 _ rfl).2,by have:=(hG 0 _ rfl).2;omega⟩ (fun b hb=>hb.1)
 have HRW:=qhz fun v n=>xF v a b d c l n;obtain⟨M,hM⟩:=E1 (cy a b d c l);have hM7:M.length≤7:=by rw[hM];exact jk a b d c l
 have HSM:Hid (∀p,p∈M→(p.1≤7∧p.2.1≤7)∧(1≤p.2.2.1∧p.2.2.1≤8)∧(1≤p.2.2.2.1∧p.2.2.2.1≤8)∧(1≤p.2.2.2.2.1∧p.2.2.2.2.1≤1024)∧1≤p.2.2.2.2.2∧p.2.2.2.2.2≤1024):=qhz fun p hp=>mY (by rw[←hM];exact hp);have HR:Hid (cJ a b d c l=mR a b d c l M):=qhz (by rw[hM];rfl);rw[HR.out];rw[←hM]at hcl;obtain⟨R,hR⟩:∃R:P6→Nat,R=fun p=>rowA a b d c l (p.2.2.2.2.1:Nat):=⟨_,rfl⟩
 have HRL:Hid (∀p,R p≤8192):=qhz fun p=>by rw[hR];exact JD _ _ _ _ _ _
 have HRR:Hid (∀p v,Calls prog 93 #[.agg #[a,.int .i64 b,d,c,l],.int .i64 (p.2.2.2.2.1:Nat)] v (R1z (.int .i64 (R p:Nat)) v)):=qhz fun p v=>by rw[hR];exact HRW.out v _
 obtain⟨Z,hZ⟩:∃Z:Nat→Nat,Z=fun k=>mR a b d c l (M.take k):=⟨_,rfl⟩
 have HZN:Hid (∀k p,M[k]? =some p→Z (k+1)=Z k+p.2.2.2.2.2*(1+R p)):=qhz fun k p hp=>by rw[hZ,hR];dsimp only;rw[uL hp];exact Fp _ _ _ _ _ _ _
 have HZ0:Hid (Z 0=0):=qhz (by rw[hZ];rfl);have HZE:Hid (mR a b d c l M=Z M.length):=qhz (by rw[hZ];dsimp only;rw[List.take_length]);have HZL:Hid (∀i,Z i≤58727424):=qhz fun i=>by
  have h:=wJ (a:=a) (b:=b) (d:=d) (c:=c) (l:=l) (L:=M.take i) (fun p hp=>((HSM.out p) (List.mem_of_mem_take hp)).2.2.2.2.2);have h2:(M.take i).length≤7:=by rw[List.length_take];omega
  rw[hZ];dsimp only;omega
 rw[HZE.out];have hI:=Is.fresh w 33 #[a,.int .i64 b,d,c,l];obtain⟨c0,c1,c2,c3,c4,_⟩:=hI.c5;have HG:=qhz hG;have HCL:=qhz hcl;have HFW:=qhz hFW;clear hM hI hG hcl hFW hR hZ HRW HR;refine callsIn_of_wp_marks func52 rfl f16 ?_ hro;simp only[ntmps52,List.size_toArray,List.length_cons,List.length_nil,Nat.reduceAdd,Nat.reduceSub,Array.replicate_succ,Array.replicate_zero,List.push_toArray,List.append_toArray,List.nil_append,List.cons_append]
 gi_wp2_with (gi_at_call 92;refine(dY HFW.out (vm _ _ rfl)).mono ?_;rintro e w' ⟨rfl,rfl⟩)
 clear c0 c1 c2 c3 c4;obtain⟨b0,hb0⟩:=E1 w.heap.size;have hbl:But [] w (((w.alloc (.cells #[a,.int .i64 b,d,c,l] 33)).alloc (.cells #[(0:Int)] 3)).alloc (.cells #[a,.int .i64 b,d,c,l] 33)):=(((But.refl [] w).alloc _).alloc _).alloc _;have i0:=((Is.fresh w 33 #[a,.int .i64 b,d,c,l]).alloc (.cells #[(0:Int)] 3)).alloc (.cells #[a,.int .i64 b,d,c,l] 33);have i1:=(Is.fresh (w.alloc (.cells #[a,.int .i64 b,d,c,l] 33)) 3 #[(0:Int)]).alloc (.cells #[a,.int .i64 b,d,c,l] 33);have i2:=Is.fresh ((w.alloc (.cells #[a,.int .i64 b,d,c,l] 33)).alloc (.cells #[(0:Int)] 3)) 33 #[a,.int .i64 b,d,c,l];have isz:(((w.alloc (.cells #[a,.int .i64 b,d,c,l] 33)).alloc (.cells #[(0:Int)] 3)).alloc (.cells #[a,.int .i64 b,d,c,l] 33)).heap.size=w.heap.size+1+1+1:=by simp
 rw[World.size_alloc]at i1 i2;rw[World.size_alloc]at i2;generalize(((w.alloc (.cells #[a,.int .i64 b,d,c,l] 33)).alloc (.cells #[(0:Int)] 3)).alloc (.cells #[a,.int .i64 b,d,c,l] 33))=wL at*;have hcl:=HCL.out wL (HG.out.but hbl) hbl i2;rw[←hb0]at hcl i0 i1 i2 isz⊢;have HB0:=qhz hb0;have HBL:=qhz hbl;have HI0:=qhz i0;have HI1:=qhz i1;have ISZ:=qhz isz;clear hb0 hbl i0 i1 i2 isz HCL;refine mx (Kp:=KeptS fun b=>b<wL.heap.size∧b≠b0+1) hro h1 (gf:=142) (lb:=#[.pointer (some ⟨b0+1+1,0,none⟩)]) rfl f24 (enters_of func142 (by kernel_rfl) rfl) hcl
  (fun h k=>KeptS.trans h k) (fun h=>⟨h.size,fun b hb=>h.block b hb.1⟩) (fun k=>rfl)
  (SizI wL (b0+1) Z) ?hI ?hstart
  (fun k g=>{tmps:=#[.agg #[a,.int .i64 b,d,c,l],.pointer b0,.int .i64 0,.pointer (some ⟨b0+1,0,none⟩),.pointer (some ⟨g,0,none⟩),.agg #[a,.int .i64 b,d,c,l],.func (.func 142) #[] #[.pointer (some ⟨b0+1+1,0,none⟩)],sU (M.getD k (0,0,0,0,0,0)),undef,undef,undef,undef,undef,undef,undef,undef,undef,undef,undef],defers:=[]})
  64 (vX M) ?assign ?body ?done
 case hI=>exact fun k W W' h hk=>⟨qU h.1 hk (fun b hb=>by simp only[List.mem_cons,List.not_mem_nil,or_false]at hb;rcases hb with rfl|rfl<;>omega),h.2.but hk (by have:=ISZ.out;simp;omega)⟩
 case hstart=>exact⟨But.refl _ _,by rw[HZ0.out];exact HI1.out⟩
 case assign=>
  intro l k W K hk hK;unfold encP;unfold vX at hK;generalize M.getD k (0,0,0,0,0,0)=p at*;obtain⟨x,y,dx,dy,pw,ph⟩:=p;unfold sU dG at*;dsimp only at *
  gi_wp2
  exact hK
 case body=>
  rintro ll k g W ⟨hB,hIz⟩ hk hg hIg hsz;have hp:M[k]? =some (M.getD k (0,0,0,0,0,0)):=by rw[List.getD_eq_getElem?_getD,List.getElem?_eq_getElem hk];rfl
  unfold vX at hIg;generalize M.getD k (0,0,0,0,0,0)=p at*;obtain⟨x,y,dx,dy,pw,ph⟩:=p;unfold sU;unfold dG at hIg;dsimp only at hIg⊢;have hpm:=HSM.out _ (List.mem_of_getElem? hp);dsimp only at hpm;have hz:=HZN.out k _ hp;dsimp only at hz;obtain⟨r,hr⟩:=E1 (R (x,y,dx,dy,pw,ph));have hr2:r≤8192:=by rw[hr];exact HRL.out _
  have HRP:Hid (∀v,Calls prog 93 #[.agg #[a,.int .i64 b,d,c,l],pw] v (R1z (.int .i64 (r:Nat)) v)):=qhz fun v=>by
   have h:=HRR.out (x,y,dx,dy,pw,ph) v;dsimp only at h;rw[←hr]at h;exact h
  rw[←hr]at hz;obtain⟨m,hm⟩:=E1 (ph*(1+r));rw[←hm]at hz;have hph2:ph≤1024:=hpm.2.2.2.2.2;have hm2:m≤8389632:=by rw[hm];show _≤1024*8193;exact Nat.mul_le_mul hph2 (by omega)
  have e1:(ph:Int)*(1+(r:Int))=(m:Int):=by rw[hm,Int.natCast_mul,Int.natCast_add];rfl
  have hn:=HZL.out k;obtain⟨n,hn0⟩:=E1 (Z k);have HIZ:=qhz hIz;rw[←hn0]at hz hn hIz;have HZZ:=qhz hz;have v1:IntKind.i64.wrap (1+(r:Int))=1+(r:Int):=by rw[IntKind.wrap_i64];omega
  have v2:IntKind.i64.wrap (m:Int)=(m:Int):=by rw[IntKind.wrap_i64];omega
  have v3:IntKind.i64.wrap ((n:Int)+(m:Int))=(n:Int)+(m:Int):=by rw[IntKind.wrap_i64];omega
  have V4:Hid ((n:Int)+(m:Int)=((n+m:Nat):Int)):=qhz (by omega);have hIh:Is W b0 33 #[a,.int .i64 b,d,c,l]:=HI0.out.but hB (by simp);have HC:Hid (∀v,But [] W v→(v.cell? ⟨b0,0,none⟩=some (.int .i64 a)∧v.cell? ⟨b0,1,none⟩=some (.int .i64 b)∧v.cell? ⟨b0,2,none⟩=some (.int .i64 d)∧v.cell? ⟨b0,3,none⟩=some (.int .i64 c)∧v.cell? ⟨b0,4,none⟩=some (.int .i64 l))∧v.cell? ⟨g,4,none⟩=some (.int .i64 pw)∧v.cell? ⟨g,5,none⟩=some (.int .i64 ph)∧v.cell? ⟨b0+1,0,none⟩=some (.int .i64 n)∧v.frozen? ⟨b0+1,0,none⟩=false):=qhz fun v hv=>by
   have hh:=hIh.but hv (by simp);have hg:=hIg.but hv (by simp);have hs:=hIz.but hv (by simp);exact⟨⟨hh.cell 0,hh.cell 1,hh.cell 2,hh.cell 3,hh.cell 4⟩,hg.cell 4,hg.cell 5,hs.cell 0,hs.free 0⟩
  have HB:=qhz hB;clear hB hIz hp hpm hz hr hm hn0 hIh hIg hg hsz hcl;refine wpIn_block ?_;refine uv HFW.out (S:=fun v=>But [] W v) (R:=fun v v'=>But [] v v') (z:=10) (fun w=>But.refl [] w) (by kernel_rfl) (by kernel_rfl) (fun⟨a,w,h⟩=>h) ((But.refl [] W).drew) ?_;refine go (fun w=>But.refl [] w) (fun x y z h k=>h.trans k) (i:=0) (v:=.int .i64 (n:Nat)) rfl (by kernel_rfl) (by decide) (by kernel_rfl) (by kernel_rfl) (by kernel_rfl) (fun _ _ _ h=>h) (YieldsR.read (fun w=>But.refl [] w) ?_ fun w hS=>?_) ?_
  ·go_simp
  ·obtain⟨⟨y0,y1,y2,y3,y4⟩,y5,y6,y7,y8⟩:=HC.out w hS;go_simp
  refine go (fun w=>But.refl [] w) (fun x y z h k=>h.trans k) (i:=1) (v:=.pointer (some ⟨g,5,none⟩)) rfl (by kernel_rfl) (by decide) (by kernel_rfl) (by kernel_rfl) (by kernel_rfl) (fun _ _ _ h=>h) (YieldsR.read (fun w=>But.refl [] w) ?_ fun w hS=>?_) ?_
  ·go_simp
  ·go_simp
  refine go (fun w=>But.refl [] w) (fun x y z h k=>h.trans k) (i:=2) (v:=.int .i64 (ph:Nat)) rfl (by kernel_rfl) (by decide) (by kernel_rfl) (by kernel_rfl) (by kernel_rfl) (fun _ _ _ h=>h) (YieldsR.read (fun w=>But.refl [] w) ?_ fun w hS=>?_) ?_
  ·go_simp
  ·obtain⟨⟨y0,y1,y2,y3,y4⟩,y5,y6,y7,y8⟩:=HC.out w hS;go_simp
  refine go (fun w=>But.refl [] w) (fun x y z h k=>h.trans k) (i:=3) (v:=.agg #[a,.int .i64 b,d,c,l]) rfl (by kernel_rfl) (by decide) (by kernel_rfl) (by kernel_rfl) (by kernel_rfl) (fun _ _ _ h=>h) (YieldsR.read (fun w=>But.refl [] w) ?_ fun w hS=>?_) ?_
  ·go_simp
  ·obtain⟨⟨y0,y1,y2,y3,y4⟩,y5,y6,y7,y8⟩:=HC.out w hS;go_simp
  refine go (fun w=>But.refl [] w) (fun x y z h k=>h.trans k) (i:=4) (v:=.pointer (some ⟨g,4,none⟩)) rfl (by kernel_rfl) (by decide) (by kernel_rfl) (by kernel_rfl) (by kernel_rfl) (fun _ _ _ h=>h) (YieldsR.read (fun w=>But.refl [] w) ?_ fun w hS=>?_) ?_
  ·go_simp
  ·go_simp
  refine go (fun w=>But.refl [] w) (fun x y z h k=>h.trans k) (i:=5) (v:=.int .i64 (pw:Nat)) rfl (by kernel_rfl) (by decide) (by kernel_rfl) (by kernel_rfl) (by kernel_rfl) (fun _ _ _ h=>h) (YieldsR.read (fun w=>But.refl [] w) ?_ fun w hS=>?_) ?_
  ·go_simp
  ·obtain⟨⟨y0,y1,y2,y3,y4⟩,y5,y6,y7,y8⟩:=HC.out w hS;go_simp
  refine go (fun w=>But.refl [] w) (fun x y z h k=>h.trans k) (i:=6) (v:=.int .i64 (r:Nat)) rfl (by kernel_rfl) (by decide) (by kernel_rfl) (by kernel_rfl) (by kernel_rfl) (fun _ _ _ h=>h) (.inl ⟨?_,fun w hS=>.inr ⟨_,_,?_,(HRP.out w).mono ?_⟩⟩) ?_
  ·go_simp
  ·go_simp
  ·rintro e wy ⟨rfl,hB⟩;exact⟨rfl,hS.trans hB,hB⟩
  refine go (fun w=>But.refl [] w) (fun x y z h k=>h.trans k) (i:=7) (v:=.int .i64 (1+(r:Int))) rfl (by kernel_rfl) (by decide) (by kernel_rfl) (by kernel_rfl) (by kernel_rfl) (fun _ _ _ h=>h) (YieldsR.read (fun w=>But.refl [] w) ?_ fun w hS=>?_) ?_
  ·go_simp
  ·go_simp
  refine go (fun w=>But.refl [] w) (fun x y z h k=>h.trans k) (i:=8) (v:=.int .i64 (m:Nat)) rfl (by kernel_rfl) (by decide) (by kernel_rfl) (by kernel_rfl) (by kernel_rfl) (fun _ _ _ h=>h) (YieldsR.read (fun w=>But.refl [] w) ?_ fun w hS=>?_) ?_
  ·go_simp
  ·go_simp
  refine go (fun w=>But.refl [] w) (fun x y z h k=>h.trans k) (i:=9) (v:=.int .i64 ((n:Int)+(m:Int))) rfl (by kernel_rfl) (by decide) (by kernel_rfl) (by kernel_rfl) (by kernel_rfl) (fun _ _ _ h=>h) (YieldsR.read (fun w=>But.refl [] w) ?_ fun w hS=>?_) ?_
  ·go_simp
  ·go_simp
  refine MS rfl (by kernel_rfl) (by kernel_rfl) fun w1 hR1 hS1 K' hK=>?_;have y7:=(HC.out w1 hS1).2.2.2.1;have y8:=(HC.out w1 hS1).2.2.2.2;have HS1:=qhz hS1;clear hR1 hS1;go_simp;refine hK _ _ ?_;rw[V4.out];exact Jh HB.out HIZ.out HS1.out HZZ.out
 case done=>
  rintro W ⟨hB,hIz⟩ hlt hD;have hB2:But [] w (W.putObj wL.heap.size (.deferred none)):=by
   have h:=qU hB (gZ (W:=W) (l:=wL.heap.size) (S:=[wL.heap.size]) (.deferred none) (by simp)) (by simp);refine⟨h.os.trans HBL.out.os,h.tape.trans HBL.out.tape,h.output.trans HBL.out.output,Nat.le_trans HBL.out.size h.size,fun b hb hS=>?_⟩;rw[h.block b (Nat.lt_of_lt_of_le hb HBL.out.size) (by have:=HB0.out;simp;omega)];exact HBL.out.block b hb (by simp)
  have c0:=hIz.cell 0;have HB2:=qhz hB2;clear hB hB2 hcl hIz
  gi_wp2
  refine⟨by simp,.inl ⟨_,_,rfl,run_takeDeferred hD,?_⟩⟩;exact⟨.int .i64 (Z M.length:Nat),by simp[results,results52,go_sem],⟨rfl,HB2.out⟩⟩
theorem zQ(w:World)(hG:GP w)(a b d c l:Int):
 Calls prog 52 #[.agg #[a,b,d,c,l]] w (R1z (.int .i64 (cJ a b d c l:Nat)) w):=
 (callsIn_wide (n:=3)).1 (Od (F:=.wide) (N:=3) rfl rfl (Nat.le_refl _) w hG a b d c l)
end
end Go.Proofs.YtbanopnofpjnbaaGreatDoor
