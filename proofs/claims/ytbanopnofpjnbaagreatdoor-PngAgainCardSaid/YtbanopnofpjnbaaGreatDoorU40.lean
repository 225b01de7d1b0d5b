/- Own texts in one: ZlA, ZlM, PyE. -/
import Derived.Test.YtbanopnofpjnbaaGreatDoorU15
import Derived.Test.YtbanopnofpjnbaaGreatDoorU36
set_option maxRecDepth 1000000
set_option linter.unusedVariables false
set_option maxHeartbeats 4000000
namespace Go.Proofs.YtbanopnofpjnbaaGreatDoor
open Go Go.RowKit Tryz
theorem R4(b:Nat)(h:b<256):bits .and .i64 (b:Int) 32=((32*(b/32%2):Nat):Int):=by
 have h0:∀b,b<256→bits .and .i64 ((b:Nat):Int) 32=((32*(b/32%2):Nat):Int):=by decide+kernel
 exact h0 b h
theorem Kk(w:World){s:ByteArray}(hs:s.size<2):
 Calls prog 89 #[s] w fun e w'=>e=.returned (.int .i64 3)∧w=w':=by
 have d:decide ((s.size:Int)<2)=true:=by simp;omega
 go_enter func89,ntmps89
 go_wp2;go_ret;exact⟨rfl,rfl⟩
theorem AO{s:ByteArray}{k:Nat}(hk:k<s.size)(w:World):(Instr.index 9 (.string s) (.int .i64 (k:Int))).run prog w=.ok (.int .u8 (s[k].toNat:Nat)) w:=by
 rw[run_index_string w 9 s .i64 _ underlying9,dif_pos (by omega)];simp
theorem Kl(w:World){s:ByteArray}{x y:Nat}(hs:2≤s.size)(hx:x=s[0].toNat)(hy:y=s[1].toNat):
 Calls prog 89 #[s] w (R1z (.int .i64 (if x%16≠8∨7<x/16∨(256*x+y)%31≠0∨y/32%2=1 then 16 else 0)) w):=by
 have d:decide ((s.size:Int)<2)=false:=by simp;omega
 have x1:=s[0].toNat_lt;have y1:=s[1].toNat_lt;have k0:∀w,(Instr.index 9 (.string s) (.int .i64 0)).run prog w=.ok (.int .u8 (s[0].toNat:Nat)) w:=fun w=>AO (k:=0) (by omega) w;have k1:∀w,(Instr.index 9 (.string s) (.int .i64 1)).run prog w=.ok (.int .u8 (s[1].toNat:Nat)) w:=fun w=>AO (k:=1) (by omega) w;simp only[←hx]at k0 x1;simp only[←hy]at k1 y1;obtain⟨r,hr⟩:∃r:Int,r=if x%16≠8∨7<x/16∨(256*x+y)%31≠0∨y/32%2=1 then 16 else 0:=⟨_,rfl⟩
 rw[←hr];have HR:=qhz hr;have h32:=R4 y (by omega);clear hx hy hr
 go_enter func89,ntmps89
 go_wp2
 go_quiet (fail)
 go_wp2
 all_goals
  go_ret;refine⟨?_,(But.refl [] w).drewN nq⟩;rw[HR.out];clear HR k0 k1 h32;simp at*;omega
theorem F2(w:World){t x:ByteArray}(ht:t.size≤1000000000000000)(hx:x.size≤maxLen):
 Calls prog 91 #[t,x] w (R1z (.int .i64 (if t.size<4 then 3 else if t.data.toList.take 4≠br (eD x.data.toList)then 17 else if 4<t.size then 4 else 0)) w):=by
 have HS:=qhz (fun v=>DY v hx);obtain⟨F,hF⟩:=E1 (br (eD x.data.toList));rw[←hF]at HS⊢;obtain⟨r,hr⟩:∃r:Int,r=if t.size<4 then 3 else if t.data.toList.take 4≠F then 17 else if 4<t.size then 4 else 0:=⟨_,rfl⟩
 rw[←hr];have HR:=qhz hr;clear hx hr hF
 by_cases h4:t.size<4
 ·have d:decide ((t.size:Int)<4)=true:=by simp;omega
  have HR2:=qhz (show r=3 by rw[HR.out,if_pos h4]);clear HR
  go_enter func91,ntmps91
  go_wp2;go_ret;exact⟨by rw[HR2.out];rfl,But.refl [] w⟩
 ·have d:decide ((t.size:Int)<4)=false:=by simp;omega
  have hsl:∀w,(Instr.slice 9 (.string t) none (some (.int .i64 4)) none).run prog w=.ok (.string (strL (t.data.toList.take 4))) w:=fun w=>by
   rw[run_slice_string_to_if w 9 t .i64 4 underlying9,if_pos (by omega),show((4:Int).toNat)=4 from rfl,gO,List.drop_zero]
  obtain⟨y,hy⟩:=E1 (strL (t.data.toList.take 4));obtain⟨z,hz⟩:=E1 (strL F);rw[←hy]at hsl;rw[←hz]at HS;have hyz:y=z↔t.data.toList.take 4=F:=by
   rw[hy,hz];exact⟨fun h=>by rw[←aj (t.data.toList.take 4),h,aj],fun h=>by rw[h]⟩
  have HYZ:=qhz hyz;have h4':¬t.size<4:=h4;clear hy hz hyz h4
  by_cases hq:y=z
  ·subst hq
   by_cases h5:4<t.size
   ·have d5:decide ((4:Int)<(t.size:Int))=true:=by simp;omega
    have HR2:=qhz (show r=4 by rw[HR.out,if_neg h4',if_neg (by have:=HYZ.out.1 rfl;simp[this]),if_pos h5]);clear HR HYZ h5
    go_enter func91,ntmps91
    go_upto_region 3 with(fail)
    go_region_with (go_at_call 72;refine(HS.out _).mono ?_;rintro e w1 ⟨rfl,hB⟩;have HB:=qhz hB;clear hB)
    go_wp2;go_ret;exact⟨by rw[HR2.out];rfl,((But.refl [] w).drew).trans HB.out⟩
   ·have d5:decide ((4:Int)<(t.size:Int))=false:=by simp;omega
    have HR2:=qhz (show r=0 by rw[HR.out,if_neg h4',if_neg (by have:=HYZ.out.1 rfl;simp[this]),if_neg h5]);clear HR HYZ h5
    go_enter func91,ntmps91
    go_upto_region 3 with(fail)
    go_region_with (go_at_call 72;refine(HS.out _).mono ?_;rintro e w1 ⟨rfl,hB⟩;have HB:=qhz hB;clear hB)
    go_wp2;go_ret;exact⟨by rw[HR2.out];rfl,((But.refl [] w).drew).trans HB.out⟩
  ·have HR2:=qhz (show r=17 by rw[HR.out,if_neg h4',if_pos (fun h=>hq (HYZ.out.2 h))]);have hq2:(!y.toList==z.toList)=true:=by
    rw[ByteArray.toList_eq,ByteArray.toList_eq,Bool.not_eq_true',beq_eq_false_iff_ne];exact fun h=>hq (by apply ByteArray.ext;apply Array.ext';exact h)
   clear HR HYZ
   go_enter func91,ntmps91
   go_upto_region 3 with(fail)
   go_region_with (go_at_call 72;refine(HS.out _).mono ?_;rintro e w1 ⟨rfl,hB⟩;have HB:=qhz hB;clear hB)
   go_wp2;go_ret;exact⟨by rw[HR2.out];rfl,((But.refl [] w).drew).trans HB.out⟩
theorem QO(L:List UInt8):¬kn ((120::1::L).getD 0 0).toNat ((120::1::L).getD 1 0).toNat:=by
 show ¬kn (120:UInt8).toNat (1:UInt8).toNat;decide
theorem De{l:List UInt8}(h:l.length≤65535)(F:List UInt8):gy (strL ((dH l).data.toList++F)) (l.length:Nat)=(l,(dH l).size,0):=by
 rw[fR,jO];exact MC h _
theorem Ig(l F:List UInt8):(zipL l F).size=2+(dH l).size+F.length:=by
 unfold zipL;rw[ac];simp only[List.length_cons,List.length_append];show(dH l).data.toList.length+F.length+1+1=_;rw[Array.length_toList];show(dH l).size+F.length+1+1=_;omega
theorem PO{l:List UInt8}(h:l.length≤65535)(F:List UInt8):
 unzT (zipL l F) (l.length:Nat)=if F.length<4 then([],3)else if ofL (F.take 4)≠eD l then([],17)else if 4<F.length then([],4)else(l,0):=by
 have hs:=Ig l F;have hl:(zipL l F).data.toList=120::1::((dH l).data.toList++F):=by unfold zipL;rw[aj]
 have hb:=De h F;have hd2:(120::1::((dH l).data.toList++F)).drop 2=(dH l).data.toList++F:=rfl;have hbl:(dH l).data.toList.length=(dH l).size:=by rw[Array.length_toList];rfl
 have hdr:(120::1::((dH l).data.toList++F)).drop (2+(dH l).size)=F:=by
  rw[←List.drop_drop,hd2,←hbl,List.drop_append_of_le_length (Nat.le_refl _),List.drop_length,List.nil_append]
 unfold unzT;rw[hl,hd2,hb,hs];dsimp only;rw[if_neg (by omega),if_neg (QO _),if_neg (by decide),hdr]
 by_cases h4:F.length<4
 ·rw[if_pos h4,if_pos (by omega)]
 ·rw[if_neg h4,if_neg (by omega)]
  by_cases ho:ofL (F.take 4)≠eD l
  ·rw[if_pos ho,if_pos ho]
  ·rw[if_neg ho,if_neg ho]
   by_cases h5:4<F.length
   ·rw[if_pos h5,if_pos (by omega)]
   ·rw[if_neg h5,if_neg (by omega)]
theorem M5{l:List UInt8}(h:l.length≤65535):unzT (dK l) (l.length:Nat)=(l,0):=by
 unfold dK;rw[PO h,if_neg (by rw[az];omega),List.take_of_length_le (by rw[az];exact Nat.le_refl _),if_neg (by rw[gJ (pc l)];simp),if_neg (by rw[az];omega)]
theorem LW{a b d c l:Int}{pal tr:ByteArray}{has:Bool}{raw:ByteArray}(h:oT a b d c l raw.size≠0):aG a b d c l pal tr has raw=((0,0,⟨#[]⟩),oT a b d c l raw.size):=by
 unfold oT at h⊢
 by_cases h0:ak a b d c l≠0
 ·rw[if_pos h0];exact Ez h0
 ·have h0:=Classical.not_not.1 h0;rw[if_neg (fun h=>h h0)]at h⊢;obtain⟨W,H,D,C,R⟩:=dA h0
  by_cases h1:raw.size<cJ a b d c l
  ·rw[if_pos h1];exact Gx h0 R h1
  ·rw[if_neg h1]at h⊢
   by_cases h2:cJ a b d c l<raw.size
   ·rw[if_pos h2];exact Lf h0 R h2
   ·rw[if_neg h2]at h;exact absurd rfl h
theorem vO{a b d c l:Int}{m:Nat}(h:oT a b d c l m=0):ak a b d c l=0∧m=cJ a b d c l:=by
 unfold oT at h
 by_cases h0:ak a b d c l≠0
 ·rw[if_pos h0]at h;exact absurd h h0
 ·rw[if_neg h0]at h
  by_cases h1:m<cJ a b d c l
  ·rw[if_pos h1]at h;exact absurd h (by decide)
  ·rw[if_neg h1]at h
   by_cases h2:cJ a b d c l<m
   ·rw[if_pos h2]at h;exact absurd h (by decide)
   ·exact⟨Classical.not_not.1 h0,by omega⟩
theorem oK{w W:World}{b4:Nat}{tmps:Array Value}{er:Int}(hI:Is W b4 23 #[(0:Int),(0:Int),.string ⟨#[]⟩])(hB:But [] w W)(hb:w.heap.size≤b4)(ht:tmps[4]? =some (.pointer b4))(h5:tmps[5]? =some (.int .i64 er))(x y:Int)(s:ByteArray){r1:Int×Int×ByteArray}{r2:Int}(hr1:r1=(x,y,s))(hr2:r2=er):
 bodyPost prog Tryz.f24 (R1z (.tuple #[.agg #[r1.1,r1.2.1,r1.2.2],r2]) w) Exit.ret {tmps:=tmps,defers:=[]}
  (((W.setCell ⟨b4,0,none⟩ (.int .i64 x)).setCell ⟨b4,1,none⟩ (.int .i64 y)).setCell ⟨b4,2,none⟩ (.string s)):=by
 subst hr1 hr2;have h0:=hI.put 0 (.int .i64 x);have h1:=h0.put 1 (.int .i64 y);have h2:=h1.put 2 (.string s);have k0:=hB.setCell (p:=⟨b4,0,none⟩) (.inr hb) (.int .i64 x);have k1:=k0.setCell (p:=⟨b4,1,none⟩) (.inr hb) (.int .i64 y);have k2:=k1.setCell (p:=⟨b4,2,none⟩) (.inr hb) (.string s);obtain⟨V,hV⟩:=E1 ((((W.setCell ⟨b4,0,none⟩ (.int .i64 x)).setCell ⟨b4,1,none⟩ (.int .i64 y)).setCell ⟨b4,2,none⟩ (.string s)));rw[←hV]at h2 k2⊢;clear h0 h1 k0 k1 hV;obtain⟨e0,e1,e2,_⟩:=h2.c3;refine bodyPost_ret (v:=.tuple #[.agg #[x,y,s],r2]) ?_ rfl ⟨rfl,k2⟩;simp[results,results24,go_sem,e0,e1,e2,ht,h5]
theorem Pss.off{w:World}{A:Option Addr}{n bm:Nat}{L:List P6}{t:TypeId}{v0 v1 v2 v3 v4 s6 s8:Value}{s5:ByteArray}{v7 v9:Value}(h:Pss w A n L)(hI:Is w bm t #[v0,v1,v2,v3,v4,.string s5,s6,v7,s8,v9])(h6:∀x,s6≠ .int .i64 x)(h8:∀x,s8≠ .int .i64 x)(h7:∀x,v7≠ .int .i64 x)(h9:∀x,v9≠ .int .i64 x)(hn:0<n):∃g o,A=some ⟨g,o,none⟩∧g≠bm:=by
 obtain⟨g,o,e,hg,hc⟩:=h.2 hn;refine⟨g,o,e,?_⟩;rintro rfl;have hl:0<L.length:=by have:=h.1;omega
 have key:∀k,k<6→∃x,w.cell? ⟨g,o+k,none⟩=some (.int .i64 x):=fun k hk=>by
  have h1:=hc 0 k hl hk;rw[show o+0*6+k=o+k by omega]at h1;have hk6:(dG L[0])[k]? =some (.int .i64 ((dG L[0]).map (fun v=>match v with|.int _ x=>x|_=>0))[k]!)∨True:=.inr trivial;rw[h1];have:k=0∨k=1∨k=2∨k=3∨k=4∨k=5:=by omega
  rcases this with rfl|rfl|rfl|rfl|rfl|rfl<;>exact⟨_,rfl⟩
 have cell:∀i x,w.cell? ⟨g,i,none⟩=some (.int .i64 x)→(i<5):=fun i x hi=>by
  rw[Is.cell hI]at hi;refine Nat.lt_of_not_le fun h5=>?_
  match i,h5 with
  |5,_=>cases hi
  |6,_=>exact h6 x (Option.some.inj hi)
  |7,_=>exact h7 x (Option.some.inj hi)
  |8,_=>exact h8 x (Option.some.inj hi)
  |9,_=>exact h9 x (Option.some.inj hi)
  |i+10,_=>simp at hi
 obtain⟨x,hx⟩:=key 5 (by decide);have:=cell _ _ hx;omega
theorem Pss.keep2{w w':World}{A:Option Addr}{n gp bm:Nat}{L:List P6}{l:List UInt8}(h:Pss w A n L)(hb:BytesB w gp l)(hm:0<n→∃g o,A=some ⟨g,o,none⟩∧g≠bm)(hw:But [bm,gp] w w'):Pss w' A n L:=
 ⟨h.1,fun hn=>by
  obtain⟨g,o,e,hg,hc⟩:=h.2 hn;have h0:0<L.length:=by rw[h.1];exact hn
  have hc0:w.cell? ⟨g,o+0*6+0,none⟩=some (.int .i64 (L[0].1:Nat)):=hc 0 0 h0 (by decide);have hoff:=hb.off hc0;obtain⟨g',o',e',hne⟩:=hm hn;rw[e]at e';injection e' with e';injection e' with e1 _;refine⟨g,o,e,Nat.lt_of_lt_of_le hg hw.size,fun i k hi hk=>?_⟩;have h1:=hc i k hi hk;rw[←h1];rw[List.mem_singleton]at hoff;have hb:=hw.block g hg (by simp only[List.mem_cons,List.not_mem_nil,or_false];rintro(h|h);exact hne (e1▸h);exact hoff h);simp[World.cell?,hb]⟩
theorem But.hide2{w w5 w':World}{bm gp:Nat}(h:But [] w w5)(k:But [bm,gp] w5 w')(hg:w.heap.size≤gp)(hm:w.heap.size≤bm):But [] w w':=
 ⟨k.os.trans h.os,k.tape.trans h.tape,k.output.trans h.output,Nat.le_trans h.size k.size,fun i hi _=>(k.block i (Nat.lt_of_lt_of_le hi h.size) (by simp only[List.mem_cons,List.not_mem_nil,or_false];omega)).trans (h.block i hi (by simp))⟩
theorem FY(w:World)(hG:GP w){a b d c l:Int}{pal tr raw:ByteArray}{has:Bool}(hr:raw.size≤140737488351232)(h0:oT a b d c l raw.size≠0):
 Calls prog 24 #[.agg #[a,b,d,c,l,pal,tr,has],raw] w fun r w'=>r=.returned (.tuple #[.agg #[.int .i64 (aG a b d c l pal tr has raw).1.1,.int .i64 (aG a b d c l pal tr has raw).1.2.1,.string (aG a b d c l pal tr has raw).1.2.2],.int .i64 (aG a b d c l pal tr has raw).2])∧But [] w w':=by
 obtain⟨er,her⟩:=E1 (oT a b d c l raw.size);have HR:=qhz (LW (pal:=pal) (tr:=tr) (has:=has) h0);rw[←her]at HR h0;have q1:(er !=0)=true:=by simpa using h0
 have HR1:Hid ((aG a b d c l pal tr has raw).1=(0,0,⟨#[]⟩)):=qhz (by rw[HR.out]);have HR2:Hid ((aG a b d c l pal tr has raw).2=er):=qhz (by rw[HR.out]);obtain⟨R1,hR1⟩:=E1 (aG a b d c l pal tr has raw);rw[←hR1]at HR1 HR2⊢;clear hR1 HR;obtain⟨b2,hb2⟩:=E1 w.heap.size;obtain⟨b4,hb4⟩:=E1 (w.heap.size+1);have hB1:=((But.refl [] w).alloc (.cells #[a,b,d,c,l,pal,tr,has] 35)).alloc (.cells #[(0:Int),(0:Int),.string ⟨#[]⟩] 23);obtain⟨w1,hw1⟩:=E1 ((w.alloc (.cells #[a,b,d,c,l,pal,tr,has] 35)).alloc (.cells #[(0:Int),(0:Int),.string ⟨#[]⟩] 23));have HI1:Hid (ImS b2 b4 #[.int .i64 a,.int .i64 b,.int .i64 d,.int .i64 c,.int .i64 l,.string pal,.string tr,.bool has] w1):=qhz (by
  refine⟨?_,?_⟩
  ·rw[hw1,hb2];exact(Is.fresh _ _ _).alloc _
  ·rw[hw1,hb4];have h:=Is.fresh (w.alloc (.cells #[a,b,d,c,l,pal,tr,has] 35)) 23 #[(0:Int),(0:Int),.string ⟨#[]⟩];rw[show(w.alloc (.cells #[a,b,d,c,l,pal,tr,has] 35)).heap.size=w.heap.size+1 by simp]at h;exact h)
 rw[←hw1]at hB1;have HB1:=qhz hB1;have HW4:Hid (w.heap.size≤b4):=qhz (by rw[hb4];omega);have HDE:Hid (∀v,But [] w1 v→Calls prog 53 #[.agg #[a,b,d,c,l],raw.size] v (R1z (.int .i64 er) v)):=qhz fun v hv=>by rw[her];exact mz v ((hG.but hB1).but hv) _ _ _ _ _ hr
 clear her hG hB1
 go_enter func24,ntmps24
 go_upto_region 1 with(fail)
 rw[←hw1,←hb4,←hb2];clear hw1 hb2 hb4;obtain⟨c0,c1,c2,c3,c4,c5,c6,c7,hgl⟩:=HI1.out.1.c8
 go_wp2_with fail
 refine(HDE.out _ (But.refl _ _)).mono ?_;rintro e w2 ⟨rfl,hB2⟩;have HI2:=qhz (HI1.out.but hB2);have HB2:=qt HB1 hB2;have HB12:=qhz hB2;clear hB2;clear c0 c1 c2 c3 c4 c5 c6 c7 hgl;have d0:=HI2.out.2.cell 0;have f0:=HI2.out.2.free 0;have d1:=HI2.out.2.cell 1;have f1:=HI2.out.2.free 1;have d2:=HI2.out.2.cell 2;have f2:=HI2.out.2.free 2;have hgl4:=HI2.out.2.lt;go_wp2;exact oK HI2.out.2 HB2.out HW4.out (by rfl) (by rfl) 0 0 ⟨#[]⟩ HR1.out HR2.out
theorem Kj(w:World)(hG:GP w){W H D C:Nat}{l:Int}{pal tr raw:ByteArray}{has:Bool}(hd0:oT (W:Int) H D C l raw.size=0)(h0:ak (W:Int) H D C l=0)(R:fl (W:Int) H D C l W H D C)(hp:pal.size≤140737488351232)(ht:tr.size≤140737488351232)(hr:raw.size≤140737488351232):
 Calls prog 24 #[.agg #[W,H,D,C,l,pal,tr,has],raw] w fun r w'=>r=.returned (.tuple #[.agg #[.int .i64 (aG W H D C l pal tr has raw).1.1,.int .i64 (aG W H D C l pal tr has raw).1.2.1,.string (aG W H D C l pal tr has raw).1.2.2],.int .i64 (aG W H D C l pal tr has raw).2])∧But [] w w':=by
 have hraw:=(vO hd0).2;obtain⟨SS,hSS⟩:∃SS:ShP,SS=⟨W,H,D,C,pal.data.toList,tr.data.toList,has⟩:=⟨_,rfl⟩
 obtain⟨L0,hL0⟩:=E1 ((gn l).filter (cj W H));have hsz:=jP pal.data.toList tr.data.toList has h0 R;have hrun:=OE (pal:=pal) (tr:=tr) (has:=has) h0 R hraw;rw[←hSS,←hL0]at hsz hrun;have w2l:=R.w2;have h2l:=R.h2;have harea:=R.area;obtain⟨np,hnp⟩:=E1 L0.length;obtain⟨P,hP⟩:=E1 (L0.map (p6 W H));have hnp7:np≤7:=by
  have h:=jk (W:Int) H D C l;rw[jl h0 R,←hL0,List.length_map]at h;omega
 have HPA:Hid (∀(i:Nat) (q:P6),P[i]? =some q→∃p,L0[i]? =some p∧q=p6 W H p∧p∈gn l∧cj W H p=true):=qhz fun i q hq=>by
  rw[hP,List.getElem?_map]at hq;cases hp:L0[i]? with
  |none=>rw[hp]at hq;cases hq
  |some p=>
   rw[hp]at hq;have hm:p∈L0:=List.mem_of_getElem? hp;rw[hL0]at hm;exact⟨p,rfl,(Option.some.inj hq).symm,(List.mem_filter.1 hm).1,(List.mem_filter.1 hm).2⟩
 have HHEAD:Hid (∀i j,(bS W H (L0.drop i)).head? =some j→j.first=true):=qhz fun i=>Ah _ fun p hp=>by
  have h:=List.mem_of_mem_drop hp;rw[hL0]at h;exact(List.mem_filter.1 h).2
 obtain⟨n8,hn8⟩:∃n8,n8=8*(W*H):=⟨_,rfl⟩
 have hn8l:n8≤32768:=by omega
 obtain⟨w8,hw8⟩:∃w8,w8=8*W:=⟨_,rfl⟩
 have e1:(8:Int)*(W:Int)=(w8:Int):=by omega
 have e2:(w8:Int)*(H:Int)=(n8:Int):=by rw[hw8,hn8,←Int.natCast_mul,Nat.mul_assoc]
 have t1:=af (show w8<1000000000000000 by omega);have t2:=af (show n8<1000000000000000 by omega);have HIM:Hid (imgA W H D C l pal tr has raw=runI SS (bS W H (L0.drop 0)) raw.data.toList [] (List.replicate n8 0)):=qhz (by rw[List.drop_zero,hn8];exact hrun);have HSJ:Hid (raw.size=fS SS (bS W H (L0.drop 0))):=qhz (by rw[List.drop_zero,←hsz,hraw]);obtain⟨IM,hIM⟩:=E1 (imgA W H D C l pal tr has raw);rw[←hIM]at HIM;have HERR:Hid (∀e,IM=([],e)→e≠0→aG W H D C l pal tr has raw=((0,0,⟨#[]⟩),e)):=qhz fun e h he=>pX (by rw[←hIM];exact h) he;have HGOOD:Hid (∀x,IM=(x,0)→aG W H D C l pal tr has raw=(((W:Int),(H:Int),strL x),0)):=qhz fun x h=>Ak (by rw[←hIM];exact h);obtain⟨R1,hR1⟩:=E1 (aG W H D C l pal tr has raw);rw[←hR1]at HERR HGOOD⊢;have HNP:=qhz hnp;obtain⟨er,her⟩:=E1 (oT (W:Int) H D C l raw.size);obtain⟨b2,hb2⟩:=E1 w.heap.size;obtain⟨b4,hb4⟩:=E1 (w.heap.size+1);have hB1:=((But.refl [] w).alloc (.cells #[W,H,D,C,l,pal,tr,has] 35)).alloc (.cells #[(0:Int),(0:Int),.string ⟨#[]⟩] 23);obtain⟨w1,hw1⟩:=E1 ((w.alloc (.cells #[W,H,D,C,l,pal,tr,has] 35)).alloc (.cells #[(0:Int),(0:Int),.string ⟨#[]⟩] 23));have HI1:Hid (ImS b2 b4 #[.int .i64 W,.int .i64 H,.int .i64 D,.int .i64 C,.int .i64 l,.string pal,.string tr,.bool has] w1):=qhz (by
  refine⟨?_,?_⟩
  ·rw[hw1,hb2];exact(Is.fresh _ _ _).alloc _
  ·rw[hw1,hb4];have h:=Is.fresh (w.alloc (.cells #[W,H,D,C,l,pal,tr,has] 35)) 23 #[(0:Int),(0:Int),.string ⟨#[]⟩];rw[show(w.alloc (.cells #[W,H,D,C,l,pal,tr,has] 35)).heap.size=w.heap.size+1 by simp]at h;exact h)
 rw[←hw1]at hB1;have HB1:=qhz hB1;have HW4:Hid (w.heap.size≤b4):=qhz (by rw[hb4];omega);have HDE:Hid (∀v,But [] w1 v→Calls prog 53 #[.agg #[W,H,D,C,l],raw.size] v (R1z (.int .i64 er) v)):=qhz fun v hv=>by rw[her];exact mz v ((hG.but hB1).but hv) _ _ _ _ _ hr
 have HPS:Hid (∀v,But [] w1 v→Calls prog 54 #[.agg #[W,H,D,C,l]] v fun e w'=>∃A cap,e=.returned (.slice A np cap)∧Pss w' A np P∧np≤cap∧But [] v w'):=qhz fun v hv=>by
  have h:=Cr v ((hG.but hB1).but hv) (W:Int) H D C l;rw[jl h0 R,←hL0,←hP,show P.length=np by rw[hP,List.length_map,hnp]]at h;exact h
 have HAP:Hid (∀(v:World) (bm gp i:Nat) (p:bj) (re:ByteArray) (pix:List UInt8),L0[i]? =some p→p∈gn l→cj W H p=true→Is v bm 84 #[W,H,D,C,l,pal,tr,has,.string re,.slice (some ⟨gp,0,none⟩) n8 n8]→BytesB v gp pix→pix.length=n8→IM=runI SS (bS W H (L0.drop i)) re.data.toList [] pix→re.size=fS SS (bS W H (L0.drop i))→re.size≤140737488351232→
  Calls prog 55 #[.pointer (some ⟨bm,0,none⟩),.agg #[.int .i64 (p6 W H p).1,.int .i64 (p6 W H p).2.1,.int .i64 (p6 W H p).2.2.1,.int .i64 (p6 W H p).2.2.2.1,.int .i64 (p6 W H p).2.2.2.2.1,.int .i64 (p6 W H p).2.2.2.2.2]] v fun e w'=>∃er:Int,e=.returned (.int .i64 er)∧(er≠0→IM=([],er))∧(er=0→∃(re2:ByteArray) (pix2:List UInt8),IM=runI SS (bS W H (L0.drop (i+1))) re2.data.toList [] pix2∧re2.size=fS SS (bS W H (L0.drop (i+1)))∧re2.size≤140737488351232∧pix2.length=n8∧Is w' bm 84 #[W,H,D,C,l,pal,tr,has,re2,.slice (some ⟨gp,0,none⟩) n8 n8]∧BytesB w' gp pix2)∧But [bm,gp] v w'):=qhz fun v bm gp i p re pix k1 k2 k3 k4 k5 k6 k7 k8 k9=>by
  have hs:=of_decide_eq_true k3;have hst:eC W H p 0++bS W H (L0.drop (i+1))=bS W H (L0.drop i):=nh k1 hs.1;refine(zD (n:=bA SS (ay W p.x p.dx)) (JS:=bS W H (L0.drop (i+1))) (IM:=IM) v hSS h0 R k4 k5 hn8 hp ht k2 k3 rfl ⟨by rw[hst];exact k7,by rw[hst];exact k8,k9,fun _=>rfl,.inl rfl,k6⟩).mono ?_;rintro e w' ⟨er,he,h1,h2,h3⟩;refine⟨er,he,h1,fun h=>?_,h3⟩;obtain⟨re2,ab,pix2,hl,hi,hx⟩:=h2 h;exact⟨re2,pix2,by rw[←Fv (HHEAD.out (i+1)) _ ab.data.toList];exact hl.im,hl.sj,hl.big,hl.pl,hi,hx⟩
 rw[hd0]at her;subst her;clear hR1 hIM hsz hrun hL0 hnp hP hn8 hw8 hraw harea R h0 hSS hG hB1 hd0
 go_enter func24,ntmps24
 go_upto_region 1 with(fail)
 rw[←hw1,←hb4,←hb2];clear hw1 hb2 hb4;obtain⟨c0,c1,c2,c3,c4,c5,c6,c7,hgl⟩:=HI1.out.1.c8
 go_wp2_with fail
 refine(HDE.out _ (But.refl _ _)).mono ?_;rintro e w2 ⟨rfl,hB2⟩;have HI2:=qhz (HI1.out.but hB2);have HB2:=qt HB1 hB2;have HB12:=qhz hB2;clear hB2;clear c0 c1 c2 c3 c4 c5 c6 c7 hgl;obtain⟨c0,c1,c2,c3,c4,c5,c6,c7,hgl⟩:=HI2.out.1.c8
 go_upto_region 4 with(fail)
 refine bw (S:=fun v=>But [] w2 v) (R:=fun v v'=>But [] v v') (fun w=>But.refl [] w) (by kernel_rfl) ((But.refl [] w2).drew) ?_;clear c0 c1 c2 c3 c4 c5 c6 c7 hgl;refine rdq 0 (.agg #[W,H,D,C,l,pal,tr,has]) (fun w hS=>?_) ?_
 ·have hh:=HI2.out.but hS;obtain⟨c0,c1,c2,c3,c4,c5,c6,c7,hgl⟩:=hh.1.c8;clear hh;go_simp
 refine rdk 1 (.string raw) ?_;refine rdk 2 (.pointer b2) ?_;refine rdk 3 (.pointer b2) ?_;refine rdq 4 (.int .i64 (W:Nat)) (fun w hS=>?_) ?_
 ·have hh:=HI2.out.but hS;obtain⟨c0,c1,c2,c3,c4,c5,c6,c7,hgl⟩:=hh.1.c8;clear hh;go_simp
 refine rdk 5 (.int .i64 (w8:Nat)) ?_;refine rdk 6 (.pointer b2) ?_;refine rdk 7 (.pointer (some ⟨b2,1,none⟩)) ?_;refine rdq 8 (.int .i64 (H:Nat)) (fun w hS=>?_) ?_
 ·have hh:=HI2.out.but hS;obtain⟨c0,c1,c2,c3,c4,c5,c6,c7,hgl⟩:=hh.1.c8;clear hh;go_simp
 refine rdk 9 (.int .i64 (n8:Nat)) ?_;refine Ij (i:=10) (j:=12) rfl rfl (by kernel_rfl) ?_ ?_
 ·intro w3 hR3 hS3 K' hK;have km:=fT w3 (n:=n8) (by omega);have hno:=xw w3 n8;have hnb:=dS w3 n8;go_simp;clear km;obtain⟨gp,hgp⟩:=E1 w3.heap.size;obtain⟨w5,hw5⟩:=E1 (cF w3 n8);rw[←hw5]at hno hnb⊢;rw[←hgp]at hno⊢;have HS5:=qhz (hS3.trans hnb);have HX5:=qhz hno;have HG5:Hid (w.heap.size≤gp∧b4∉[gp]∧b2∉[gp]):=qhz (by
   have k1:=(HI2.out.but hS3).1.lt;have k2:=(HI2.out.but hS3).2.lt;have k3:=(HB2.out.trans hS3).size;rw[←hgp]at k1 k2 k3;exact⟨k3,by rw[List.mem_singleton];omega,by rw[List.mem_singleton];omega⟩)
  clear hno hnb hw5 hgp hS3 hR3;refine hK _ _ ⟨HS5.out,?_⟩;clear hK K';refine rdk 11 (.agg #[W,H,D,C,l,pal,tr,has,raw,.slice (some ⟨gp,0,none⟩) n8 n8]) ?_;refine cI (i:=12) rfl (by kernel_rfl) fun w6 hR6 hS6 K' hK=>?_;go_simp;obtain⟨bm,hbm⟩:=E1 w6.heap.size;have hI6:=Is.fresh w6 84 #[(0:Int),(0:Int),(0:Int),(0:Int),(0:Int),.string ⟨#[]⟩,.string ⟨#[]⟩,false,.string ⟨#[]⟩,.slice none 0 0];have hA6:=(But.refl [] w6).alloc (.cells #[(0:Int),(0:Int),(0:Int),(0:Int),(0:Int),.string ⟨#[]⟩,.string ⟨#[]⟩,false,.string ⟨#[]⟩,.slice none 0 0] 84);obtain⟨wa,hwa⟩:=E1 (w6.alloc (.cells #[(0:Int),(0:Int),(0:Int),(0:Int),(0:Int),.string ⟨#[]⟩,.string ⟨#[]⟩,false,.string ⟨#[]⟩,.slice none 0 0] 84));rw[←hwa,←hbm]at hI6;rw[←hwa]at hA6;have HX6:=qhz ((HX5.out.but hR6 (by simp)).but hA6 (by simp));have HI6:=qhz hI6;have HM6:Hid (w.heap.size≤bm∧b4≠bm∧gp≠bm∧b2≠bm∧w2.heap.size≤bm):=qhz (by
   have k1:=(HI2.out.but hS6).1.lt;have k2:=(HI2.out.but hS6).2.lt;have k3:=(HB2.out.trans hS6).size;have k4:=Is.lt (HX5.out.but hR6 (by simp));have k5:=hS6.size;rw[←hbm]at k1 k2 k3 k4 k5;exact⟨k3,by omega,by omega,by omega,k5⟩)
  have HS6:=qhz (hS6.trans hA6);rw[←hwa,←hbm];refine hK _ _ ⟨HS6.out,?_⟩;clear hK K' hI6 hA6 hwa hbm hS6 hR6;refine cI (i:=13) rfl (by kernel_rfl) fun w7 hR7 hS7 K' hK=>?_;have HI7:=qhz (HI6.out.but hR7 (by simp));have z0:=HI7.out.cell 0;have y0:=HI7.out.free 0;have z1:=HI7.out.cell 1;have y1:=HI7.out.free 1;have z2:=HI7.out.cell 2;have y2:=HI7.out.free 2;have z3:=HI7.out.cell 3;have y3:=HI7.out.free 3;have z4:=HI7.out.cell 4;have y4:=HI7.out.free 4;have z5:=HI7.out.cell 5;have y5:=HI7.out.free 5;have z6:=HI7.out.cell 6;have y6:=HI7.out.free 6;have z7:=HI7.out.cell 7;have y7:=HI7.out.free 7;have z8:=HI7.out.cell 8;have y8:=HI7.out.free 8;have z9:=HI7.out.cell 9;have y9:=HI7.out.free 9;have hgm:=HI7.out.lt;have HX7:=qhz (HX6.out.but hR7 (by simp));have HS7:=qhz hS7;clear hS7 hR7;go_simp;have hq0:Is _ bm 84 #[W,(0:Int),(0:Int),(0:Int),(0:Int),.string ⟨#[]⟩,.string ⟨#[]⟩,false,.string ⟨#[]⟩,.slice none 0 0]:=(HI7.out).put 0 (.int .i64 W);have hr0:=But.setCell (p:=⟨bm,0,none⟩) (HS7.out) (.inr HM6.out.2.2.2.2) (.int .i64 W);have hx0:=(HX7.out).far (p:=⟨bm,0,none⟩) (by show gp≠bm;exact HM6.out.2.2.1) (.int .i64 W);have hq1:Is _ bm 84 #[W,H,(0:Int),(0:Int),(0:Int),.string ⟨#[]⟩,.string ⟨#[]⟩,false,.string ⟨#[]⟩,.slice none 0 0]:=(hq0).put 1 (.int .i64 H);have hr1:=But.setCell (p:=⟨bm,1,none⟩) (hr0) (.inr HM6.out.2.2.2.2) (.int .i64 H);have hx1:=(hx0).far (p:=⟨bm,1,none⟩) (by show gp≠bm;exact HM6.out.2.2.1) (.int .i64 H);have hq2:Is _ bm 84 #[W,H,D,(0:Int),(0:Int),.string ⟨#[]⟩,.string ⟨#[]⟩,false,.string ⟨#[]⟩,.slice none 0 0]:=(hq1).put 2 (.int .i64 D);have hr2:=But.setCell (p:=⟨bm,2,none⟩) (hr1) (.inr HM6.out.2.2.2.2) (.int .i64 D);have hx2:=(hx1).far (p:=⟨bm,2,none⟩) (by show gp≠bm;exact HM6.out.2.2.1) (.int .i64 D);have hq3:Is _ bm 84 #[W,H,D,C,(0:Int),.string ⟨#[]⟩,.string ⟨#[]⟩,false,.string ⟨#[]⟩,.slice none 0 0]:=(hq2).put 3 (.int .i64 C);have hr3:=But.setCell (p:=⟨bm,3,none⟩) (hr2) (.inr HM6.out.2.2.2.2) (.int .i64 C);have hx3:=(hx2).far (p:=⟨bm,3,none⟩) (by show gp≠bm;exact HM6.out.2.2.1) (.int .i64 C);have hq4:Is _ bm 84 #[W,H,D,C,l,.string ⟨#[]⟩,.string ⟨#[]⟩,false,.string ⟨#[]⟩,.slice none 0 0]:=(hq3).put 4 (.int .i64 l);have hr4:=But.setCell (p:=⟨bm,4,none⟩) (hr3) (.inr HM6.out.2.2.2.2) (.int .i64 l);have hx4:=(hx3).far (p:=⟨bm,4,none⟩) (by show gp≠bm;exact HM6.out.2.2.1) (.int .i64 l);have hq5:Is _ bm 84 #[W,H,D,C,l,pal,.string ⟨#[]⟩,false,.string ⟨#[]⟩,.slice none 0 0]:=(hq4).put 5 (.string pal);have hr5:=But.setCell (p:=⟨bm,5,none⟩) (hr4) (.inr HM6.out.2.2.2.2) (.string pal);have hx5:=(hx4).far (p:=⟨bm,5,none⟩) (by show gp≠bm;exact HM6.out.2.2.1) (.string pal);have hq6:Is _ bm 84 #[W,H,D,C,l,pal,tr,false,.string ⟨#[]⟩,.slice none 0 0]:=(hq5).put 6 (.string tr);have hr6:=But.setCell (p:=⟨bm,6,none⟩) (hr5) (.inr HM6.out.2.2.2.2) (.string tr)
  have hx6:=(hx5).far (p:=⟨bm,6,none⟩) (by show gp≠bm;exact HM6.out.2.2.1) (.string tr);have hq7:Is _ bm 84 #[W,H,D,C,l,pal,tr,has,.string ⟨#[]⟩,.slice none 0 0]:=(hq6).put 7 (.bool has);have hr7:=But.setCell (p:=⟨bm,7,none⟩) (hr6) (.inr HM6.out.2.2.2.2) (.bool has);have hx7:=(hx6).far (p:=⟨bm,7,none⟩) (by show gp≠bm;exact HM6.out.2.2.1) (.bool has);have hq8:Is _ bm 84 #[W,H,D,C,l,pal,tr,has,raw,.slice none 0 0]:=(hq7).put 8 (.string raw);have hr8:=But.setCell (p:=⟨bm,8,none⟩) (hr7) (.inr HM6.out.2.2.2.2) (.string raw);have hx8:=(hx7).far (p:=⟨bm,8,none⟩) (by show gp≠bm;exact HM6.out.2.2.1) (.string raw);have hq9:Is _ bm 84 #[W,H,D,C,l,pal,tr,has,raw,.slice (some ⟨gp,0,none⟩) n8 n8]:=(hq8).put 9 (.slice (some ⟨gp,0,none⟩) n8 n8);have hr9:=But.setCell (p:=⟨bm,9,none⟩) (hr8) (.inr HM6.out.2.2.2.2) (.slice (some ⟨gp,0,none⟩) n8 n8);have hx9:=(hx8).far (p:=⟨bm,9,none⟩) (by show gp≠bm;exact HM6.out.2.2.1) (.slice (some ⟨gp,0,none⟩) n8 n8);have HQ:=qhz hq9;have HRR:=qhz hr9;have HXX:=qhz hx9;clear hq0 hr0 hx0 z0 y0 hq1 hr1 hx1 z1 y1 hq2 hr2 hx2 z2 y2 hq3 hr3 hx3 z3 y3 hq4 hr4 hx4 z4 y4 hq5 hr5 hx5 z5 y5 hq6 hr6 hx6 z6 y6 hq7 hr7 hx7 z7 y7 hq8 hr8 hx8 z8 y8 hq9 hr9 hx9 z9 y9 hgm;refine hK _ _ ⟨HRR.out,?_⟩;clear hK K';refine⟨by kernel_rfl,fun w8 hR8 hS8=>?_⟩;have HI8:Hid (Is w8 bm 84 #[W,H,D,C,l,pal,tr,has,raw,.slice (some ⟨gp,0,none⟩) n8 n8]):=qhz (HQ.out.but hR8 (by simp));have HX8:Hid (BytesB w8 gp (List.replicate n8 0)):=qhz (BytesB.but HXX.out hR8 (by simp));have HT8:=qhz (HI2.out.but hS8);have HB8:=qhz (HB2.out.trans hS8);have HB18:=qhz (HB12.out.trans hS8);clear hR8 hS8 HQ HRR HXX HX6 HI6 HI7 HX7 HS7;go_simp;obtain⟨c0,c1,c2,c3,c4,c5,c6,c7,hgl⟩:=HT8.out.1.c8
  go_wp2_with fail
  refine(HPS.out _ HB18.out).mono ?_;rintro e w9 ⟨A9,cap9,rfl,hP9,hcap9,hB9⟩;have HP9:=qhz hP9;have HI9:=qhz (HI8.out.but hB9 (by simp));have HX9:=qhz (HX8.out.but hB9 (by simp));have HT9:=qhz (HT8.out.but hB9);have HB9:=qt HB8 hB9;clear hP9 hB9;clear c0 c1 c2 c3 c4 c5 c6 c7 hgl;have HPS9:Hid (∀v,But [bm,gp] w9 v→Pss v A9 np P):=qhz fun v hv=>HP9.out.keep2 HX9.out (fun hn=>HP9.out.off HI9.out (fun x h=>nomatch h) (fun x h=>nomatch h) (fun x h=>nomatch h) (fun x h=>nomatch h) hn) hv;have HTT:Hid (∀v,But [bm,gp] w9 v→ImS b2 b4 #[.int .i64 W,.int .i64 H,.int .i64 D,.int .i64 C,.int .i64 l,.string pal,.string tr,.bool has] v):=qhz fun v hv=>by
   have k:=HM6.out;have k2:=HG5.out;rw[List.mem_singleton]at k2;have k3:=k2.2.2;rw[List.mem_singleton]at k3;exact⟨HT9.out.1.but hv (by simp only[List.mem_cons,List.not_mem_nil,or_false];omega),HT9.out.2.but hv (by simp only[List.mem_cons,List.not_mem_nil,or_false];omega)⟩
  go_wp2_with fail
  go_loopw [36] (fun iv wx=>∃(i:Nat) (re:ByteArray) (pix:List UInt8),i≤np∧iv=.int .i64 i∧Hid (IM=runI SS (bS W H (L0.drop i)) re.data.toList [] pix)∧Hid (re.size=fS SS (bS W H (L0.drop i)))∧Hid (re.size≤140737488351232)∧Hid (pix.length=n8)∧Hid (Is wx bm 84 #[W,H,D,C,l,pal,tr,has,.string re,.slice (some ⟨gp,0,none⟩) n8 n8])∧Hid (BytesB wx gp pix)∧Hid (But [bm,gp] w9 wx)) (fun iv _=>np-(intOf iv).toNat)
  case atStart=>exact⟨0,raw,List.replicate n8 0,Nat.zero_le _,rfl,HIM,HSJ,qhz hr,qhz (by rw[List.length_replicate]),HI9,HX9,qhz (But.refl _ _)⟩
  case round=>
   clear HIM HSJ HX9 HI9;obtain⟨i,re,pix,hi,rfl,HIM,HSJ,HRW,HPL,HI,HX,HB⟩:=hrel
   by_cases hlt:i<np
   ·obtain⟨g9,o9,q6,hA9,hg9,hq6,m0,m1,m2,m3,m4,m5⟩:=(HPS9.out _ HB.out).at hlt;subst hA9;obtain⟨p,hp9,hq,hbase,hsome⟩:=HPA.out i q6 hq6;have HAPi:=qhz fun(v:World) (k4:Is v bm 84 #[W,H,D,C,l,pal,tr,has,.string re,.slice (some ⟨gp,0,none⟩) n8 n8]) (k5:BytesB v gp pix)=>HAP.out v bm gp i p re pix hp9 hbase hsome k4 k5 HPL.out HIM.out HSJ.out HRW.out;rw[←hq]at HAPi;obtain⟨x0,x1,x2,x3,x4,x5⟩:=q6;dsimp only at m0 m1 m2 m3 m4 m5;have i0:(0:Int)≤(i:Int):=by omega
    have i1:(i:Int)<(np:Int):=by omega
    clear hq6 hp9 hq hbase hsome;obtain⟨bB,hbB⟩:=E1 wr.heap.size;obtain⟨wz,hwz⟩:=E1 (wr.alloc (.cells #[x0,x1,x2,x3,x4,x5] 64));have HBB:Hid (Is wz bB 64 #[x0,x1,x2,x3,x4,x5]):=qhz (by rw[hwz,hbB];exact Is.fresh _ _ _);have hAz:But [] wr wz:=by rw[hwz];exact(But.refl [] wr).alloc _
    have HIz:=qhz (HI.out.but hAz (by simp));have HXz:=qhz (HX.out.but hAz (by simp));have HBz:=qhz (HB.out.trans hAz.w2);clear hAz
    go_upto_region 8 with(fail)
    rw[←hwz,←hbB];clear hwz hbB m0 m1 m2 m3 m4 m5 hg9;obtain⟨n0,n1,n2,n3,n4,n5,hgB⟩:=HBB.out.c6
    go_wp2_with fail
    refine(HAPi.out _ HIz.out HXz.out).mono ?_;rintro e wy ⟨er,rfl,hE1,hE2,hBy⟩;have HE1:=qhz hE1;have HE2:=qhz hE2;have HBy:=qt HBz hBy;clear hE1 hE2 hBy n0 n1 n2 n3 n4 n5 hgB
    by_cases her:er=0
    ·subst her;obtain⟨re2,pix2,g1,g2,g3,g4,g5,g6⟩:=HE2.out rfl;have G1:=qhz g1;have G2:=qhz g2;have G3:=qhz g3;have G4:=qhz g4;have G5:=qhz g5;have G6:=qhz g6;clear g1 g2 g3 g4 g5 g6;go_wp2
     go_roundw
     case rel=>exact⟨i+1,re2,pix2,by omega,by go_num,G1,G2,G3,G4,G5,G6,HBy⟩
     case measure=>simp[intOf]<;>omega
    ·have q1:(er !=0)=true:=by simpa using her
     have HRE:=qhz (HERR.out er (HE1.out her) her);have HTy:=qhz (HTT.out _ HBy.out);have HBW:=qhz (HB9.out.hide2 HBy.out HG5.out.1 HM6.out.1);have d0:=HTy.out.2.cell 0;have f0:=HTy.out.2.free 0;have d1:=HTy.out.2.cell 1;have f1:=HTy.out.2.free 1;have d2:=HTy.out.2.cell 2;have f2:=HTy.out.2.free 2;have hgl4:=HTy.out.2.lt;go_wp2;exact oK HTy.out.2 HBW.out HW4.out (by rfl) (by rfl) 0 0 ⟨#[]⟩ (by rw[HRE.out]) (by rw[HRE.out])
   ·obtain rfl:np=i:=by omega
    have HF:Hid (IM=(pix,0)):=qhz (by rw[HIM.out,List.drop_of_length_le (by rw[←HNP.out];exact Nat.le_refl _)];rfl);have HR1:=qhz (HGOOD.out pix HF.out);have kt:=HX.out.text n8;rw[HPL.out]at kt;have HTy:=qhz (HTT.out _ HB.out);have hg9:=HI.out.cell 9;have hgm:=HI.out.lt;obtain⟨c0,c1,c2,c3,c4,c5,c6,c7,hgl⟩:=HTy.out.1.c8;have d0:=HTy.out.2.cell 0;have f0:=HTy.out.2.free 0;have d1:=HTy.out.2.cell 1;have f1:=HTy.out.2.free 1;have d2:=HTy.out.2.cell 2;have f2:=HTy.out.2.free 2;have hgl4:=HTy.out.2.lt;have HBW:=qhz (HB9.out.hide2 HB.out HG5.out.1 HM6.out.1);go_wp2;exact oK HTy.out.2 HBW.out HW4.out (by rfl) (by rfl) (W:Int) (H:Int) (strL pix) (by rw[HR1.out]) (by rw[HR1.out])
 ·intro w3 hR3 hS3 K' hK;go_simp;obtain⟨bm,hbm⟩:=E1 w3.heap.size;have hI6:=Is.fresh w3 84 #[(0:Int),(0:Int),(0:Int),(0:Int),(0:Int),.string ⟨#[]⟩,.string ⟨#[]⟩,false,.string ⟨#[]⟩,.slice none 0 0];have hA6:=(But.refl [] w3).alloc (.cells #[(0:Int),(0:Int),(0:Int),(0:Int),(0:Int),.string ⟨#[]⟩,.string ⟨#[]⟩,false,.string ⟨#[]⟩,.slice none 0 0] 84);obtain⟨wa,hwa⟩:=E1 (w3.alloc (.cells #[(0:Int),(0:Int),(0:Int),(0:Int),(0:Int),.string ⟨#[]⟩,.string ⟨#[]⟩,false,.string ⟨#[]⟩,.slice none 0 0] 84));rw[←hwa,←hbm]at hI6;rw[←hwa]at hA6;have HJ6:=qhz hI6;have HM6:Hid (w.heap.size≤bm∧b4≠bm∧b2≠bm∧w2.heap.size≤bm):=qhz (by
   have k1:=(HI2.out.but hS3).1.lt;have k2:=(HI2.out.but hS3).2.lt;have k3:=(HB2.out.trans hS3).size;have k5:=hS3.size;rw[←hbm]at k1 k2 k3 k5;exact⟨k3,by omega,by omega,k5⟩)
  have HS6:=qhz (hS3.trans hA6);rw[←hwa,←hbm];refine hK _ _ ⟨HS6.out,?_⟩;clear hK K' hI6 hA6 hwa hbm hS3 hR3;refine cI (i:=10) rfl (by kernel_rfl) ?_;intro w4 hR3 hS3 K' hK;have km:=fT w4 (n:=n8) (by omega);have hno:=xw w4 n8;have hnb:=dS w4 n8;go_simp;clear km;obtain⟨gp,hgp⟩:=E1 w4.heap.size;obtain⟨w5,hw5⟩:=E1 (cF w4 n8);rw[←hw5]at hno hnb⊢;rw[←hgp]at hno⊢;have HS5:=qhz (hS3.trans hnb);have HX5:=qhz hno;have HG5:Hid (w.heap.size≤gp∧b4∉[gp]∧b2∉[gp]):=qhz (by
   have k1:=(HI2.out.but hS3).1.lt;have k2:=(HI2.out.but hS3).2.lt;have k3:=(HB2.out.trans hS3).size;rw[←hgp]at k1 k2 k3;exact⟨k3,by rw[List.mem_singleton];omega,by rw[List.mem_singleton];omega⟩)
  have HI6:=qhz ((HJ6.out.but hR3 (by simp)).but hnb (by simp));have HX6:=qhz hno;have HN6:Hid (gp≠bm):=qhz (by
   have k1:=(HJ6.out.but hR3 (by simp)).lt;rw[←hgp]at k1;omega)
  have HM6:Hid (w.heap.size≤bm∧b4≠bm∧gp≠bm∧b2≠bm∧w2.heap.size≤bm):=qhz ⟨HM6.out.1,HM6.out.2.1,HN6.out,HM6.out.2.2.1,HM6.out.2.2.2⟩;clear hno hnb hw5 hgp hS3 hR3;refine hK _ _ ⟨HS5.out,?_⟩;clear hK K';refine rdk 11 (.agg #[W,H,D,C,l,pal,tr,has,raw,.slice (some ⟨gp,0,none⟩) n8 n8]) ?_;refine cI (i:=13) rfl (by kernel_rfl) fun w7 hR7 hS7 K' hK=>?_;have HI7:=qhz (HI6.out.but hR7 (by simp));have z0:=HI7.out.cell 0;have y0:=HI7.out.free 0;have z1:=HI7.out.cell 1;have y1:=HI7.out.free 1;have z2:=HI7.out.cell 2;have y2:=HI7.out.free 2;have z3:=HI7.out.cell 3;have y3:=HI7.out.free 3;have z4:=HI7.out.cell 4;have y4:=HI7.out.free 4;have z5:=HI7.out.cell 5;have y5:=HI7.out.free 5;have z6:=HI7.out.cell 6;have y6:=HI7.out.free 6;have z7:=HI7.out.cell 7;have y7:=HI7.out.free 7;have z8:=HI7.out.cell 8;have y8:=HI7.out.free 8;have z9:=HI7.out.cell 9;have y9:=HI7.out.free 9;have hgm:=HI7.out.lt;have HX7:=qhz (HX6.out.but hR7 (by simp));have HS7:=qhz hS7;clear hS7 hR7;go_simp;have hq0:Is _ bm 84 #[W,(0:Int),(0:Int),(0:Int),(0:Int),.string ⟨#[]⟩,.string ⟨#[]⟩,false,.string ⟨#[]⟩,.slice none 0 0]:=(HI7.out).put 0 (.int .i64 W);have hr0:=But.setCell (p:=⟨bm,0,none⟩) (HS7.out) (.inr HM6.out.2.2.2.2) (.int .i64 W);have hx0:=(HX7.out).far (p:=⟨bm,0,none⟩) (by show gp≠bm;exact HM6.out.2.2.1) (.int .i64 W);have hq1:Is _ bm 84 #[W,H,(0:Int),(0:Int),(0:Int),.string ⟨#[]⟩,.string ⟨#[]⟩,false,.string ⟨#[]⟩,.slice none 0 0]:=(hq0).put 1 (.int .i64 H);have hr1:=But.setCell (p:=⟨bm,1,none⟩) (hr0) (.inr HM6.out.2.2.2.2) (.int .i64 H);have hx1:=(hx0).far (p:=⟨bm,1,none⟩) (by show gp≠bm;exact HM6.out.2.2.1) (.int .i64 H);have hq2:Is _ bm 84 #[W,H,D,(0:Int),(0:Int),.string ⟨#[]⟩,.string ⟨#[]⟩,false,.string ⟨#[]⟩,.slice none 0 0]:=(hq1).put 2 (.int .i64 D);have hr2:=But.setCell (p:=⟨bm,2,none⟩) (hr1) (.inr HM6.out.2.2.2.2) (.int .i64 D);have hx2:=(hx1).far (p:=⟨bm,2,none⟩) (by show gp≠bm;exact HM6.out.2.2.1) (.int .i64 D);have hq3:Is _ bm 84 #[W,H,D,C,(0:Int),.string ⟨#[]⟩,.string ⟨#[]⟩,false,.string ⟨#[]⟩,.slice none 0 0]:=(hq2).put 3 (.int .i64 C);have hr3:=But.setCell (p:=⟨bm,3,none⟩) (hr2) (.inr HM6.out.2.2.2.2) (.int .i64 C);have hx3:=(hx2).far (p:=⟨bm,3,none⟩) (by show gp≠bm;exact HM6.out.2.2.1) (.int .i64 C);have hq4:Is _ bm 84 #[W,H,D,C,l,.string ⟨#[]⟩,.string ⟨#[]⟩,false,.string ⟨#[]⟩,.slice none 0 0]:=(hq3).put 4 (.int .i64 l);have hr4:=But.setCell (p:=⟨bm,4,none⟩) (hr3) (.inr HM6.out.2.2.2.2) (.int .i64 l);have hx4:=(hx3).far (p:=⟨bm,4,none⟩) (by show gp≠bm;exact HM6.out.2.2.1) (.int .i64 l);have hq5:Is _ bm 84 #[W,H,D,C,l,pal,.string ⟨#[]⟩,false,.string ⟨#[]⟩,.slice none 0 0]:=(hq4).put 5 (.string pal);have hr5:=But.setCell (p:=⟨bm,5,none⟩) (hr4) (.inr HM6.out.2.2.2.2) (.string pal);have hx5:=(hx4).far (p:=⟨bm,5,none⟩) (by show gp≠bm;exact HM6.out.2.2.1) (.string pal)
  have hq6:Is _ bm 84 #[W,H,D,C,l,pal,tr,false,.string ⟨#[]⟩,.slice none 0 0]:=(hq5).put 6 (.string tr);have hr6:=But.setCell (p:=⟨bm,6,none⟩) (hr5) (.inr HM6.out.2.2.2.2) (.string tr);have hx6:=(hx5).far (p:=⟨bm,6,none⟩) (by show gp≠bm;exact HM6.out.2.2.1) (.string tr);have hq7:Is _ bm 84 #[W,H,D,C,l,pal,tr,has,.string ⟨#[]⟩,.slice none 0 0]:=(hq6).put 7 (.bool has);have hr7:=But.setCell (p:=⟨bm,7,none⟩) (hr6) (.inr HM6.out.2.2.2.2) (.bool has);have hx7:=(hx6).far (p:=⟨bm,7,none⟩) (by show gp≠bm;exact HM6.out.2.2.1) (.bool has);have hq8:Is _ bm 84 #[W,H,D,C,l,pal,tr,has,raw,.slice none 0 0]:=(hq7).put 8 (.string raw);have hr8:=But.setCell (p:=⟨bm,8,none⟩) (hr7) (.inr HM6.out.2.2.2.2) (.string raw);have hx8:=(hx7).far (p:=⟨bm,8,none⟩) (by show gp≠bm;exact HM6.out.2.2.1) (.string raw);have hq9:Is _ bm 84 #[W,H,D,C,l,pal,tr,has,raw,.slice (some ⟨gp,0,none⟩) n8 n8]:=(hq8).put 9 (.slice (some ⟨gp,0,none⟩) n8 n8);have hr9:=But.setCell (p:=⟨bm,9,none⟩) (hr8) (.inr HM6.out.2.2.2.2) (.slice (some ⟨gp,0,none⟩) n8 n8);have hx9:=(hx8).far (p:=⟨bm,9,none⟩) (by show gp≠bm;exact HM6.out.2.2.1) (.slice (some ⟨gp,0,none⟩) n8 n8);have HQ:=qhz hq9;have HRR:=qhz hr9;have HXX:=qhz hx9;clear hq0 hr0 hx0 z0 y0 hq1 hr1 hx1 z1 y1 hq2 hr2 hx2 z2 y2 hq3 hr3 hx3 z3 y3 hq4 hr4 hx4 z4 y4 hq5 hr5 hx5 z5 y5 hq6 hr6 hx6 z6 y6 hq7 hr7 hx7 z7 y7 hq8 hr8 hx8 z8 y8 hq9 hr9 hx9 z9 y9 hgm;refine hK _ _ ⟨HRR.out,?_⟩;clear hK K';refine⟨by kernel_rfl,fun w8 hR8 hS8=>?_⟩;have HI8:Hid (Is w8 bm 84 #[W,H,D,C,l,pal,tr,has,raw,.slice (some ⟨gp,0,none⟩) n8 n8]):=qhz (HQ.out.but hR8 (by simp));have HX8:Hid (BytesB w8 gp (List.replicate n8 0)):=qhz (BytesB.but HXX.out hR8 (by simp));have HT8:=qhz (HI2.out.but hS8);have HB8:=qhz (HB2.out.trans hS8);have HB18:=qhz (HB12.out.trans hS8);clear hR8 hS8 HQ HRR HXX HX6 HI6 HI7 HX7 HS7;go_simp;obtain⟨c0,c1,c2,c3,c4,c5,c6,c7,hgl⟩:=HT8.out.1.c8
  go_wp2_with fail
  refine(HPS.out _ HB18.out).mono ?_;rintro e w9 ⟨A9,cap9,rfl,hP9,hcap9,hB9⟩;have HP9:=qhz hP9;have HI9:=qhz (HI8.out.but hB9 (by simp));have HX9:=qhz (HX8.out.but hB9 (by simp));have HT9:=qhz (HT8.out.but hB9);have HB9:=qt HB8 hB9;clear hP9 hB9;clear c0 c1 c2 c3 c4 c5 c6 c7 hgl;have HPS9:Hid (∀v,But [bm,gp] w9 v→Pss v A9 np P):=qhz fun v hv=>HP9.out.keep2 HX9.out (fun hn=>HP9.out.off HI9.out (fun x h=>nomatch h) (fun x h=>nomatch h) (fun x h=>nomatch h) (fun x h=>nomatch h) hn) hv;have HTT:Hid (∀v,But [bm,gp] w9 v→ImS b2 b4 #[.int .i64 W,.int .i64 H,.int .i64 D,.int .i64 C,.int .i64 l,.string pal,.string tr,.bool has] v):=qhz fun v hv=>by
   have k:=HM6.out;have k2:=HG5.out;rw[List.mem_singleton]at k2;have k3:=k2.2.2;rw[List.mem_singleton]at k3;exact⟨HT9.out.1.but hv (by simp only[List.mem_cons,List.not_mem_nil,or_false];omega),HT9.out.2.but hv (by simp only[List.mem_cons,List.not_mem_nil,or_false];omega)⟩
  go_wp2_with fail
  go_loopw [36] (fun iv wx=>∃(i:Nat) (re:ByteArray) (pix:List UInt8),i≤np∧iv=.int .i64 i∧Hid (IM=runI SS (bS W H (L0.drop i)) re.data.toList [] pix)∧Hid (re.size=fS SS (bS W H (L0.drop i)))∧Hid (re.size≤140737488351232)∧Hid (pix.length=n8)∧Hid (Is wx bm 84 #[W,H,D,C,l,pal,tr,has,.string re,.slice (some ⟨gp,0,none⟩) n8 n8])∧Hid (BytesB wx gp pix)∧Hid (But [bm,gp] w9 wx)) (fun iv _=>np-(intOf iv).toNat)
  case atStart=>exact⟨0,raw,List.replicate n8 0,Nat.zero_le _,rfl,HIM,HSJ,qhz hr,qhz (by rw[List.length_replicate]),HI9,HX9,qhz (But.refl _ _)⟩
  case round=>
   clear HIM HSJ HX9 HI9;obtain⟨i,re,pix,hi,rfl,HIM,HSJ,HRW,HPL,HI,HX,HB⟩:=hrel
   by_cases hlt:i<np
   ·obtain⟨g9,o9,q6,hA9,hg9,hq6,m0,m1,m2,m3,m4,m5⟩:=(HPS9.out _ HB.out).at hlt;subst hA9;obtain⟨p,hp9,hq,hbase,hsome⟩:=HPA.out i q6 hq6;have HAPi:=qhz fun(v:World) (k4:Is v bm 84 #[W,H,D,C,l,pal,tr,has,.string re,.slice (some ⟨gp,0,none⟩) n8 n8]) (k5:BytesB v gp pix)=>HAP.out v bm gp i p re pix hp9 hbase hsome k4 k5 HPL.out HIM.out HSJ.out HRW.out;rw[←hq]at HAPi;obtain⟨x0,x1,x2,x3,x4,x5⟩:=q6;dsimp only at m0 m1 m2 m3 m4 m5;have i0:(0:Int)≤(i:Int):=by omega
    have i1:(i:Int)<(np:Int):=by omega
    clear hq6 hp9 hq hbase hsome;obtain⟨bB,hbB⟩:=E1 wr.heap.size;obtain⟨wz,hwz⟩:=E1 (wr.alloc (.cells #[x0,x1,x2,x3,x4,x5] 64));have HBB:Hid (Is wz bB 64 #[x0,x1,x2,x3,x4,x5]):=qhz (by rw[hwz,hbB];exact Is.fresh _ _ _);have hAz:But [] wr wz:=by rw[hwz];exact(But.refl [] wr).alloc _
    have HIz:=qhz (HI.out.but hAz (by simp));have HXz:=qhz (HX.out.but hAz (by simp));have HBz:=qhz (HB.out.trans hAz.w2);clear hAz
    go_upto_region 8 with(fail)
    rw[←hwz,←hbB];clear hwz hbB m0 m1 m2 m3 m4 m5 hg9;obtain⟨n0,n1,n2,n3,n4,n5,hgB⟩:=HBB.out.c6
    go_wp2_with fail
    refine(HAPi.out _ HIz.out HXz.out).mono ?_;rintro e wy ⟨er,rfl,hE1,hE2,hBy⟩;have HE1:=qhz hE1;have HE2:=qhz hE2;have HBy:=qt HBz hBy;clear hE1 hE2 hBy n0 n1 n2 n3 n4 n5 hgB
    by_cases her:er=0
    ·subst her;obtain⟨re2,pix2,g1,g2,g3,g4,g5,g6⟩:=HE2.out rfl;have G1:=qhz g1;have G2:=qhz g2;have G3:=qhz g3;have G4:=qhz g4;have G5:=qhz g5;have G6:=qhz g6;clear g1 g2 g3 g4 g5 g6;go_wp2
     go_roundw
     case rel=>exact⟨i+1,re2,pix2,by omega,by go_num,G1,G2,G3,G4,G5,G6,HBy⟩
     case measure=>simp[intOf]<;>omega
    ·have q1:(er !=0)=true:=by simpa using her
     have HRE:=qhz (HERR.out er (HE1.out her) her);have HTy:=qhz (HTT.out _ HBy.out);have HBW:=qhz (HB9.out.hide2 HBy.out HG5.out.1 HM6.out.1);have d0:=HTy.out.2.cell 0;have f0:=HTy.out.2.free 0;have d1:=HTy.out.2.cell 1;have f1:=HTy.out.2.free 1;have d2:=HTy.out.2.cell 2;have f2:=HTy.out.2.free 2;have hgl4:=HTy.out.2.lt;go_wp2;exact oK HTy.out.2 HBW.out HW4.out (by rfl) (by rfl) 0 0 ⟨#[]⟩ (by rw[HRE.out]) (by rw[HRE.out])
   ·obtain rfl:np=i:=by omega
    have HF:Hid (IM=(pix,0)):=qhz (by rw[HIM.out,List.drop_of_length_le (by rw[←HNP.out];exact Nat.le_refl _)];rfl);have HR1:=qhz (HGOOD.out pix HF.out);have kt:=HX.out.text n8;rw[HPL.out]at kt;have HTy:=qhz (HTT.out _ HB.out);have hg9:=HI.out.cell 9;have hgm:=HI.out.lt;obtain⟨c0,c1,c2,c3,c4,c5,c6,c7,hgl⟩:=HTy.out.1.c8;have d0:=HTy.out.2.cell 0;have f0:=HTy.out.2.free 0;have d1:=HTy.out.2.cell 1;have f1:=HTy.out.2.free 1;have d2:=HTy.out.2.cell 2;have f2:=HTy.out.2.free 2;have hgl4:=HTy.out.2.lt;have HBW:=qhz (HB9.out.hide2 HB.out HG5.out.1 HM6.out.1);go_wp2;exact oK HTy.out.2 HBW.out HW4.out (by rfl) (by rfl) (W:Int) (H:Int) (strL pix) (by rw[HR1.out]) (by rw[HR1.out])
theorem FZ(w:World)(hG:GP w){a b d c l:Int}{pal tr raw:ByteArray}{has:Bool}(hp:pal.size≤140737488351232)(ht:tr.size≤140737488351232)(hr:raw.size≤140737488351232):
 Calls prog 24 #[.agg #[a,b,d,c,l,pal,tr,has],raw] w fun r w'=>r=.returned (.tuple #[.agg #[.int .i64 (aG a b d c l pal tr has raw).1.1,.int .i64 (aG a b d c l pal tr has raw).1.2.1,.string (aG a b d c l pal tr has raw).1.2.2],.int .i64 (aG a b d c l pal tr has raw).2])∧But [] w w':=by
 by_cases hd0:oT a b d c l raw.size=0
 ·have h0:=(vO hd0).1;obtain⟨W,H,D,C,R⟩:=dA h0;obtain rfl:=R.wa;obtain rfl:=R.hb;obtain rfl:=R.dd;obtain rfl:=R.cc;exact Kj w hG hd0 h0 R hp ht hr
 ·exact FY w hG hr hd0
end Go.Proofs.YtbanopnofpjnbaaGreatDoor
