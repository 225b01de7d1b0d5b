/- Own texts in one: CkB, CkD. -/
import Derived.Test.YtbanopnofpjnbaaGreatDoorU49
import Derived.Test.YtbanopnofpjnbaaGreatDoorU55
set_option maxRecDepth 1000000
set_option linter.unusedVariables false
set_option maxHeartbeats 4000000
namespace Go.Proofs.YtbanopnofpjnbaaGreatDoor
open Go Go.RowKit Tryz
theorem GQ(w:World){t:ByteArray}:Calls prog 44 #[t] w fun e w'=>e=.returned (.bool (aJ t.data.toList))∧w=w':=by
 have hlen:t.data.toList.length=t.size:=by simp
 by_cases h4:t.size=4
 ·have d4:((t.size:Int) !=4)=false:=by simp;omega
  have HE:=qhz hlen;have HT:=qhz (sF (t:=t.data.toList) (by omega));have HF:=qhz (fun k (hk:k<t.data.toList.length) h=>vw hk h);have HX:=qhz (fun k (hk:k<t.data.toList.length) h ha=>th hk h ha);have HK:=qhz (fun k (hk:k<t.size) w=>iz hk w);clear hlen
  go_enter func44,ntmps44
  go_wp2
  go_loop [3,4] (fun i _=>∃k:Nat,k≤4∧i=.int .i64 k∧Hid ((t.data.toList.take k).all gF=true)) (fun i _=>4-(intOf i).toNat)
  case atStart=>exact⟨0,Nat.zero_le _,rfl,qhz rfl⟩
  case round=>
   obtain⟨k,hk,rfl,HA⟩:=hrel
   by_cases hlt:k<4
   ·have hkt:k<t.size:=by omega
    have hkl:k<t.data.toList.length:=by rw[HE.out];exact hkt
    have hf:=HF.out k hkl;have hn:=HX.out k hkl;have kx:=HK.out k hkt;obtain⟨b,hb⟩:=E1 (t.data.toList[k]);rw[←hb]at hf hn;simp only[←hb]at kx;have hlb:gF b=decide (65≤b.toNat∧b.toNat≤90∨97≤b.toNat∧b.toNat≤122):=rfl;have hb8:=b.toNat_lt;obtain⟨x,hx⟩:=E1 b.toNat;rw[←hx]at hlb hb8;simp only[←hx]at kx;clear hb hx
    by_cases h:65≤x∧x≤90∨97≤x∧x≤122
    ·have HN:=qhz (hn (by rw[hlb];exact decide_eq_true h) HA.out);clear hf hn hlb;go_wp2
     all_goals
      first
       |(exfalso;clear HA HN kx HE HT HF HX HK;simp at*;omega)
       |(go_round
         case rel=>exact⟨k+1,by omega,by go_num,HN⟩
         case measure=>simp[intOf];omega)
    ·have HN:=qhz (hf (by rw[hlb];exact decide_eq_false h));clear hf hn hlb;go_wp2
     all_goals
      first
       |(exfalso;clear HA HN kx HE HT HF HX HK;simp at*;omega)
       |(go_ret;exact⟨by rw[HN.out];rfl,rfl⟩)
   ·obtain rfl:k=4:=by omega
    have HN:=qhz (HT.out HA.out);go_wp2;go_ret;exact⟨by rw[HN.out];rfl,rfl⟩
 ·have d4:((t.size:Int) !=4)=true:=by simp;omega
  have HN:=qhz (uW (t:=t.data.toList) (by omega));clear hlen h4
  go_enter func44,ntmps44
  go_wp2;go_ret;exact⟨by rw[HN.out];rfl,rfl⟩
section
def OwnQc(w:World)(base:Nat)(v:Value)(L:List UInt8):Prop:=
 OwnY w base v L∨∃g,v=.slice (some ⟨g,0,none⟩) L.length L.length∧base≤g∧g<w.heap.size∧∀j u,(ah L)[j]? =some u→w.cell? ⟨g,j,none⟩=some u
theorem OwnQc.but{w w':World}{base:Nat}{v:Value}{L:List UInt8}(h:OwnQc w base v L)(hw:But [] w w'):OwnQc w' base v L:=by
 rcases h with h|⟨g,e,hb,hg,hc⟩
 ·exact .inl (h.but hw)
 ·exact .inr ⟨g,e,hb,Nat.lt_of_lt_of_le hg hw.size,fun j u hu=>hw.cell (hc j u hu) (by simp)⟩
theorem OwnQc.lt{w:World}{base:Nat}{v:Value}{L:List UInt8}(h:OwnQc w base v L):∀g,v.ownBlock=some g→base≤g:=by
 rcases h with h|⟨g,rfl,hb,_,_⟩
 ·exact fun g e=>(World.ownsRow.lt h g e).1
 ·intro k e;simp[Value.ownBlock]at e;omega
theorem sk(w:World){base n:Nat}{i:TypeInfo}(hi:prog.info? 5=some i)(hz:i.zero=some (.int .u8 0))(hsize:i.size=1)(hby:i.bytes=1){g:Nat}{xs:List Value}(hxl:xs.length=n)
 (holds:∀j u,xs[j]? =some u→w.cell? ((⟨g,0,none⟩:Addr).add j)=some u) (s:ByteArray) (hs:0<s.size) (hbound:n+s.size≤140737488355328) (hbase:base≤w.heap.size) (ty:TypeId):
 ∃c w',(Builtin.append_ #[47,9] ty #[.slice g n n,.string s]).run prog w=.ok (.slice w.heap.size (n+s.size) c) w'∧w'.ownsRow base 5 1 (.slice w.heap.size (n+s.size) c) (n+s.size) (xs++Lib.strCells s)∧∀row,w.grownBy w' row:=by
 have h63:n+s.size≤maxLen:=by unfold maxLen;omega
 have hlen:(xs++Lib.strCells s).length=(n+s.size)*1:=by rw[List.length_append,hxl,Lib.strCells_length,Nat.mul_one]
 have hge:=grownCap_ge w (n+s.size) n 5;have hcm:grownCap w (n+s.size) n 5≤maxLen:=grownCap_le_maxLen w (n+s.size) n 5 h63;have hr:=Lib.run_append_grow_string (P:=prog) w 47 9 ty 5 i (.int .u8 0) underlying47 underlying9 hi hz ⟨g,0,none⟩ n n xs (by rw[hsize];simpa using hxl) holds s (by omega) (by omega) (by rw[hby];exact growslice_fits (by omega) (by omega));refine⟨_,_,hr,⟨hlen,.inr ⟨w.heap.size,_,_,rfl,hbase,heap_alloc_new w.drew _,hge,hcm,?_,?_⟩⟩,fun row=>⟨rfl,rfl,rfl,by simp,fun k hk _=>heap_alloc_old w.drew _ hk⟩⟩
 ·have hz1:(Value.int IntKind.u8 0).cells.size=1:=rfl;simp only[Array.size_append,List.size_toArray,size_zeroCells,hz1,hxl,Lib.strCells_length];omega
 ·simp only[Array.toList_append,List.append_assoc];rw[←List.append_assoc,←hlen];exact List.take_left
theorem za(w:World){base:Nat}{i:TypeInfo}(hi:prog.info? 5=some i)(hz:i.zero=some (.int .u8 0))(hsize:i.size=1)(hby:i.bytes=1){v:Value}{L:List UInt8}(hO:OwnQc w base v L)(s:ByteArray)(hs:0<s.size)
 (hbound:L.length+s.size≤140737488355328) (hbase:base≤w.heap.size) (ty:TypeId):
 ∃A c w',(Builtin.append_ #[47,9] ty #[v,.string s]).run prog w=.ok (.slice A (L++s.data.toList).length c) w'∧OwnY w' base (.slice A (L++s.data.toList).length c) (L++s.data.toList)∧w.grownBy w' v.ownBlock:=by
 have hsl:s.data.toList.length=s.size:=Array.length_toList;rcases hO with h|⟨g,rfl,hb,hg,hc⟩
 ·obtain⟨v',w',hr,h2,h3,_⟩:=eH (P:=prog) w base 47 9 ty 5 i underlying47 underlying9 hi hz hsize hby v L.length (ah L) h s hbound hbase;obtain⟨A,c,rfl,_⟩:=lg h2;refine⟨A,c,w',?_,?_,h3⟩
  ·rw[List.length_append,hsl];exact hr
  ·unfold OwnY;rw[List.length_append,dB,hsl];exact h2
 ·obtain⟨c,w',hr,h2,h3⟩:=sk w hi hz hsize hby (n:=L.length) (xs:=ah L) (iZ L) (fun j u hu=>by
   have e2:(⟨g,0,none⟩:Addr).add j=⟨g,j,none⟩:=by unfold Addr.add;split<;>simp_all
   rw[e2];exact hc j u hu) s hs hbound hbase ty
  refine⟨some ⟨w.heap.size,0,none⟩,c,w',?_,?_,h3 _⟩
  ·rw[List.length_append,hsl];exact hr
  ·unfold OwnY;rw[List.length_append,dB,hsl];exact h2
theorem rJ{w0:World}(w:World){ops:Array Oper}{rest:List Oper}{o:Oper}{a:Act}{Q:Exit→Act→World→Prop}(hgd:o.guard=none)(sl x:Operand)
 (ho:o.op=.call {callee:=.builtin .append,args:=#[sl,x],argTypes:=#[47,9]})
 {i:TypeInfo} (hi:prog.info? 5=some i) (hz:i.zero=some (.int .u8 0)) (hsize:i.size=1) (hby:i.bytes=1) (v:Value) (L:List UInt8) (hs:a.eval sl=v) (hO:OwnQc w w0.heap.size v L) (hB:But [] w0 w) (X:List UInt8) (hx:a.eval x=.string (strL X))
 (hpos:0<X.length) (hbound:L.length+X.length≤140737488355328)
 (h:∀A c w' M,M=L++X→OwnY w' w0.heap.size (.slice A M.length c) M→But [] w0 w'→wpList prog ops Q rest (a.put o.dst (.slice A M.length c)) w'):wpList prog ops Q (o::rest) a w:=by
 refine wpList_plain hgd fun K hK=>?_;obtain⟨A,c,w',hr,h2,h3⟩:=za w hi hz hsize hby hO (strL X) (by rw[ac];exact hpos) (by rw[ac];exact hbound) hB.size o.type;rw[aj]at hr h2;unfold Oper.wp execOp;simp only[ho,resolve,invoke,builtin,Sem.run_bind,Sem.run_pure,Result.andThen_ok,List.map_toArray,List.map_cons,List.map_nil,hs,hx,hr];exact hK _ _ (h A c w' _ rfl h2 (hB.grown h3 (fun g e=>.inr (hO.lt g e))))
theorem kL{w0:World}(w:World){ops:Array Oper}{rest:List Oper}{o:Oper}{a:Act}{Q:Exit→Act→World→Prop}(hgd:o.guard=none)(sl x:Operand)
 (ho:o.op=.call {callee:=.builtin .append,args:=#[sl,x],argTypes:=#[47,9]})
 {i:TypeInfo} (hi:prog.info? 5=some i) (hz:i.zero=some (.int .u8 0)) (hsize:i.size=1) (hby:i.bytes=1) (v:Value) (L:List UInt8) (hs:a.eval sl=v) (hO:OwnY w w0.heap.size v L) (hB:But [] w0 w) (X:List UInt8) (hx:a.eval x=.string (strL X))
 (hbound:L.length+X.length≤140737488355328)
 (h:∀A c w' M,M=L++X→OwnY w' w0.heap.size (.slice A M.length c) M→But [] w0 w'→wpList prog ops Q rest (a.put o.dst (.slice A M.length c)) w'):wpList prog ops Q (o::rest) a w:=by
 refine wpList_plain hgd fun K hK=>?_;obtain⟨v',w',hr,h2,h3,_⟩:=eH (P:=prog) w w0.heap.size 47 9 o.type 5 i underlying47 underlying9 hi hz hsize hby v L.length (ah L) hO (strL X) (by rw[ac];exact hbound) hB.size;obtain⟨A,c,rfl,_⟩:=lg h2;have h4:=OwnY.strd hB hO h2 h3;rw[aj]at h4;have e:L.length+(strL X).size=(L++X).length:=by rw[ac,List.length_append]
 rw[e]at hr h4;unfold Oper.wp execOp;simp only[ho,resolve,invoke,builtin,Sem.run_bind,Sem.run_pure,Result.andThen_ok,List.map_toArray,List.map_cons,List.map_nil,hs,hx,hr];exact hK _ _ (h A c w' _ rfl h4.1 h4.2)
theorem wG{w0:World}(w:World){ops:Array Oper}{o:Oper}{a:Act}{K:Act→World→Prop}{Q:Exit→Act→World→Prop}{E:Prop}(hgd:o.guard=none)(sl x:Operand)
 (ho:o.op=.call {callee:=.builtin .append,args:=#[sl,x],argTypes:=#[47,9]})
 {i:TypeInfo} (hi:prog.info? 5=some i) (hz:i.zero=some (.int .u8 0)) (hsize:i.size=1) (hby:i.bytes=1) (v:Value) (L:List UInt8) (hs:a.eval sl=v) (hO:OwnY w w0.heap.size v L) (hB:But [] w0 w) (X:List UInt8) (hx:a.eval x=.string (strL X))
 (hbound:L.length+X.length≤140737488355328)
 (h:∀A c w' M,M=L++X→OwnY w' w0.heap.size (.slice A M.length c) M→But [] w0 w'→K (a.put o.dst (.slice A M.length c)) w'):if Region.wanted o (yielded ops a.tmps)=true then Oper.wp prog o a w K Q else E:=by
 have hw:Region.wanted o (yielded ops a.tmps)=true:=by simp[Region.wanted,hgd]
 rw[if_pos hw];obtain⟨v',w',hr,h2,h3,_⟩:=eH (P:=prog) w w0.heap.size 47 9 o.type 5 i underlying47 underlying9 hi hz hsize hby v L.length (ah L) hO (strL X) (by rw[ac];exact hbound) hB.size;obtain⟨A,c,rfl,_⟩:=lg h2;have h4:=OwnY.strd hB hO h2 h3;rw[aj]at h4;have e:L.length+(strL X).size=(L++X).length:=by rw[ac,List.length_append]
 rw[e]at hr h4;unfold Oper.wp execOp;simp only[ho,resolve,invoke,builtin,Sem.run_bind,Sem.run_pure,Result.andThen_ok,List.map_toArray,List.map_cons,List.map_nil,hs,hx,hr];exact h A c w' _ rfl h4.1 h4.2
theorem OwnQc.text{w:World}{base:Nat}{v:Value}{L:List UInt8}(h:OwnQc w base v L):(convert 47 9 v).run prog w=.ok (.string (strL L)) w:=by
 rcases h with h|⟨g,rfl,hb,hg,hc⟩
 ·exact ox h
 ·exact yf (L:=L) (cap:=L.length) fun j hj=>hc j _ (by simp[ah,hj])
theorem RF{t d:List UInt8}(h:aJ t=false):okC (t,d)=false:=by unfold okC;rw[h];rfl
theorem Qz{t d:List UInt8}(h:aJ t=true)(hd:d.length≤2147483647):okC (t,d)=true:=(m8 (t,d)).2 ⟨h,hd⟩
attribute [local irreducible] strL bH ofL cR aJ br encC
theorem Rt(w:World):OwnQc (w.alloc (.cells #[.int .u8 137,.int .u8 80,.int .u8 78,.int .u8 71,.int .u8 13,.int .u8 10,.int .u8 26,.int .u8 10] 5 (8,9))) w.heap.size (.slice w.heap.size 8 8) bH:=by
 refine .inr ⟨w.heap.size,by unfold bH;rfl,Nat.le_refl _,by simp,fun j u hu=>?_⟩;rw[World.cell?_alloc_mark];unfold bH ah at hu;have hj:j<8:=(List.getElem?_eq_some_iff.1 hu).1
 match j,hj with
 |0,_=>exact hu
 |1,_=>exact hu
 |2,_=>exact hu
 |3,_=>exact hu
 |4,_=>exact hu
 |5,_=>exact hu
 |6,_=>exact hu
 |7,_=>exact hu
theorem LI(w:World){A:Option Addr}{n cap:Nat}{L:List Ck}(hK:Cks w A n L)(hL:ml L≤100000000)(hn:n≤8796093022208):
 Calls prog 20 #[.slice A n cap] w fun e w'=>e=M8 (gj L)∧But [] w w':=by
 obtain⟨i0,hi0,hz0,hz1,hz2⟩:=info_parts lw;have HW0:=qhz (Rt w);have HB0:=qhz ((But.refl [] w).alloc (.cells #[.int .u8 137,.int .u8 80,.int .u8 78,.int .u8 71,.int .u8 13,.int .u8 10,.int .u8 26,.int .u8 10] 5 (8,9)));have kcv:=Lib.run_convert_bytes_const (P:=prog) w 47 5 #[.int .u8 137,.int .u8 80,.int .u8 78,.int .u8 71,.int .u8 13,.int .u8 10,.int .u8 26,.int .u8 10] 8 8 underlying47 underlying5;have kcv2:(convert 47 47 (.slice w.heap.size 8 8)).run prog (w.alloc (.cells #[.int .u8 137,.int .u8 80,.int .u8 78,.int .u8 71,.int .u8 13,.int .u8 10,.int .u8 26,.int .u8 10] 5))=.ok (.slice w.heap.size 8 8) (w.alloc (.cells #[.int .u8 137,.int .u8 80,.int .u8 78,.int .u8 71,.int .u8 13,.int .u8 10,.int .u8 26,.int .u8 10] 5 (8,9))):=kcv;have hLL:=hK.1;have HLL:=qhz hLL;have HK:=qhz hK;have HSL:=qhz hL;clear hK hL kcv hLL
 go_enter func20,ntmps20
 go_wp2_with fail
 go_loopw [4,5] (fun ov iv wr=>∃(i:Nat) (B:List UInt8),i≤n∧iv=.int .i64 i∧Hid (B=bH++encs (L.take i))∧Hid ((L.take i).all okC=true)∧Hid (OwnQc wr w.heap.size ov B)∧Hid (But [] w wr)) (fun _ iv _=>n-(intOf iv).toNat)
 case atStart=>exact⟨0,bH,Nat.zero_le _,rfl,qhz (by rw[List.take_zero];show _=bH++[];rw[List.append_nil]),qhz (by rw[List.take_zero];rfl),HW0,HB0⟩
 case round=>
  obtain⟨i,B,hi,rfl,HE,HA,HO,HB⟩:=hrel;clear HW0 HB0 kcv2;have hBl:B.length≤100000008:=by
   have h1:=qI L i HA.out;have h2:=HSL.out;have h3:=HE.out;have h8:bH.length=8:=by unfold bH;rfl
   rw[h3,List.length_append,h8];omega
  by_cases hlt:i<n
  ·obtain⟨g,o,c,rfl,hg,hc0,hc1,hat⟩:=HK.out.at hlt;obtain⟨t,d⟩:=c;have hsc:=wM L i (t,d) hat;have hcel:∀v,But [] w v→v.cell? ⟨g,o+i*2,none⟩=some (.string (strL t))∧v.cell? ⟨g,o+i*2+1,none⟩=some (.string (strL d)):=fun v hv=>⟨hv.cell hc0 (by simp),hv.cell hc1 (by simp)⟩
   have HC:=qhz hcel;obtain⟨c0,c1⟩:=HC.out wr HB.out;have hrt:=fun v=>GQ v (t:=strL t);simp only[aj]at hrt;have k0:(0:Int)≤(i:Int):=by omega
   have k1:(i:Int)<(n:Int):=by omega
   have hds:(strL d).size=d.length:=ac d;obtain⟨m,hm⟩:=E1 d.length;rw[←hm]at hds;have HM:=qhz hm;have HAT:=qhz hat;clear hcel hc0 hc1 hg hm hat
   by_cases hr:aJ t=false
   ·have HN:=qhz (Ex HAT.out (RF hr));simp only[hr]at hrt;have HRT:=qhz hrt;clear hrt hr hsc
    go_wp2_with fail
    refine(HRT.out wr).mono ?_;rintro e w1 ⟨rfl,rfl⟩;go_wp2
    go_ret2
    exact⟨by rw[HN.out];unfold M8 strL;rfl,HB.out⟩
   ·have hr':aJ t=true:=by simpa using hr
    simp only[hr']at hrt;have HRT:=qhz hrt;have hdl:m≤100000000:=by have h:=hsc hr';have:=HSL.out;have:=HM.out;dsimp only at h;omega
    clear hsc;have db:decide ((2147483647:Int)<(m:Int))=false:=by simp;omega
    have h4:=uX hr';have hf1:=fun v=>tP v (n:=m) (by omega);have hts:(strL t).size=4:=by rw[ac,h4]
    have htd:strL t++strL d=strL (t++d):=IQ t d;have hcr:=fun v=>Qk (strL (t++d)) v (by rw[ac,List.length_append,h4];unfold maxLen;have:=HM.out;omega);simp only[aj]at hcr;have hclt:=jF (t++d);have hf2:=fun v=>tP v (n:=cR (t++d)) (by omega);have hok:=Qz hr' (d:=d) (by have:=HM.out;omega);obtain⟨q,hq⟩:=E1 (cR (t++d));simp only[←hq]at hcr hf2;rw[←hq]at hclt;have hen:encC (t,d)=br m++(t++(d++br q)):=by rw[PF,hq,HM.out]
    have HF1:=qhz hf1;have HF2:=qhz hf2;have HCR:=qhz hcr;have HEN:=qhz hen;have HTL:=qhz h4;have HN:=qhz (show(L.take (i+1)).all okC=true by rw[lL HAT.out,List.all_append,HA.out];simp[hok]);have HN2:=qhz (show encs (L.take (i+1))=encs (L.take i)++encC (t,d)by rw[lL HAT.out,AB]);have kd:(9223372036854775807<4+m)=False:=by simp;omega
    clear hrt hr hr' hf1 hf2 hcr hok hq hen h4
    go_wp2_with fail
    refine(HRT.out wr).mono ?_;rintro e w1 ⟨rfl,rfl⟩
    go_wp2_with fail
    refine(HF1.out wr).mono ?_;rintro e w1 ⟨rfl,hB1⟩;have HO1:=qhz (HO.out.but hB1);have HB1:=qt HB hB1;clear hB1
    go_wp2_with (at_builtin;first
     |(refine rJ (w0:=w) w1 rfl _ _ rfl hi0 hz0 hz1 hz2 u4 B rfl HO1.out HB1.out (br m) rfl (by rw[az];decide) (by rw[az];omega) ?_;intro A2 b2 w2 B2 hM2 hO2 hB2;obtain⟨c0,c1⟩:=HC.out w2 hB2;have hl2:B2.length≤100000012:=(by rw[hM2,List.length_append,az];omega);have HM2:=qhz hM2;have HO2:=qhz hO2;have HB2:=qhz hB2;clear hO2 hB2 hM2)
     |(refine kL (w0:=w) w2 rfl _ _ rfl hi0 hz0 hz1 hz2 (.slice A2 B2.length b2) B2 rfl HO2.out HB2.out t rfl (by rw[HTL.out];omega) ?_;intro A3 b3 w3 B3 hM3 hO3 hB3;obtain⟨c0,c1⟩:=HC.out w3 hB3;have hl3:B3.length≤100000016:=(by rw[hM3,List.length_append,HTL.out];omega);have HM3:=qhz hM3;have HO3:=qhz hO3;have HB3:=qhz hB3;clear hO3 hB3 hM3)
     |(refine kL (w0:=w) w3 rfl _ _ rfl hi0 hz0 hz1 hz2 (.slice A3 B3.length b3) B3 rfl HO3.out HB3.out d rfl (by rw[←HM.out];omega) ?_;intro A4 b4 w4 B4 hM4 hO4 hB4;obtain⟨c0,c1⟩:=HC.out w4.drew hB4.drew;have hl4:B4.length≤200000016:=(by rw[hM4,List.length_append,←HM.out];omega);have HM4:=qhz hM4;have HO4:=qhz hO4;have HB4:=qhz hB4;clear hO4 hB4 hM4))
    go_region_law (first
     |(refine wG (w0:=w) w5 rfl _ _ rfl hi0 hz0 hz1 hz2 (.slice A4 B4.length b4) B4 rfl HO5.out HB5.out (br q) rfl (by rw[az];omega) ?_;intro A6 b6 w6 B6 hM6 hO6 hB6;have HM6:=qhz hM6;have HO6:=qhz hO6;have HB6:=qhz hB6;clear hO6 hB6 hM6)
     |(go_simp;go_wp2_with (first
      |(go_at_call 45;refine(HCR.out _).mono ?_;rintro e wz ⟨rfl,rfl⟩)
      |(go_at_call 36;refine(HF2.out _).mono ?_;rintro e w5 ⟨rfl,hB5⟩;have HO5:=qhz (HO4.out.but ((But.refl [] w4).drew.trans hB5));have HB5:=qhz (HB4.out.drew.trans hB5);clear hB5))))
    all_goals
     have HE6:=qhz (show B6=bH++encs (L.take (i+1)) by
      rw[HN2.out,HEN.out,HM6.out,HM4.out,HM3.out,HM2.out,HE.out];simp only[List.append_assoc])
     go_wp2
     go_roundw
     case rel=>exact⟨i+1,B6,by omega,by go_num,HE6,HN,qhz (.inl HO6.out),HB6⟩
     case measure=>simp[intOf];omega
  ·obtain rfl:i=n:=by omega
   have HN:=qhz (show gj L=(B,0) by
    have e:L.take i=L:=List.take_of_length_le (by rw[HLL.out];exact Nat.le_refl _);have h1:=HA.out;have h2:=HE.out;rw[e]at h1 h2;unfold gj;rw[if_pos h1,h2])
   have hcv:=HO.out.text;go_wp2
   go_ret2
   exact⟨by rw[HN.out];rfl,HB.out⟩
end
end Go.Proofs.YtbanopnofpjnbaaGreatDoor
