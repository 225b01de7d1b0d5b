/- Own texts in one: FiM, RwF, FiA, FiB, FiC, FiE. -/
import Derived.Test.YtbanopnofpjnbaaGreatDoorU26
set_option maxRecDepth 1000000
set_option linter.unusedVariables false
set_option maxHeartbeats 4000000
namespace Go.Proofs.YtbanopnofpjnbaaGreatDoor
open Go Go.RowKit Tryz
theorem QQ{s:List UInt8}{i:Nat}(h:s.length≤i):s.getD i 0=0:=by
 rw[List.getD_eq_getElem?_getD,List.getElem?_eq_none h];rfl
theorem Lj(s:ByteArray){k:Nat}(h:s.size≤k):s.data.toList.getD k 0=0:=QQ (by rw[Array.length_toList];exact h)
theorem nS{w0:World}(w:World){ops:Array Oper}{o:Oper}{a:Act}{K:Act→World→Prop}{Q:Exit→Act→World→Prop}{E:Prop}(hgd:o.guard=none)(sl x:Operand)
 (ho:o.op=.call {callee:=.builtin .append,args:=#[sl,x],argTypes:=#[47,47]})
 {i:TypeInfo} (hi:prog.info? 5=some i) (hz:i.zero=some (.int .u8 0)) (hsize:i.size=1) (hby:i.bytes=1) (v:Value) (L:List UInt8) (hs:a.eval sl=v) (hO:OwnF w w0.heap.size v L) (hB:But [] w0 w) (y:UInt8) {g:Nat}
 (hx:a.eval x=.slice g 1 1) (hI:Is w g 5 #[.int .u8 (y.toNat:Int)]) (hbound:L.length<140737488355328)
 (h:∀A c w' M,M=L++[y]→OwnF w' w0.heap.size (.slice A M.length c) M→But [] w0 w'→K (a.put o.dst (.slice A M.length c)) w'):if Region.wanted o (yielded ops a.tmps)=true then Oper.wp prog o a w K Q else E:=by
 refine step_append_lies w hgd sl x 47 ho w0.heap.size 5 i (.int .u8 0) 1 1 underlying47 hi hz hsize hby rfl (by omega) v L.length (cM L) hs hO ⟨g,0,none⟩ 1 1 [.int .u8 (y.toNat:Int)] hx rfl (Cn hI) (by simp[Value.oneCell']) (by omega) (by unfold maxLen;omega) (by omega) hB.size w.heap.size rfl ?_;intro g' cap w' hown hgrow _ _;have hO2:OwnF w' w0.heap.size (.slice g' (L++[y]).length cap) (L++[y]):=by
  unfold OwnF;rw[List.length_append,gP];exact hown
 have key:=h (some ⟨g',0,none⟩) cap w' (L++[y]) rfl hO2 (hB.grown hgrow (fun k e=>.inr (hO.lt k e)));rw[List.length_append]at key;exact key
def atF(s:ByteArray)(i:Int):Nat:=if i<0 then 0 else(s.data.toList.getD i.toNat 0).toNat
theorem Rg(s:ByteArray){i:Int}(h:i<0):atF s i=0:=by unfold atF;rw[if_pos h]
theorem Pl(s:ByteArray){i:Int}(h0:0≤i)(h:(s.size:Int)≤i):atF s i=0:=by
 unfold atF;rw[if_neg (by omega),Lj s (by omega)];rfl
theorem ME(s:ByteArray)(k:Nat):atF s (k:Int)=(s.data.toList.getD k 0).toNat:=by
 unfold atF;rw[if_neg (by omega)];rfl
theorem PI(s:ByteArray)(i:Int):atF s i<256:=by
 unfold atF;split
 ·omega
 ·exact UInt8.toNat_lt _
theorem mh(s:ByteArray)(n k:Nat):atF s ((k:Int)-(n:Int))=bU s.data.toList n k:=by
 unfold atF bU
 by_cases h:k<n
 ·rw[if_pos (by omega),if_pos h]
 ·rw[if_neg (by omega),if_neg h,show((k:Int)-(n:Int)).toNat=k-n by omega]
theorem CT(w:World)(s:ByteArray)(i:Int)(hs:s.size≤140737488355328):
 Calls prog 80 #[s,i] w fun e w'=>e=.returned (.int .i64 (atF s i))∧w=w':=by
 by_cases h0:i<0
 ·have h1:decide (i<0)=true:=decide_eq_true h0;have HR:=qhz (Rg s h0)
  go_enter func80,ntmps80
  go_wp2;go_ret;exact⟨by rw[HR.out];rfl,rfl⟩
 ·obtain⟨k,rfl⟩:∃k:Nat,i=(k:Int):=⟨i.toNat,by omega⟩
  by_cases h1:k<s.size
  ·have HR:Hid (atF s (k:Int)=s[k].toNat):=qhz (by rw[ME,bN s h1]);have hb:=s[k].toNat_lt;have hwr:wrap64 ((s[k].toNat:Nat):Int)=(s[k].toNat:Nat):=IntWalk.wrap64_in _ ⟨by omega,by omega⟩
   go_enter func80,ntmps80
   go_wp2;go_ret;exact⟨by rw[HR.out];rfl,rfl⟩
  ·have HR:Hid (atF s (k:Int)=0):=qhz (Pl s (by omega) (by omega))
   go_enter func80,ntmps80
   go_wp2;go_ret;exact⟨by rw[HR.out];rfl,rfl⟩
theorem tQ(w:World)(a b:Int)(ha: -100000≤a∧a≤100000)(hb: -100000≤b∧b≤100000):
 Calls prog 130 #[a,b] w fun e w'=>e=.returned (.int .i64 ((a-b).natAbs:Nat))∧w=w':=by
 obtain⟨a1,a2⟩:=ha;obtain⟨b1,b2⟩:=hb
 go_enter func130,ntmps130
 go_wp2
 all_goals
  go_ret;refine⟨?_,rfl⟩;exact congrArg (fun x=>Ending.returned (.int .i64 x)) (by omega)
theorem GN(w:World)(kind:Int){a b c:Nat}(ha:a<256)(hb:b<256)(hc:c<256):
 Calls prog 81 #[kind,a,b,c] w fun e w'=>e=.returned (.int .i64 (fx kind a b c:Nat))∧w=w':=by
 by_cases h1:kind=1
 ·subst h1;rw[J6]
  go_enter func81,ntmps81
  go_wp2;go_ret;exact⟨rfl,rfl⟩
 by_cases h2:kind=2
 ·subst h2;rw[J5]
  go_enter func81,ntmps81
  go_wp2;go_ret;exact⟨rfl,rfl⟩
 by_cases h3:kind=3
 ·subst h3;rw[J4]
  go_enter func81,ntmps81
  go_wp2;go_ret;exact⟨by first|rfl|(congr 2;omega),rfl⟩
 by_cases h4:kind=4
 ·subst h4;rw[J0];obtain⟨p,hp⟩:∃p,(a:Int)+b-c=p:=⟨_,rfl⟩
  obtain⟨x,hx⟩:=E1 (((b:Int)-c).natAbs);obtain⟨y,hy⟩:=E1 (((a:Int)-c).natAbs);obtain⟨z,hz⟩:=E1 (((a:Int)+b-c-c).natAbs);have H1:Hid (∀v,Calls prog 130 #[.int .i64 p,a] v fun e w'=>e=.returned (.int .i64 (x:Nat))∧v=w'):=qhz fun v=>by
   rw[hx,show(b:Int)-c=p-a by omega];exact tQ v _ _ (by omega) (by omega)
  have H2:Hid (∀v,Calls prog 130 #[.int .i64 p,b] v fun e w'=>e=.returned (.int .i64 (y:Nat))∧v=w'):=qhz fun v=>by
   rw[hy,show(a:Int)-c=p-b by omega];exact tQ v _ _ (by omega) (by omega)
  have H3:Hid (∀v,Calls prog 130 #[.int .i64 p,c] v fun e w'=>e=.returned (.int .i64 (z:Nat))∧v=w'):=qhz fun v=>by
   rw[hz,hp];exact tQ v _ _ (by omega) (by omega)
  rw[←hx,←hy,←hz];have hpb: -1000≤p∧p≤1000:=by omega
  obtain⟨p0,p1⟩:=hpb;clear hx hy hz
  by_cases c1:x≤y
  ·by_cases c2:x≤z
   ·have HR:=qhz (show(if x≤y∧x≤z then a else if y≤z then b else c)=a by rw[if_pos ⟨c1,c2⟩])
    go_enter func81,ntmps81
    go_wp2_with fail
    refine(H1.out _).mono ?_;rintro e w1 ⟨rfl,rfl⟩
    go_wp2_with fail
    refine(H2.out _).mono ?_;rintro e w1 ⟨rfl,rfl⟩
    go_wp2_with fail
    refine(H1.out _).mono ?_;rintro e w1 ⟨rfl,rfl⟩
    go_wp2_with fail
    refine(H3.out _).mono ?_;rintro e w1 ⟨rfl,rfl⟩
    go_wp2_with fail
    go_ret
    first|exact⟨rfl,rfl⟩|exact⟨by rw[HR.out];rfl,rfl⟩
   ·by_cases c3:y≤z
    ·exact absurd (Nat.le_trans c1 c3) c2
    ·have HR:Hid ((if x≤y∧x≤z then a else if y≤z then b else c)=c):=qhz (by rw[if_neg (by omega),if_neg c3])
     go_enter func81,ntmps81
     go_wp2_with fail
     refine(H1.out _).mono ?_;rintro e w1 ⟨rfl,rfl⟩
     go_wp2_with fail
     refine(H2.out _).mono ?_;rintro e w1 ⟨rfl,rfl⟩
     go_wp2_with fail
     refine(H1.out _).mono ?_;rintro e w1 ⟨rfl,rfl⟩
     go_wp2_with fail
     refine(H3.out _).mono ?_;rintro e w1 ⟨rfl,rfl⟩
     go_wp2_with fail
     refine(H2.out _).mono ?_;rintro e w1 ⟨rfl,rfl⟩
     go_wp2_with fail
     refine(H3.out _).mono ?_;rintro e w1 ⟨rfl,rfl⟩
     go_wp2_with fail
     go_ret
     first|exact⟨rfl,rfl⟩|exact⟨by rw[HR.out];rfl,rfl⟩
  ·by_cases c3:y≤z
   ·have HR:Hid ((if x≤y∧x≤z then a else if y≤z then b else c)=b):=qhz (by rw[if_neg (by omega),if_pos c3])
    go_enter func81,ntmps81
    go_wp2_with fail
    refine(H1.out _).mono ?_;rintro e w1 ⟨rfl,rfl⟩
    go_wp2_with fail
    refine(H2.out _).mono ?_;rintro e w1 ⟨rfl,rfl⟩
    go_wp2_with fail
    refine(H2.out _).mono ?_;rintro e w1 ⟨rfl,rfl⟩
    go_wp2_with fail
    refine(H3.out _).mono ?_;rintro e w1 ⟨rfl,rfl⟩
    go_wp2_with fail
    go_ret
    first|exact⟨rfl,rfl⟩|exact⟨by rw[HR.out];rfl,rfl⟩
   ·have HR:Hid ((if x≤y∧x≤z then a else if y≤z then b else c)=c):=qhz (by rw[if_neg (by omega),if_neg c3])
    go_enter func81,ntmps81
    go_wp2_with fail
    refine(H1.out _).mono ?_;rintro e w1 ⟨rfl,rfl⟩
    go_wp2_with fail
    refine(H2.out _).mono ?_;rintro e w1 ⟨rfl,rfl⟩
    go_wp2_with fail
    refine(H2.out _).mono ?_;rintro e w1 ⟨rfl,rfl⟩
    go_wp2_with fail
    refine(H3.out _).mono ?_;rintro e w1 ⟨rfl,rfl⟩
    go_wp2_with fail
    go_ret
    first|exact⟨rfl,rfl⟩|exact⟨by rw[HR.out];rfl,rfl⟩
 ·have d1:(kind==1)=false:=by simpa using h1
  have d2:(kind==2)=false:=by simpa using h2
  have d3:(kind==3)=false:=by simpa using h3
  have d4:(kind==4)=false:=by simpa using h4
  rw[vd h1 h2 h3 h4]
  go_enter func81,ntmps81
  go_wp2;go_ret;exact⟨rfl,rfl⟩
theorem GM(w:World)(bpp kind:Int)(s t:ByteArray)(hs:s.size≤140737488355328)(ht:t.size≤140737488355328):
 Calls prog 79 #[bpp,kind,s,t] w fun e w'=>e=.returned (.int .i64 (aL bpp kind s t))∧w=w':=by
 obtain⟨r,hr⟩:=E1 (aL bpp kind s t);rw[←hr];have HR:=qhz hr;clear hr
 by_cases hz:t.size=0
 ·have e1:=jE hz;have HZ:=qhz hz
  go_enter func79,ntmps79
  go_wp2
  all_goals
   go_ret;refine⟨?_,rfl⟩;rw[HR.out];have hz:=HZ.out;clear HR HZ e1;unfold aL bO
   simp_all
   try omega
 ·have e1:=oN hz;have HZ:=qhz hz
  go_enter func79,ntmps79
  go_wp2
  all_goals
   go_ret;refine⟨?_,rfl⟩;rw[HR.out];have hz:=HZ.out;clear HR HZ e1;unfold aL bO
   simp_all
   try omega
theorem OV(kind:Int)(n:Nat)(l m:List UInt8){k:Nat}(h:k<l.length):(doF kind n l m).take (k+1)=(doF kind n l m).take k++[l.getD k 0-gz kind n l m k]:=by
 have hl:k<(doF kind n l m).length:=by rw[cq];exact h
 rw[List.take_succ_eq_append_getElem hl,←gG hl,EG _ _ _ _ h]
theorem CR(w:World)(bpp kind:Int)(s t:ByteArray)(hs:s.size≤140737488351232)(ht:t.size≤140737488351232):
 Calls prog 42 #[bpp,kind,s,t] w (R1z (.tuple #[(strL (doA bpp kind s t)),.int .i64 (aL bpp kind s t)]) w):=by
 have hW:=fun v=>GM v bpp kind s t (by omega) (by omega)
 by_cases h0:aL bpp kind s t≠0
 ·obtain⟨er,her⟩:=E1 (aL bpp kind s t);rw[CW h0];have h1:er=1∨er=28:=by rcases kK bpp kind s t with h|h|h<;>simp_all
  rw[←her];simp only[←her]at hW;have HW:=qhz hW;clear hW her h0;rcases h1 with rfl|rfl
  ·go_enter func42,ntmps42
   go_wp2_with fail
   refine(HW.out _).mono ?_;rintro e w1 ⟨rfl,rfl⟩;go_wp2
   go_ret2
   exact⟨rfl,But.refl [] _⟩
  ·go_enter func42,ntmps42
   go_wp2_with fail
   refine(HW.out _).mono ?_;rintro e w1 ⟨rfl,rfl⟩;go_wp2
   go_ret2
   exact⟨rfl,But.refl [] _⟩
 have h0:aL bpp kind s t=0:=by simpa using h0
 obtain⟨⟨hb1,hb8⟩,hts,hk0,hk4⟩:=jK h0;obtain⟨n,rfl⟩:∃n:Nat,bpp=(n:Int):=⟨bpp.toNat,by omega⟩
 have hn1:1≤n:=by omega
 have hn8:n≤8:=by omega
 rw[vN h0,h0];rw[h0]at hW;have HW:=qhz hW;have HH:=qhz h0;have HTS:=qhz hts;obtain⟨R,hR⟩:=E1 (doF kind n s.data.toList t.data.toList);have hRl:R.length=s.size:=by rw[hR,cq,Array.length_toList];rfl
 rw[←hR];have HRl:=qhz hRl;have HR:=qhz hR;obtain⟨i0,hi0,hz0,hz1,hz2⟩:=info_parts l8;clear hW h0 hts hR hRl hb1 hb8
 go_enter func42,ntmps42
 go_wp2_with fail
 refine(HW.out _).mono ?_;rintro e w1 ⟨rfl,rfl⟩
 go_wp2_with fail
 go_loopw [11,12] (fun ov kv wr=>∃(k:Nat) (L:List UInt8),k≤s.size∧kv=.int .i64 k∧Hid (L=R.take k)∧Hid (OwnF wr w.heap.size ov L)∧Hid (But [] w wr)) (fun _ kv _=>s.size-(intOf kv).toNat)
 case atStart=>exact⟨0,[],Nat.zero_le _,rfl,qhz (by rw[List.take_zero]),qhz (OwnF.nil _ _),qhz (But.refl [] _)⟩
 case round=>
  obtain⟨k,L,hk,rfl,HL,HO,HB⟩:=hrel
  by_cases hlt:k<s.size
  ·obtain⟨A,c,rfl⟩:=HO.out.shape;have hLl:L.length=k:=by rw[HL.out,List.length_take,HRl.out];omega
   have HLL:=qhz hLl;rw[hLl];clear hLl;have wkn:IntKind.i64.wrap ((k:Int)-(n:Int))=(k:Int)-(n:Int):=by rw[IntKind.wrap_i64];omega
   obtain⟨b,hb⟩:=E1 (s[k].toNat);have kx:∀w,(Instr.index 9 (.string s) (.int .i64 (k:Int))).run prog w=.ok (.int .u8 (b:Int)) w:=fun w=>by rw[hb];exact lD hlt w
   have hb256:b<256:=by rw[hb];exact s[k].toNat_lt
   obtain⟨qa,hqa⟩:=E1 (bU s.data.toList n k);obtain⟨qb,hqb⟩:=E1 ((t.data.toList.getD k 0).toNat);obtain⟨qc,hqc⟩:=E1 (bU t.data.toList n k);have la:qa<256:=by rw[hqa,←mh];exact PI _ _
   have lb:qb<256:=by rw[hqb];exact UInt8.toNat_lt _
   have lc:qc<256:=by rw[hqc,←mh];exact PI _ _
   have HA:Hid (∀v,Calls prog 80 #[s,.int .i64 ((k:Int)-(n:Int))] v fun e w'=>e=.returned (.int .i64 (qa:Nat))∧v=w'):=qhz fun v=>by
    rw[hqa,←mh];exact CT v s _ (by omega)
   have HQB:Hid (∀v,Calls prog 80 #[t,.int .i64 (k:Int)] v fun e w'=>e=.returned (.int .i64 (qb:Nat))∧v=w'):=qhz fun v=>by
    rw[hqb,←ME];exact CT v t _ (by omega)
   have HC:Hid (∀v,Calls prog 80 #[t,.int .i64 ((k:Int)-(n:Int))] v fun e w'=>e=.returned (.int .i64 (qc:Nat))∧v=w'):=qhz fun v=>by
    rw[hqc,←mh];exact CT v t _ (by omega)
   have hc0:k<n→qc=0:=fun h=>by rw[hqc];unfold bU;rw[if_pos h]
   obtain⟨p,hp⟩:=E1 (fx kind qa qb qc);have wb:IntKind.i64.wrap (b:Int)=(b:Int):=by rw[IntKind.wrap_i64];omega
   have hp256:p<256:=by rw[hp];exact lR kind la lb lc
   have wbp:IntKind.i64.wrap ((b:Int)-(p:Int))=(b:Int)-(p:Int):=by rw[IntKind.wrap_i64];omega
   have HP:Hid (∀v,Calls prog 81 #[kind,qa,qb,qc] v fun e w'=>e=.returned (.int .i64 (p:Nat))∧v=w'):=qhz fun v=>by
    rw[hp];exact GN v kind la lb lc
   obtain⟨y,hy⟩:=E1 (s.data.toList.getD k 0-gz kind n s.data.toList t.data.toList k);have ew:IntKind.u8.wrap ((b:Int)-(p:Int))=((y.toNat:Nat):Int):=by
    have hfo:(gz kind n s.data.toList t.data.toList k).toNat=p:=by
     unfold gz;rw[←hqa,←hqb,←hqc,←hp,UInt8.toNat_ofNat'];omega
    rw[hy,UInt8.toNat_sub,hfo,bN s hlt,←hb,IntKind.wrap_u8];omega
   have HN:Hid (L++[y]=R.take (k+1)):=qhz (by rw[HL.out,HR.out,OV _ _ _ _ (by rw[Array.length_toList];exact hlt),hy]);clear hb hqa hqb hqc hp hy
   by_cases hkn:k<n
   ·obtain rfl:qc=0:=hc0 hkn
    go_upto_region 11 with(fail)
    refine bw (S:=fun v=>But [] w v) (R:=fun v v'=>But [] v v') (fun w=>But.refl [] w) (by kernel_rfl) (HB.out.drew) ?_;refine rdk 0 (.slice A k c) ?_;refine rdk 1 (.string s) ?_;refine rdk 2 (.int .i64 (k:Int)) ?_;refine rdk 3 (.int .u8 (b:Int)) ?_;refine rdk 4 (.int .i64 (b:Int)) ?_;refine rdk 5 (.int .i64 kind) ?_;refine rdk 6 (.string s) ?_;refine rdk 7 (.int .i64 (k:Int)) ?_;refine rdk 8 (.int .i64 (n:Int)) ?_;refine rdk 9 (.int .i64 ((k:Int)-(n:Int))) ?_;refine cr (fun w=>But.refl [] w) (fun x y z h k=>h.trans k) (i:=10) (v:=.int .i64 (qa:Int)) rfl (by kernel_rfl) (by kernel_rfl) (by kernel_rfl) (fun _ _ _ h=>h) (.inl ⟨?_,fun w hS=>.inr ⟨_,_,?_,(HA.out w).mono ?_⟩⟩) ?_
    ·go_simp
    ·go_simp
    ·rintro e wy ⟨rfl,rfl⟩;exact⟨rfl,hS,But.refl [] _⟩
    refine rdk 11 (.string t) ?_;refine rdk 12 (.int .i64 (k:Int)) ?_;refine cr (fun w=>But.refl [] w) (fun x y z h k=>h.trans k) (i:=13) (v:=.int .i64 (qb:Int)) rfl (by kernel_rfl) (by kernel_rfl) (by kernel_rfl) (fun _ _ _ h=>h) (.inl ⟨?_,fun w hS=>.inr ⟨_,_,?_,(HQB.out w).mono ?_⟩⟩) ?_
    ·go_simp
    ·go_simp
    ·rintro e wy ⟨rfl,rfl⟩;exact⟨rfl,hS,But.refl [] _⟩
    refine rdk 14 (.int .i64 0) ?_;refine cr (fun w=>But.refl [] w) (fun x y z h k=>h.trans k) (i:=15) (v:=.int .i64 (p:Int)) rfl (by kernel_rfl) (by kernel_rfl) (by kernel_rfl) (fun _ _ _ h=>h) (.inl ⟨?_,fun w hS=>.inr ⟨_,_,?_,(HP.out w).mono ?_⟩⟩) ?_
    ·go_simp
    ·go_simp
    ·rintro e wy ⟨rfl,rfl⟩;exact⟨rfl,hS,But.refl [] _⟩
    refine rdk 16 (.int .i64 ((b:Int)-(p:Int))) ?_;refine rdk 17 (.int .u8 ((y.toNat:Nat):Int)) ?_;refine cI (i:=18) rfl (by kernel_rfl) fun w1 hR1 hS1 K' hK=>?_;go_simp;refine hK _ _ ⟨hS1.alloc _,?_⟩;clear hK K';have hI1:=Is.fresh w1 5 #[.int .u8 ((y.toNat:Nat):Int)];have hO1:=HO.out.but (((But.refl [] wr).drew.trans hR1).alloc (.cells #[.int .u8 ((y.toNat:Nat):Int)] 5));refine cI (i:=19) rfl (by kernel_rfl) fun w2 hR2 hS2 K' hK=>?_;refine nS (w0:=w) w2 rfl _ _ rfl hi0 hz0 hz1 hz2 (.slice A L.length c) L (by rw[HLL.out];rfl) (hO1.but hR2) hS2 y (by rfl) (hI1.but hR2 (by simp)) (by rw[HLL.out];omega) ?_;intro A2 c2 w3 M hM hO3 hB3;refine hK _ _ ⟨hB3,?_⟩;clear hK K';refine rdk 20 (.slice A2 M.length c2) ?_;refine⟨by kernel_rfl,fun w4 hR4 hS4=>?_⟩;have HO4:=qhz (hO3.but hR4);have HB4:=qhz hS4;have HM:Hid (M=R.take (k+1)):=qhz (by rw[hM];exact HN.out);clear hR4 hS4 hO3 hB3 hM hI1 hO1 hR1 hS1 hR2 hS2;go_simp;go_wp2
    go_roundw
    case rel=>exact⟨k+1,M,by omega,by go_num,HM,HO4,HB4⟩
    case measure=>simp[intOf];omega
   ·go_upto_region 11 with(refine(HC.out _).mono ?_;rintro e w1 ⟨rfl,rfl⟩)
    refine bw (S:=fun v=>But [] w v) (R:=fun v v'=>But [] v v') (fun w=>But.refl [] w) (by kernel_rfl) (HB.out.drew) ?_;refine rdk 0 (.slice A k c) ?_;refine rdk 1 (.string s) ?_;refine rdk 2 (.int .i64 (k:Int)) ?_;refine rdk 3 (.int .u8 (b:Int)) ?_;refine rdk 4 (.int .i64 (b:Int)) ?_;refine rdk 5 (.int .i64 kind) ?_;refine rdk 6 (.string s) ?_;refine rdk 7 (.int .i64 (k:Int)) ?_;refine rdk 8 (.int .i64 (n:Int)) ?_;refine rdk 9 (.int .i64 ((k:Int)-(n:Int))) ?_;refine cr (fun w=>But.refl [] w) (fun x y z h k=>h.trans k) (i:=10) (v:=.int .i64 (qa:Int)) rfl (by kernel_rfl) (by kernel_rfl) (by kernel_rfl) (fun _ _ _ h=>h) (.inl ⟨?_,fun w hS=>.inr ⟨_,_,?_,(HA.out w).mono ?_⟩⟩) ?_
    ·go_simp
    ·go_simp
    ·rintro e wy ⟨rfl,rfl⟩;exact⟨rfl,hS,But.refl [] _⟩
    refine rdk 11 (.string t) ?_;refine rdk 12 (.int .i64 (k:Int)) ?_;refine cr (fun w=>But.refl [] w) (fun x y z h k=>h.trans k) (i:=13) (v:=.int .i64 (qb:Int)) rfl (by kernel_rfl) (by kernel_rfl) (by kernel_rfl) (fun _ _ _ h=>h) (.inl ⟨?_,fun w hS=>.inr ⟨_,_,?_,(HQB.out w).mono ?_⟩⟩) ?_
    ·go_simp
    ·go_simp
    ·rintro e wy ⟨rfl,rfl⟩;exact⟨rfl,hS,But.refl [] _⟩
    refine rdk 14 (.int .i64 (qc:Int)) ?_;refine cr (fun w=>But.refl [] w) (fun x y z h k=>h.trans k) (i:=15) (v:=.int .i64 (p:Int)) rfl (by kernel_rfl) (by kernel_rfl) (by kernel_rfl) (fun _ _ _ h=>h) (.inl ⟨?_,fun w hS=>.inr ⟨_,_,?_,(HP.out w).mono ?_⟩⟩) ?_
    ·go_simp
    ·go_simp
    ·rintro e wy ⟨rfl,rfl⟩;exact⟨rfl,hS,But.refl [] _⟩
    refine rdk 16 (.int .i64 ((b:Int)-(p:Int))) ?_;refine rdk 17 (.int .u8 ((y.toNat:Nat):Int)) ?_;refine cI (i:=18) rfl (by kernel_rfl) fun w1 hR1 hS1 K' hK=>?_;go_simp;refine hK _ _ ⟨hS1.alloc _,?_⟩;clear hK K';have hI1:=Is.fresh w1 5 #[.int .u8 ((y.toNat:Nat):Int)];have hO1:=HO.out.but (((But.refl [] wr).drew.trans hR1).alloc (.cells #[.int .u8 ((y.toNat:Nat):Int)] 5));refine cI (i:=19) rfl (by kernel_rfl) fun w2 hR2 hS2 K' hK=>?_;refine nS (w0:=w) w2 rfl _ _ rfl hi0 hz0 hz1 hz2 (.slice A L.length c) L (by rw[HLL.out];rfl) (hO1.but hR2) hS2 y (by rfl) (hI1.but hR2 (by simp)) (by rw[HLL.out];omega) ?_;intro A2 c2 w3 M hM hO3 hB3;refine hK _ _ ⟨hB3,?_⟩;clear hK K';refine rdk 20 (.slice A2 M.length c2) ?_;refine⟨by kernel_rfl,fun w4 hR4 hS4=>?_⟩;have HO4:=qhz (hO3.but hR4);have HB4:=qhz hS4;have HM:Hid (M=R.take (k+1)):=qhz (by rw[hM];exact HN.out);clear hR4 hS4 hO3 hB3 hM hI1 hO1 hR1 hS1 hR2 hS2;go_simp;go_wp2
    go_roundw
    case rel=>exact⟨k+1,M,by omega,by go_num,HM,HO4,HB4⟩
    case measure=>simp[intOf];omega
  ·have HE:Hid (L=R):=qhz (by rw[HL.out,List.take_of_length_le];rw[HRl.out];omega);have hct:=HO.out.text;rw[HE.out]at hct;go_wp2
   go_ret2
   exact⟨rfl,HB.out⟩
theorem Lz(w:World)(bpp:Int)(s t:ByteArray)(hs:s.size≤140737488351232)(ht:t.size≤140737488351232):
 Calls prog 40 #[bpp,s,t] w (R1z (.tuple #[(zw bpp s t:Nat),.int .i64 (bO bpp s t)]) w):=by
 have hD:=fun v (k:Nat)=>CR v bpp k s t hs ht
 by_cases h0:bO bpp s t≠0
 ·have h1:bO bpp s t=1:=by rcases kJ bpp s t with h|h;exact absurd h h0;exact h
  have HD:Hid (∀v,Calls prog 42 #[bpp,(0:Int),s,t] v (R1z (.tuple #[.string ⟨#[]⟩,(1:Int)]) v)):=qhz fun v=>by
   have h:=hD v 0;have e:aL bpp ((0:Nat):Int) s t=1:=by rw[fM (by decide) (by decide),h1]
   rw[CW (by rw[e];decide),e]at h;exact h
  rw[zv h0,h1];clear hD h0 h1
  go_enter func40,ntmps40
  go_wp2_with fail
  go_loopw [8,9,10] (fun bv lv kv wr=>bv=.int .i64 0∧lv=.int .i64 0∧kv=.int .i64 0∧Hid (But [] w wr)) (fun _ _ _ _=>0)
  case atStart=>exact⟨rfl,rfl,rfl,qhz (But.refl [] _)⟩
  case round=>
   obtain⟨rfl,rfl,rfl,HB⟩:=hrel
   go_wp2_with fail
   refine(HD.out _).mono ?_;rintro e w1 ⟨rfl,hB⟩;have HB1:=qhz hB;clear hB;go_wp2
   go_ret2
   exact⟨rfl,HB.out.trans HB1.out⟩
 have h0:bO bpp s t=0:=by simpa using h0
 obtain⟨hb1,hb8,hts⟩:=rG h0;obtain⟨n,rfl⟩:∃n:Nat,bpp=(n:Int):=⟨bpp.toNat,by omega⟩
 rw[rd h0,h0];obtain⟨X,hX⟩:∃X:Nat→List UInt8,X=fun k=>doF (k:Nat) n s.data.toList t.data.toList:=⟨_,rfl⟩
 obtain⟨c,hc⟩:∃c:Nat→Nat,c=fun k=>kG (X k):=⟨_,rfl⟩
 have hXl:∀k,(X k).length=s.size:=fun k=>by rw[hX];dsimp only;rw[cq,Array.length_toList];rfl
 have HD:Hid (∀v (k:Nat),k≤4→Calls prog 42 #[n,.int .i64 (k:Int),s,t] v (R1z (.tuple #[.string (strL (X k)),(0:Int)]) v)):=qhz fun v k hk=>by
  have h:=hD v k;have e:aL (n:Int) (k:Int) s t=0:=by rw[fM (by omega) (by omega),h0]
  rw[vN e,e]at h;rw[hX];exact h
 have HR:Hid (kC n s.data.toList t.data.toList=(bstF c 5).1):=qhz (by unfold kC;rw[hc,hX];rfl);have HXL:=qhz hXl;have HCC:Hid (∀k,c k=kG (X k)):=qhz fun k=>by rw[hc]
 have HCL:Hid (∀k,c k≤18014398508957696):=qhz fun k=>by
  rw[hc];dsimp only;have h1:=EJ (X k);rw[hXl]at h1;omega
 clear hD h0 hX hc hXl
 go_enter func40,ntmps40
 go_wp2_with fail
 go_loopw [8,9,10] (fun bv lv kv wr=>∃k b l:Nat,k≤5∧kv=.int .i64 (k:Int)∧bv=.int .i64 (b:Int)∧lv=.int .i64 (l:Int)∧Hid ((b,l)=bstF c k)∧Hid (But [] w wr)) (fun _ _ kv _=>5-(intOf kv).toNat)
 case atStart=>exact⟨0,0,0,Nat.zero_le _,rfl,rfl,rfl,qhz rfl,qhz (But.refl [] _)⟩
 case round=>
  obtain⟨k,b,l,hk,rfl,rfl,rfl,HE,HB⟩:=hrel
  by_cases hlt:k≤4
  ·go_wp2_with fail
   refine(HD.out _ k hlt).mono ?_;rintro e w1 ⟨rfl,hB⟩;have HB1:=qt HB hB;obtain⟨S,hS⟩:=E1 (strL (X k));have hSl:S.size=s.size:=by rw[hS,ac,HXL.out]
   have HS:=qhz hS;have hbl:l≤18014398508957696∧b≤k:=by
    have h1:=C7 c HCL.out k;rw[←HE.out]at h1;exact h1
   obtain⟨hl1,hb1⟩:=hbl;rw[←hS];obtain⟨m,hm⟩:=E1 S.size;have hm2:m≤140737488351232:=by rw[hm,hSl];exact hs
   have HM:=qhz hm;have HSL:=qhz hSl;clear hB hS hSl
   go_wp2_with fail
   go_loopw [13,14] (fun nv iv wx=>∃i a:Nat,i≤m∧iv=.int .i64 (i:Int)∧nv=.int .i64 (a:Int)∧Hid (a=kG ((X k).take i))∧Hid (But [] w wx)) (fun _ iv _=>m-(intOf iv).toNat)
   case atStart=>exact⟨0,0,Nat.zero_le _,rfl,rfl,qhz (by rw[List.take_zero];rfl),HB1⟩
   case round=>
    obtain⟨i,a,hi,rfl,rfl,HA,HB2⟩:=hrel;have ha:a≤18014398508957696:=by rw[HA.out];have h:=oV (X k) i (B:=140737488351232) (by rw[HXL.out];exact hs);omega
    by_cases hit:i<S.size
    ·obtain⟨y,hy⟩:=E1 (S[i]);obtain⟨b,hb⟩:=E1 y.toNat;have hb256:b<256:=by rw[hb];exact y.toNat_lt
     have kx:∀w,(Instr.index 9 (.string S) (.int .i64 (i:Int))).run prog w=.ok (.int .u8 (b:Int)) w:=fun w=>by rw[hb,hy];exact lD hit w
     have HN:Hid (kG ((X k).take (i+1))=a+farB y):=qhz (by
      rw[vT _ (by rw[HXL.out,←HSL.out];exact hit),←HA.out]
      congr 2
      rw[hy,←bN S hit,HS.out,aj])
     clear hy;obtain⟨f,hfb⟩:=E1 (farB y);rw[←hfb]at HN
     by_cases hf:128<b
     ·have HF:Hid (f=256-b):=qhz (by rw[hfb,hb];unfold farB;rw[if_pos (by rw[←hb];exact hf)]);clear hfb hb;go_wp2
      go_roundw
      case rel=>exact⟨i+1,a+f,by omega,by go_num,by rw[HF.out];go_num,qhz HN.out.symm,HB2⟩
      case measure=>simp[intOf]<;>omega
     ·have HF:Hid (f=b):=qhz (by rw[hfb,hb];unfold farB;rw[if_neg (by rw[←hb];exact hf)]);clear hfb hb;go_wp2
      go_roundw
      case rel=>exact⟨i+1,a+f,by omega,by go_num,by rw[HF.out];go_num,qhz HN.out.symm,HB2⟩
      case measure=>simp[intOf]<;>omega
    ·have HAC:Hid (a=c k):=qhz (by rw[HA.out,HCC.out,List.take_of_length_le];rw[HXL.out,←HSL.out];omega);have HNX:=qhz (uh c k)
     by_cases hz:k=0
     ·subst hz;go_wp2
      go_roundw
      case rel=>exact⟨1,0,a,by omega,by first|rfl|go_num,by first|rfl|go_num,by first|rfl|go_num,qhz (by rw[HNX.out,if_pos (.inl rfl),HAC.out]),HB2⟩
      case measure=>simp[intOf]<;>omega
     ·by_cases hal:a<l
      ·go_wp2
       go_roundw
       case rel=>exact⟨k+1,k,a,by omega,by first|rfl|go_num,by first|rfl|go_num,by first|rfl|go_num,qhz (by rw[HNX.out,←HE.out,if_pos (.inr (by rw[←HAC.out];exact hal)),HAC.out]),HB2⟩
       case measure=>simp[intOf]<;>omega
      ·go_wp2
       go_roundw
       case rel=>exact⟨k+1,b,l,by omega,by first|rfl|go_num,by first|rfl|go_num,by first|rfl|go_num,qhz (by rw[HNX.out,←HE.out,if_neg (by rw[←HAC.out];dsimp only;omega)]),HB2⟩
       case measure=>simp[intOf]<;>omega
  ·obtain rfl:k=5:=by omega
   have HF:Hid (kC n s.data.toList t.data.toList=b):=qhz (by rw[HR.out,←HE.out]);go_wp2
   go_ret2
   exact⟨by rw[HF.out];rfl,HB.out⟩
end Go.Proofs.YtbanopnofpjnbaaGreatDoor
