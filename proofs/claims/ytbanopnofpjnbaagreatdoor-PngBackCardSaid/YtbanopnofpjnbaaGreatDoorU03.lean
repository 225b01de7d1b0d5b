/- Own texts in one: ChM, HeM, Crc, HdA, CkA, CkB, CkC, Stream, Reader, ReadB, ReadC, Writer, WriteB, Ints, WriteC, Awake. -/
import Derived.Test.YtbanopnofpjnbaaGreatDoorU01
set_option maxRecDepth 1000000
set_option linter.unusedVariables false
set_option maxHeartbeats 4000000
namespace Go.Proofs.YtbanopnofpjnbaaGreatDoor
open Go Go.RowKit Tryz
section
def bH:List UInt8:=[137,80,78,71,13,10,26,10]
def gF(b:UInt8):Bool:=decide (65≤b.toNat∧b.toNat≤90∨97≤b.toNat∧b.toNat≤122)
def aJ(t:List UInt8):Bool:=decide (t.length=4)&&t.all gF
theorem jT{t:List UInt8}(h:aJ t=true):t.length=4:=by
 unfold aJ at h;rw[Bool.and_eq_true]at h;exact of_decide_eq_true h.1
abbrev Ck:=List UInt8×List UInt8
def encC(c:Ck):List UInt8:=br c.2.length++(c.1++(c.2++br (cR (c.1++c.2))))
def encs:List Ck→List UInt8
 |[]=>[]
 |c::l=>encC c++encs l
theorem AB(l:List Ck)(c:Ck):encs (l++[c])=encs l++encC c:=by
 induction l with
 |nil=>show encC c++[]=[]++encC c;rw[List.append_nil,List.nil_append]
 |cons x l ih=>show encC x++encs (l++[c])=(encC x++encs l)++encC c;rw[ih,List.append_assoc]
def okC(c:Ck):Bool:=aJ c.1&&decide (c.2.length≤2147483647)
theorem m8(c:Ck):okC c=true↔aJ c.1=true∧c.2.length≤2147483647:=by
 unfold okC;rw[Bool.and_eq_true,decide_eq_true_eq]
def gj(l:List Ck):List UInt8×Int:=if l.all okC then(bH++encs l,0)else([],21)
def splK:Nat→List UInt8→List Ck→List Ck×Int
 |0,_,out=>(out,0)
 |f+1,s,out=>
  if s.length=0 then(out,0) else
  if s.length<8 then([],3) else
  if 2147483647<ofL (s.take 4)∨aJ ((s.drop 4).take 4)=false then([],21) else
  if s.length<12+ofL (s.take 4)then([],3) else
  if ofL ((s.drop (8+ofL (s.take 4))).take 4)≠cR ((s.drop 4).take (4+ofL (s.take 4)))then([],22) else
  splK f (s.drop (12+ofL (s.take 4))) (out++[((s.drop 4).take 4,(s.drop 8).take (ofL (s.take 4)))])
def splT(s:List UInt8):List Ck×Int:=if s.take 8≠bH then([],20)else splK s.length (s.drop 8) []
theorem yS:∀(f g:Nat) (s:List UInt8) (out:List Ck),s.length≤f→s.length≤g→splK f s out=splK g s out:=by
 intro f
 induction f with
 |zero=>
  intro g s out hf _;have h0:s.length=0:=by omega
  cases g with
  |zero=>rfl
  |succ g=>unfold splK;rw[if_pos h0]
 |succ f ih=>
  intro g s out hf hg;cases g with
  |zero=>
   have h0:s.length=0:=by omega
   unfold splK;rw[if_pos h0]
  |succ g=>
   unfold splK
   by_cases h0:s.length=0
   ·rw[if_pos h0,if_pos h0]
   ·rw[if_neg h0,if_neg h0,ih g _ _ (by rw[List.length_drop];omega) (by rw[List.length_drop];omega)]
section one
variable {t d rest:List UInt8}
theorem CP(ht:t.length=4):(encC (t,d)).length=12+d.length:=by
 unfold encC;simp only[List.length_append,az];omega
theorem oQ{a b:List UInt8}{n:Nat}(h:a.length=n):(a++b).drop n=b:=by
 subst h;exact List.drop_left
theorem lM{a b:List UInt8}{n:Nat}(h:a.length=n):(a++b).take n=a:=by
 subst h;exact List.take_left
theorem I9{f:Nat}{out:List Ck}{n4 t d q rest:List UInt8}(hn:n4.length=4)(ht:t.length=4)(hd:ofL n4=d.length)(hq:q.length=4):
 splK (f+1) (n4++(t++(d++(q++rest)))) out=
  if 2147483647<d.length∨aJ t=false then([],21)else if ofL q≠cR (t++d)then([],22)else splK f rest (out++[(t,d)]):=by
 have e4:(n4++(t++(d++(q++rest)))).take 4=n4:=lM hn;have d4:(n4++(t++(d++(q++rest)))).drop 4=t++(d++(q++rest)):=oQ hn;have d8:(n4++(t++(d++(q++rest)))).drop 8=d++(q++rest):=by
  rw[show(8:Nat)=4+4 from rfl,←List.drop_drop,d4,oQ ht]
 have d8n:(n4++(t++(d++(q++rest)))).drop (8+d.length)=q++rest:=by
  rw[←List.drop_drop,d8,oQ rfl]
 have d12:(n4++(t++(d++(q++rest)))).drop (12+d.length)=rest:=by
  rw[show 12+d.length=8+d.length+4 by omega,←List.drop_drop,d8n,oQ hq]
 have hl:(n4++(t++(d++(q++rest)))).length=12+d.length+rest.length:=by
  simp only[List.length_append];omega
 have e44:(t++(d++(q++rest))).take (4+d.length)=t++d:=by
  rw[←List.append_assoc,lM (by rw[List.length_append,ht])]
 show(if _ then _ else _)=_;rw[if_neg (by omega),e4,hd,d4,d8,d8n,d12,hl,e44,lM ht,lM hq,lM rfl];rw[if_neg (by omega)]
 by_cases h1:2147483647<d.length∨aJ t=false
 ·rw[if_pos h1,if_pos h1]
 ·rw[if_neg h1,if_neg h1,if_neg (by omega)]
end one
theorem Ja:∀(l:List Ck) (f:Nat) (out:List Ck),l.all okC=true→(encs l).length≤f→splK f (encs l) out=(out++l,0):=by
 intro l
 induction l with
 |nil=>
  intro f out _ _;rw[List.append_nil];cases f with
  |zero=>rfl
  |succ f=>rfl
 |cons c l ih=>
  intro f out ha hf;obtain⟨t,d⟩:=c;rw[List.all_cons,Bool.and_eq_true]at ha;obtain⟨hr,hdl⟩:=(m8 (t,d)).1 ha.1;have ht:=jT hr;have he:encs ((t,d)::l)=br d.length++(t++(d++(br (cR (t++d))++encs l))):=by
   show encC (t,d)++encs l=_;unfold encC;simp only[List.append_assoc]
  have hlen:(encs ((t,d)::l)).length=12+d.length+(encs l).length:=by
   show(encC (t,d)++encs l).length=_;rw[List.length_append,CP ht]
  obtain⟨g,rfl⟩:∃g,f=g+1:=⟨f-1,by omega⟩
  have hd4:ofL (br d.length)=d.length:=gJ (by show d.length<4294967296;have:d.length≤2147483647:=hdl;omega);rw[he,I9 (az _) ht hd4 (az _)];rw[if_neg (by(rintro(h|h);· have:d.length≤2147483647:=hdl;omega);· rw[show aJ t=true from hr]at h;exact Bool.noConfusion h)];rw[if_neg (by rw[gJ (jF _)];simp),ih g _ ha.2 (by omega),List.append_assoc];rfl
theorem uO{l:List Ck}(h:l.all okC=true):splT (bH++encs l)=(l,0):=by
 unfold splT;have e1:(bH++encs l).take 8=bH:=lM rfl;have e2:(bH++encs l).drop 8=encs l:=oQ rfl;rw[e1,e2,if_neg (by simp),Ja l _ [] h (by rw[List.length_append];omega),List.nil_append]
end
def fp:List UInt8:=[73,72,68,82]
def r5:List UInt8:=[80,76,84,69]
def rZ:List UInt8:=[116,82,78,83]
def bo:List UInt8:=[73,68,65,84]
def cf:List UInt8:=[73,69,78,68]
def AI(t:List UInt8):Bool:=match t with
 |[]=>false
 |b::_=>decide (65≤b.toNat∧b.toNat≤90)
def bD(d c:Int):Bool:=decide (c=0∧(d=1∨d=2∨d=4∨d=8∨d=16)∨c=3∧(d=1∨d=2∨d=4∨d=8)∨(c=2∨c=4∨c=6)∧(d=8∨d=16))
def ak(w h d c lace:Int):Int:=
 if w<1∨2147483647<w∨h<1∨2147483647<h∨bD d c=false∨(lace≠0∧lace≠1)then 24 else
 if 1024<w∨1024<h∨4096<w*h then 5 else 0
structure HS where
 pal:Bool
 trans:Bool
 idat:Bool
 gap:Bool
 P:List UInt8
 T:List UInt8
 D:List UInt8
def hs0:HS:=⟨false,false,false,false,[],[],[]⟩
def ci(d c:Int)(last:Bool)(k:Ck)(s:HS):HS×Option Int:=
 if k.1=fp then(s,some 23) else
 if k.1=r5 then
  if s.pal=true∨s.trans=true∨s.idat=true then(s,some 23) else
  if c=0∨c=4∨k.2.length%3≠0∨k.2.length<3∨768<k.2.length∨c=3∧3*2^d.toNat<k.2.length then(s,some 25) else
  ({s with pal:=true,P:=k.2,gap:=s.idat},none) else
 if k.1=rZ then
  if s.trans=true∨s.idat=true∨c=3∧s.pal=false then(s,some 23) else
  if c=4∨c=6∨c=0∧k.2.length≠2∨c=2∧k.2.length≠6∨c=3∧s.P.length/3<k.2.length then(s,some 26) else
  ({s with trans:=true,T:=k.2,gap:=s.idat},none) else
 if k.1=bo then
  if c=3∧s.pal=false∨s.gap=true then(s,some 23)else({s with idat:=true,D:=s.D++k.2},none) else
 if k.1=cf then
  if k.2.length≠0 then(s,some 21)else if s.idat=false then(s,some 23)else if last=false then(s,some 4)else(s,some 0) else
 if AI k.1=true then(s,some 27)else({s with gap:=s.idat},none)
def runH(d c:Int):List Ck→HS→HS×Int
 |[],s=>(s,3)
 |k::l,s=>match ci d c l.isEmpty k s with
  |(s',some e)=>(s',e)
  |(s',none)=>runH d c l s'
def dt(b:List UInt8):List Int:=[(ofL (b.take 4):Nat),(ofL ((b.drop 4).take 4):Nat),((b.getD 8 0).toNat:Nat),((b.getD 9 0).toNat:Nat),((b.getD 12 0).toNat:Nat)]
def iI(l:List Int):Int:=ak (l.getD 0 0) (l.getD 1 0) (l.getD 2 0) (l.getD 3 0) (l.getD 4 0)
def eR:List Ck→List Int×HS×Int
 |[]=>([],hs0,23)
 |k::l=>
  if k.1≠fp then([],hs0,23) else
  if k.2.length≠13∨k.2.getD 10 0≠0∨k.2.getD 11 0≠0 then([],hs0,24) else
  if iI (dt k.2)≠0 then([],hs0,iI (dt k.2)) else
  if(runH ((dt k.2).getD 2 0) ((dt k.2).getD 3 0) l hs0).2=0 then(dt k.2,runH ((dt k.2).getD 2 0) ((dt k.2).getD 3 0) l hs0) else
  ([],hs0,(runH ((dt k.2).getD 2 0) ((dt k.2).getD 3 0) l hs0).2)
theorem fV(k:Ck)(l:List Ck):eR (k::l)=
 if k.1≠fp then([],hs0,23) else
 if k.2.length≠13∨k.2.getD 10 0≠0∨k.2.getD 11 0≠0 then([],hs0,24) else
 if iI (dt k.2)≠0 then([],hs0,iI (dt k.2)) else
 if(runH ((dt k.2).getD 2 0) ((dt k.2).getD 3 0) l hs0).2=0 then(dt k.2,runH ((dt k.2).getD 2 0) ((dt k.2).getD 3 0) l hs0) else
 ([],hs0,(runH ((dt k.2).getD 2 0) ((dt k.2).getD 3 0) l hs0).2):=rfl
theorem mV{w h d c lace:Int}(e:ak w h d c lace=0):1≤w∧w≤1024∧1≤h∧h≤1024∧w*h≤4096∧bD d c=true∧(lace=0∨lace=1):=by
 unfold ak at e
 by_cases h1:w<1∨2147483647<w∨h<1∨2147483647<h∨bD d c=false∨(lace≠0∧lace≠1)
 ·rw[if_pos h1]at e;exact absurd e (by decide)
 ·rw[if_neg h1]at e
  by_cases h2:1024<w∨1024<h∨4096<w*h
  ·rw[if_pos h2]at e;exact absurd e (by decide)
  ·have hd:bD d c=true:=by
    cases hx:bD d c with
    |true=>rfl
    |false=>exact absurd (Or.inr (Or.inr (Or.inr (Or.inr (Or.inl hx))))) h1
   refine⟨?_,?_,?_,?_,?_,hd,?_⟩
   ·exact Int.not_lt.1 fun h=>h1 (Or.inl h)
   ·exact Int.not_lt.1 fun h=>h2 (Or.inl h)
   ·exact Int.not_lt.1 fun h=>h1 (Or.inr (Or.inr (Or.inl h)))
   ·exact Int.not_lt.1 fun h=>h2 (Or.inr (Or.inl h))
   ·exact Int.not_lt.1 fun h=>h2 (Or.inr (Or.inr h))
   ·by_cases hl:lace=0
    ·exact Or.inl hl
    ·by_cases hl1:lace=1
     ·exact Or.inr hl1
     ·exact absurd (Or.inr (Or.inr (Or.inr (Or.inr (Or.inr ⟨hl,hl1⟩))))) h1
theorem DP(d c:Int)(k:Ck)(l:List Ck)(s:HS):runH d c (k::l) s=match ci d c l.isEmpty k s with
 |(s',some e)=>(s',e)
 |(s',none)=>runH d c l s':=rfl
theorem sH{k:IntKind}{a b:Int}(h:a=b):Ending.returned (.int k a)=.returned (.int k b):=by rw[h]
theorem iR(n c:Nat):bh (n+1) c=qJ (bh n c):=rfl
theorem vS{c:Nat}(h:(c:Int)%2=1):qJ c=(c/2) ^^^ 3988292384:=by unfold qJ;rw[if_pos (by omega)]
theorem tV{c:Nat}(h:¬(c:Int)%2=1):qJ c=c/2:=by unfold qJ;rw[if_neg (by omega)]
theorem E2(s:ByteArray)(w:World)(hs:s.size≤maxLen):
 Calls prog 69 #[s] w fun e w'=>e=.returned (.int .i64 (cR s.data.toList))∧w=w':=by
 unfold maxLen at hs
 go_enter func69,ntmps69
 go_wp2
 go_loop [3,4,5,8] (fun c _ _ i=>∃k:Nat,k≤s.size∧i=.int .i64 k∧c=.int .u32 (fG (s.data.toList.take k))) (fun _ _ _ i=>s.size-(intOf i).toNat)
 case atStart=>exact⟨0,Nat.zero_le _,rfl,rfl⟩
 case round=>
  obtain⟨k,hk,rfl,rfl⟩:=hrel;have hlt:=tU (s.data.toList.take k)
  by_cases hk2:k<s.size
  ·have hb:=s[k].toNat_lt;have hx:=u32_xor_nat (fG (s.data.toList.take k)) s[k].toNat (by omega) (by omega);have hcl:=ns hlt (show s[k].toNat<4294967296 by omega);have hts:=nL s k hk2;have HS:Hid (fG (s.data.toList.take (k+1))=bh 8 (fG (s.data.toList.take k) ^^^ s[k].toNat)):=by rw[hts,tT];rfl
   clear hts;go_wp2
   go_loop [3,5,17] (fun c _ j=>∃n:Nat,n≤8∧j=.int .i64 n∧c=.int .u32 (bh n (fG (s.data.toList.take k) ^^^ s[k].toNat))) (fun _ _ j=>8-(intOf j).toNat)
   case atStart=>exact⟨0,Nat.zero_le _,rfl,rfl⟩
   case round=>
    obtain⟨n,hn,rfl,rfl⟩:=hrel;have hcn:=qe n hcl;generalize fG (s.data.toList.take k) ^^^ s[k].toNat=x at*;have hxor:=u32_xor_nat (bh n x/2) 3988292384 (by omega) (by omega);have hq:((bh n x:Nat):Int)/2=((bh n x/2:Nat):Int):=by simp
    have HX:Hid (bits .xor .u32 (((bh n x:Nat):Int)/2) 3988292384=((bh n x/2 ^^^ 3988292384:Nat):Int)):=by rw[hq];exact hxor
    have HA:Hid (bits .and .u32 ((bh n x:Nat):Int) 1=((bh n x:Nat):Int)%2):=by
     have h:=u32_and_nat (bh n x) 1 (by omega) (by omega);rw[nat_mask1]at h;exact h.trans (by simp)
    clear hxor hq;go_wp2
    ·have h1:((bh n x:Nat):Int)%2=1:=by(have h:(bits .and .u32 ((bh n x:Nat):Int) 1==1)=true:=by assumption);rw[HA.out]at h;simpa using h
     go_round
     case rel=>exact⟨n+1,by omega,by go_num,by rw[HX.out,iR,vS h1]⟩
     case measure=>simp[intOf];omega
    ·have h1:¬((bh n x:Nat):Int)%2=1:=by(have h:(bits .and .u32 ((bh n x:Nat):Int) 1==1)=false:=by assumption);rw[HA.out]at h;simpa using h
     go_round
     case rel=>exact⟨n+1,by omega,by go_num,by rw[iR,tV h1];go_num⟩
     case measure=>simp[intOf];omega
    ·obtain rfl:n=8:=by omega
     go_round
     case rel=>exact⟨k+1,by omega,by go_num,by rw[HS.out]⟩
     case measure=>simp[intOf];omega
  ·have HL:Hid (wrap64 (bits .xor .u32 IntKind.u32.max ((fG (s.data.toList.take k):Nat):Int))=((cR s.data.toList:Nat):Int)):=by
    have e:s.data.toList.take k=s.data.toList:=by rw[show k=s.size from by omega];exact qY s
    rw[e]at hlt⊢;have hm:IntKind.u32.max=((4294967295:Nat):Int):=by decide
    have hs:=jF s.data.toList;rw[hm,u32_xor_nat _ _ (by omega) hlt,Nat.xor_comm];exact IntWalk.wrap64_in _ ⟨by omega,by unfold cR at hs;omega⟩
   go_wp2;go_ret;exact⟨sH HL.out,rfl⟩
theorem Hv(s:ByteArray)(w:World)(hs:s.size≤maxLen):
 Calls prog 116 #[s] w fun e w'=>e=.returned (.int .i64 (eD s.data.toList))∧w=w':=by
 unfold maxLen at hs
 go_enter func116,ntmps116
 go_wp2
 go_loop [3,4,5,8] (fun a b _ i=>∃k:Nat,k≤s.size∧i=.int .i64 k∧a=.int .i64 (adP (s.data.toList.take k)).1∧b=.int .i64 (adP (s.data.toList.take k)).2) (fun _ _ _ i=>s.size-(intOf i).toNat)
 case atStart=>exact⟨0,Nat.zero_le _,rfl,rfl,rfl⟩
 case round=>
  obtain⟨k,hk,rfl,rfl,rfl⟩:=hrel;have hlt:=MG (s.data.toList.take k);obtain⟨hl1,hl2⟩:=hlt
  by_cases hk2:k<s.size
  ·have hb:=s[k].toNat_lt;have hts:=nL s k hk2;have HS:Hid (adP (s.data.toList.take (k+1))=(((adP (s.data.toList.take k)).1+s[k].toNat)%65521,((adP (s.data.toList.take k)).2+((adP (s.data.toList.take k)).1+s[k].toNat)%65521)%65521)):=by rw[hts,E4];exact rfl
   clear hts;go_wp2
   go_round
   case rel=>exact⟨k+1,by omega,by go_num,by rw[HS.out];go_num,by rw[HS.out];go_num⟩
   case measure=>simp[intOf];omega
  ·have HL:Hid ((((adP (s.data.toList.take k)).2:Nat):Int)*65536+(((adP (s.data.toList.take k)).1:Nat):Int)=((eD s.data.toList:Nat):Int)):=by
    have e:s.data.toList.take k=s.data.toList:=by rw[show k=s.size from by omega];exact qY s
    rw[e];show @Eq Int _ _;unfold eD;omega
   go_wp2;go_ret;exact⟨sH HL.out,rfl⟩
def aW(c:Int):Int:=if c=0∨c=3 then 1 else if c=4 then 2 else if c=2 then 3 else if c=6 then 4 else 0
section
open Go.ChangeShapes Go.WideShapes
def uc(c:Ck):Value:=.agg #[strL c.1,strL c.2]
theorem Ni{a b:List UInt8}(h:strL a=strL b):a=b:=by rw[←aj a,h,aj]
def fH(L:List Ck):List Value:=L.flatMap fun c=>[.string (strL c.1),.string (strL c.2)]
theorem uB(L M:List Ck):fH (L++M)=fH L++fH M:=by simp[fH]
theorem vV:∀(L:List Ck) (i:Nat) (h:i<L.length),(fH L)[i*2]? =some (.string (strL L[i].1))∧(fH L)[i*2+1]? =some (.string (strL L[i].2))
 |x::L,0,_=>by simp[fH]
 |x::L,i+1,h=>by
  have:=vV L i (by simpa using h);have e:fH (x::L)=.string (strL x.1):: .string (strL x.2)::fH L:=by simp[fH]
  rw[e,show(i+1)*2=i*2+1+1 from by omega];simpa using this
def Cks(w:World)(A:Option Addr)(n:Nat)(L:List Ck):Prop:=
 L.length=n∧(0<n→∃g o,A=some ⟨g,o,none⟩∧g<w.heap.size∧∀(i:Nat) (h:i<L.length),w.cell? ⟨g,o+i*2,none⟩=some (.string (strL L[i].1))∧w.cell? ⟨g,o+i*2+1,none⟩=some (.string (strL L[i].2)))
theorem Cks.but{w w':World}{A:Option Addr}{n:Nat}{L:List Ck}(h:Cks w A n L)(hw:But [] w w'):Cks w' A n L:=
 ⟨h.1,fun hn=>by
  obtain⟨g,o,e,hg,hc⟩:=h.2 hn;exact⟨g,o,e,Nat.lt_of_lt_of_le hg hw.size,fun i hi=>⟨hw.cell (hc i hi).1 (by simp),hw.cell (hc i hi).2 (by simp)⟩⟩⟩
theorem Cks.at{w:World}{A:Option Addr}{n:Nat}{L:List Ck}(h:Cks w A n L){i:Nat}(hi:i<n):
 ∃g o c,A=some ⟨g,o,none⟩∧g<w.heap.size∧w.cell? ⟨g,o+i*2,none⟩=some (.string (strL c.1))∧w.cell? ⟨g,o+i*2+1,none⟩=some (.string (strL c.2))∧L[i]? =some c:=by
 obtain⟨g,o,e,hg,hc⟩:=h.2 (by omega);have hl:i<L.length:=by have:=h.1;omega
 exact⟨g,o,_,e,hg,(hc i hl).1,(hc i hl).2,List.getElem?_eq_getElem hl⟩
theorem Cks.nil(w:World)(A:Option Addr):Cks w A 0 []:=⟨rfl,fun h=>absurd h (by omega)⟩
def OwnCk(w:World)(base:Nat)(v:Value)(L:List Ck):Prop:=w.ownsRow base 42 2 v L.length (fH L)
theorem QM:(prog.info? 42).map (fun i=>(i.zero,i.size,i.bytes))=some (some (.agg #[ByteArray.empty,ByteArray.empty]),2,32):=by kernel_rfl
theorem OwnCk.nil(w:World)(base:Nat):OwnCk w base (.slice none 0 0) []:=World.ownsRow_nil _ _ _ _
theorem OwnCk.but{w w':World}{base:Nat}{v:Value}{L:List Ck}(h:OwnCk w base v L)(hw:But [] w w'):OwnCk w' base v L:=by
 unfold OwnCk at h⊢;refine⟨h.1,?_⟩;rcases h.2 with h2|⟨g,cap,cur,hv,hg,hh,r⟩
 ·exact .inl h2
 ·refine .inr ⟨g,cap,cur,hv,hg,?_,r⟩;have hlt:g<w.heap.size:=(h.lt g (by rw[hv];rfl)).2;rw[hw.block g hlt (by simp)];exact hh
theorem OwnCk.open{w:World}{base:Nat}{v:Value}{L:List Ck}(h:OwnCk w base v L):∃A c,v=.slice A L.length c∧Cks w A L.length L:=by
 unfold OwnCk at h;rcases h.2 with⟨rfl,e⟩|⟨g,cap,cur,rfl,hg,hh,r⟩
 ·have:L=[]:=List.eq_nil_of_length_eq_zero e;subst this;exact⟨none,0,rfl,Cks.nil _ _⟩
 ·refine⟨some ⟨g,0,none⟩,cap,rfl,rfl,fun hn=>⟨g,0,rfl,(h.lt g rfl).2,fun i hi=>?_⟩⟩;obtain⟨h0,h1⟩:=vV L i hi;have c0:=h.cells (g:=g) rfl (i*2) _ h0;have c1:=h.cells (g:=g) rfl (i*2+1) _ h1;rw[Go.WideShapes.add_plain]at c0 c1;exact⟨c0,c1⟩
end
theorem OwnCk.pushed{w wr w':World}{v v':Value}{L:List Ck}{x:Ck}{cs:Array Value}{t:TypeId}(hB:But [] w wr)(hO:OwnCk wr w.heap.size v L)
 (h1:w'.ownsRow w.heap.size 42 2 v' (L.length+1) (fH L++[.string (strL x.1),.string (strL x.2)])) (hg:(wr.alloc (.cells cs t)).grownBy w' v.ownBlock):
 OwnCk w' w.heap.size v' (L++[x])∧But [] w w':=by
 refine⟨?_,(hB.alloc _).grown hg (fun g e=>.inr (hO.lt g e).1)⟩;unfold OwnCk;rw[List.length_append,uB];simpa[fH]using h1
def GotC(w:World)(r:List Ck×Int)(e:Ending)(w':World):Prop:=∃v,e=.returned (.tuple #[v,r.2])∧OwnCk w' w.heap.size v r.1∧But [] w w'
theorem vw{t:List UInt8}{k:Nat}(hk:k<t.length)(h:gF t[k]=false):aJ t=false:=by
 unfold aJ;rw[Bool.and_eq_false_iff];right;rw[List.all_eq_false];exact⟨t[k],List.getElem_mem hk,by rw[h];decide⟩
theorem th{t:List UInt8}{k:Nat}(hk:k<t.length)(h:gF t[k]=true)(ha:(t.take k).all gF=true):(t.take (k+1)).all gF=true:=by
 rw[List.take_succ_eq_append_getElem hk,List.all_append,ha];simp[h]
theorem sF{t:List UInt8}(h4:t.length=4)(ha:(t.take 4).all gF=true):aJ t=true:=by
 unfold aJ;rw[List.take_of_length_le (by omega)]at ha;rw[ha,h4];rfl
theorem uW{t:List UInt8}(h4:¬t.length=4):aJ t=false:=by
 unfold aJ;rw[decide_eq_false h4];rfl
theorem iz{s:ByteArray}{k:Nat}(hk:k<s.size)(w:World):(Instr.index 9 (.string s) (.int .i64 (k:Int))).run prog w=.ok (.int .u8 ((s.data.toList[k]'(by simpa using hk)).toNat:Nat)) w:=by
 rw[run_index_string w 9 s .i64 _ underlying9,dif_pos (by omega)];simp;rfl
section
theorem I4{s:List UInt8}(h:s≠[])(out:List Ck):splK s.length s out=
 if s.length<8 then([],3) else
 if 2147483647<ofL (s.take 4)∨aJ ((s.drop 4).take 4)=false then([],21) else
 if s.length<12+ofL (s.take 4)then([],3) else
 if ofL ((s.drop (8+ofL (s.take 4))).take 4)≠cR ((s.drop 4).take (4+ofL (s.take 4)))then([],22) else
 splK (s.drop (12+ofL (s.take 4))).length (s.drop (12+ofL (s.take 4))) (out++[((s.drop 4).take 4,(s.drop 8).take (ofL (s.take 4)))]):=by
 have h0:s.length≠0:=fun e=>h (List.length_eq_zero_iff.1 e);obtain⟨f,hf⟩:∃f,s.length=f+1:=⟨s.length-1,by omega⟩
 have hm:=yS f (s.drop (12+ofL (s.take 4))).length (s.drop (12+ofL (s.take 4))) (out++[((s.drop 4).take 4,(s.drop 8).take (ofL (s.take 4)))]) (by rw[List.length_drop];omega) (Nat.le_refl _);rw[←hm];have e:splK s.length s out=splK (f+1) s out:=by rw[hf]
 rw[e]
 conv=>lhs;unfold splK
 rw[if_neg h0]
def Sd:Value→Nat
 |.string s=>s.size
 |_=>0
theorem ya(s:List UInt8){i j:Nat}(h:i≤j)(W:World)(hj:j≤s.length):(Instr.slice 9 (.string (strL s)) (some (.int .i64 (i:Int))) (some (.int .i64 (j:Int))) none).run prog W=.ok (.string (strL ((s.drop i).take (j-i)))) W:=by
 rw[run_slice_string W 9 (strL s) .i64 .i64 (i:Int) (j:Int) underlying9 (by omega) (by omega) (by rw[ac];omega),Int.toNat_natCast,Int.toNat_natCast,gO,aj,List.drop_take]
theorem OZ(s:List UInt8){i:Nat}(W:World)(hi:i≤s.length):(Instr.slice 9 (.string (strL s)) (some (.int .i64 (i:Int))) none none).run prog W=.ok (.string (strL (s.drop i))) W:=by
 rw[run_slice_string_from_if W 9 (strL s) .i64 (i:Int) underlying9,if_pos (by rw[ac];omega),Int.toNat_natCast,gO,aj,List.take_of_length_le (by rw[ac];exact Nat.le_refl _)]
theorem PH(s:List UInt8){j:Nat}(W:World)(hj:j≤s.length):(Instr.slice 9 (.string (strL s)) none (some (.int .i64 (j:Int))) none).run prog W=.ok (.string (strL (s.take j))) W:=by
 rw[run_slice_string_to_if W 9 (strL s) .i64 (j:Int) underlying9,if_pos (by rw[ac];omega),Int.toNat_natCast,gO,aj,List.drop_zero]
theorem nW:(⟨#[137,80,78,71,13,10,26,10]⟩:ByteArray)=strL bH:=rfl
attribute [local irreducible] strL bH ofL cR aJ splK
end
def num:List UInt8→Nat
 |[]=>0
 |b::l=>b.toNat+256*num l
def gI:Nat→Nat→List UInt8
 |0,_=>[]
 |k+1,x=>UInt8.ofNat x::gI k (x/256)
theorem fZ(a b:List UInt8):num (a++b)=num a+256^a.length*num b:=by
 induction a with
 |nil=>simp[num]
 |cons x a ih=>
  simp only[List.cons_append,num,ih,List.length_cons,Nat.pow_succ,Nat.mul_add];rw[show 256^a.length*256*num b=256*(256^a.length*num b)from by rw[Nat.mul_comm (256^a.length) 256,Nat.mul_assoc]];omega
theorem ri(l:List UInt8)(b:UInt8):num (l++[b])=num l+256^l.length*b.toNat:=by
 rw[fZ];simp[num]
theorem uw(k x:Nat):(gI k x).length=k:=by
 induction k generalizing x with
 |zero=>rfl
 |succ k ih=>simp[gI,ih]
theorem C6(l:List UInt8):gI l.length (num l)=l:=by
 induction l with
 |nil=>rfl
 |cons x l ih=>
  have:=x.toNat_lt;simp only[List.length_cons,gI,num];have e1:UInt8.ofNat (x.toNat+256*num l)=x:=by
   apply UInt8.toNat_inj.1;rw[UInt8.toNat_ofNat'];omega
  have e2:(x.toNat+256*num l)/256=num l:=by omega
  rw[e1,e2,ih]
theorem jG{l:List UInt8}{k x:Nat}(hk:l.length=k)(hx:num l=x):l=gI k x:=by
 subst hk hx;exact(C6 l).symm
theorem p256(k:Nat):256^k=2^(8*k):=by rw[Nat.pow_mul]
def bK(x p n:Nat):Nat:=x/2^p%2^n
def au(s:ByteArray)(p:Nat)(n:Int):Int:=if n<0∨24<n then 1 else if(8*s.size-p:Nat)<n then 3 else 0
def ax(s:ByteArray)(p:Nat)(n:Int):Nat:=if au s p n=0 then bK (num s.data.toList) p n.toNat else 0
def aK(s:ByteArray)(p:Nat)(n:Int):Nat:=if au s p n=0 then p+n.toNat else p
theorem xO(z j:Nat):((z:Nat):Int)*2^j=((z*2^j:Nat):Int):=by simp
def aE(s:ByteArray)(p:Nat)(n:Int):Int:=if n<0 then 1 else if(s.size-(p+7)/8:Nat)<n then 3 else 0
def bg(s:ByteArray)(p:Nat)(n:Int):ByteArray:=if aE s p n=0 then⟨((s.data.toList.drop ((p+7)/8)).take n.toNat).toArray⟩else⟨#[]⟩
def bT(s:ByteArray)(p:Nat)(n:Int):Nat:=if n<0 then p else if aE s p n=0 then 8*((p+7)/8+n.toNat)else 8*((p+7)/8)
theorem zO(m:Nat)(hm:m≤24):wrap64 (wrap64 (2^m)-1)=2^m-1:=by
 have hp:2^m≤2^24:=Nat.pow_le_pow_right (by decide) hm;have hpos:=Nat.two_pow_pos m;have e:((2:Int)^m)=((2^m:Nat):Int):=by simp
 rw[e];generalize 2^m=q at*;have h1:wrap64 (q:Int)=(q:Int):=IntWalk.wrap64_in _ ⟨by omega,by omega⟩;have h2:wrap64 ((q:Int)-1)=(q:Int)-1:=IntWalk.wrap64_in _ ⟨by omega,by omega⟩;rw[h1,h2]
theorem ByteRow.text{w:World}{A:Option Addr}{n c:Nat}{l:List UInt8}(h:ByteRow w A n l):
 (convert 47 9 (.slice A n c)).run prog w=.ok (.string ⟨l.toArray⟩) w:=by
 obtain⟨rfl,hc⟩:=h;rcases A with _|a
 ·have h0:l=[]:=by
   cases l with
   |nil=>rfl
   |cons x l=>obtain⟨g,o,e,_⟩:=hc (by simp);cases e
  subst h0;exact run_convert_bytes_nil w 47 5 underlying47 underlying5 _ _ 9 underlying9
 ·refine run_convert_bytes_back w 47 9 5 a c l underlying47 underlying5 underlying9 (fun j hj=>?_);obtain⟨g,o,e,hcell⟩:=hc (by omega);obtain rfl:a=⟨g,o,none⟩:=by injection e
  have e2:(⟨g,o,none⟩:Addr).add j=⟨g,o+j,none⟩:=by unfold Addr.add;split<;>simp_all
  rw[e2];exact hcell j hj
def ah(l:List UInt8):List Value:=l.map fun x=>.int .u8 (x.toNat:Int)
theorem iZ(l:List UInt8):(ah l).length=l.length:=by simp[ah]
theorem iU(l:List UInt8)(x:UInt8):ah (l++[x])=ah l++[.int .u8 (x.toNat:Int)]:=by simp[ah]
theorem lw:(prog.info? 5).map (fun i=>(i.zero,i.size,i.bytes))=some (some (.int .u8 0),1,1):=by kernel_rfl
def WS(w:World)(lo b:Nat)(og:Option Nat)(X N:Nat):Prop:=
 ∃(v:Value) (L:List UInt8) (part:Nat),Is w b 220 #[v,part,(N%8:Nat)]∧w.ownsRow lo 5 1 v L.length (ah L)∧v.ownBlock=og∧
  L.length=N/8∧num L+256^L.length*part=X∧part<2^(N%8)
def layN(N:Nat)(n:Int):Nat:=if n<0∨24<n then N else N+n.toNat
def layX(X N:Nat)(v n:Int):Nat:=if n<0∨24<n then X else X+(v%2^n.toNat).toNat*2^N
theorem Pi(w:World):
 Calls prog 157 #[] w fun e w'=>e=.returned (.pointer w.heap.size)∧w'=w.alloc (.cells #[.slice none 0 0,(0:Int),(0:Int)] 220):=by
 go_enter func157,ntmps157
 go_wp2;go_ret;exact⟨rfl,rfl⟩
theorem Rn(w:World)(lo:Nat):WS (w.alloc (.cells #[.slice none 0 0,(0:Int),(0:Int)] 220)) lo w.heap.size none 0 0:=
 ⟨.slice none 0 0,[],0,Is.fresh w _ _,World.ownsRow_nil _ _ _ _,rfl,rfl,by decide,by decide⟩
theorem Ol(v:Int)(part m u:Nat)(hm:m≤24)(hu:u≤7)(hp:part<2^u):
 Go.bits .or .i64 (part:Int) (wrap64 (Go.bits .and .i64 v (wrap64 (wrap64 (2^m)-1))*2^u))=((part+(v%2^m).toNat*2^u:Nat):Int):=by
 rw[zO m hm,iO v m (by omega)];have hpos:(0:Int)<2^m:=by
  have:=Nat.two_pow_pos m;have e:((2:Int)^m)=((2^m:Nat):Int):=by simp
  omega
 have h0:=Int.emod_nonneg v (show(2:Int)^m≠0 by omega);have h1:=Int.emod_lt_of_pos v hpos;have hm2:2^m≤2^24:=Nat.pow_le_pow_right (by decide) hm;have e:((2:Int)^m)=((2^m:Nat):Int):=by simp
 have hz:(v%2^m).toNat<2^m:=by omega
 have ez:v%2^m=(((v%2^m).toNat:Nat):Int):=by omega
 generalize(v%2^m).toNat=z at*;rw[ez,xO];have hu2:2^u≤2^7:=Nat.pow_le_pow_right (by decide) hu;have hzu:z*2^u≤2^24*2^7:=Nat.mul_le_mul (by omega) hu2;have ew:wrap64 ((z*2^u:Nat):Int)=((z*2^u:Nat):Int):=IntWalk.wrap64_in _ ⟨by omega,by omega⟩;rw[ew];exact xT _ _ u (by omega) hp (Nat.mul_mod_left z _) (by omega)
def WMid(w w':World)(lo b:Nat)(og:Option Nat)(X' P k u j:Nat):Prop:=
 ∃(v:Value) (L:List UInt8),Is w' b 220 #[v,(P/256^j:Nat),u]∧w'.ownsRow lo 5 1 v L.length (ah L)∧
  L.length=k+j∧num L+256^L.length*(P/256^j)=X'∧(∀g,v.ownBlock=some g→og=some g∨w.heap.size≤g)∧But (b::og.toList) w w'
theorem fy{w:World}{base b n size:Nat}{e t:TypeId}{v:Value}{xs:List Value}{cs:Array Value}(h:w.ownsRow base e size v n xs)(hb:Is w b t cs)(hne:e≠t):v.ownBlock≠some b:=by
 rcases h.2 with⟨rfl,_⟩|⟨g,cap,cur,rfl,_,hh,_⟩
 ·simp[Value.ownBlock]
 ·intro he;have he':g=b:=by simpa[Value.ownBlock]using he
  subst he';exact Is.ne (w:=w) (t:=e) hh hb hne rfl
theorem Qw(v:Int)(part m u V:Nat)(hV:(v%2^m).toNat=V)(hp:part<2^u):part+V*2^u<2^(u+m):=by
 have e:((2:Int)^m)=((2^m:Nat):Int):=by simp
 have hpos:=Nat.two_pow_pos m;have h1:=Int.emod_lt_of_pos v (show(0:Int)<2^m by omega);have hz:V+1≤2^m:=by omega
 have:=Nat.mul_le_mul_right (2^u) hz;rw[Nat.pow_add,Nat.mul_comm (2^u)];rw[Nat.add_mul]at this;omega
theorem N3(L:List UInt8)(q:Nat):num (L++[UInt8.ofNat q])+256^(L.length+1)*(q/256)=num L+256^L.length*q:=by
 have h:(UInt8.ofNat q).toNat=q%256:=UInt8.toNat_ofNat';rw[ri,h,Nat.pow_succ,Nat.add_assoc,Nat.mul_assoc,←Nat.mul_add]
 congr 2
 omega
theorem rK{w wr w1:World}{lo b gg cap j q k u P X':Nat}{og:Option Nat}{v1:Value}{L1:List UInt8}
 (hi1:Is wr b 220 #[v1,q,u]) (hl:L1.length=k+j) (hx:num L1+256^L1.length*q=X') (hq:q=P/256^j)
 (hg1:∀g,v1.ownBlock=some g→og=some g∨w.heap.size≤g) (hb1:But (b::og.toList) w wr) (hown1:wr.ownsRow lo 5 1 v1 L1.length (ah L1))
 (hown2:w1.ownsRow lo 5 1 (.slice gg (L1.length+1) cap) (L1.length+1) (ah L1++[.int .u8 (IntKind.u8.wrap q)]))
 (hgrow:((wr.alloc (.cells #[.int .u8 (IntKind.u8.wrap q)] 5)).drew).grownBy w1 v1.ownBlock) (hat:v1.ownBlock=some gg∨gg=wr.heap.size+1):
 WMid w ((w1.setCell ⟨b,0,none⟩ (.slice gg (L1.length+1) cap)).setCell ⟨b,1,none⟩ (.int .i64 ((q:Int)/256))) lo b og X' P k u (j+1):=by
 have hne:=fy hown1 hi1 (by decide);have hi2:=((hi1.alloc (.cells #[.int .u8 (IntKind.u8.wrap q)] 5)).drew).grown hgrow (Ne.symm hne);have hne2:=fy hown2 hi2 (by decide);have hw:IntKind.u8.wrap q=((UInt8.ofNat q).toNat:Int):=by
  have h:(UInt8.ofNat q).toNat=q%256:=UInt8.toNat_ofNat';rw[h,IntKind.wrap_u8];omega
 have ho:w1.ownsRow lo 5 1 (.slice gg (L1.length+1) cap) (L1++[UInt8.ofNat q]).length (ah (L1++[UInt8.ofNat q])):=by
  rw[iU,←hw,List.length_append];exact hown2
 have hS:=hb1.size;have hB:=((hb1.alloc (.cells #[.int .u8 (IntKind.u8.wrap q)] 5)).drew).grown hgrow (fun g e=>by
  rcases hg1 g e with h|h
  ·subst h;exact .inl (by simp)
  ·exact .inr h)
 have e2:((q:Int)/256)=((q/256:Nat):Int):=by omega
 have e3:q/256=P/256^(j+1):=by rw[hq,Nat.pow_succ,Nat.div_div_eq_div_mul]
 rw[e2];refine⟨.slice gg (L1.length+1) cap,L1++[UInt8.ofNat q],?_,?_,?_,?_,?_,?_⟩
 ·rw[←e3];simpa using(hi2.put 0 (.slice gg (L1.length+1) cap)).put 1 (.int .i64 ((q/256:Nat):Int))
 ·exact ownsRow_setCell_other (ownsRow_setCell_other ho (a:=⟨b,0,none⟩) hne2 _) (a:=⟨b,1,none⟩) hne2 _
 ·simp;omega
 ·rw[←e3,List.length_append,List.length_singleton,N3];exact hx
 ·intro g e;have:gg=g:=by simpa[Value.ownBlock]using e
  subst this;rcases hat with h|h
  ·exact hg1 _ h
  ·exact .inr (by omega)
 ·exact(hB.setCell (p:=⟨b,0,none⟩) (.inl (by simp)) _).setCell (p:=⟨b,1,none⟩) (.inl (by simp)) _
theorem MQ{w':World}{lo b N X P V m j q part:Nat}{v:Int}{v1:Value}{L L1:List UInt8}(hm:m≤24)
 (hlen:L.length=N/8) (hnum:num L+256^L.length*part=X) (hV:(v%2^m).toNat=V) (hP:part+V*2^(N%8)=P) (hPlt:P<2^(N%8+m))
 (hj:j=(N%8+m)/8) (hq:q=P/256^j) (hi1:Is w' b 220 #[v1,q,(N%8+m:Nat)]) (hl:L1.length=N/8+j)
 (hx:num L1+256^L1.length*q=num L+256^L.length*P) (hown1:w'.ownsRow lo 5 1 v1 L1.length (ah L1)):
 WS (w'.setCell ⟨b,2,none⟩ (.int .i64 (((N:Int)+(m:Int))%8))) lo b v1.ownBlock (layX X N v (m:Int)) (layN N (m:Int)):=by
 have h24:¬((m:Int)<0∨24<(m:Int)):=by omega
 have e1:layN N (m:Int)=N+m:=by unfold layN;rw[if_neg h24];rfl
 have e2:layX X N v (m:Int)=X+V*2^N:=by unfold layX;rw[if_neg h24,←hV];rfl
 have e3:(((N:Int)+(m:Int))%8)=(((N+m)%8:Nat):Int):=by omega
 rw[e1,e2,e3];refine⟨v1,L1,q,?_,?_,rfl,by omega,?_,?_⟩
 ·simpa using hi1.put 2 (.int .i64 (((N+m)%8:Nat):Int))
 ·exact ownsRow_setCell_other hown1 (a:=⟨b,2,none⟩) (fy hown1 hi1 (by decide)) _
 ·rw[hx,←hP,←hnum,Nat.mul_add,←Nat.add_assoc,hlen,p256]
  congr 1
  rw[Nat.mul_left_comm,←Nat.pow_add,show 8*(N/8)+N%8=N from by omega]
 ·rw[hq,hj,p256];apply Nat.div_lt_of_lt_mul;rw[←Nat.pow_add,show 8*((N%8+m)/8)+(N+m)%8=N%8+m from by omega];exact hPlt
theorem WS.bits{w:World}{lo b:Nat}{og:Option Nat}{X N:Nat}(h:WS w lo b og X N)(hlo:lo≤w.heap.size)(hN:N≤140737488355328)(v n:Int):
 Calls prog 192 #[.pointer b,v,n] w fun e w'=>e=.returned (.tuple #[])∧
  ∃og',WS w' lo b og' (layX X N v n) (layN N n)∧(∀g,og'=some g→og=some g∨w.heap.size≤g)∧But (b::og.toList) w w':=by
 by_cases hn:n<0∨24<n
 ·have hx:layX X N v n=X:=by unfold layX;rw[if_pos hn]
  have hy:layN N n=N:=by unfold layN;rw[if_pos hn]
  rw[hx,hy];clear hx hy;rcases hn with hn|hn
  ·go_enter func192,ntmps192
   go_wp2;exact bodyPost_ret (results_none rfl _ _ _) rfl ⟨rfl,og,h,fun g e=>.inl e,But.refl _ _⟩
  ·have hn0:¬n<0:=by omega
   go_enter func192,ntmps192
   go_wp2;exact bodyPost_ret (results_none rfl _ _ _) rfl ⟨rfl,og,h,fun g e=>.inl e,But.refl _ _⟩
 ·obtain⟨m,rfl⟩:=Int.eq_ofNat_of_zero_le (show 0≤n by omega);have hm:m≤24:=by omega
  obtain⟨x,L,part,hi,hown,hog,hlen,hnum,hpart⟩:=h;have h0:w.cell? ⟨b,0,none⟩=some x:=hi.cell 0;have h1:w.cell? ⟨b,1,none⟩=some (.int .i64 part):=hi.cell 1;have h2:w.cell? ⟨b,2,none⟩=some (.int .i64 (N%8:Nat)):=hi.cell 2;have f0:w.frozen? ⟨b,0,none⟩=false:=hi.free 0;have f1:w.frozen? ⟨b,1,none⟩=false:=hi.free 1;have f2:w.frozen? ⟨b,2,none⟩=false:=hi.free 2;have hn0:¬(m:Int)<0:=by omega
  have hn1:¬(24:Int)<(m:Int):=by omega
  go_enter func192,ntmps192
  go_wp2
  go_region
  have hlp:=qhz (Ol v part m (N%8) hm (by omega) hpart);generalize hV:(v%2^m).toNat=V at*;have hPlt:part+V*2^(N%8)<2^(N%8+m):=Qw v part m (N%8) V hV hpart;generalize hP:part+V*2^(N%8)=P at*;go_wp2
  go_loopw [46] (fun i wr=>∃j:Nat,j≤(N%8+m)/8∧i=.int .i64 j∧WMid w wr lo b og (num L+256^L.length*P) P (N/8) (N%8+m) j) (fun i _=>(N%8+m)/8-(intOf i).toNat)
  case atStart=>
   refine⟨0,Nat.zero_le _,rfl,x,L,?_,?_,by omega,by simp,fun g e=>.inl (by rw[←hog];exact e),?_⟩
   ·have e3:((N:Int)%8+(m:Int))=((N%8+m:Nat):Int):=by omega
    rw[hlp.out,e3];have:=((hi.put 1 (.int .i64 (P:Int))).put 2 (.int .i64 ((N%8+m:Nat):Int))).drew;simpa using this
   ·exact(ownsRow_setCell_other (ownsRow_setCell_other hown (a:=⟨b,1,none⟩) (fy hown hi (by decide)) _) (a:=⟨b,2,none⟩) (fy hown hi (by decide)) _).drew
   ·exact(((But.refl (b::og.toList) w).setCell (p:=⟨b,1,none⟩) (.inl (by simp)) _).setCell (p:=⟨b,2,none⟩) (.inl (by simp)) _).drew
  case round=>
   obtain⟨j,hj,rfl,v1,L1,hi1,hown1,hl1,hx1,hg1,hb1⟩:=hrel;obtain⟨q,hq⟩:=E1 (P/256^j);rw[←hq]at hi1 hx1;have HQ:=qhz hq;clear hq
   by_cases hlt:j<(N%8+m)/8
   ·have c0:wr.cell? ⟨b,0,none⟩=some v1:=hi1.cell 0;have c1:wr.cell? ⟨b,1,none⟩=some (.int .i64 (q:Nat)):=hi1.cell 1;have c2:wr.cell? ⟨b,2,none⟩=some (.int .i64 (N%8+m:Nat)):=hi1.cell 2;have e0:wr.frozen? ⟨b,0,none⟩=false:=hi1.free 0;have e1:wr.frozen? ⟨b,1,none⟩=false:=hi1.free 1;have e2:wr.frozen? ⟨b,2,none⟩=false:=hi1.free 2;have hne:v1.ownBlock≠some b:=fy hown1 hi1 (by decide);have hbl:b<wr.heap.size:=hi1.lt;have hsz:=hb1.size;have HI:=qhz hi1;have HX:=qhz hx1;have HL:=qhz hl1;clear hi hi1 h0 h1 h2 f0 f1 f2 hx1 hl1;obtain⟨i0,hi0,hz0,hz1,hz2⟩:=info_parts lw;have hlen1:L1.length+1≤140737488355328:=by have:=HL.out;omega
    go_wp2
    go_region_law (refine step_append_lies _ (by rfl) _ _ _ (by rfl) lo 5 i0 _ 1 1 underlying47 hi0 hz0 hz1 hz2 rfl (by omega) v1 L1.length (ah L1) (by rfl) ((hown1.alloc _).drew) ⟨wr.heap.size,0,none⟩ 1 1 [.int .u8 (IntKind.u8.wrap q)] (by rfl) (by rfl) (World.news_of_block (cs:=#[.int .u8 (IntKind.u8.wrap q)]) (t:=5) (fr:=(0,0)) (heap_alloc_new wr _)) (by simp[Value.oneCell']) (by omega) (by unfold maxLen;omega) (by omega) (by simp;omega) (wr.heap.size+1) (by simp) ?_;intro gg cap w1 hown2 hgrow hat hlt2;have hi2:=(((HI.out.alloc (.cells #[.int .u8 (IntKind.u8.wrap q)] 5)).drew).grown hgrow (Ne.symm hne));have g0:w1.cell? ⟨b,0,none⟩=some v1:=hi2.cell 0;have g1:w1.cell? ⟨b,1,none⟩=some (.int .i64 (q:Nat)):=hi2.cell 1;have g2:w1.frozen? ⟨b,0,none⟩=false:=hi2.free 0;have g3:w1.frozen? ⟨b,1,none⟩=false:=hi2.free 1;have HI2:=qhz hi2;clear hi2)
    all_goals go_wp2
    all_goals go_roundw
    case rel=>exact⟨j+1,by omega,by go_num,rK HI.out HL.out HX.out HQ.out hg1 hb1 hown1 hown2 hgrow hat⟩
    case measure=>simp[intOf];omega
    case rel=>exact⟨j+1,by omega,by go_num,rK HI.out HL.out HX.out HQ.out hg1 hb1 hown1 hown2 hgrow hat⟩
    case measure=>simp[intOf];omega
    case rel=>exact⟨j+1,by omega,by go_num,rK HI.out HL.out HX.out HQ.out hg1 hb1 hown1 hown2 hgrow hat⟩
    case measure=>simp[intOf];omega
   ·have c2:wr.cell? ⟨b,2,none⟩=some (.int .i64 (N%8+m:Nat)):=hi1.cell 2;have e2:wr.frozen? ⟨b,2,none⟩=false:=hi1.free 2;have HI:=qhz hi1;have HX:=qhz hx1;have HL:=qhz hl1;clear hi hi1 h0 h1 h2 f0 f1 f2 hx1 hl1;go_wp2
    go_end0
    have hfin:=MQ (v:=v) hm hlen hnum hV hP hPlt (show j=(N%8+m)/8 by omega) HQ.out HI.out HL.out HX.out hown1;exact⟨rfl,v1.ownBlock,hfin,hg1,hb1.setCell (.inl (by simp)) _⟩
theorem eH{P:Program}(w:World)(base:Nat)(t u ty e:TypeId)(i:TypeInfo)(ht:P.underlying t=some (.slice e))(hu:P.underlying u=some .string)(hi:P.info? e=some i)(hz:i.zero=some (.int .u8 0))
 (hsize:i.size=1) (hby:i.bytes=1) (v:Value) (n:Nat) (xs:List Value) (hown:w.ownsRow base e 1 v n xs) (s:ByteArray) (hbound:n+s.size≤140737488355328) (hbase:base≤w.heap.size):
 ∃v' w',(Builtin.append_ #[t,u] ty #[v,.string s]).run P w=.ok v' w'∧w'.ownsRow base e 1 v' (n+s.size) (xs++Lib.strCells s)∧w.grownBy w' v.ownBlock∧(∀g,v'.ownBlock=some g→v.ownBlock=some g∨w.heap.size≤g):=by
 obtain⟨v',w',hr,ho,hg,hn⟩:=Lib.run_append_own_string (P:=P) w base t u ty e i ht hu hi hz hsize hby v n xs hown s (by unfold maxLen;omega) hbound hbase;refine⟨v',w',hr,ho,hg,fun g eg=>?_⟩;have hok:∀{a:Value} {wa:World},(Builtin.append_ #[t,u] ty #[v,.string s]).run P w=.ok a wa→v'=a:=fun h=>(Result.ok.inj (hr.symm.trans h)).1;rcases hown.2 with⟨rfl,rfl⟩|⟨g0,cap,cur,rfl,hbg,hgc,hnc,hcm,hcs,htake⟩
 ·by_cases h0:s.size=0
  ·rw[hn.2 ⟨rfl,h0⟩]at eg;simp[Value.ownBlock]at eg
  ·have h:=hok (run_append_nil_string (P:=P) w t u ty e i (.int .u8 0) ht hu hi hz s (by omega) (by omega) (by rw[hby];omega));rw[h]at eg;simp[Value.ownBlock]at eg;exact .inr (by omega)
 ·by_cases hroom:n+s.size≤cap
  ·have h:=hok (Lib.run_append_room_string (P:=P) w t u ty e i ht hu hi hsize g0 n cap cur hgc s hroom (by omega));rw[h]at eg;exact .inl eg
  ·have holds:∀j x,xs[j]? =some x→w.cell? ((⟨g0,0,none⟩:Addr).add j)=some x:=hown.cells (g:=g0) rfl;have h:=hok (Lib.run_append_grow_string (P:=P) w t u ty e i (.int .u8 0) ht hu hi hz ⟨g0,0,none⟩ n cap xs (by rw[hsize];exact hown.1) holds s (by omega) (by omega) (by rw[hby];exact growslice_fits (by omega) (by omega)));rw[h]at eg;simp[Value.ownBlock]at eg;exact .inr (by omega)
theorem lg{w:World}{base n size:Nat}{e:TypeId}{v:Value}{xs:List Value}(h:w.ownsRow base e size v n xs):∃A c,v=.slice A n c∧n≤c:=by
 rcases h.2 with⟨rfl,rfl⟩|⟨g,cap,cur,rfl,_,_,hc,_⟩
 ·exact⟨none,0,rfl,Nat.le_refl _⟩
 ·exact⟨_,cap,rfl,hc⟩
theorem fN{P:Program}(w:World){ops:Array Oper}{rest:List Oper}{o:Oper}{a:Act}{Q:Exit→Act→World→Prop}(hgd:o.guard=none)(sl x:Operand)(t u:TypeId)
 (ho:o.op=.call {callee:=.builtin .append,args:=#[sl,x],argTypes:=#[t,u]})
 (base:Nat) (e:TypeId) (i:TypeInfo) (ht:P.underlying t=some (.slice e)) (hu:P.underlying u=some .string) (hi:P.info? e=some i) (hz:i.zero=some (.int .u8 0))
 (hsize:i.size=1) (hby:i.bytes=1) (v:Value) (n:Nat) (xs:List Value) (hs:a.eval sl=v) (hown:w.ownsRow base e 1 v n xs) (s:ByteArray) (hx:a.eval x=.string s)
 (hbound:n+s.size≤140737488355328) (hbase:base≤w.heap.size)
 (h:∀A c w',w'.ownsRow base e 1 (.slice A (n+s.size) c) (n+s.size) (xs++Lib.strCells s)→w.grownBy w' v.ownBlock→(∀g,(Value.slice A (n+s.size) c).ownBlock=some g→v.ownBlock=some g∨w.heap.size≤g)→wpList P ops Q rest (a.put o.dst (.slice A (n+s.size) c)) w'):wpList P ops Q (o::rest) a w:=by
 refine wpList_plain hgd fun K hK=>?_;obtain⟨v',w',hr,h2,h3,h4⟩:=eH (P:=P) w base t u o.type e i ht hu hi hz hsize hby v n xs hown s hbound hbase;obtain⟨A,c,rfl,_⟩:=lg h2;unfold Oper.wp execOp;simp only[ho,resolve,invoke,builtin,Sem.run_bind,Sem.run_pure,Result.andThen_ok,List.map_toArray,List.map_cons,List.map_nil,hs,hx,hr];exact hK _ _ (h A c w' h2 h3 h4)
theorem aU{w w':World}{base n size:Nat}{e:TypeId}{v:Value}{xs:List Value}{S:List Nat}(h:w.ownsRow base e size v n xs)(hw:But S w w')(hS:∀g,v.ownBlock=some g→g∉S):w'.ownsRow base e size v n xs:=by
 obtain⟨h1,h2⟩:=h;refine⟨h1,?_⟩;rcases h2 with h2|⟨g,cap,cur,rfl,hg,hh,r⟩
 ·exact .inl h2
 ·have hlt:g<w.heap.size:=(Array.getElem?_eq_some_iff.1 hh).1;exact .inr ⟨g,cap,cur,rfl,hg,(hw.block g hlt (hS g rfl)).trans hh,r⟩
theorem WS.but{w w':World}{lo b X N:Nat}{og:Option Nat}{S:List Nat}(h:WS w lo b og X N)(hw:But S w w')(hb:b∉S)(hg:∀g,og=some g→g∉S):WS w' lo b og X N:=by
 obtain⟨v,L,part,hi,hown,hog,r⟩:=h;exact⟨v,L,part,hi.but hw hb,aU hown hw (fun g e=>hg g (by rw[←hog];exact e)),hog,r⟩
theorem WS.lt{w:World}{lo b X N:Nat}{og:Option Nat}(h:WS w lo b og X N):b<w.heap.size∧∀g,og=some g→g<w.heap.size∧g≠b:=by
 obtain⟨v,L,part,hi,hown,hog,r⟩:=h;refine⟨hi.lt,fun g e=>?_⟩;subst hog;exact⟨(hown.lt g e).2,fun e2=>fy hown hi (by decide) (by rw[e,e2])⟩
theorem ox{w:World}{base n:Nat}{v:Value}{L:List UInt8}(h:w.ownsRow base 5 1 v n (ah L)):(convert 47 9 v).run prog w=.ok (.string ⟨L.toArray⟩) w:=by
 have hl:L.length=n:=by have:=h.1;rw[iZ]at this;omega
 rcases h.2 with⟨rfl,rfl⟩|⟨g,cap,cur,rfl,_⟩
 ·have:L=[]:=List.eq_nil_of_length_eq_zero hl;subst this;exact ByteRow.text ⟨rfl,fun h=>absurd h (by simp)⟩
 ·refine ByteRow.text ⟨hl,fun _=>⟨g,0,rfl,fun i hi=>?_⟩⟩;have hc:=h.cells (g:=g) rfl i (.int .u8 (L[i].toNat:Int)) (by simp[ah,hi]);have e2:(⟨g,0,none⟩:Addr).add i=⟨g,0+i,none⟩:=by unfold Addr.add;split<;>simp_all
  rw[e2]at hc;exact hc
theorem dB(a b:List UInt8):ah (a++b)=ah a++ah b:=by simp[ah]
def iu(N:Nat)(s:ByteArray):Nat:=8*((N+7)/8)+8*s.size
def lC(X N:Nat)(s:ByteArray):Nat:=X+num s.data.toList*2^(8*((N+7)/8))
theorem WS.bytes{w:World}{lo b:Nat}{og:Option Nat}{X N:Nat}(h:WS w lo b og X N)(hlo:lo≤w.heap.size)(hN:N≤140737488355328)(s:ByteArray)(hs:s.size≤70368744177664):
 Calls prog 193 #[.pointer b,s] w fun e w'=>e=.returned (.tuple #[])∧
  ∃og',WS w' lo b og' (lC X N s) (iu N s)∧(∀g,og'=some g→og=some g∨w.heap.size≤g)∧But (b::og.toList) w w':=by
 have h':=h;obtain⟨x,L,part,hi,hown,hog,hlen,hnum,hpart⟩:=h';have h0:w.cell? ⟨b,0,none⟩=some x:=hi.cell 0;have h2:w.cell? ⟨b,2,none⟩=some (.int .i64 (N%8:Nat)):=hi.cell 2;clear hown hog hlen hnum hpart hi
 go_enter func193,ntmps193
 go_upto_if 10 with(fail)
 go_cut [] (fun w1=>∃og1,WS w1 lo b og1 X (8*((N+7)/8))∧(∀g,og1=some g→og=some g∨w.heap.size≤g)∧But (b::og.toList) w w1)
 case first=>
  by_cases hu:0<N%8
  ·go_wp2_with (go_at_call 192;refine(h.bits hlo hN 0 (8-(N:Int)%8)).mono ?_;rintro e w' ⟨rfl,hpost⟩)
   go_meet
   obtain⟨og1,hW,hf,hB⟩:=hpost;have e1:layX X N 0 (8-(N:Int)%8)=X:=by unfold layX;split<;>simp
   have e2:layN N (8-(N:Int)%8)=8*((N+7)/8):=by unfold layN;rw[if_neg (by omega)];omega
   rw[e1,e2]at hW;exact⟨og1,hW,hf,hB⟩
  ·go_wp2
   go_meet
   rw[show 8*((N+7)/8)=N from by omega];exact⟨og,h,fun g e=>.inl e,But.refl _ _⟩
 case rest=>
  obtain⟨og1,hW,hf,hB⟩:=hcut;clear h0 h2 h;obtain⟨x,L,part,hi,hown,hog,hlen,hnum,hpart⟩:=hW;have h0:wc.cell? ⟨b,0,none⟩=some x:=hi.cell 0;have hsz:=hB.size;have hpart0:part=0:=by(have e:8*((N+7)/8)%8=0:=by omega);rw[e]at hpart;omega
  subst hpart0;have hne:=fy hown hi (by decide);have hLb:L.length≤17592186044417:=by omega
  have HL:=qhz hlen;have HX:=qhz hnum;have HI:=qhz hi;clear hlen hnum hpart hi;obtain⟨i0,hi0,hz0,hz1,hz2⟩:=info_parts lw
  go_wp2_with (at_builtin;refine fN _ rfl _ _ 47 9 rfl lo 5 i0 underlying47 underlying9 hi0 hz0 hz1 hz2 x L.length (ah L) rfl hown s rfl (by omega) (by omega) ?_;intro A2 c2 w2 hown2 hgrow hat;have hi2:=HI.out.grown hgrow (Ne.symm hne);have g0:w2.cell? ⟨b,0,none⟩=some x:=hi2.cell 0;have g1:w2.frozen? ⟨b,0,none⟩=false:=hi2.free 0;have HI2:=qhz hi2;clear hi2)
  go_end0
  have hB2:=(hB.grown hgrow (fun g e=>by
   have e1:og1=some g:=hog▸e;rcases hf g e1 with h|h
   ·subst h;exact .inl (by simp)
   ·exact .inr h))
  have hpos:8*((N+7)/8)/8=(N+7)/8:=by omega
  refine⟨rfl,(Value.slice A2 (L.length+s.size) c2).ownBlock,⟨_,L++s.data.toList,0,?_,?_,rfl,?_,?_,by unfold iu;exact Nat.two_pow_pos _⟩,fun g e=>?_,hB2.setCell (.inl (by simp)) _⟩
  ·have e8:iu N s%8=8*((N+7)/8)%8:=by unfold iu;omega
   rw[e8];simpa using HI2.out.put 0 (.slice A2 (L.length+s.size) c2)
  ·have ho:w2.ownsRow lo 5 1 (.slice A2 (L.length+s.size) c2) (L++s.data.toList).length (ah (L++s.data.toList)):=by
    rw[List.length_append,dB];exact hown2
   exact ownsRow_setCell_other ho (a:=⟨b,0,none⟩) (fy hown2 HI2.out (by decide)) _
  ·rw[List.length_append,HL.out];unfold iu;have:s.data.toList.length=s.size:=Array.length_toList;omega
  ·have hX:=HX.out;unfold lC;rw[fZ,←hX,HL.out,hpos,p256];simp[Nat.mul_comm]
  ·rcases hat g e with h|h
   ·exact hf g (hog▸h)
   ·exact .inr (by omega)
section
open Go.ChangeShapes Go.WideShapes
def Ints(w:World)(A:Option Addr)(n:Nat)(l:List Int):Prop:=
 l.length=n∧(0<n→∃g o,A=some ⟨g,o,none⟩∧g<w.heap.size∧∀(i:Nat) (h:i<l.length),w.cell? ⟨g,o+i,none⟩=some (.int .i64 l[i]))
theorem Ints.but{w w':World}{A:Option Addr}{n:Nat}{l:List Int}{S:List Nat}(h:Ints w A n l)(hw:But S w w')(hA:∀k∈S,Off A k):Ints w' A n l:=
 ⟨h.1,fun hn=>by
  obtain⟨g,o,e,hg,hc⟩:=h.2 hn;exact⟨g,o,e,Nat.lt_of_lt_of_le hg hw.size,fun i hi=>hw.cell (hc i hi) (fun hS=>hA g hS _ e rfl)⟩⟩
theorem Ints.at{w:World}{A:Option Addr}{n:Nat}{l:List Int}(h:Ints w A n l){i:Nat}(hi:i<n):
 ∃g o,A=some ⟨g,o,none⟩∧g<w.heap.size∧w.cell? ⟨g,o+i,none⟩=some (.int .i64 (l[i]'(by have:=h.1;omega))):=by
 obtain⟨g,o,e,hg,hc⟩:=h.2 (by omega);exact⟨g,o,e,hg,hc i (by have:=h.1;omega)⟩
end
def eX(X N:Nat):ByteArray:=⟨(gI ((N+7)/8) X).toArray⟩
theorem fQ(X N:Nat):(eX X N).size=(N+7)/8:=by
 show(gI ((N+7)/8) X).toArray.size=_;simp[uw]
theorem Ho(L:List UInt8)(y:UInt8):(⟨L.toArray⟩++⟨#[y]⟩:ByteArray)=⟨(L++[y]).toArray⟩:=by
 apply ByteArray.ext;simp
theorem WS.text{w:World}{lo b:Nat}{og:Option Nat}{X N:Nat}(h:WS w lo b og X N)(hN:N≤140737488355328):
 Calls prog 160 #[.pointer b] w (R1z (.string (eX X N)) w):=by
 obtain⟨x,L,part,hi,hown,hog,hlen,hnum,hpart⟩:=h;have h0:w.cell? ⟨b,0,none⟩=some x:=hi.cell 0;have h1:w.cell? ⟨b,1,none⟩=some (.int .i64 part):=hi.cell 1;have h2:w.cell? ⟨b,2,none⟩=some (.int .i64 (N%8:Nat)):=hi.cell 2;have hcv:=ox hown;have hLb:L.length≤17592186044416:=by omega
 have HL:=qhz hlen;have HX:=qhz hnum;clear hi hown hog hlen hnum
 by_cases hu:0<N%8
 ·have hp7:2^(N%8)≤2^7:=Nat.pow_le_pow_right (by decide) (by omega);obtain⟨y,rfl⟩:∃y:UInt8,y.toNat=part:=⟨UInt8.ofNat part,by
   have h:(UInt8.ofNat part).toNat=part%256:=UInt8.toNat_ofNat';omega⟩
  have hylt:=y.toNat_lt;have hcv2:=ox (L:=[y]) (World.ownsRow_lit (base:=w.heap.size) (e:=5) (size:=1) w #[.int .u8 (y.toNat:Int)] 1 (Nat.le_refl _) (by unfold maxLen;omega) rfl);clear hp7 hpart
  go_enter func160,ntmps160
  go_wp2;go_ret;refine⟨?_,((But.refl [] w).alloc _)⟩;have e:eX X N=⟨(L++[y]).toArray⟩:=by
   unfold eX;rw[←jG (l:=L++[y]) (k:=(N+7)/8) (x:=X) (by rw[List.length_append,HL.out,List.length_singleton];omega) (by rw[ri];exact HX.out)]
  rw[e,←Ho];rfl
 ·have hp0:part=0:=by(have e:N%8=0:=by omega);rw[e]at hpart;omega
  subst hp0
  go_enter func160,ntmps160
  go_wp2;go_ret;refine⟨?_,But.refl _ _⟩;have e:eX X N=⟨L.toArray⟩:=by
   unfold eX;rw[←jG (l:=L) (k:=(N+7)/8) (x:=X) (by rw[HL.out];omega) (by rw[←HX.out];simp)]
  rw[e];rfl
theorem But.fresh{w w1 w2:World}{S:List Nat}(h:But [] w w1)(k:But S w1 w2)(hS:∀i∈S,w.heap.size≤i):But [] w w2:=
 ⟨k.os.trans h.os,k.tape.trans h.tape,k.output.trans h.output,Nat.le_trans h.size k.size,fun i hi _=>
  (k.block i (Nat.lt_of_lt_of_le hi h.size) (fun e=>by have:=hS i e;omega)).trans (h.block i hi (by simp))⟩
theorem But.belowNew{w w':World}(h:But [] w w'):Below w.heap.size w w':=⟨h.os,h.tape,h.output,h.size,fun k hk=>h.block k hk (by simp)⟩
theorem KC(w:World)(lo H:Nat)(hH:w.heap.size=H):
 Calls prog 157 #[] w fun e w'=>e=.returned (.pointer H)∧WS w' lo H none 0 0∧But [] w w'∧w'.heap.size=H+1:=by
 subst hH;refine(Pi w).mono ?_;rintro e w' ⟨rfl,rfl⟩;exact⟨rfl,Rn w lo,(But.refl [] w).alloc _,by simp⟩
end Go.Proofs.YtbanopnofpjnbaaGreatDoor
