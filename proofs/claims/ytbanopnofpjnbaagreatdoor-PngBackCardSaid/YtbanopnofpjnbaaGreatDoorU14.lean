/- Own texts in one: ZlM, CkP, CkR, HpC, HpF. -/
import Derived.Test.YtbanopnofpjnbaaGreatDoorU06
import Derived.Test.YtbanopnofpjnbaaGreatDoorU13
set_option maxRecDepth 1000000
set_option linter.unusedVariables false
set_option maxHeartbeats 4000000
namespace Go.Proofs.YtbanopnofpjnbaaGreatDoor
open Go Go.RowKit Tryz
def kn(a b:Nat):Prop:=a%16≠8∨7<a/16∨(256*a+b)%31≠0∨b/32%2=1
instance badDec(a b:Nat):Decidable (kn a b):=by unfold kn;infer_instance
def unzT(s:ByteArray)(most:Int):List UInt8×Int:=
 if s.size<2 then([],3) else
 if kn (s.data.toList.getD 0 0).toNat (s.data.toList.getD 1 0).toNat then([],16) else
 if(gy (strL (s.data.toList.drop 2)) most).2.2≠0 then([],(gy (strL (s.data.toList.drop 2)) most).2.2) else
 if s.size<2+(gy (strL (s.data.toList.drop 2)) most).2.1+4 then([],3) else
 if ofL ((s.data.toList.drop (2+(gy (strL (s.data.toList.drop 2)) most).2.1)).take 4)≠eD (gy (strL (s.data.toList.drop 2)) most).1 then([],17) else
 if 2+(gy (strL (s.data.toList.drop 2)) most).2.1+4<s.size then([],4)else((gy (strL (s.data.toList.drop 2)) most).1,0)
def zipL(l F:List UInt8):ByteArray:=strL (120::1::((dH l).data.toList++F))
def dK(l:List UInt8):ByteArray:=zipL l (br (eD l))
theorem E7(l:List UInt8):(dK l).data.toList=120::1::((dH l).data.toList++br (eD l)):=by unfold dK zipL;rw[aj]
theorem rI(l:List UInt8):dK l=⟨#[120,1]⟩++dH l++strL (br (eD l)):=by
 apply ByteArray.ext;apply Array.ext';show(dK l).data.toList=_;rw[E7];simp[strL]
theorem qm{l:List UInt8}(h:l.length≤65535):(dH l).size≤l.length+5:=by
 have h1:=(um l).2.1;rw[IU h]at h1;exact h1
theorem p9(n:Nat):(strL (br n)).size=4:=by rw[ac,az]
theorem xk(w:World){n:Nat}(hn:n<4611686018427387904):
 Calls prog 68 #[n] w (R1z (.string (strL (br n))) w):=by
 obtain⟨a,ha⟩:=E1 (n/16777216%256);obtain⟨b,hb⟩:=E1 (n/65536%256);obtain⟨c,hc⟩:=E1 (n/256%256);obtain⟨d,hd⟩:=E1 (n%256);have b1:IntKind.u8.wrap ((n:Int)/16777216)=(a:Int):=by simp[IntKind.wrap_u8];omega
 have b2:IntKind.u8.wrap ((n:Int)/65536)=(b:Int):=by simp[IntKind.wrap_u8];omega
 have b3:IntKind.u8.wrap ((n:Int)/256)=(c:Int):=by simp[IntKind.wrap_u8];omega
 have b4:IntKind.u8.wrap (n:Int)=(d:Int):=by simp[IntKind.wrap_u8];omega
 have kc:=fun W:World=>mc W ha hb hc hd;have HB:=qhz ((But.refl [] w).alloc (.cells #[.int .u8 a,.int .u8 b,.int .u8 c,.int .u8 d] 5));clear ha hb hc hd
 go_enter func68,ntmps68
 go_wp2;go_ret;exact⟨rfl,HB.out⟩
theorem Ec(x y i:Nat)(hi:i≤62)(hx:x%2^i=0)(hx1:x<9223372036854775808)(hy:y<2^i):Go.bits .or .i64 (x:Int) (y:Int)=((x+y:Nat):Int):=by
 have hp:2^i≤2^62:=Nat.pow_le_pow_right (by decide) hi;rw[Lg _ _ hx1 (by omega),nat_join i x y hx hy]
theorem FJ(w:World){s:List UInt8}(hs:s.length=4):
 Calls prog 83 #[strL s] w fun e w'=>e=.returned (.int .i64 (ofL s))∧∃q,w'=w.drewN q:=by
 match s,hs with
 |[p,q,r,t],_=>
  have k0:∀W,(Instr.index 9 (.string (strL [p,q,r,t])) (.int .i64 0)).run prog W=.ok (.int .u8 (p.toNat:Nat)) W:=fun W=>iz (s:=strL [p,q,r,t]) (k:=0) (by rw[ac];simp) W;have k1:∀W,(Instr.index 9 (.string (strL [p,q,r,t])) (.int .i64 1)).run prog W=.ok (.int .u8 (q.toNat:Nat)) W:=fun W=>iz (s:=strL [p,q,r,t]) (k:=1) (by rw[ac];simp) W;have k2:∀W,(Instr.index 9 (.string (strL [p,q,r,t])) (.int .i64 2)).run prog W=.ok (.int .u8 (r.toNat:Nat)) W:=fun W=>iz (s:=strL [p,q,r,t]) (k:=2) (by rw[ac];simp) W;have k3:∀W,(Instr.index 9 (.string (strL [p,q,r,t])) (.int .i64 3)).run prog W=.ok (.int .u8 (t.toNat:Nat)) W:=fun W=>iz (s:=strL [p,q,r,t]) (k:=3) (by rw[ac];simp) W;have hof:ofL [p,q,r,t]=256*(256*(256*(256*0+p.toNat)+q.toNat)+r.toNat)+t.toNat:=rfl;have l0:=p.toNat_lt;have l1:=q.toNat_lt;have l2:=r.toNat_lt;have l3:=t.toNat_lt
  obtain⟨S,hS⟩:=E1 (strL [p,q,r,t]);obtain⟨n,hn⟩:=E1 (ofL [p,q,r,t]);rw[←hn]at hof⊢;rw[←hS];simp only[←hS]at k0 k1 k2 k3;obtain⟨a,ha⟩:=E1 p.toNat;obtain⟨b,hb⟩:=E1 q.toNat;obtain⟨c,hc⟩:=E1 r.toNat;obtain⟨d,hd⟩:=E1 t.toNat;rw[←ha]at l0 hof;rw[←hb]at l1 hof;rw[←hc]at l2 hof;rw[←hd]at l3 hof;simp only[←ha]at k0;simp only[←hb]at k1;simp only[←hc]at k2;simp only[←hd]at k3;clear hS hn ha hb hc hd;have HN:=qhz (show Go.bits .or .i64 (Go.bits .or .i64 (Go.bits .or .i64 ((a:Int)*16777216) ((b:Int)*65536)) ((c:Int)*256)) (d:Int)=(n:Int) by
   have o1:=Ec (a*16777216) (b*65536) 24 (by decide) (by omega) (by omega) (by omega);have o2:=Ec (a*16777216+b*65536) (c*256) 16 (by decide) (by omega) (by omega) (by omega);have o3:=Ec (a*16777216+b*65536+c*256) d 8 (by decide) (by omega) (by omega) (by omega);rw[show(a:Int)*16777216=((a*16777216:Nat):Int)by omega,show(b:Int)*65536=((b*65536:Nat):Int)by omega,show(c:Int)*256=((c*256:Nat):Int)by omega,o1,o2,o3,hof];omega)
  clear hof
  go_enter func83,ntmps83
  go_wp2
  go_quiet (fail)
  go_wp2;go_ret;exact⟨congrArg (fun z=>Ending.returned (.int .i64 z)) HN.out,nq,rfl⟩
theorem u9(w:World){x:Nat}(hx:x<256):
 Calls prog 110 #[.int .u8 (x:Int)] w fun e w'=>e=.returned (.bool (decide (65≤x∧x≤90)))∧w=w':=by
 by_cases h1:65≤x
 ·by_cases h2:x≤90
  ·have HN:=qhz (decide_eq_true (⟨h1,h2⟩:65≤x∧x≤90));have d1:decide ((65:Int)≤(x:Int))=true:=by simp;omega
   have d2:decide ((x:Int)≤90)=true:=by simp;omega
   go_enter func110,ntmps110
   go_wp2;go_ret;exact⟨by rw[HN.out];rfl,rfl⟩
  ·have HN:=qhz (decide_eq_false (fun h:65≤x∧x≤90=>h2 h.2));have d1:decide ((65:Int)≤(x:Int))=true:=by simp;omega
   have d2:decide ((x:Int)≤90)=false:=by simp;omega
   go_enter func110,ntmps110
   go_wp2;go_ret;exact⟨by rw[HN.out];rfl,rfl⟩
 ·have HN:=qhz (decide_eq_false (fun h:65≤x∧x≤90=>h1 h.1));have d1:decide ((65:Int)≤(x:Int))=false:=by simp;omega
  go_enter func110,ntmps110
  go_wp2;go_ret;exact⟨by rw[HN.out];rfl,rfl⟩
theorem FQ(w:World){x:Nat}(hx:x<256):
 Calls prog 111 #[.int .u8 (x:Int)] w fun e w'=>e=.returned (.bool (decide (97≤x∧x≤122)))∧w=w':=by
 by_cases h1:97≤x
 ·by_cases h2:x≤122
  ·have HN:=qhz (decide_eq_true (⟨h1,h2⟩:97≤x∧x≤122));have d1:decide ((97:Int)≤(x:Int))=true:=by simp;omega
   have d2:decide ((x:Int)≤122)=true:=by simp;omega
   go_enter func111,ntmps111
   go_wp2;go_ret;exact⟨by rw[HN.out];rfl,rfl⟩
  ·have HN:=qhz (decide_eq_false (fun h:97≤x∧x≤122=>h2 h.2));have d1:decide ((97:Int)≤(x:Int))=true:=by simp;omega
   have d2:decide ((x:Int)≤122)=false:=by simp;omega
   go_enter func111,ntmps111
   go_wp2;go_ret;exact⟨by rw[HN.out];rfl,rfl⟩
 ·have HN:=qhz (decide_eq_false (fun h:97≤x∧x≤122=>h1 h.1));have d1:decide ((97:Int)≤(x:Int))=false:=by simp;omega
  go_enter func111,ntmps111
  go_wp2;go_ret;exact⟨by rw[HN.out];rfl,rfl⟩
theorem O0{l:List UInt8}(h:0<l.length):AI l=decide (65≤(l[0]).toNat∧(l[0]).toNat≤90):=by
 match l,h with
 |b::_,_=>rfl
theorem Kn(w:World){s:ByteArray}(hs:s.size≤140737488351232):Calls prog 138 #[s] w fun e w'=>e=.returned (.bool (AI s.data.toList))∧w=w':=by
 have hl:s.data.toList.length=s.size:=by simp
 by_cases h0:s.size=0
 ·have HN:=qhz (show AI s.data.toList=false by rw[show s.data.toList=[]from List.eq_nil_of_length_eq_zero (by omega)];rfl);have dn:s.toList=[]:=by
   rw[ByteArray.toList_eq];exact List.eq_nil_of_length_eq_zero (by omega)
  clear hl hs h0
  go_enter func138,ntmps138
  go_wp2;go_ret;exact⟨by rw[HN.out];rfl,rfl⟩
 ·have hpos:0<s.size:=by omega
  have k0:∀W,(Instr.index 9 (.string s) (.int .i64 0)).run prog W=.ok (.int .u8 ((s.data.toList[0]'(by rw[hl];exact hpos)).toNat:Nat)) W:=fun W=>iz (k:=0) hpos W;have hcr:=O0 (l:=s.data.toList) (by rw[hl];exact hpos);have dm:¬s.toList=[]:=by
   rw[ByteArray.toList_eq];exact fun e=>by rw[e]at hl;simp at hl;omega
  have dn:s.toList.isEmpty=false:=by simpa using dm
  have hb8:=(s.data.toList[0]'(by rw[hl];exact hpos)).toNat_lt;obtain⟨x,hx⟩:=E1 ((s.data.toList[0]'(by rw[hl];exact hpos)).toNat);rw[←hx]at hcr hb8;simp only[←hx]at k0;have HCR:=qhz hcr;have HU:=qhz (fun v=>u9 v (x:=x) hb8);obtain⟨u,hu⟩:=E1 (decide (65≤x∧x≤90));rw[←hu]at HCR HU;clear hx hcr hl hs hu
  go_enter func138,ntmps138
  go_wp2_with (go_at_call 110;refine(HU.out _).mono ?_;rintro e w1 ⟨rfl,rfl⟩)
  go_ret;exact⟨by rw[HCR.out];rfl,rfl⟩
theorem zx(w:World){t:List UInt8}{m:Nat}:
 Calls prog 67 #[strL t,m] w fun e w'=>e=.returned (.bool (aJ t&&decide (m≤2147483647)))∧w=w':=by
 have hlen:(strL t).size=t.length:=ac t
 by_cases h4:t.length=4
 ·have d4:(((strL t).size:Int) !=4)=false:=by rw[hlen];simp;omega
  by_cases hb:m≤2147483647
  ·have db:decide ((2147483647:Int)<(m:Int))=false:=by simp;omega
   have HE:=qhz hlen;have HT:=qhz (show(t.take 4).all gF=true→(aJ t&&decide (m≤2147483647))=true from fun ha=>by rw[sF h4 ha,decide_eq_true hb];rfl);have HF:=qhz (fun k (hk:k<t.length) h=>(show(aJ t&&decide (m≤2147483647))=false by rw[vw hk h];rfl));have HX:=qhz (fun k (hk:k<t.length) h ha=>th hk h ha);have HK:=qhz (fun k (hk:k<(strL t).size) w=>iz hk w);have HL:=qhz h4;obtain⟨S,hS⟩:=E1 (strL t);have HS:=qhz hS;obtain⟨r,hr⟩:=E1 ((aJ t&&decide (m≤2147483647)));rw[←hr]at HT HF⊢;rw[←hS]at d4⊢;have hS4:S.size=4:=by rw[hS,hlen,h4]
   clear hlen hS hr h4 hb
   go_enter func67,ntmps67
   go_wp2
   go_loop [15] (fun i=>∃k:Nat,k≤4∧i=.int .i64 k∧Hid ((t.take k).all gF=true)) (fun i=>4-(intOf i).toNat)
   case atStart=>exact⟨0,Nat.zero_le _,rfl,qhz rfl⟩
   case round=>
    obtain⟨k,hk,rfl,HA⟩:=hrel
    by_cases hlt:k<4
    ·have hkl:k<t.length:=by rw[HL.out];exact hlt
     have hkt:k<(strL t).size:=by rw[HE.out];exact hkl
     have hf:=HF.out k hkl;have hn:=HX.out k hkl;have kx:∀w,(Instr.index 9 (.string S) (.int .i64 (k:Int))).run prog w=.ok (.int .u8 ((t[k]'hkl).toNat:Nat)) w:=fun w=>by
      have h:=HK.out k hkt w;simp only[aj]at h;rw[HS.out];exact h
     obtain⟨b,hb⟩:=E1 (t[k]'hkl);simp only[←hb]at hf hn kx;have hlb:gF b=decide (65≤b.toNat∧b.toNat≤90∨97≤b.toNat∧b.toNat≤122):=rfl;have hb8:=b.toNat_lt;obtain⟨x,hx⟩:=E1 b.toNat;rw[←hx]at hlb hb8;simp only[←hx]at kx;have HU:=qhz (fun v=>u9 v (x:=x) hb8);have HW:=qhz (fun v=>FQ v (x:=x) hb8);clear hb hx hkt hkl;obtain⟨u,hu⟩:=E1 (decide (65≤x∧x≤90));obtain⟨v,hv⟩:=E1 (decide (97≤x∧x≤122));have hlb2:gF b=(u||v):=by rw[hlb,hu,hv];by_cases h1:65≤x∧x≤90<;>by_cases h2:97≤x∧x≤122<;>simp[h1,h2]
     rw[←hu]at HU;rw[←hv]at HW;clear hlb hu hv;cases u
     ·cases v
      ·have HN:=qhz (hf (by rw[hlb2];rfl));clear hf hn hlb2
       go_wp2_with (first|(go_at_call 110;refine(HU.out _).mono ?_;rintro e w1 ⟨rfl,rfl⟩)|(go_at_call 111;refine(HW.out _).mono ?_;rintro e w1 ⟨rfl,rfl⟩))
       go_ret;exact⟨by rw[HN.out];rfl,rfl⟩
      ·have HN:=qhz (hn (by rw[hlb2];rfl) HA.out);clear hf hn hlb2
       go_wp2_with (first|(go_at_call 110;refine(HU.out _).mono ?_;rintro e w1 ⟨rfl,rfl⟩)|(go_at_call 111;refine(HW.out _).mono ?_;rintro e w1 ⟨rfl,rfl⟩))
       go_round
       case rel=>exact⟨k+1,by omega,by go_num,HN⟩
       case measure=>simp[intOf];omega
     ·have HN:=qhz (hn (by rw[hlb2];rfl) HA.out);clear hf hn hlb2
      go_wp2_with (first|(go_at_call 110;refine(HU.out _).mono ?_;rintro e w1 ⟨rfl,rfl⟩)|(go_at_call 111;refine(HW.out _).mono ?_;rintro e w1 ⟨rfl,rfl⟩))
      go_round
      case rel=>exact⟨k+1,by omega,by go_num,HN⟩
      case measure=>simp[intOf];omega
    ·obtain rfl:k=4:=by omega
     have HN:=qhz (HT.out HA.out);go_wp2;go_ret;exact⟨by rw[HN.out];rfl,rfl⟩
  ·have db:decide ((2147483647:Int)<(m:Int))=true:=by simp;omega
   have HN:=qhz (show(aJ t&&decide (m≤2147483647))=false by rw[decide_eq_false hb,Bool.and_false]);clear hlen h4 hb
   go_enter func67,ntmps67
   go_wp2;go_ret;exact⟨by rw[HN.out];rfl,rfl⟩
 ·have d4:(((strL t).size:Int) !=4)=true:=by rw[hlen];simp;omega
  have HN:=qhz (show(aJ t&&decide (m≤2147483647))=false by rw[uW h4];rfl);clear hlen h4
  go_enter func67,ntmps67
  go_wp2;go_ret;exact⟨by rw[HN.out];rfl,rfl⟩
section
def aQ(D:List UInt8)(k i:Nat):Nat:=ofL ((D.drop k).take i)
theorem uF(D:List UInt8)(k:Nat):aQ D k 0=0:=rfl
theorem pj{D:List UInt8}{k i:Nat}(h:k+i<D.length):aQ D k (i+1)=aQ D k i*256+(D.getD (k+i) 0).toNat:=by
 unfold aQ;rw[List.take_add_one,List.getElem?_drop,List.getElem?_eq_getElem h,List.getD_eq_getElem?_getD,List.getElem?_eq_getElem h];unfold ofL;rw[List.foldl_append];simp only[Option.toList_some,List.foldl_cons,List.foldl_nil,Option.getD_some];omega
theorem Ed:∀(l:List UInt8) (a:Nat),l.foldl (fun n b=>256*n+b.toNat) a<(a+1)*256^l.length
 |[],a=>by simp
 |b::l,a=>by
  have h:=Ed l (256*a+b.toNat);have hb:=b.toNat_lt;rw[List.foldl_cons,List.length_cons,Nat.pow_succ];refine Nat.lt_of_lt_of_le h ?_;rw[Nat.mul_comm (256^l.length) 256,←Nat.mul_assoc];exact Nat.mul_le_mul_right _ (by omega)
theorem MZ{D:List UInt8}{k i:Nat}(h:i≤3):aQ D k i<16777216:=by
 have h1:=Ed ((D.drop k).take i) 0;have h2:((D.drop k).take i).length≤3:=by rw[List.length_take];omega
 have h3:256^((D.drop k).take i).length≤256^3:=Nat.pow_le_pow_right (by decide) h2;unfold aQ ofL;omega
theorem But.over{w v v':World}{b:Nat}(h:But [] w v)(k:But [b] v v')(hb:w.heap.size≤b):But [] w v':=
 ⟨k.os.trans h.os,k.tape.trans h.tape,k.output.trans h.output,Nat.le_trans h.size k.size,fun i hi _=>(k.block i (Nat.lt_of_lt_of_le hi h.size) (by simp;omega)).trans (h.block i hi (by simp))⟩
attribute [local irreducible] strL aQ
theorem Kc(w:World){D:List UInt8}{bs ba k n:Nat}(hD:Is w bs 9 #[strL D])(hA:Is w ba 3 #[k])(hne:bs≠ba)(hl:D.length=13)(hk:k+n≤13)(hn:n≤4):
 Calls prog 85 #[n,.pointer bs,.pointer ba] w fun e w'=>e=.returned (.int .i64 (aQ D k n:Nat))∧Is w' ba 3 #[((k+n:Nat):Int)]∧But [ba] w w':=by
 obtain⟨r,hr⟩:=E1 (aQ D k n);have HR:=qhz hr;rw[←hr];obtain⟨q,hq⟩:=E1 (k+n);have HQ:=qhz hq;rw[←hq];have HX:=qhz fun p (hp:p<D.length)=>(Mn (D:=D) (k:=p) hp)
 obtain⟨S,hS⟩:=E1 (strL D);rw[←hS]at hD HX;have HD:=qhz hD;have HA:=qhz hA;have HL:=qhz hl;have HK:=qhz hk;clear hr hq hS hD hA hl hk
 go_enter func85,ntmps85
 go_wp2
 go_loopw [5,7] (fun nv iv wr=>∃i p m:Nat,i≤n∧nv=.int .i64 (m:Int)∧iv=.int .i64 (i:Int)∧Hid (m=aQ D k i)∧Hid (p=k+i)∧Hid (Is wr bs 9 #[S])∧Hid (Is wr ba 3 #[p])∧Hid (But [ba] w wr)) (fun _ iv _=>n-(intOf iv).toNat)
 case atStart=>exact⟨0,k,0,Nat.zero_le _,rfl,rfl,qhz (uF D k).symm,qhz rfl,HD,HA,qhz (But.refl _ _)⟩
 case round=>
  obtain⟨i,p,m,hi,rfl,rfl,HM,HP,HDr,HAr,HB⟩:=hrel
  by_cases hlt:i<n
  ·have hp:p<13:=by have:=HK.out;have:=HP.out;omega
   have kx:=HX.out p (by rw[HL.out];exact hp);obtain⟨x,hx⟩:=E1 ((D.getD p 0).toNat);have hx8:x<256:=by rw[hx];exact UInt8.toNat_lt _
   simp only[←hx]at kx;have hm:m<16777216:=by rw[HM.out];exact MZ (by omega)
   obtain⟨z,hz⟩:=E1 (m*256+x);have ho:Go.bits .or .i64 ((m:Int)*256) (x:Int)=(z:Int):=by
    rw[show(m:Int)*256=((m*256:Nat):Int)by omega,Ec (m*256) x 8 (by decide) (by omega) (by omega) (by omega),hz]
   have HZ:=qhz (show z=aQ D k (i+1)by rw[pj (by rw[HL.out,←HP.out];exact hp),←HM.out,←HP.out,←hx,hz]);clear hx hz;have c0:=HDr.out.cell 0;have c1:=HAr.out.cell 0;have f1:=HAr.out.free 0;go_wp2
   go_roundw
   case rel=>exact⟨i+1,p+1,z,by omega,by go_num,by go_num,HZ,qhz (by rw[HP.out];omega),qhz (HDr.out.far (p:=⟨ba,0,none⟩) hne _),qhz (HAr.out.put 0 _),qhz (HB.out.setCell (p:=⟨ba,0,none⟩) (.inl (by simp)) _)⟩
   case measure=>simp[intOf];omega
  ·obtain rfl:i=n:=by omega
   have HE:=qhz (show(m:Int)=(r:Int)by rw[HM.out,HR.out]);have HI:=qhz (show Is wr ba 3 #[q]by rw[HQ.out,←HP.out];exact HAr.out);go_wp2;go_ret;exact⟨by rw[←HE.out];rfl,HI.out,HB.out⟩
def fF(D:List UInt8):List Int×Int:=if D.length≠13∨D.getD 10 0≠0∨D.getD 11 0≠0 then([0,0,0,0,0],24)else(dt D,iI (dt D))
theorem Gz(D:List UInt8)(l:List Ck):eR ((fp,D)::l)=if(fF D).2≠0 then([],hs0,(fF D).2)else if(runH ((fF D).1.getD 2 0) ((fF D).1.getD 3 0) l hs0).2=0 then((fF D).1,runH ((fF D).1.getD 2 0) ((fF D).1.getD 3 0) l hs0)else([],hs0,(runH ((fF D).1.getD 2 0) ((fF D).1.getD 3 0) l hs0).2):=by
 unfold fF
 by_cases h:D.length≠13∨D.getD 10 0≠0∨D.getD 11 0≠0
 ·rw[JN h,if_pos h,if_pos (by decide)]
 ·rw[if_neg h]
  by_cases hr:iI (dt D)=0
  ·rw[Nx h hr];dsimp only;rw[if_neg (show ¬iI (dt D)≠0 from fun hx=>hx hr)]
  ·rw[FF h hr,if_pos hr]
def RU(n:List Int):Value:=.agg #[.int .i64 (n.getD 0 0),.int .i64 (n.getD 1 0),.int .i64 (n.getD 2 0),.int .i64 (n.getD 3 0),.int .i64 (n.getD 4 0)]
def Pn(w:World)(r:List Int×Int)(e:Ending)(w':World):Prop:=e=.returned (.tuple #[RU r.1,r.2])∧But [] w w'
theorem xV{w W:World}{g2:Nat}{tmps:Array Value}{a b d c l er:Int}{r:List Int×Int}(hI:Is W g2 33 #[a,b,d,c,l])(hB:But [] w W)
 (h2:tmps[2]? =some (.pointer g2)) (h3:tmps[3]? =some (.int .i64 er)) (hr:r=([a,b,d,c,l],er)):
 bodyPost prog Tryz.f48 (Pn w r) Exit.ret {tmps:=tmps,defers:=[]} W:=by
 obtain⟨e0,e1,e2,e3,e4,_⟩:=hI.c5;refine bodyPost_ret (v:=.tuple #[.agg #[a,b,d,c,l],er]) ?_ rfl ?_
 ·simp[results,results48,go_sem,e0,e1,e2,e3,e4,h2,h3]
 ·rw[hr];exact⟨rfl,hB⟩
def HoS(w:World)(bs g2 ba:Nat)(S:ByteArray)(p:Int)(v:World):Prop:=Is v bs 9 #[S]∧Is v g2 33 #[(0:Int),(0:Int),(0:Int),(0:Int),(0:Int)]∧Is v ba 3 #[p]∧But [] w v
theorem HoS.next{w v v':World}{bs g2 ba:Nat}{S:ByteArray}{p q:Int}(h:HoS w bs g2 ba S p v)(h1:Is v' ba 3 #[q])(h2:But [ba] v v')(n1:bs≠ba)(n2:g2≠ba)(hb:w.heap.size≤ba):HoS w bs g2 ba S q v':=
 ⟨h.1.but h2 (by simpa using n1),h.2.1.but h2 (by simpa using n2),h1,h.2.2.2.over h2 hb⟩
def HoE(w:World)(g g2:Nat)(a b d c l:Int)(v:World):Prop:=Is v g 33 #[a,b,d,c,l]∧Is v g2 33 #[(0:Int),(0:Int),(0:Int),(0:Int),(0:Int)]∧But [] w v
theorem HoE.but{w v v':World}{g g2:Nat}{a b d c l:Int}(h:HoE w g g2 a b d c l v)(k:But [] v v'):HoE w g g2 a b d c l v':=⟨h.1.but k (by simp),h.2.1.but k (by simp),h.2.2.trans k⟩
theorem nF{D:List UInt8}{k:Nat}(h:k<D.length):aQ D k 1=(D.getD k 0).toNat:=by
 rw[pj (by omega),uF];simp
theorem Iq{D:List UInt8}{k:Nat}(h:k+1<D.length):aQ D k 2=(D.getD k 0).toNat*256+(D.getD (k+1) 0).toNat:=by
 rw[pj (by omega),nF (by omega)]
theorem B1(w:World){D:List UInt8}(hs:D.length≤1000000000):
 Calls prog 48 #[strL D] w (Pn w (fF D)):=by
 obtain⟨z,hz⟩:=E1 D.length;have hsz:(strL D).size=z:=by rw[ac,hz]
 obtain⟨S,hS⟩:=E1 (strL D);obtain⟨r,hr⟩:=E1 (fF D);rw[←hr,←hS];rw[←hS]at hsz;have HR:=qhz hr;have i0:=Is.fresh w 9 #[S];have i1:=Is.fresh (w.alloc (.cells #[S] 9)) 33 #[(0:Int),(0:Int),(0:Int),(0:Int),(0:Int)];rw[show(w.alloc (.cells #[S] 9)).heap.size=w.heap.size+1 by simp]at i1
 by_cases h13:z=13
 rotate_left
 ·have d13:((z:Int) !=13)=true:=by simp;omega
  have HE:=qhz (show r=([0,0,0,0,0],24)by rw[hr];unfold fF;rw[if_pos (Or.inl (by omega))]);have HI0:=qhz (i0.alloc (.cells #[(0:Int),(0:Int),(0:Int),(0:Int),(0:Int)] 33));have HI1:=qhz i1;have HB:=qhz (((But.refl [] w).alloc (.cells #[S] 9)).alloc (.cells #[(0:Int),(0:Int),(0:Int),(0:Int),(0:Int)] 33));clear h13 hr hS hz i0 i1 hs;have c0:=HI0.out.cell 0;obtain⟨f0,f1,f2,f3,f4⟩:=HI1.out.f5;obtain⟨e0,e1,e2,e3,e4,_⟩:=HI1.out.c5
  go_enter func48,ntmps48
  go_wp2;exact xV (g2:=w.heap.size+1) (W:=_) HI1.out HB.out rfl rfl HE.out
 ·subst h13;have hl:D.length=13:=hz.symm;have d13:(((13:Nat):Int) !=13)=false:=rfl;have i2:=Is.fresh ((w.alloc (.cells #[S] 9)).alloc (.cells #[(0:Int),(0:Int),(0:Int),(0:Int),(0:Int)] 33)) 3 #[(0:Int)];rw[show((w.alloc (.cells #[S] 9)).alloc (.cells #[(0:Int),(0:Int),(0:Int),(0:Int),(0:Int)] 33)).heap.size=w.heap.size+1+1 by simp]at i2;have h0:HoS w w.heap.size (w.heap.size+1) (w.heap.size+1+1) S 0 (((w.alloc (.cells #[S] 9)).alloc (.cells #[(0:Int),(0:Int),(0:Int),(0:Int),(0:Int)] 33)).alloc (.cells #[(0:Int)] 3)):=
   ⟨(i0.alloc _).alloc _,i1.alloc _,i2,(((But.refl [] w).alloc _).alloc _).alloc _⟩
  have H0:=qhz h0;have c0:=((i0.alloc (.cells #[(0:Int),(0:Int),(0:Int),(0:Int),(0:Int)] 33))).cell 0;have HN:Hid (∀(W:World) (bs g2 ba k n:Nat),HoS w bs g2 ba S (k:Int) W→bs≠ba→g2≠ba→w.heap.size≤ba→k+n≤13→n≤4→
   Calls prog 85 #[.int .i64 (n:Int),.pointer (some ⟨bs,0,none⟩),.pointer (some ⟨ba,0,none⟩)] W fun e w'=>e=.returned (.int .i64 (aQ D k n:Nat))∧HoS w bs g2 ba S ((k+n:Nat):Int) w'∧But [ba] W w'):=
   qhz fun W bs g2 ba k n h n1 n2 hb hk hn=>(Kc W (D:=D) (by rw[←hS];exact h.1) h.2.2.1 n1 hl hk hn).mono fun e w' ⟨h1,h2,h3⟩=>⟨h1,h.next h2 h3 n1 n2 hb,h3⟩
  have HL:=qhz hl;have HRR:=qhz hr;clear hz hs i0 i1 i2 h0 hl hr hS
  go_enter func48,ntmps48
  go_wp2_with fail
  refine(HN.out _ w.heap.size (w.heap.size+1) (w.heap.size+1+1) 0 4 H0.out (by omega) (by omega) (by omega) (by omega) (by omega)).mono ?_;rintro e w1 ⟨rfl,h1,-⟩;have H1:=qhz h1;clear h1 H0
  go_wp2_with fail
  refine(HN.out _ w.heap.size (w.heap.size+1) (w.heap.size+1+1) (0+4) 4 H1.out (by omega) (by omega) (by omega) (by omega) (by omega)).mono ?_;rintro e w2 ⟨rfl,h2,-⟩;have H2:=qhz h2;clear h2 H1
  go_wp2_with fail
  refine(HN.out _ w.heap.size (w.heap.size+1) (w.heap.size+1+1) (0+4+4) 1 H2.out (by omega) (by omega) (by omega) (by omega) (by omega)).mono ?_;rintro e w3 ⟨rfl,h3,-⟩;have H3:=qhz h3;clear h3 H2
  go_wp2_with fail
  refine(HN.out _ w.heap.size (w.heap.size+1) (w.heap.size+1+1) (0+4+4+1) 1 H3.out (by omega) (by omega) (by omega) (by omega) (by omega)).mono ?_;rintro e w4 ⟨rfl,h4,-⟩;have i5:=Is.fresh w4 33 #[(aQ D 0 4:Nat),(aQ D (0+4) 4:Nat),(aQ D (0+4+4) 1:Nat),(aQ D (0+4+4+1) 1:Nat),(0:Int)];have b5:But [] w4 (w4.alloc (.cells #[(aQ D 0 4:Nat),(aQ D (0+4) 4:Nat),(aQ D (0+4+4) 1:Nat),(aQ D (0+4+4+1) 1:Nat),(0:Int)] 33)):=(But.refl [] w4).alloc _;have h5:HoS w w.heap.size (w.heap.size+1) (w.heap.size+1+1) S ((0+4+4+1+1:Nat):Int) (w4.alloc (.cells #[(aQ D 0 4:Nat),(aQ D (0+4) 4:Nat),(aQ D (0+4+4) 1:Nat),(aQ D (0+4+4+1) 1:Nat),(0:Int)] 33)):=⟨h4.1.but b5 (by simp),h4.2.1.but b5 (by simp),h4.2.2.1.but b5 (by simp),h4.2.2.2.trans b5⟩
  have H5:=qhz h5;have I5:=qhz i5;have hlt5:w.heap.size+1+1<w4.heap.size:=h4.2.2.1.lt;clear h4 h5 i5 b5 H3
  go_wp2_with fail
  refine(HN.out _ w.heap.size (w.heap.size+1) (w.heap.size+1+1) (0+4+4+1+1) 2 H5.out (by omega) (by omega) (by omega) (by omega) (by omega)).mono ?_;rintro e w6 ⟨rfl,h6,b6⟩;have I6:=I5.out.but b6 (by simp;omega);clear b6;obtain⟨e0,e1,e2,e3,e4,_⟩:=I6.c5;have g4:=I6.free 4;obtain⟨i0,i1,i2,i3,i4,_⟩:=h6.2.1.c5;obtain⟨f0,f1,f2,f3,f4⟩:=h6.2.1.f5;have H6:=qhz h6;have HI6:=qhz I6;clear h6 I6 H5 I5;have hv:aQ D (0+4+4+1+1) 2=(D.getD 10 0).toNat*256+(D.getD 11 0).toNat:=Iq (by rw[HL.out];omega);have HV:=qhz hv;clear hv
  by_cases hz:D.getD 10 0=0∧D.getD 11 0=0
  rotate_left
  ·have dz:(((aQ D 10 2:Nat):Int) !=0)=true:=by
    have h1:(D.getD 10 0).toNat≠0∨(D.getD 11 0).toNat≠0:=by
     by_cases h:D.getD 10 0=0
     ·exact .inr fun h2=>hz ⟨h,UInt8.toNat_inj.1 (by rw[h2];rfl)⟩
     ·exact .inl fun h2=>h (UInt8.toNat_inj.1 (by rw[h2];rfl))
    have h2:aQ D 10 2≠0:=by
     have e:aQ D 10 2=_:=HV.out;rw[e];omega
    simp;omega
   have HE:=qhz (show r=([0,0,0,0,0],24) by
    rw[HRR.out];unfold fF
    rw[if_pos (by
     by_cases h:D.getD 10 0=0
     ·exact .inr (.inr fun h2=>hz ⟨h,h2⟩)
     ·exact .inr (.inl h))])
   clear hz
   go_wp2_with fail
   exact xV (g2:=w.heap.size+1) (W:=_) (((((H6.out.2.1.put 0 (.int .i64 0)).put 1 (.int .i64 0)).put 2 (.int .i64 0)).put 3 (.int .i64 0)).put 4 (.int .i64 0)) (((((H6.out.2.2.2.setCell (p:=⟨w.heap.size+1,0,none⟩) (.inr (by dsimp only;omega)) _).setCell (p:=⟨w.heap.size+1,1,none⟩) (.inr (by dsimp only;omega)) _).setCell (p:=⟨w.heap.size+1,2,none⟩) (.inr (by dsimp only;omega)) _).setCell (p:=⟨w.heap.size+1,3,none⟩) (.inr (by dsimp only;omega)) _).setCell (p:=⟨w.heap.size+1,4,none⟩) (.inr (by dsimp only;omega)) _) rfl rfl HE.out
  ·have dz:(((aQ D 10 2:Nat):Int) !=0)=false:=by
    have e:aQ D 10 2=_:=HV.out;rw[e,hz.1,hz.2];rfl
   have HZ:=qhz hz;clear hz
   go_wp2_with fail
   refine(HN.out _ w.heap.size (w.heap.size+1) (w.heap.size+1+1) (0+4+4+1+1+2) 1 H6.out (by omega) (by omega) (by omega) (by omega) (by omega)).mono ?_;rintro e w7 ⟨rfl,h7,b7⟩;have I7:=HI6.out.but b7 (by simp;omega);have t4:=I7.cell 4;have u4:=I7.free 4;have hne7:w.heap.size+1≠w4.heap.size:=by omega
   have I8:=I7.put 4 (.int .i64 (aQ D 12 1:Nat));have h8:=h7.2.1.far (p:=⟨w4.heap.size,4,none⟩) hne7 (.int .i64 (aQ D 12 1:Nat));have B8:=h7.2.2.2.setCell (p:=⟨w4.heap.size,4,none⟩) (.inr (by dsimp only;omega)) (.int .i64 (aQ D 12 1:Nat));have H7:=qhz h7;have HI8:=qhz I8;have H8:=qhz h8;have HB8:=qhz B8;clear h7 b7 I7 I8 h8 B8 e0 e1 e2 e3 e4 g4 i0 i1 i2 i3 i4 f0 f1 f2 f3 f4
   go_upto_region 9 with(fail)
   have HRES:=qhz (show r=([((aQ D 0 4:Nat):Int),((aQ D 4 4:Nat):Int),((aQ D 8 1:Nat):Int),((aQ D 9 1:Nat):Int),((aQ D 12 1:Nat):Int)],ak (aQ D 0 4:Nat) (aQ D 4 4:Nat) (aQ D 8 1:Nat) (aQ D 9 1:Nat) (aQ D 12 1:Nat)) by
    have hl:=HL.out;have hn:dt D=[((aQ D 0 4:Nat):Int),((aQ D 4 4:Nat):Int),((aQ D 8 1:Nat):Int),((aQ D 9 1:Nat):Int),((aQ D 12 1:Nat):Int)]:=by
     rw[nF (k:=8) (by omega),nF (k:=9) (by omega),nF (k:=12) (by omega)];unfold aQ dt;rw[List.drop_zero]
    rw[HRR.out];unfold fF;rw[if_neg (by rintro(h|h|h);exact h hl;exact h HZ.out.1;exact h HZ.out.2),hn];rfl)
   have I8:Is (w7.setCell ⟨w4.heap.size,4,none⟩ (.int .i64 (aQ D 12 1:Nat))) w4.heap.size 33 #[(aQ D 0 4:Nat),(aQ D 4 4:Nat),(aQ D 8 1:Nat),(aQ D 9 1:Nat),(aQ D 12 1:Nat)]:=HI8.out;have h8:HoE w w4.heap.size (w.heap.size+1) (aQ D 0 4:Nat) (aQ D 4 4:Nat) (aQ D 8 1:Nat) (aQ D 9 1:Nat) (aQ D 12 1:Nat) (w7.setCell ⟨w4.heap.size,4,none⟩ (.int .i64 (aQ D 12 1:Nat))):=⟨I8,H8.out,HB8.out⟩
   have hgg:w.heap.size≤w.heap.size+1:=by omega
   clear I8 HI8 H8 HB8 H7 t4 u4 hne7 HI6 H6 HZ dz HV HN HL HRR c0 hlt5;obtain⟨w8,hw8⟩:=E1 (w7.setCell ⟨w4.heap.size,4,none⟩ (.int .i64 (aQ D 12 1:Nat)));rw[←hw8]at h8⊢;obtain⟨g,hg⟩:=E1 w4.heap.size;rw[←hg]at h8⊢;obtain⟨g2,hg2⟩:=E1 (w.heap.size+1);rw[←hg2]at h8 hgg⊢;obtain⟨a,ha⟩:=E1 ((aQ D 0 4:Nat):Int);obtain⟨b,hb⟩:=E1 ((aQ D 4 4:Nat):Int);obtain⟨d,hd⟩:=E1 ((aQ D 8 1:Nat):Int);obtain⟨c,hc⟩:=E1 ((aQ D 9 1:Nat):Int);obtain⟨l,hl⟩:=E1 ((aQ D 12 1:Nat):Int);rw[←ha,←hb,←hc,←hd,←hl]at h8 HRES;clear hw8 hg hg2 ha hb hd hc hl;have hS:=h8;obtain⟨c0,c1,c2,c3,c4,_⟩:=hS.1.c5;obtain⟨e0,e1,e2,e3,e4,_⟩:=hS.2.1.c5;obtain⟨f0,f1,f2,f3,f4⟩:=hS.2.1.f5
   go_region_with (go_at_call 86;refine(oq _ _ _ _ _ _).mono ?_;rintro e wk ⟨rfl,hB⟩;(first|have hS:=HoE.but hS hB|have hS:=HoE.but hS ((But.refl [] _).drew.trans hB));have c0:=hS.1.cell 0;have c1:=hS.1.cell 1;have c2:=hS.1.cell 2;have c3:=hS.1.cell 3;have c4:=hS.1.cell 4;have e0:=hS.2.1.cell 0;have e1:=hS.2.1.cell 1;have e2:=hS.2.1.cell 2;have e3:=hS.2.1.cell 3;have e4:=hS.2.1.cell 4;have f0:=hS.2.1.free 0;have f1:=hS.2.1.free 1;have f2:=hS.2.1.free 2;have f3:=hS.2.1.free 3;have f4:=hS.2.1.free 4;clear hB)
   all_goals
    go_wp2;exact xV (g2:=g2) (W:=_) (((((hS.2.1.put 0 (.int .i64 a)).put 1 (.int .i64 b)).put 2 (.int .i64 d)).put 3 (.int .i64 c)).put 4 (.int .i64 l)) (((((hS.2.2.setCell (p:=⟨g2,0,none⟩) (.inr hgg) _).setCell (p:=⟨g2,1,none⟩) (.inr hgg) _).setCell (p:=⟨g2,2,none⟩) (.inr hgg) _).setCell (p:=⟨g2,3,none⟩) (.inr hgg) _).setCell (p:=⟨g2,4,none⟩) (.inr hgg) _) rfl rfl HRES.out
end
section
attribute [local irreducible] strL
theorem sa(P:List UInt8):((strL P).toList=[]↔P=[]):=by rw[ByteArray.toList_eq,aj]
theorem vf(w:World){b:Nat}{c:Int}{P:List UInt8}(h3:w.cell? ⟨b,3,none⟩=some (.int .i64 c))(h5:w.cell? ⟨b,5,none⟩=some (.string (strL P))):
 Calls prog 172 #[.pointer b] w fun e w'=>e=.returned (.bool (decide (c=3∧P=[])))∧w=w':=by
 obtain⟨r,hr⟩:=E1 (decide (c=3∧P=[]));rw[←hr];have he:=sa P;obtain⟨S,hS⟩:=E1 (strL P);rw[←hS]at h5 he
 by_cases hc:c=3
 ·have p3:(c=3)=True:=by simp[hc]
  have q3:(c==3)=true:=by simp[hc]
  by_cases hp:P=[]
  ·have HR:=qhz (show r=true by rw[hr];exact decide_eq_true ⟨hc,hp⟩);have e1:S.toList=[]:=he.2 hp;have e2:(S.toList==[])=true:=by rw[e1];rfl
   have e3:S.toList.isEmpty=true:=by rw[e1];rfl
   clear hr he hS hc hp
   go_enter func172,ntmps172
   go_wp2;go_ret;exact⟨by rw[HR.out];rfl,rfl⟩
  ·have HR:=qhz (show r=false by rw[hr];exact decide_eq_false fun h=>hp h.2);have e1:¬S.toList=[]:=fun e=>hp (he.1 e);have e2:(S.toList==[])=false:=by simpa using e1
   have e3:S.toList.isEmpty=false:=by simpa using e1
   clear hr he hS hc hp
   go_enter func172,ntmps172
   go_wp2;go_ret;exact⟨by rw[HR.out];rfl,rfl⟩
 ·have HR:=qhz (show r=false by rw[hr];exact decide_eq_false fun h=>hc h.1);have p3:(c=3)=False:=by simp[hc]
  have q3:(c==3)=false:=by simp[hc]
  clear hr he hS hc
  go_enter func172,ntmps172
  go_wp2;go_ret;exact⟨by rw[HR.out];rfl,rfl⟩
def sS(d c:Int)(m:Nat):Prop:=c=0∨c=4∨m%3≠0∨m<3∨768<m∨c=3∧3*2^d.toNat<m
instance (d c:Int)(m:Nat):Decidable (sS d c m):=by unfold sS;infer_instance
theorem NG(w:World){a b d c l:Int}{m:Nat}(hd:c=3→d=1∨d=2∨d=4∨d=8)(hm:m≤140737488351232):
 Calls prog 171 #[.agg #[a,b,d,c,l],m] w (R1z (.bool (decide (¬sS d c m))) w):=by
 obtain⟨r,hr⟩:=E1 (decide (¬sS d c m));rw[←hr];have hI:=Is.fresh w 33 #[a,b,d,c,l];have HB:=qhz ((But.refl [] w).alloc (.cells #[a,b,d,c,l] 33));have c2:=hI.cell 2;have c3:=hI.cell 3;have P:∀x y:Int,((x=y)=True∧(x==y)=true)∨((x=y)=False∧(x==y)=false):=fun x y=>by by_cases h:x=y<;>simp[h]
 have PP:=qhz P;have HR:=qhz hr;have HD:=qhz hd;clear hI P hr hd;rcases PP.out c 0 with⟨p0,r0⟩|⟨p0,r0⟩
 ·have HE:=qhz (show r=false by rw[HR.out];exact decide_eq_false fun h=>h (.inl (of_eq_true p0)))
  go_enter func171,ntmps171
  go_wp2;go_ret;exact⟨by rw[HE.out];rfl,HB.out⟩
 rcases PP.out c 4 with⟨p4,r4⟩|⟨p4,r4⟩
 ·have HE:=qhz (show r=false by rw[HR.out];exact decide_eq_false fun h=>h (.inr (.inl (of_eq_true p4))))
  go_enter func171,ntmps171
  go_wp2;go_ret;exact⟨by rw[HE.out];rfl,HB.out⟩
 have t0:(((m:Int).tmod 3)=((m%3:Nat):Int)):=by rw[Int.tmod_eq_emod_of_nonneg (by omega)];omega
 by_cases h3:m%3=0
 rotate_left
 ·have HE:=qhz (show r=false by rw[HR.out];exact decide_eq_false fun h=>h (.inr (.inr (.inl h3))));have u0:((m:Int)%3=0)=False:=by simp;omega
  have u1:(((m:Int)%3)==0)=false:=by simp;omega
  have u2:(((m:Int).tmod 3)=0)=False:=by rw[t0];simp;omega
  have u3:(((m:Int).tmod 3)==0)=false:=by rw[t0];simp;omega
  have HH:=qhz h3;clear h3 t0;rcases PP.out c 3 with⟨p3,r3⟩|⟨p3,r3⟩
  ·rcases HD.out (of_eq_true p3)with rfl|rfl|rfl|rfl
   all_goals
    go_enter func171,ntmps171
    go_wp2;go_ret;exact⟨by rw[HE.out];rfl,HB.out⟩
  ·go_enter func171,ntmps171
   go_wp2;go_ret;exact⟨by rw[HE.out];rfl,HB.out⟩
 have u0:((m:Int)%3=0)=True:=by simp;omega
 have u1:(((m:Int)%3)==0)=true:=by simp;omega
 have u2:(((m:Int).tmod 3)=0)=True:=by rw[t0];simp;omega
 have u3:(((m:Int).tmod 3)==0)=true:=by rw[t0];simp;omega
 have HH:=qhz h3;clear h3 t0
 by_cases hs:m<3
 ·have HE:=qhz (show r=false by rw[HR.out];exact decide_eq_false fun h=>h (.inr (.inr (.inr (.inl hs)))));have v1:decide ((3:Int)≤(m:Int))=false:=by simp;omega
  have v2:decide (3≤m)=false:=by simp;omega
  have HS:=qhz hs;clear hs;rcases PP.out c 3 with⟨p3,r3⟩|⟨p3,r3⟩
  ·rcases HD.out (of_eq_true p3)with rfl|rfl|rfl|rfl
   all_goals
    go_enter func171,ntmps171
    go_wp2;go_ret;exact⟨by rw[HE.out];rfl,HB.out⟩
  ·go_enter func171,ntmps171
   go_wp2;go_ret;exact⟨by rw[HE.out];rfl,HB.out⟩
 have v1:decide ((3:Int)≤(m:Int))=true:=by simp;omega
 have v2:decide (3≤m)=true:=by simp;omega
 have HS:=qhz hs;clear hs;rcases PP.out c 3 with⟨p3,r3⟩|⟨p3,r3⟩
 ·have HP3:=qhz p3;have step:∀k:Nat,(3*2^d.toNat=k)→k≤768→r=decide (m≤k):=fun k hk hk2=>by
   rw[HR.out];have h3:=HH.out;have hs:=HS.out;have e3:=of_eq_true HP3.out;have e0:=of_eq_false p0;have e4:=of_eq_false p4;refine decide_eq_decide.mpr ⟨fun h=>Nat.le_of_not_lt fun hlt=>h (.inr (.inr (.inr (.inr (.inr ⟨e3,by rw[hk];exact hlt⟩))))),fun h hb=>?_⟩;rcases hb with h|h|h|h|h|h
   ·exact e0 h
   ·exact e4 h
   ·exact h h3
   ·exact hs h
   ·omega
   ·have:=h.2;rw[hk]at this;omega
  have ST:=qhz step;clear step;rcases HD.out (of_eq_true p3)with rfl|rfl|rfl|rfl
  ·have HE:=qhz (ST.out 6 rfl (by decide))
   by_cases hle:m≤6
   ·have HF:=qhz (show r=true by rw[HE.out];exact decide_eq_true hle);have dk:decide ((m:Int)≤6)=true:=by simp;omega
    have dj:decide (m≤6)=true:=by simp;omega
    go_enter func171,ntmps171
    go_wp2;go_ret;exact⟨by rw[HF.out];rfl,HB.out⟩
   ·have HF:=qhz (show r=false by rw[HE.out];exact decide_eq_false hle);have dk:decide ((m:Int)≤6)=false:=by simp;omega
    have dj:decide (m≤6)=false:=by simp;omega
    go_enter func171,ntmps171
    go_wp2;go_ret;exact⟨by rw[HF.out];rfl,HB.out⟩
  ·have HE:=qhz (ST.out 12 rfl (by decide))
   by_cases hle:m≤12
   ·have HF:=qhz (show r=true by rw[HE.out];exact decide_eq_true hle);have dk:decide ((m:Int)≤12)=true:=by simp;omega
    have dj:decide (m≤12)=true:=by simp;omega
    go_enter func171,ntmps171
    go_wp2;go_ret;exact⟨by rw[HF.out];rfl,HB.out⟩
   ·have HF:=qhz (show r=false by rw[HE.out];exact decide_eq_false hle);have dk:decide ((m:Int)≤12)=false:=by simp;omega
    have dj:decide (m≤12)=false:=by simp;omega
    go_enter func171,ntmps171
    go_wp2;go_ret;exact⟨by rw[HF.out];rfl,HB.out⟩
  ·have HE:=qhz (ST.out 48 rfl (by decide))
   by_cases hle:m≤48
   ·have HF:=qhz (show r=true by rw[HE.out];exact decide_eq_true hle);have dk:decide ((m:Int)≤48)=true:=by simp;omega
    have dj:decide (m≤48)=true:=by simp;omega
    go_enter func171,ntmps171
    go_wp2;go_ret;exact⟨by rw[HF.out];rfl,HB.out⟩
   ·have HF:=qhz (show r=false by rw[HE.out];exact decide_eq_false hle);have dk:decide ((m:Int)≤48)=false:=by simp;omega
    have dj:decide (m≤48)=false:=by simp;omega
    go_enter func171,ntmps171
    go_wp2;go_ret;exact⟨by rw[HF.out];rfl,HB.out⟩
  ·have HE:=qhz (ST.out 768 rfl (by decide))
   by_cases hle:m≤768
   ·have HF:=qhz (show r=true by rw[HE.out];exact decide_eq_true hle);have dk:decide ((m:Int)≤768)=true:=by simp;omega
    have dj:decide (m≤768)=true:=by simp;omega
    go_enter func171,ntmps171
    go_wp2;go_ret;exact⟨by rw[HF.out];rfl,HB.out⟩
   ·have HF:=qhz (show r=false by rw[HE.out];exact decide_eq_false hle);have dk:decide ((m:Int)≤768)=false:=by simp;omega
    have dj:decide (m≤768)=false:=by simp;omega
    go_enter func171,ntmps171
    go_wp2;go_ret;exact⟨by rw[HF.out];rfl,HB.out⟩
 ·have HE:=qhz (show r=decide (m≤768) by
   rw[HR.out];have h3:=HH.out;have hs:=HS.out;have e3:=of_eq_false p3;have e0:=of_eq_false p0;have e4:=of_eq_false p4;refine decide_eq_decide.mpr ⟨fun h=>Nat.le_of_not_lt fun hlt=>h (.inr (.inr (.inr (.inr (.inl hlt))))),fun h hb=>?_⟩;rcases hb with h|h|h|h|h|h
   ·exact e0 h
   ·exact e4 h
   ·exact h h3
   ·exact hs h
   ·omega
   ·exact e3 h.1)
  by_cases hle:m≤768
  ·have HF:=qhz (show r=true by rw[HE.out];exact decide_eq_true hle);have dk:decide ((m:Int)≤768)=true:=by simp;omega
   have dj:decide (m≤768)=true:=by simp;omega
   go_enter func171,ntmps171
   go_wp2;go_ret;exact⟨by rw[HF.out];rfl,HB.out⟩
  ·have HF:=qhz (show r=false by rw[HE.out];exact decide_eq_false hle);have dk:decide ((m:Int)≤768)=false:=by simp;omega
   have dj:decide (m≤768)=false:=by simp;omega
   go_enter func171,ntmps171
   go_wp2;go_ret;exact⟨by rw[HF.out];rfl,HB.out⟩
def mL(c:Int)(P:List UInt8)(m:Nat):Prop:=c=4∨c=6∨c=0∧m≠2∨c=2∧m≠6∨c=3∧P.length/3<m
instance (c:Int)(P:List UInt8)(m:Nat):Decidable (mL c P m):=by unfold mL;infer_instance
theorem Qp(w:World){a b d c l:Int}{P T:List UInt8}{tr:Bool}{m:Nat}(hc:c=0∨c=2∨c=3∨c=4∨c=6)(hm:m≤140737488351232)(hP:P.length≤768):
 Calls prog 173 #[.agg #[a,b,d,c,l,strL P,strL T,tr],m] w (R1z (.bool (decide (¬mL c P m))) w):=by
 obtain⟨r,hr⟩:=E1 (decide (¬mL c P m));rw[←hr];have hI:=Is.fresh w 35 #[a,b,d,c,l,strL P,strL T,tr];have hB:=(But.refl [] w).alloc (.cells #[a,b,d,c,l,strL P,strL T,tr] 35);have hsz:(strL P).size=P.length:=ac P;obtain⟨z,hz⟩:=E1 P.length;have HZ:=qhz hz;rw[←hz]at hsz hP;obtain⟨S,hS⟩:=E1 (strL P);obtain⟨U,hU⟩:=E1 (strL T);rw[←hS,←hU]at hI hB;rw[←hS]at hsz;rw[←hS,←hU];have HB:=qhz hB;have c3:=hI.cell 3;have c5:=hI.cell 5;have HR:=qhz hr;clear hI hr hz hS hU hB;rcases hc with rfl|rfl|rfl|rfl|rfl
 ·by_cases h:m=2
  ·have HE:=qhz (show r=true by rw[HR.out];exact decide_eq_true (by unfold mL;omega));have dk:decide ((m:Int)=2)=true:=by simp;omega
   have dj:((m:Int)==2)=true:=by simp;omega
   have HH:=qhz h;clear h
   go_enter func173,ntmps173
   go_wp2;go_ret;exact⟨by rw[HE.out];rfl,HB.out⟩
  ·have HE:=qhz (show r=false by rw[HR.out];exact decide_eq_false (by unfold mL;omega));have dk:decide ((m:Int)=2)=false:=by simp;omega
   have dj:((m:Int)==2)=false:=by simp;omega
   have HH:=qhz h;clear h
   go_enter func173,ntmps173
   go_wp2;go_ret;exact⟨by rw[HE.out];rfl,HB.out⟩
 ·by_cases h:m=6
  ·have HE:=qhz (show r=true by rw[HR.out];exact decide_eq_true (by unfold mL;omega));have dk:decide ((m:Int)=6)=true:=by simp;omega
   have dj:((m:Int)==6)=true:=by simp;omega
   have HH:=qhz h;clear h
   go_enter func173,ntmps173
   go_wp2;go_ret;exact⟨by rw[HE.out];rfl,HB.out⟩
  ·have HE:=qhz (show r=false by rw[HR.out];exact decide_eq_false (by unfold mL;omega));have dk:decide ((m:Int)=6)=false:=by simp;omega
   have dj:((m:Int)==6)=false:=by simp;omega
   have HH:=qhz h;clear h
   go_enter func173,ntmps173
   go_wp2;go_ret;exact⟨by rw[HE.out];rfl,HB.out⟩
 ·have t0:(((z:Int).tdiv 3)=((z/3:Nat):Int)):=by rw[Int.tdiv_eq_ediv_of_nonneg (by omega)];omega
  have t1:((z:Int)/3)=((z/3:Nat):Int):=by omega
  obtain⟨q,hq⟩:=E1 (z/3);rw[←hq]at t0 t1;have hqb:q≤256:=by omega
  have HQ:=qhz hq;clear hq
  by_cases h:m≤q
  ·have HE:=qhz (show r=true by rw[HR.out];exact decide_eq_true (by unfold mL;have:=HQ.out;have:=HZ.out;omega));have dk:decide ((m:Int)≤(q:Int))=true:=by simp;omega
   have dj:decide (m≤q)=true:=by simp;omega
   have HH:=qhz h;clear h
   go_enter func173,ntmps173
   go_wp2;go_ret;exact⟨by rw[HE.out];rfl,HB.out⟩
  ·have HE:=qhz (show r=false by rw[HR.out];exact decide_eq_false (by unfold mL;have:=HQ.out;have:=HZ.out;omega));have dk:decide ((m:Int)≤(q:Int))=false:=by simp;omega
   have dj:decide (m≤q)=false:=by simp;omega
   have HH:=qhz h;clear h
   go_enter func173,ntmps173
   go_wp2;go_ret;exact⟨by rw[HE.out];rfl,HB.out⟩
 ·have HE:=qhz (show r=false by rw[HR.out];exact decide_eq_false (by unfold mL;omega))
  go_enter func173,ntmps173
  go_wp2;go_ret;exact⟨by rw[HE.out];rfl,HB.out⟩
 ·have HE:=qhz (show r=false by rw[HR.out];exact decide_eq_false (by unfold mL;omega))
  go_enter func173,ntmps173
  go_wp2;go_ret;exact⟨by rw[HE.out];rfl,HB.out⟩
end
end Go.Proofs.YtbanopnofpjnbaaGreatDoor
