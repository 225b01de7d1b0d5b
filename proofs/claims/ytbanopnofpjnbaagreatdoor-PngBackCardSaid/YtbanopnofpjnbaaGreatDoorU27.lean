/- Own texts in one: Mem, Stream, Reader, ReadB, ReadC. -/
import Derived.Test.YtbanopnofpjnbaaGreatDoorU26
set_option maxRecDepth 1000000
set_option linter.unusedVariables false
set_option maxHeartbeats 4000000
namespace Go.Proofs.YtbanopnofpjnbaaGreatDoor
open Go Go.RowKit Tryz
section
section
variable {w w' w'':World} {b:Nat} {t:TypeId} {cs:Array Value} {S T:List Nat}
theorem Is.below(h:Is w b t cs){B:Nat}(hw:Below B w w')(hb:b<B):Is w' b t cs:=(hw.block b hb).trans h
variable {A:Option Addr} {n:Nat} {l:List UInt8}
theorem ByteRow.but(h:ByteRow w A n l)(hw:But S w w')(hA:∀k∈S,Off A k):ByteRow w' A n l:=
 ⟨h.1,fun hn=>by
  obtain⟨g,o,e,hc⟩:=h.2 hn;exact⟨g,o,e,fun i hi=>hw.cell (hc i hi) (fun hS=>hA g hS _ e rfl)⟩⟩
theorem ByteRow.at(h:ByteRow w A n l){i:Nat}(hi:i<n):∃g o,A=some ⟨g,o,none⟩∧w.cell? ⟨g,o+i,none⟩=some (.int .u8 (l[i]'(by have:=h.1;omega)).toNat):=by
 obtain⟨g,o,e,hc⟩:=h.2 (by omega);exact⟨g,o,e,hc i (by have:=h.1;omega)⟩
theorem ByteRow.cut(h:ByteRow w A n l){k c:Nat}(hk:k≤n)(hc:n≤c):ByteRow w (if c=k then A else A.map (·.add k)) (n-k) (l.drop k):=by
 refine⟨by rw[List.length_drop,h.1],fun hn=>?_⟩;obtain⟨g,o,rfl,hcell⟩:=h.2 (by omega);rw[if_neg (by omega)];refine⟨g,o+k,by simp[Addr.add],fun i hi=>?_⟩;have hl:=h.1;rw[List.length_drop]at hi;have:=hcell (k+i) (by omega);rw[List.getElem_drop,Nat.add_assoc];exact this
end
end
theorem Ef(l:List UInt8)(k:Nat):num (l.take k)=num l%256^k:=by
 rcases Nat.lt_or_ge k l.length with h|h
 ·have e:=fZ (l.take k) (l.drop k);rw[List.take_append_drop,List.length_take,Nat.min_eq_left (by omega)]at e;have hlt:=vr (l.take k);rw[List.length_take,Nat.min_eq_left (by omega)]at hlt;rw[e,Nat.add_mul_mod_self_left,Nat.mod_eq_of_lt hlt]
 ·rw[List.take_of_length_le h];exact(Nat.mod_eq_of_lt (Nat.lt_of_lt_of_le (vr l) (Nat.pow_le_pow_right (by decide) h))).symm
theorem Cl(k x:Nat):num (gI k x)=x%256^k:=by
 induction k generalizing x with
 |zero=>simp[gI,num,Nat.mod_one]
 |succ k ih=>
  have h:(UInt8.ofNat x).toNat=x%256:=UInt8.toNat_ofNat';rw[gI,num,ih,h,Nat.pow_succ,Nat.mul_comm (256^k) 256,Nat.mod_mul (a:=256)]
theorem o6(x p n:Nat):bK x p n<2^n:=Nat.mod_lt _ (Nat.two_pow_pos n)
theorem nr(x p:Nat):bK x p 0=0:=by simp[bK,Nat.mod_one]
theorem jH(x p n m:Nat)(h:p+n≤m):bK (x%2^m) p n=bK x p n:=by
 unfold bK;have e:2^m=2^p*2^(m-p):=by rw[←Nat.pow_add];congr 1;omega
 rw[e,Nat.mod_mul_right_div_self];exact Nat.mod_mod_of_dvd _ (Nat.pow_dvd_pow 2 (by omega))
theorem Hy(x p n k:Nat):bK (x/2^k) p n=bK x (k+p) n:=by
 unfold bK;rw[Nat.div_div_eq_div_mul,←Nat.pow_add]
theorem Db(l:List UInt8)(p n k:Nat)(hk:p%8+n≤8*k):bK (num ((l.drop (p/8)).take k)) (p%8) n=bK (num l) p n:=by
 rw[Ef,xu,p256,p256,jH _ _ _ _ hk,Hy]
 congr 1;omega
theorem RS.but{w w':World}{b d p:Nat}{s:ByteArray}{S:List Nat}(h:RS w b d s p)(hw:But S w w')(hb:b∉S)(hd:d∉S):RS w' b d s p:=by
 obtain⟨h1,h2,A,n,c,hi,hn,hr,ha⟩:=h;exact⟨h1,h2,A,n,c,hi.but hw hb,hn,hr.but hw (fun k hk a e e'=>hd (by rw[←ha a e,e'];exact hk)),ha⟩
theorem JL(w:World)(s:ByteArray)(cap:Nat)(fz:Nat×Nat)(hc:s.size≤cap):
 RS (((w.alloc (.cells (bytesRow s cap) 5 fz)).alloc (.cells #[.slice w.heap.size s.size cap,(0:Int)] 207)).drew) (w.heap.size+1) w.heap.size s 0:=by
 refine⟨by omega,by omega,some ⟨w.heap.size,0,none⟩,s.size,cap,?_,hc,⟨Array.length_toList.trans rfl,fun _=>⟨w.heap.size,0,rfl,fun i hi=>?_⟩⟩,?_⟩
 ·have h:=Is.fresh (w.alloc (.cells (bytesRow s cap) 5 fz)) 207 #[.slice w.heap.size s.size cap,(0:Int)];have e:(w.alloc (.cells (bytesRow s cap) 5 fz)).heap.size=w.heap.size+1:=by simp
  rw[e]at h;exact h.drew
 ·have hi':i<s.data.size:=by simpa using hi
  have h1:(w.alloc (.cells (bytesRow s cap) 5 fz)).cell? ⟨w.heap.size,0+i,none⟩=some (.int .u8 (s.data[i].toNat:Int)):=by
   rw[World.cell?_alloc_mark,Nat.zero_add];exact bytesRow_at s cap i hi'
  show((w.alloc (.cells (bytesRow s cap) 5 fz)).alloc _).cell? _=_;rw[World.cell?_alloc_lt _ _ _ (by simp),h1];simp
 ·intro a e;simp at e;subst e;rfl
theorem Mu(s:ByteArray)(w:World):
 Calls prog 139 #[s] w fun e w'=>e=.returned (.pointer (some ⟨w.heap.size+1,0,none⟩))∧RS w' (w.heap.size+1) w.heap.size s 0∧But [] w w'∧w'.heap.size=w.heap.size+2:=by
 have hcv:=run_bytes_of_string (P:=prog) w 9 47 5 s underlying9 underlying47 underlying5
 go_enter func139,ntmps139
 go_wp2;go_ret;exact⟨rfl,JL w s _ _ (grownCap_ge w s.size 0 _),((((But.refl [] w).alloc _).alloc _).drew),by simp⟩
theorem RS.left_w{w:World}{b d p:Nat}{s:ByteArray}(h:RS w b d s p)(hs:s.size≤140737489403904):
 Calls prog 141 #[.pointer b] w fun e w'=>e=.returned (.int .i64 (8*s.size-p:Nat))∧∃n,w'=w.drewN n:=by
 obtain⟨hp,hd,A,n,c,hi,hn,hr,ha⟩:=h;have h0:w.cell? ⟨b,0,none⟩=some (.slice A n c):=hi.cell 0;have h1:w.cell? ⟨b,1,none⟩=some (.int .i64 (p%8:Nat)):=hi.cell 1;have hl:=hr.1;rw[List.length_drop,Array.length_toList]at hl;have hz:s.data.size=s.size:=rfl;rw[hz]at hl;have hlen:n≤140737489403904:=by omega
 have H:=qhz hl;clear hl hz hr ha hi hn
 go_enter func141,ntmps141
 go_wp2
 go_quiet (fail)
 go_wp2;go_ret;exact⟨sH (by have:=H.out;omega),nq,rfl⟩
theorem Mm(s:ByteArray)(i:Nat)(h:i<s.size):s[i]=s.data.toList[i]'(by simpa using h):=rfl
theorem Om(l:List UInt8)(j:Nat)(hj:j≤3)(h:j<l.length):
 Go.bits .or .i64 ((num (l.take j):Nat):Int) (wrap64 (wrap64 (l[j].toNat:Int)*2^(8*j)))=((num (l.take (j+1)):Nat):Int):=by
 have hlt:=l[j].toNat_lt;have hn:=vr (l.take j);rw[List.length_take,Nat.min_eq_left (by omega)]at hn;rw[List.take_succ_eq_append_getElem h,ri,List.length_take,Nat.min_eq_left (by omega),p256];rw[p256]at hn;generalize num (l.take j)=y at*;generalize l[j].toNat=z at*;have hp:2^(8*j)≤2^24:=Nat.pow_le_pow_right (by decide) (by omega);have ez:wrap64 ((z:Nat):Int)=((z:Nat):Int):=IntWalk.wrap64_in _ ⟨by omega,by omega⟩;have hzj:z*2^(8*j)≤255*2^24:=Nat.mul_le_mul (by omega) hp;have ew:wrap64 ((z*2^(8*j):Nat):Int)=((z*2^(8*j):Nat):Int):=IntWalk.wrap64_in _ ⟨by omega,by omega⟩;rw[ez,xO,ew,Nat.mul_comm (2^(8*j)) z];exact xT _ _ (8*j) (by omega) hn (Nat.mul_mod_left z _) (by omega)
theorem Iz(s:ByteArray)(p m:Nat)(hm:m≤24):
 Go.bits .and .i64 (((num ((s.data.toList.drop (p/8)).take ((p%8+m+7)/8)):Nat):Int)/2^(p%8)) (wrap64 (wrap64 (2^m)-1))=((bK (num s.data.toList) p m:Nat):Int):=by
 rw[zO m hm,iO _ m (by omega),←Db s.data.toList p m ((p%8+m+7)/8) (by omega)];unfold bK;simp
theorem Jw{w:World}{b d p m n c nq:Nat}{s:ByteArray}{A:Option Addr}(hd:d≠b)(hi:Is w b 207 #[.slice A n c,(p%8:Nat)])
 (hr:ByteRow w A n (s.data.toList.drop (p/8))) (ha:∀a,A=some a→a.block=d) (hnc:n≤c) (hk:(p%8+m)/8≤n) (hpm:p+m≤8*s.size)
 (c':Nat) (hc':n-(p%8+m)/8≤c') (A':Option Addr) (hA:A'=if c=(p%8+m)/8 then A else A.map (·.add ((p%8+m)/8))):
 RS (((w.drewN nq).setCell ⟨b,0,none⟩ (.slice A' (n-(p%8+m)/8) c')).setCell ⟨b,1,none⟩ (.int .i64 (((p:Int)+(m:Int))%8))) b d s (p+m):=by
 have hrow:=hr.cut hk hnc;rw[List.drop_drop,show p/8+(p%8+m)/8=(p+m)/8 from by omega,←hA]at hrow;have hblk:∀a,A'=some a→a.block=d:=by
  intro a e;subst hA;split at e
  ·exact ha a e
  ·rcases A with _|a0
   ·simp at e
   ·simp only[Option.map_some,Option.some.injEq]at e;subst e;have:=ha a0 rfl;unfold Addr.add;split<;>exact this
 clear hA;have e8:(((p:Int)+(m:Int))%8)=(((p+m)%8:Nat):Int):=by omega
 rw[e8];generalize hL:n-(p%8+m)/8=n' at*;have hB1:But [b] w ((w.drewN nq).setCell ⟨b,0,none⟩ (.slice A' n' c')):=But.setCell ((But.refl [b] w).drewN nq) (.inl (by simp)) _;have hB:But [b] w (((w.drewN nq).setCell ⟨b,0,none⟩ (.slice A' n' c')).setCell ⟨b,1,none⟩ (.int .i64 (((p+m)%8:Nat):Int))):=hB1.setCell (.inl (by simp)) _;have hI:Is (((w.drewN nq).setCell ⟨b,0,none⟩ (.slice A' n' c')).setCell ⟨b,1,none⟩ (.int .i64 (((p+m)%8:Nat):Int))) b 207 #[.slice A' n' c',(((p+m)%8:Nat):Int)]:=by
  simpa using((hi.drewN nq).put 0 (.slice A' n' c')).put 1 (.int .i64 (((p+m)%8:Nat):Int))
 exact⟨hpm,hd,A',n',c',hI,by omega,hrow.but hB (fun k hk a e=>by rw[hblk a e];simp at hk;omega),hblk⟩
theorem RS.bits_w{w:World}{b d p:Nat}{s:ByteArray}(h:RS w b d s p)(hs:s.size≤140737489403904)(n:Int):
 Calls prog 208 #[.pointer b,n] w fun e w'=>e=.returned (.tuple #[.int .i64 (ax s p n),.int .i64 (au s p n)])∧RS w' b d s (aK s p n)∧But [b] w w':=by
 by_cases hn:n<0∨24<n
 ·have he:au s p n=1:=by unfold au;rw[if_pos hn]
  have hv:ax s p n=0:=by unfold ax;rw[he];rfl
  have hg:aK s p n=p:=by unfold aK;rw[he];rfl
  rw[he,hv,hg];clear he hv hg;rcases hn with hn|hn
  ·go_enter func208,ntmps208
   go_wp2
   go_ret2
   exact⟨rfl,h,But.refl _ _⟩
  ·have hn0:¬n<0:=by omega
   go_enter func208,ntmps208
   go_wp2
   go_ret2
   exact⟨rfl,h,But.refl _ _⟩
 ·obtain⟨m,rfl⟩:=Int.eq_ofNat_of_zero_le (show 0≤n by omega);have hm:m≤24:=by omega
  have hp:=h.1
  by_cases hl:8*s.size-p<m
  ·have he:au s p (m:Int)=3:=by unfold au;rw[if_neg hn,if_pos (by omega)]
   have hv:ax s p (m:Int)=0:=by unfold ax;rw[he];rfl
   have hg:aK s p (m:Int)=p:=by unfold aK;rw[he];rfl
   rw[he,hv,hg];clear he hv hg hn
   go_enter func208,ntmps208
   go_wp2_with (go_at_call 141;refine(h.left_w hs).mono ?_;rintro e w' ⟨rfl,nq,rfl⟩)
   go_ret2
   exact⟨rfl,h.but ((But.refl [] w).drewN nq) (by simp) (by simp),(But.refl _ w).drewN nq⟩
  ·have he:au s p (m:Int)=0:=by unfold au;rw[if_neg hn,if_neg (by omega)]
   have hv:ax s p (m:Int)=bK (num s.data.toList) p m:=by unfold ax;rw[if_pos he];rfl
   have hg:aK s p (m:Int)=p+m:=by unfold aK;rw[if_pos he];rfl
   rw[he,hv,hg];clear he hv hg hn;have hl0:=h.left_w hs;obtain⟨_,hd,A,n,c,hi,hnc,hr,ha⟩:=h;have h0:w.cell? ⟨b,0,none⟩=some (.slice A n c):=hi.cell 0;have h1:w.cell? ⟨b,1,none⟩=some (.int .i64 (p%8:Nat)):=hi.cell 1;have h2:w.frozen? ⟨b,0,none⟩=false:=hi.free 0;have h3:w.frozen? ⟨b,1,none⟩=false:=hi.free 1;have d1:decide ((m:Int)<0)=false:=by simp
   have d2:decide ((24:Int)<(m:Int))=false:=by simp;omega
   have hlen:=hr.1;rw[List.length_drop,Array.length_toList]at hlen;have hz:s.data.size=s.size:=rfl;rw[hz]at hlen;have hnle:n≤140737489403904:=by omega
   have HL:=qhz hlen;clear hlen hz
   go_enter func208,ntmps208
   go_wp2_with (go_at_call 141;refine hl0.mono ?_;rintro e w' ⟨rfl,nq,rfl⟩)
   go_loop [6,8,33] (fun v _ i=>∃j:Nat,j≤(p%8+m+7)/8∧i=.int .i64 j∧v=.int .i64 (num ((s.data.toList.drop (p/8)).take j))) (fun _ _ i=>(p%8+m+7)/8-(intOf i).toNat)
   case atStart=>exact⟨0,Nat.zero_le _,rfl,rfl⟩
   case round=>
    obtain⟨j,hj,rfl,rfl⟩:=hrel
    by_cases hlt:j<(p%8+m+7)/8
    ·have hjn:j<n:=by have:=HL.out;omega
     have hln:j<(s.data.toList.drop (p/8)).length:=by have:=hr.1;omega
     obtain⟨g,o,rfl,hcell⟩:=hr.at hjn;have hly:=Om (s.data.toList.drop (p/8)) j (by omega) hln;have hj3:j≤3:=by omega
     generalize(s.data.toList.drop (p/8))[j]=x at*;go_wp2
     go_round
     case rel=>exact⟨j+1,by omega,by go_num,rfl⟩
     case measure=>simp[intOf];omega
    ·obtain rfl:j=(p%8+m+7)/8:=by omega
     have hcut:((p:Int)%8+(m:Int))/8≤(n:Int):=by have:=HL.out;omega
     have hcut0:0≤((p:Int)%8+(m:Int))/8:=by omega
     have HT:=qhz (Iz s p m hm);go_wp2
     go_quiet (fail)
     go_wp2
     ·have hc:c=(p%8+m)/8:=by assumption
      go_ret2
      exact⟨by rw[HT.out]<;>rfl,Jw (m:=m) hd hi hr ha hnc (by omega) (by omega) _ (by omega) _ (by rw[if_pos hc]),((((But.refl _ w).drewN _).setCell (.inl (by simp)) _).setCell (.inl (by simp)) _)⟩
     ·have hc:¬c=(p%8+m)/8:=by assumption
      go_ret2
      exact⟨by rw[HT.out]<;>rfl,Jw (m:=m) hd hi hr ha hnc (by omega) (by omega) _ (by omega) _ (by rw[if_neg hc]),((((But.refl _ w).drewN _).setCell (.inl (by simp)) _).setCell (.inl (by simp)) _)⟩
theorem ByteRow.take{w:World}{A:Option Addr}{n:Nat}{l:List UInt8}(h:ByteRow w A n l){m:Nat}(hm:m≤n):ByteRow w A m (l.take m):=by
 have hl:=h.1;refine⟨by rw[List.length_take];omega,fun hp=>?_⟩;obtain⟨g,o,e,hc⟩:=h.2 (by omega);refine⟨g,o,e,fun i hi=>?_⟩;rw[List.length_take]at hi;rw[List.getElem_take];exact hc i (by omega)
theorem DS{w w':World}{b d p k n c:Nat}{s:ByteArray}{A:Option Addr}(hd:d≠b)
 (hr:ByteRow w A n (s.data.toList.drop (p/8))) (ha:∀a,A=some a→a.block=d) (hnc:n≤c) (hk:k≤n) (q:Nat) (hq:q/8=p/8+k) (hqs:q≤8*s.size)
 (c':Nat) (hc':n-k≤c') (A':Option Addr) (hA:A'=if c=k then A else A.map (·.add k))
 (hI:Is w' b 207 #[.slice A' (n-k) c',(q%8:Nat)]) (hB:But [b] w w'):RS w' b d s q:=by
 have hrow:=hr.cut hk hnc;rw[List.drop_drop,←hq,←hA]at hrow;have hblk:∀a,A'=some a→a.block=d:=by
  intro a e;subst hA;split at e
  ·exact ha a e
  ·rcases A with _|a0
   ·simp at e
   ·simp only[Option.map_some,Option.some.injEq]at e;subst e;have:=ha a0 rfl;unfold Addr.add;split<;>exact this
 exact⟨hqs,hd,A',n-k,c',hI,hc',hrow.but hB (fun k hk a e=>by rw[hblk a e];simp at hk;omega),hblk⟩
theorem RS.bytes_w{w:World}{b d p:Nat}{s:ByteArray}(h:RS w b d s p)(hs:s.size≤140737489403904)(n:Int):
 Calls prog 228 #[.pointer b,n] w fun e w'=>e=.returned (.tuple #[.string (bg s p n),.int .i64 (aE s p n)])∧RS w' b d s (bT s p n)∧But [b] w w':=by
 by_cases hn:n<0
 ·have he:aE s p n=1:=by unfold aE;rw[if_pos hn]
  have hv:bg s p n=⟨#[]⟩:=by unfold bg;rw[he];rfl
  have hg:bT s p n=p:=by unfold bT;rw[if_pos hn]
  rw[he,hv,hg];clear he hv hg
  go_enter func228,ntmps228
  go_wp2
  go_ret2
  exact⟨rfl,h,But.refl _ _⟩
 ·obtain⟨m,rfl⟩:=Int.eq_ofNat_of_zero_le (show 0≤n by omega);have hp:=h.1;have h':=h;obtain⟨_,hd,A,n,c,hi,hnc,hr,ha⟩:=h';have h0:w.cell? ⟨b,0,none⟩=some (.slice A n c):=hi.cell 0;have h1:w.cell? ⟨b,1,none⟩=some (.int .i64 (p%8:Nat)):=hi.cell 1;have h2:w.frozen? ⟨b,0,none⟩=false:=hi.free 0;have h3:w.frozen? ⟨b,1,none⟩=false:=hi.free 1;have hlen:=hr.1;rw[List.length_drop,Array.length_toList]at hlen;have hz:s.data.size=s.size:=rfl;rw[hz]at hlen;have hnle:n≤140737489403904:=by omega
  have hpos:0<p%8→(1:Int)≤(n:Int):=by omega
  have HL:=qhz hlen;clear hlen hz
  go_enter func228,ntmps228
  go_upto_if 17 with(fail)
  go_cut [] (fun w1=>RS w1 b d s (8*((p+7)/8))∧But [b] w w1)
  case first=>
   by_cases hu:0<p%8
   ·have hpos1:=hpos hu;clear hpos;go_wp2
    ·have hc:c=1:=by assumption
     go_meet
     refine⟨?_,?_⟩
     ·refine DS (k:=1) hd hr ha hnc (by omega) _ (by omega) (by omega) 0 (by omega) A (by rw[if_pos hc]) ?_ ?_
      ·simpa using(hi.put 0 (.slice A (n-1) 0)).put 1 (.int .i64 0)
      ·exact((But.refl [b] w).setCell (.inl (by simp)) _).setCell (.inl (by simp)) _
     ·exact((But.refl [b] w).setCell (.inl (by simp)) _).setCell (.inl (by simp)) _
    ·have hc:¬c=1:=by assumption
     go_meet
     refine⟨?_,?_⟩
     ·refine DS (k:=1) hd hr ha hnc (by omega) _ (by omega) (by omega) (c-1) (by omega) (A.map fun x=>⟨x.block,x.off+1,none⟩) (by rw[if_neg hc];rfl) ?_ ?_
      ·simpa using(hi.put 0 (.slice (A.map fun x=>⟨x.block,x.off+1,none⟩) (n-1) (c-1))).put 1 (.int .i64 0)
      ·exact((But.refl [b] w).setCell (.inl (by simp)) _).setCell (.inl (by simp)) _
     ·exact((But.refl [b] w).setCell (.inl (by simp)) _).setCell (.inl (by simp)) _
   ·clear hpos;go_wp2
    go_meet
    refine⟨?_,But.refl _ _⟩;rw[show 8*((p+7)/8)=p from by omega];exact h
  case rest=>
   obtain⟨hR,hB⟩:=hcut;clear h0 h1 h2 h3 hpos hi hr ha HL h hnle hnc hd;obtain⟨hq,hd,A,n,c,hi,hnc,hr,ha⟩:=hR;have h0:wc.cell? ⟨b,0,none⟩=some (.slice A n c):=hi.cell 0;have h2:wc.frozen? ⟨b,0,none⟩=false:=hi.free 0;have hlen:=hr.1;rw[List.length_drop,Array.length_toList]at hlen;have hz:s.data.size=s.size:=rfl;rw[hz]at hlen;have hnle:n≤140737489403904:=by omega
   have HL:=qhz hlen;clear hlen hz
   by_cases hl:n<m
   ·have he:aE s p (m:Int)=3:=by unfold aE;rw[if_neg hn,if_pos (by have:=HL.out;omega)]
    have hv:bg s p (m:Int)=⟨#[]⟩:=by unfold bg;rw[he];rfl
    have hg:bT s p (m:Int)=8*((p+7)/8):=by unfold bT;rw[if_neg hn,he];rfl
    have HE:=qhz he;have HV:=qhz hv;have HG:=qhz hg;clear he hv hg hn;go_wp2
    go_ret2
    rw[HE.out,HV.out,HG.out];exact⟨rfl,⟨hq,hd,A,n,c,hi,hnc,hr,ha⟩,hB⟩
   ·have he:aE s p (m:Int)=0:=by unfold aE;rw[if_neg hn,if_neg (by have:=HL.out;omega)]
    have hv:bg s p (m:Int)=⟨((s.data.toList.drop ((p+7)/8)).take m).toArray⟩:=by unfold bg;rw[if_pos he];rfl
    have hg:bT s p (m:Int)=8*((p+7)/8+m):=by unfold bT;rw[if_neg hn,if_pos he];rfl
    have HE:=qhz he;have HV:=qhz hv;have HG:=qhz hg;clear he hv hg hn;have e8:8*((p+7)/8)/8=(p+7)/8:=by omega
    rw[e8]at hr;have hcv:=(hr.take (m:=m) (by omega)).text (c:=c);clear e8;have hput:∀(A':Option Addr) (c':Nat),Is (wc.setCell ⟨b,0,none⟩ (.slice A' (n-m) c')) b 207 #[.slice A' (n-m) c',(8*((p+7)/8+m)%8:Nat)]:=fun A' c'=>by
     have e0:8*((p+7)/8+m)%8=8*((p+7)/8)%8:=by omega
     rw[e0];simpa using hi.put 0 (.slice A' (n-m) c')
    have hbut:∀v:Value,But [b] wc (wc.setCell ⟨b,0,none⟩ v):=fun v=>(But.refl [b] wc).setCell (.inl (by simp)) _;have HP:=qhz hput;have HQ:=qhz hbut;clear hput hbut;have hr':ByteRow wc A n (s.data.toList.drop (8*((p+7)/8)/8)):=by rw[show 8*((p+7)/8)/8=(p+7)/8 from by omega];exact hr
    go_wp2
    ·have hc:c=m:=by assumption
     go_ret2
     rw[HE.out,HV.out,HG.out];exact⟨rfl,DS (k:=m) hd hr' ha hnc (by omega) _ (by omega) (by have:=HL.out;omega) 0 (by omega) A (by rw[if_pos hc]) (HP.out _ _) (HQ.out _),hB.trans (HQ.out _)⟩
    ·have hc:¬c=m:=by assumption
     go_ret2
     rw[HE.out,HV.out,HG.out];exact⟨rfl,DS (k:=m) hd hr' ha hnc (by omega) _ (by omega) (by have:=HL.out;omega) (c-m) (by omega) _ (by rw[if_neg hc]) (HP.out _ _) (HQ.out _),hB.trans (HQ.out _)⟩
end Go.Proofs.YtbanopnofpjnbaaGreatDoor
