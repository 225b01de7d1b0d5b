/- Own texts in one: CkU, HpE, HpG, HpH, HpI. -/
import Derived.Test.YtbanopnofpjnbaaGreatDoorU21
set_option maxRecDepth 1000000
set_option linter.unusedVariables false
set_option maxHeartbeats 4000000
namespace Go.Proofs.YtbanopnofpjnbaaGreatDoor
open Go Go.RowKit Tryz
section
attribute [local irreducible] strL bH encs cR br
theorem Kg(w:World){A:Option Addr}{n cap:Nat}{L:List Ck}(hK:Cks w A n L)(hL:ml L≤100000000)(hn:n≤8796093022208):
 Calls prog 31 #[.slice A n cap] w fun e w'=>e=M8 (gj L)∧But [] w w':=by
 have HLL:=qhz hK.1;have hb0:=Bld.fresh w (base:=w.heap.size) (Nat.le_refl _);have hB0:=(But.refl [] w).alloc (.cells #[.pointer none,.slice none 0 0] 77);have hput:=uk bH hb0 hB0 (by unfold bH;decide);rw[←nW]at hput;have HPUT:=qhz hput;have HK:=qhz hK;have HSL:=qhz hL;clear hK hL hput hB0 hb0
 go_enter func31,ntmps31
 go_wp2_with fail
 refine HPUT.out.mono ?_;rintro e w1 ⟨rfl,hbl,hB1⟩;rw[List.nil_append]at hbl;have HBL0:=qhz hbl;have HB0:=qhz hB1;clear hbl hB1 HPUT
 go_wp2_with fail
 go_loopw [11] (fun iv wr=>∃i:Nat,i≤n∧iv=.int .i64 i∧Hid ((L.take i).all okC=true)∧Hid (Bld wr w.heap.size w.heap.size (bH++encs (L.take i)))∧Hid (But [] w wr)) (fun iv _=>n-(intOf iv).toNat)
 case atStart=>exact⟨0,Nat.zero_le _,rfl,qhz (by rw[List.take_zero];rfl),qhz (by rw[List.take_zero,show encs []=[]by unfold encs;rfl,List.append_nil];exact HBL0.out),HB0⟩
 case round=>
  obtain⟨i,hi,rfl,HA,HBL,HB⟩:=hrel;have hBl:(bH++encs (L.take i)).length≤100000008:=by
   have h1:=qI L i HA.out;have h2:=HSL.out;have h8:bH.length=8:=by unfold bH;rfl
   rw[List.length_append,h8];omega
  by_cases hlt:i<n
  ·obtain⟨g,o,c,rfl,hg,hc0,hc1,hat⟩:=HK.out.at hlt;obtain⟨t,d⟩:=c;have hsc:=wM L i (t,d) hat;have c0:=HB.out.cell hc0 (by simp);have c1:=HB.out.cell hc1 (by simp);have k0:(0:Int)≤(i:Int):=by omega
   have k1:(i:Int)<(n:Int):=by omega
   have hds:(strL d).size=d.length:=ac d;obtain⟨m,hm⟩:=E1 d.length;rw[←hm]at hds;have hfi:=fun v=>zx v (t:=t) (m:=m);have HM:=qhz hm;have HAT:=qhz hat;have HI1:=qhz (Is.fresh wr 42 #[strL t,strL d]);have HBL1:=qhz (HBL.out.but ((But.refl [] wr).alloc (.cells #[strL t,strL d] 42)));have HB1:=qhz (HB.out.alloc (.cells #[strL t,strL d] 42))
   by_cases hok:okC (t,d)=true
   ·obtain⟨hr,hdm⟩:=(m8 (t,d)).1 hok;dsimp only at hr hdm;have h4:=uX hr;have hdl:m≤100000000:=by have h:=hsc hr;have:=HSL.out;rw[hm];dsimp only at h;omega
    have hts:(strL t).size=4:=by rw[ac,h4]
    have htd:strL t++strL d=strL (t++d):=IQ t d;have hcr:=fun v=>E2 (strL (t++d)) v (by rw[ac,List.length_append,h4,←hm];unfold maxLen;omega);simp only[aj]at hcr;have hclt:=jF (t++d);obtain⟨q,hq⟩:=E1 (cR (t++d));simp only[←hq]at hcr;rw[←hq]at hclt;have hf1:=fun v=>xk v (n:=m) (by omega);have hf2:=fun v=>xk v (n:=q) (by omega);have hen:encC (t,d)=br m++(t++(d++br q)):=by rw[PF,hq,hm]
    simp only[hr,decide_eq_true (show m≤2147483647 by omega),Bool.and_true]at hfi;have HFI:=qhz hfi;have HF1:=qhz hf1;have HF2:=qhz hf2;have HCR:=qhz hcr;have HN:=qhz (show(L.take (i+1)).all okC=true by rw[lL HAT.out,List.all_append,HA.out];simp[hok]);have HN2:=qhz (show bH++encs (L.take (i+1))=((bH++encs (L.take i))++br m)++(t++d)++br q by rw[lL HAT.out,AB,hen];simp only[List.append_assoc]);have htdl:(t++d).length=4+m:=by rw[List.length_append,h4,hm]
    have hB4:(bH++encs (L.take i)++br m).length≤100000012:=by rw[List.length_append,az];omega
    have hB5:(bH++encs (L.take i)++br m++(t++d)).length≤200000016:=by rw[List.length_append,htdl];omega
    have kd:(9223372036854775807<4+m)=False:=by simp;omega
    have HL1:=qhz hB4;have HL2:=qhz hB5;have HL0:=qhz hBl;have HTD:=qhz htdl;clear hfi hr hf1 hf2 hcr hok hq hen h4 hm hdm hsc hc0 hc1 hat hB4 hB5 hBl htdl HB HBL hg
    go_wp2_with fail
    refine(HFI.out _).mono ?_;rintro e w1 ⟨rfl,hw⟩;subst hw
    go_wp2_with fail
    refine(HF1.out _).mono ?_;rintro e w2 ⟨rfl,hB2⟩;have HBL2:=qhz (HBL1.out.but hB2);have HB2:=qt HB1 hB2;clear hB2;have HP1:=qhz (uk (br m) HBL2.out HB2.out (by have:=HL0.out;rw[az];omega))
    go_wp2_with fail
    refine HP1.out.mono ?_;rintro e w3 ⟨rfl,hbl3,hB3⟩;have HP2:=qhz (uk (t++d) hbl3 hB3 (by have:=HL1.out;rw[HTD.out];omega));clear hbl3 hB3
    go_wp2_with fail
    refine HP2.out.mono ?_;rintro e w4 ⟨rfl,hbl4,hB4⟩;have HBL4:=qhz hbl4;have HB4:=qhz hB4;clear hbl4 hB4
    go_wp2_with fail
    refine(HCR.out _).mono ?_;rintro e w5 ⟨rfl,hw⟩;subst hw
    go_wp2_with fail
    refine(HF2.out _).mono ?_;rintro e w6 ⟨rfl,hB6⟩;have HP3:=qhz (uk (br q) (HBL4.out.but hB6) (HB4.out.trans hB6) (by have:=HL2.out;rw[az];omega));clear hB6
    go_wp2_with fail
    refine HP3.out.mono ?_;rintro e w7 ⟨rfl,hbl7,hB7⟩;rw[←HN2.out]at hbl7;have HBL7:=qhz hbl7;have HB7:=qhz hB7;clear hbl7 hB7;go_wp2
    go_roundw
    case rel=>exact⟨i+1,by omega,by go_num,HN,HBL7,HB7⟩
    case measure=>simp[intOf];omega
   ·have hok':okC (t,d)=false:=by simpa using hok
    have HN:=qhz (Ex HAT.out hok');have hfo:(aJ t&&decide (m≤2147483647))=false:=by
     have h:=hok';unfold okC at h;rw[hm];exact h
    simp only[hfo]at hfi;have HFI:=qhz hfi;clear hfi hok hok' hfo hm hsc hc0 hc1 hat HB HBL hg
    go_wp2_with fail
    refine(HFI.out _).mono ?_;rintro e w1 ⟨rfl,hw⟩;subst hw;go_wp2
    go_ret2
    exact⟨by rw[HN.out];unfold M8 strL;rfl,HB1.out⟩
  ·obtain rfl:i=n:=by omega
   have HN:=qhz (show gj L=(bH++encs (L.take i),0) by
    have e:L.take i=L:=List.take_of_length_le (by rw[HLL.out];exact Nat.le_refl _);have h1:=HA.out;rw[e]at h1;unfold gj;rw[if_pos h1,e])
   have HTX:=qhz (EZ HBL.out HB.out)
   go_wp2_with fail
   refine HTX.out.mono ?_;rintro e w1 ⟨rfl,hB1⟩;have HB1:=qhz hB1;clear hB1;go_wp2
   go_ret2
   exact⟨by rw[HN.out];rfl,HB1.out⟩
end
section
theorem KP:liesAt prog prog.depth 79 (12/prog.cellsOf 79) 8 77 1=true:=by kernel_rfl
theorem Ce{base n size:Nat}{v:World}{t:TypeId}{u:Value}{xs:List Value}{b:Nat}{c:Array Value}(h:v.ownsRow base 5 size u n xs)(k:Is v b t c)(ht:t≠5):some b≠u.ownBlock:=by
 rcases h.2 with⟨rfl,_⟩|⟨g,cap,cur,rfl,_,hg,_⟩
 ·simp[Value.ownBlock]
 ·intro e;have e':b=g:=by simpa[Value.ownBlock]using e
  subst e';exact ht (Obj.cells.inj (Option.some.inj (k.symm.trans hg))).2.1
def Kp(b:Nat)(w w':World):Prop:=∀(g:Nat) (t:TypeId) (cs:Array Value),g≠b→t≠5→Is w g t cs→Is w' g t cs
section
variable {w w' w'' w0:World} {b:Nat}
theorem Kp.refl(b:Nat)(w:World):Kp b w w:=fun _ _ _ _ _ h=>h
theorem Kp.trans(h:Kp b w w')(k:Kp b w' w''):Kp b w w'':=fun g t cs h1 h2 h3=>k g t cs h1 h2 (h g t cs h1 h2 h3)
theorem Kp.set(h:Kp b w w')(i:Nat)(u:Value):Kp b w (w'.setCell ⟨b,i,none⟩ u):=fun g t cs h1 h2 h3=>(h g t cs h1 h2 h3).far (p:=⟨b,i,none⟩) h1 u
theorem Kp.but(h:Kp b w w')(k:But [] w' w''):Kp b w w'':=fun g t cs h1 h2 h3=>(h g t cs h1 h2 h3).but k (by simp)
theorem Kp.grown{base n:Nat}{v:Value}{D:List UInt8}(h:Kp b w w')(hO:OwnY w' base v D)(k:w'.grownBy w'' v.ownBlock):Kp b w w'':=fun g t cs h1 h2 h3=>(h g t cs h1 h2 h3).grown k (Ce hO (h g t cs h1 h2 h3) h2)
theorem Is.shape{t:TypeId}{cs:Array Value}(h:Is w b t cs):w.shape? b=some (t,cs.size):=by unfold Is at h;simp[World.shape?,h]
end
theorem Is.freeze{w:World}{b:Nat}{t:TypeId}{cs:Array Value}(h:Is w b t cs){p:Addr}(hp:b≠p.block)(n:Nat):Is (w.freeze p n) b t cs:=by
 unfold World.freeze;split
 ·exact h
 ·unfold Is at h⊢;simp only[Array.getElem?_modify];rw[if_neg (fun e=>hp e.symm)];exact h
theorem Ls(b:Nat)(w:World)(h0:w.cell? ⟨b,8,none⟩=some (.pointer (some ⟨b,8,none⟩))):
 Calls prog 109 #[.pointer (some ⟨b,8,none⟩)] w fun e w'=>e=.returned (.tuple #[])∧w'=w:=by
 obtain⟨j,hj,_⟩:=Option.map_eq_some_iff.1 q9
 go_enter func109,ntmps109
 go_wp2;rw[Lib.run_neq_ptr_same w _ underlying75 hj];go_wp2
 go_end0
 exact⟨rfl,rfl⟩
theorem GI(b:Nat)(w:World)(h0:w.cell? ⟨b,8,none⟩=some (.pointer none))(hsh:w.shape? b=some (79,12))(hfz:w.frozen? ⟨b,8,none⟩=false):
 Calls prog 109 #[.pointer (some ⟨b,8,none⟩)] w fun e w'=>e=.returned (.tuple #[])∧w'=w.setCell ⟨b,8,none⟩ (.pointer (some ⟨b,8,none⟩)):=by
 obtain⟨j,hj,hjs⟩:=Option.map_eq_some_iff.1 q9
 go_enter func109,ntmps109
 go_wp2;rw[Lib.run_to_unsafe w ⟨b,8,none⟩ underlying75 underlying183 hj (by rw[hjs];decide) hsh (show 8<12 by decide)];simp only[Result.andThen];rw[Oper.upon_value];go_wp2;rw[run_callFunc_extern func155 (by kernel_rfl) (by kernel_rfl) (by kernel_rfl) (e:=Extern.AbiNoEscape.same) (by kernel_rfl)];rw[Lib.run_noEscape];simp only[Result.andThen];rw[Oper.upon_value];go_wp2;rw[Lib.run_from_unsafe w ⟨b,8,none⟩ underlying183 underlying75 hj hsh KP];simp only[Result.andThen];rw[Oper.upon_value];go_wp2
 go_end0
 exact⟨rfl,rfl⟩
section
variable {w0 w:World} {b:Nat} {x0 x1 x2 x3 x4 x5 x6 x7 p v x10 x11:Value} {D:List UInt8}
def FbS(w0 w:World)(b:Nat)(x0 x1 x2 x3 x4 x5 x6 x7 p v x10 x11:Value)(D:List UInt8):Prop:=
 w0.heap.size≤b∧But [] w0 w∧(p=.pointer none∨p=.pointer (some ⟨b,8,none⟩))∧Is w b 79 #[x0,x1,x2,x3,x4,x5,x6,x7,p,v,x10,x11]∧OwnY w w0.heap.size v D∧some b≠v.ownBlock
theorem An(W:World)(q:Option Addr):(Builtin.unsafeString_ #[107,3] 9 #[.pointer q,(0:Int)]).run prog W=.ok (.string ⟨#[]⟩) W:=
 Lib.run_unsafeString_none W _ _ _ q
theorem O7:prog.cellsOf 5=1:=by kernel_rfl
theorem Ax(hc:w.cell? ⟨b,9,none⟩=some v)(hO:OwnY w w0.heap.size v D)(hB:But [] w0 w):
 Calls prog 50 #[.pointer (some ⟨b,8,none⟩)] w fun e w'=>e=.returned (.string (strL D))∧But [] w0 w'∧∀(g:Nat) (t:TypeId) (cs:Array Value),t≠5→Is w g t cs→Is w' g t cs:=by
 have hS:Below w0.heap.size w0 w:=⟨hB.os,hB.tape,hB.output,hB.size,fun i hi=>hB.block i hi (by simp)⟩
 have done:∀{w':World},Below w0.heap.size w w'→But [] w0 w':=fun {w'} h2=>⟨h2.os.trans hB.os,h2.tape.trans hB.tape,h2.output.trans hB.output,Nat.le_trans hB.size h2.size,fun i hi _=>(h2.block i hi).trans (hB.block i hi (by simp))⟩
 have hsz:=hB.size;have mixed:prog.follows .mixedOrders=true:=by kernel_rfl
 rcases hO.2 with⟨rfl,hz⟩|⟨g,cap,cur,rfl,hbg,hg,hnc,hcm,hcs,htake⟩
 ·obtain rfl:D=[]:=List.eq_nil_of_length_eq_zero hz;have hUS:=An;have c1:w.drew.cell? ⟨b,9,none⟩=some (.slice none 0 0):=hc;have hSD:(Builtin.unsafeSliceData_ #[47] 107 #[.slice none 0 0]).run prog w.drew=.ok (.pointer none) w.drew:=rfl;have HD:=qhz (fun w'=>@done w');clear hO hz hB hS done
  go_enter func50,ntmps50
  go_wp2
  go_region_o
  all_goals (go_wp2;go_ret;exact⟨rfl,HD.out _ (Below.drew (Below.refl _ w)),fun g t cs _ h=>h.drew⟩)
 ·by_cases hl0:D.length=0
  ·obtain rfl:D=[]:=List.eq_nil_of_length_eq_zero hl0;have hUS:=An
   by_cases hc0:cap=0
   ·subst hc0;have hc:w.cell? ⟨b,9,none⟩=some (.slice (some ⟨g,0,none⟩) 0 0):=hc;have c1:w.drew.cell? ⟨b,9,none⟩=some (.slice (some ⟨g,0,none⟩) 0 0):=hc;have hSD:(Builtin.unsafeSliceData_ #[47] 107 #[.slice (some ⟨g,0,none⟩) 0 0]).run prog w.drew=.ok (.pointer w.drew.heap.size) (w.drew.alloc (.view ⟨g,0,none⟩ 5)):=
     Lib.run_unsafeSliceData_zero w.drew _ _ 5 underlying107 ⟨g,0,none⟩ 0 (5,cur.size) (by have hg':w.drew.heap[g]? =some (.cells cur 5 (0,0)):=hg;simp[World.shape?,hg'])
    have hk:But [] w (w.drew.alloc (.view ⟨g,0,none⟩ 5)):=((But.refl [] w).drew).alloc _;have c2:(w.drew.alloc (.view ⟨g,0,none⟩ 5)).cell? ⟨b,9,none⟩=some (.slice (some ⟨g,0,none⟩) 0 0):=hk.cell hc (by simp);have c3:(w.alloc (.view ⟨g,0,none⟩ 5)).drew.cell? ⟨b,9,none⟩=some (.slice (some ⟨g,0,none⟩) 0 0):=c2;have HD:=qhz (fun w'=>@done w');clear hO hB hS done hk hg hnc hcm hcs htake
    go_enter func50,ntmps50
    go_wp2
    go_region_o
    all_goals (go_wp2;go_ret;exact⟨rfl,HD.out _ ((Below.drew (Below.refl _ w)).alloc hsz _),fun g t cs _ h=>h.drew.alloc _⟩)
   ·have hc:w.cell? ⟨b,9,none⟩=some (.slice (some ⟨g,0,none⟩) 0 cap):=hc;have c1:w.drew.cell? ⟨b,9,none⟩=some (.slice (some ⟨g,0,none⟩) 0 cap):=hc;have hSD:(Builtin.unsafeSliceData_ #[47] 107 #[.slice (some ⟨g,0,none⟩) 0 cap]).run prog w.drew=.ok (.pointer (some ⟨g,0,none⟩)) w.drew:=
     Lib.run_unsafeSliceData_row _ _ _ _ _ _ hc0
    have HD:=qhz (fun w'=>@done w');clear hO hB hS done hg hnc hcm hcs htake hc0
    go_enter func50,ntmps50
    go_wp2
    go_region_o
    all_goals (go_wp2;go_ret;exact⟨rfl,HD.out _ (Below.drew (Below.refl _ w)),fun g t cs _ h=>h.drew⟩)
  ·have c1:w.drew.cell? ⟨b,9,none⟩=some (.slice (some ⟨g,0,none⟩) D.length cap):=hc;have hSD:(Builtin.unsafeSliceData_ #[47] 107 #[.slice (some ⟨g,0,none⟩) D.length cap]).run prog w.drew=.ok (.pointer (some ⟨g,0,none⟩)) w.drew:=
    Lib.run_unsafeSliceData_row _ _ _ _ _ _ (by omega)
   have hUS:(Builtin.unsafeString_ #[107,3] 9 #[.pointer (some ⟨g,0,none⟩),D.length]).run prog w.drew=.ok (.string (strL D)) (w.drew.freeze ⟨g,0,none⟩ D.length):=by
    refine Lib.run_unsafeString_row w.drew 107 3 9 5 underlying107 O7 g cur.size (by have hg':w.drew.heap[g]? =some (.cells cur 5 (0,0)):=hg;simp[World.shape?,hg']) D (fun e=>hl0 (by rw[e];rfl)) (by omega) (by unfold maxLen at hcm;omega) ?_;intro j x hx;have:=World.ownsRow.cells hO (g:=g) rfl j (.int .u8 x.toNat) (by simp[ah,hx]);exact this
   have HD:=qhz (fun w'=>@done w');have HG:=qhz hbg;have HN:=qhz (fun(b':Nat) (t:TypeId) (cs:Array Value) (ht:t≠5) (h:Is w b' t cs)=>(show b'≠g from fun e=>Ce hO h ht (by rw[e];rfl)));obtain⟨S,hS2⟩:=E1 (strL D);rw[←hS2]at hUS⊢;obtain⟨n,hn⟩:=E1 D.length;rw[←hn]at hUS hSD c1;clear hO hB hS done hg hnc hcm hcs htake hl0 hc hS2 hbg hn
   go_enter func50,ntmps50
   go_wp2
   go_region_o
   all_goals (go_wp2;go_ret;exact⟨rfl,HD.out _ (Lib.below_freeze (Below.drew (Below.refl _ w)) (p:=⟨g,0,none⟩) HG.out _),fun b' t cs ht h=>Is.freeze h.drew (p:=⟨g,0,none⟩) (HN.out b' t cs ht h) _⟩)
theorem GJ(h:FbS w0 w b x0 x1 x2 x3 x4 x5 x6 x7 p v x10 x11 D):
 Calls prog 109 #[.pointer (some ⟨b,8,none⟩)] w fun e w'=>e=.returned (.tuple #[])∧FbS w0 w' b x0 x1 x2 x3 x4 x5 x6 x7 (.pointer (some ⟨b,8,none⟩)) v x10 x11 D∧Kp b w w':=by
 obtain⟨h1,h2,h3,h4,h5,h6⟩:=h;rcases h3 with rfl|rfl
 ·refine(GI b w (by rw[h4.cell];rfl) (by rw[h4.shape];rfl) (h4.free 8)).mono ?_;rintro e w' ⟨rfl,rfl⟩;exact⟨rfl,⟨h1,h2.setCell (.inr h1) _,.inr rfl,h4.put 8 _,aU (S:=[b]) h5 ((But.refl [b] w).setCell (p:=⟨b,8,none⟩) (.inl (by simp)) _) (fun g e hm=>h6 (by rw[List.mem_singleton.1 hm]at e;exact e.symm)),h6⟩,(Kp.refl b w).set 8 _⟩
 ·refine(Ls b w (by rw[h4.cell];rfl)).mono ?_;rintro e w' ⟨rfl,rfl⟩;exact⟨rfl,⟨h1,h2,.inr rfl,h4,h5,h6⟩,Kp.refl b _⟩
theorem OO(s:List UInt8)(h:FbS w0 w b x0 x1 x2 x3 x4 x5 x6 x7 p v x10 x11 D)(hlen:D.length+s.length≤140737488355328):
 Calls prog 66 #[.pointer (some ⟨b,8,none⟩),strL s] w fun e w'=>e=.returned (.tuple #[s.length,.nilIface])∧∃v',FbS w0 w' b x0 x1 x2 x3 x4 x5 x6 x7 (.pointer (some ⟨b,8,none⟩)) v' x10 x11 (D++s)∧Kp b w w':=by
 obtain⟨i0,hi,hz0,hz1,hz2⟩:=info_parts pU;have HC:=qhz (GJ h);have hsz:(strL s).size=s.length:=ac s;obtain⟨z,hz⟩:=E1 s.length;have HZ:=qhz hz;rw[←hz]at hsz hlen⊢;clear h hz
 go_enter func66,ntmps66
 go_wp2_with fail
 refine HC.out.mono ?_;rintro e w1 ⟨rfl,⟨h1,h2,h3,h4,h5,h6⟩,hk⟩;have c1:w1.cell? ⟨b,9,none⟩=some v:=by rw[h4.cell];rfl
 go_wp2_with (at_builtin;refine qO (w0:=w0) _ rfl _ _ rfl hi hz0 hz1 hz2 _ _ rfl h5 h2 _ rfl ?hb ?_)
 case hb=>rw[←HZ.out];exact hlen
 intro v' w2 hO2 hg2;have h42:Is w2 b 79 #[x0,x1,x2,x3,x4,x5,x6,x7,.pointer (some ⟨b,8,none⟩),v,x10,x11]:=h4.grown hg2 h6;have hk2:Kp b w w2:=Kp.grown (n:=0) hk h5 hg2;have hB2:But [] w0 w2:=h2.grown hg2 (fun g e=>.inr (World.ownsRow.lt h5 g e).1);have d1:=h42.cell 9;have f1:=h42.free 9;have hn2:=Ce hO2 h42 (by decide);obtain⟨ao,n',cap,rfl⟩:∃ao n' cap,v'=.slice ao n' cap:=by
  obtain⟨A,c,e⟩:=hO2.shape;exact⟨_,_,_,e⟩
 go_wp2
 go_ret2
 refine⟨rfl,_,⟨h1,hB2.setCell (p:=⟨b,9,none⟩) (.inr h1) _,.inr rfl,h42.put 9 _,aU (S:=[b]) hO2 ((But.refl [b] w2).setCell (p:=⟨b,9,none⟩) (.inl (by simp)) _) (fun g e hm=>hn2 (by rw[List.mem_singleton.1 hm]at e;exact e.symm)),hn2⟩,hk2.set 9 _⟩
end
end
section
attribute [local irreducible] strL
section
variable {w0 w w':World} {b:Nat} {x0 x1 x2 x3 x4 x5 x6 x7 p v x10 x11:Value} {D:List UInt8}
theorem FbS.but(h:FbS w0 w b x0 x1 x2 x3 x4 x5 x6 x7 p v x10 x11 D)(k:But [] w w'):FbS w0 w' b x0 x1 x2 x3 x4 x5 x6 x7 p v x10 x11 D:=
 ⟨h.1,h.2.1.trans k,h.2.2.1,h.2.2.2.1.but k (by simp),h.2.2.2.2.1.but k,h.2.2.2.2.2⟩
theorem iB(h:FbS w0 w b x0 x1 x2 x3 x4 x5 x6 x7 p v x10 x11 D)(i:Nat)(u:Value):
 But [] w0 (w.setCell ⟨b,i,none⟩ u)∧Is (w.setCell ⟨b,i,none⟩ u) b 79 (#[x0,x1,x2,x3,x4,x5,x6,x7,p,v,x10,x11].setIfInBounds i u)∧OwnY (w.setCell ⟨b,i,none⟩ u) w0.heap.size v D:=
 ⟨h.2.1.setCell (p:=⟨b,i,none⟩) (.inr h.1) u,h.2.2.2.1.put i u,aU (S:=[b]) h.2.2.2.2.1 ((But.refl [b] w).setCell (p:=⟨b,i,none⟩) (.inl (by simp)) u) (fun g e hm=>h.2.2.2.2.2 (by rw[List.mem_singleton.1 hm]at e;exact e.symm))⟩
theorem FbS.put5(h:FbS w0 w b x0 x1 x2 x3 x4 x5 x6 x7 p v x10 x11 D)(u:Value):FbS w0 (w.setCell ⟨b,5,none⟩ u) b x0 x1 x2 x3 x4 u x6 x7 p v x10 x11 D:=
 ⟨h.1,(iB h 5 u).1,h.2.2.1,(iB h 5 u).2.1,(iB h 5 u).2.2,h.2.2.2.2.2⟩
theorem FbS.put6(h:FbS w0 w b x0 x1 x2 x3 x4 x5 x6 x7 p v x10 x11 D)(u:Value):FbS w0 (w.setCell ⟨b,6,none⟩ u) b x0 x1 x2 x3 x4 x5 u x7 p v x10 x11 D:=
 ⟨h.1,(iB h 6 u).1,h.2.2.1,(iB h 6 u).2.1,(iB h 6 u).2.2,h.2.2.2.2.2⟩
theorem FbS.put7(h:FbS w0 w b x0 x1 x2 x3 x4 x5 x6 x7 p v x10 x11 D)(u:Value):FbS w0 (w.setCell ⟨b,7,none⟩ u) b x0 x1 x2 x3 x4 x5 x6 u p v x10 x11 D:=
 ⟨h.1,(iB h 7 u).1,h.2.2.1,(iB h 7 u).2.1,(iB h 7 u).2.2,h.2.2.2.2.2⟩
theorem FbS.put10(h:FbS w0 w b x0 x1 x2 x3 x4 x5 x6 x7 p v x10 x11 D)(u:Value):FbS w0 (w.setCell ⟨b,10,none⟩ u) b x0 x1 x2 x3 x4 x5 x6 x7 p v u x11 D:=
 ⟨h.1,(iB h 10 u).1,h.2.2.1,(iB h 10 u).2.1,(iB h 10 u).2.2,h.2.2.2.2.2⟩
theorem FbS.put11(h:FbS w0 w b x0 x1 x2 x3 x4 x5 x6 x7 p v x10 x11 D)(u:Value):FbS w0 (w.setCell ⟨b,11,none⟩ u) b x0 x1 x2 x3 x4 x5 x6 x7 p v x10 u D:=
 ⟨h.1,(iB h 11 u).1,h.2.2.1,(iB h 11 u).2.1,(iB h 11 u).2.2,h.2.2.2.2.2⟩
end
def FlS(w0 w:World)(b:Nat)(a h d c l:Int)(P T D:List UInt8)(tr idat:Bool)(last:List UInt8):Prop:=
 ∃p v,FbS w0 w b (.int .i64 a) (.int .i64 h) (.int .i64 d) (.int .i64 c) (.int .i64 l) (.string (strL P)) (.string (strL T)) (.bool tr) p v (.bool idat) (.string (strL last)) D
theorem DF{P:List UInt8}(h:P=[]):(strL P).toList=[]∧((strL P).toList==[])=true∧(strL P).toList.isEmpty=true∧(!((strL P).toList==[]))=false:=by
 have e:(strL P).toList=[]:=(sa P).2 h;rw[e];exact⟨rfl,rfl,rfl,rfl⟩
theorem IR{P:List UInt8}(h:¬P=[]):¬(strL P).toList=[]∧((strL P).toList==[])=false∧(strL P).toList.isEmpty=false∧(!((strL P).toList==[]))=true:=by
 have e:¬(strL P).toList=[]:=fun h2=>h ((sa P).1 h2);refine⟨e,by simpa using e,by simpa using e,by simpa using e⟩
section
variable {w0 w:World} {b:Nat} {a h d c l:Int} {P T D:List UInt8} {tr idat:Bool} {last:List UInt8}
def palR(d c:Int)(P:List UInt8)(tr idat:Bool)(data:List UInt8):Int×List UInt8:=if ¬P=[]∨tr=true∨idat=true then(23,P)else if sS d c data.length then(25,P)else(0,data)
theorem Cb(data:List UInt8)(hF:FlS w0 w b a h d c l P T D tr idat last)(hdep:c=3→d=1∨d=2∨d=4∨d=8)(hm:data.length≤1000000000):
 Calls prog 135 #[.pointer b,strL data] w fun e w'=>e=.returned (.int .i64 (palR d c P tr idat data).1)∧FlS w0 w' b a h d c l (palR d c P tr idat data).2 T D tr idat last∧Kp b w w':=by
 obtain⟨p,v,hf⟩:=hF;obtain⟨r,hr⟩:=E1 (palR d c P tr idat data);rw[←hr];have hI:=hf.2.2.2.1;have c5:=hI.cell 5;have c7:=hI.cell 7;have c10:=hI.cell 10;have HF:=qhz hf;have HR:=qhz hr;have HK:=qhz (Kp.refl b w);have HI:=qhz hI;have HDEP:=qhz hdep;have HM:=qhz hm;clear hf hr hI hdep hm
 by_cases hP:P=[]
 rotate_left
 ·have HE:=qhz (show r=(23,P)by rw[HR.out];unfold palR;rw[if_pos (.inl hP)]);obtain⟨e1,e2,e3,e4⟩:=IR hP;obtain⟨S,hS⟩:=E1 (strL P);rw[←hS]at e1 e2 e3 e4 c5;clear hS hP
  go_enter func135,ntmps135
  go_wp2;go_ret;exact⟨by rw[HE.out];rfl,by rw[HE.out];exact⟨_,_,HF.out⟩,HK.out⟩
 obtain⟨e1,e2,e3,e4⟩:=DF hP;cases tr
 rotate_left
 ·have HE:=qhz (show r=(23,P)by rw[HR.out];unfold palR;rw[if_pos (.inr (.inl rfl))]);obtain⟨S,hS⟩:=E1 (strL P);rw[←hS]at e1 e2 e3 e4 c5;clear hS hP
  go_enter func135,ntmps135
  go_wp2;go_ret;exact⟨by rw[HE.out];rfl,by rw[HE.out];exact⟨_,_,HF.out⟩,HK.out⟩
 cases idat
 rotate_left
 ·have HE:=qhz (show r=(23,P)by rw[HR.out];unfold palR;rw[if_pos (.inr (.inr rfl))]);obtain⟨S,hS⟩:=E1 (strL P);rw[←hS]at e1 e2 e3 e4 c5;clear hS hP
  go_enter func135,ntmps135
  go_wp2;go_ret;exact⟨by rw[HE.out];rfl,by rw[HE.out];exact⟨_,_,HF.out⟩,HK.out⟩
 have hsz:(strL data).size=data.length:=ac data;obtain⟨c0,c1,c2,c3,c4,_⟩:=HI.out.c5;have hp:=fun W=>NG W (a:=a) (b:=h) (d:=d) (c:=c) (l:=l) (m:=data.length) HDEP.out (by have:=HM.out;omega);have hcl:=fun W=>pN W (s:=strL data) (by rw[ac];have:=HM.out;omega);obtain⟨z,hz⟩:=E1 data.length;have HZ:=qhz hz;rw[←hz]at hsz;simp only[←hz]at hp;obtain⟨X,hX⟩:=E1 (strL data);simp only[←hX]at hcl;rw[←hX]at hsz;rw[←hX];have HX:=qhz hX;have HP:=qhz hP;obtain⟨S,hS⟩:=E1 (strL P);rw[←hS]at e1 e2 e3 e4 c5;clear hS hP hz hX
 by_cases hbad:sS d c z
 ·have HE:=qhz (show r=(25,P)by rw[HR.out];unfold palR;rw[if_neg (by rw[HP.out];simp),if_pos (by rw[←HZ.out];exact hbad)]);simp only[hbad,not_true_eq_false,decide_false]at hp;have HPF:=qhz hp;clear hp hbad hcl
  go_enter func135,ntmps135
  go_wp2_with (go_at_call 171;refine(HPF.out _).mono ?_;rintro e w1 ⟨rfl,hB⟩;have HB:=qhz hB;clear hB)
  go_ret;exact⟨by rw[HE.out];rfl,by rw[HE.out];exact⟨_,_,HF.out.but HB.out⟩,HK.out.but HB.out⟩
 ·have HE:=qhz (show r=(0,data)by rw[HR.out];unfold palR;rw[if_neg (by rw[HP.out];simp),if_neg (by rw[←HZ.out];exact hbad)]);simp only[hbad,not_false_eq_true,decide_true]at hp;have HPF:=qhz hp;have HCL:=qhz hcl;clear hp hbad hcl
  go_enter func135,ntmps135
  go_wp2_with (go_at_call 171;refine(HPF.out _).mono ?_;rintro e w1 ⟨rfl,hB⟩;have HB:=qhz hB;clear hB)
  refine(HCL.out _).mono ?_;rintro e w2 ⟨rfl,hB2⟩;have hf2:=(HF.out.but HB.out).but hB2;have HK2:=qhz ((HK.out.but HB.out).but hB2);have f5:=hf2.2.2.2.1.free 5;have k5:=hf2.2.2.2.1.cell 5;have HF2:=qhz hf2;clear hB2 hf2;go_wp2;go_ret;exact⟨by rw[HE.out];rfl,by rw[HE.out,HX.out];exact⟨_,_,HF2.out.put5 _⟩,HK2.out.set 5 _⟩
def trR(c:Int)(P T:List UInt8)(tr idat:Bool)(data:List UInt8):Int×List UInt8×Bool:=if tr=true∨idat=true∨c=3∧P=[]then(23,T,tr)else if mL c P data.length then(26,T,tr)else(0,data,true)
theorem F6(data:List UInt8)(hF:FlS w0 w b a h d c l P T D tr idat last)(hc:c=0∨c=2∨c=3∨c=4∨c=6)(hm:data.length≤1000000000)(hPl:P.length≤768):
 Calls prog 136 #[.pointer b,strL data] w fun e w'=>e=.returned (.int .i64 (trR c P T tr idat data).1)∧FlS w0 w' b a h d c l P (trR c P T tr idat data).2.1 D (trR c P T tr idat data).2.2 idat last∧Kp b w w':=by
 obtain⟨p,v,hf⟩:=hF;obtain⟨r,hr⟩:=E1 (trR c P T tr idat data);rw[←hr];have hI:=hf.2.2.2.1;have c7:=hI.cell 7;have c10:=hI.cell 10;have HF:=qhz hf;have HR:=qhz hr;have HK:=qhz (Kp.refl b w);have HI:=qhz hI;have HC:=qhz hc;have HM:=qhz hm;have HPL:=qhz hPl;clear hf hr hI hc hm hPl;cases tr
 rotate_left
 ·have HE:=qhz (show r=(23,T,true)by rw[HR.out];unfold trR;rw[if_pos (.inl rfl)])
  go_enter func136,ntmps136
  go_wp2;go_ret;exact⟨by rw[HE.out];rfl,by rw[HE.out];exact⟨_,_,HF.out⟩,HK.out⟩
 cases idat
 rotate_left
 ·have HE:=qhz (show r=(23,T,false)by rw[HR.out];unfold trR;rw[if_pos (.inr (.inl rfl))])
  go_enter func136,ntmps136
  go_wp2;go_ret;exact⟨by rw[HE.out];rfl,by rw[HE.out];exact⟨_,_,HF.out⟩,HK.out⟩
 have hl:=vf w (b:=b) (c:=c) (P:=P) (HI.out.cell 3) (HI.out.cell 5)
 by_cases hlk:c=3∧P=[]
 ·have HE:=qhz (show r=(23,T,false)by rw[HR.out];unfold trR;rw[if_pos (.inr (.inr hlk))]);rw[decide_eq_true hlk]at hl;have HL:=qhz hl;clear hl hlk
  go_enter func136,ntmps136
  go_wp2_with (go_at_call 172;refine HL.out.mono ?_;rintro e w1 ⟨rfl,hw⟩;subst hw)
  go_ret;exact⟨by rw[HE.out];rfl,by rw[HE.out];exact⟨_,_,HF.out⟩,HK.out⟩
 rw[decide_eq_false hlk]at hl;have HL:=qhz hl;have HLK:=qhz hlk;clear hl hlk;have hsz:(strL data).size=data.length:=ac data;obtain⟨c0,c1,c2,c3,c4,c5,c6,_⟩:=HI.out.c7;have hp:=fun W=>Qp W (a:=a) (b:=h) (d:=d) (c:=c) (l:=l) (P:=P) (T:=T) (tr:=false) (m:=data.length) HC.out (by have:=HM.out;omega) HPL.out;have hcl:=fun W=>pN W (s:=strL data) (by rw[ac];have:=HM.out;omega);obtain⟨z,hz⟩:=E1 data.length;have HZ:=qhz hz;rw[←hz]at hsz;simp only[←hz]at hp;obtain⟨X,hX⟩:=E1 (strL data);simp only[←hX]at hcl;rw[←hX]at hsz;rw[←hX];have HX:=qhz hX;obtain⟨S,hS⟩:=E1 (strL P);rw[←hS]at c5;simp only[←hS]at hp;obtain⟨U,hU⟩:=E1 (strL T);rw[←hU]at c6;simp only[←hU]at hp;clear hS hz hX hU
 by_cases hbad:mL c P z
 ·have HE:=qhz (show r=(26,T,false)by rw[HR.out];unfold trR;rw[if_neg (by rintro(h|h|h);cases h;cases h;exact HLK.out h),if_pos (by rw[←HZ.out];exact hbad)]);simp only[hbad,not_true_eq_false,decide_false]at hp;have HPF:=qhz hp;clear hp hbad hcl
  go_enter func136,ntmps136
  go_wp2_with (first|(go_at_call 172;refine HL.out.mono ?_;rintro e w1 ⟨rfl,hw⟩;subst hw)|(go_at_call 173;refine(HPF.out _).mono ?_;rintro e w1 ⟨rfl,hB⟩;have HB:=qhz hB;clear hB))
  go_ret;exact⟨by rw[HE.out];rfl,by rw[HE.out];exact⟨_,_,HF.out.but HB.out⟩,HK.out.but HB.out⟩
 ·have HE:=qhz (show r=(0,data,true)by rw[HR.out];unfold trR;rw[if_neg (by rintro(h|h|h);cases h;cases h;exact HLK.out h),if_neg (by rw[←HZ.out];exact hbad)]);simp only[hbad,not_false_eq_true,decide_true]at hp;have HPF:=qhz hp;have HCL:=qhz hcl;clear hp hbad hcl
  go_enter func136,ntmps136
  go_wp2_with (first|(go_at_call 172;refine HL.out.mono ?_;rintro e w1 ⟨rfl,hw⟩;subst hw)|(go_at_call 173;refine(HPF.out _).mono ?_;rintro e w1 ⟨rfl,hB⟩;have HB:=qhz hB;clear hB))
  refine(HCL.out _).mono ?_;rintro e w2 ⟨rfl,hB2⟩;have hf2:=(HF.out.but HB.out).but hB2;have HK2:=qhz ((HK.out.but HB.out).but hB2);have f6:=hf2.2.2.2.1.free 6;have k6:=hf2.2.2.2.1.cell 6;have f7:=hf2.2.2.2.1.free 7;have k7:=hf2.2.2.2.1.cell 7;have HF2:=qhz hf2;clear hB2 hf2;go_wp2;go_ret;exact⟨by rw[HE.out];rfl,by rw[HE.out,HX.out];exact⟨_,_,(HF2.out.put6 _).put7 _⟩,(HK2.out.set 6 _).set 7 _⟩
def datR(c:Int)(P D:List UInt8)(idat:Bool)(last data:List UInt8):Int×List UInt8×Bool:=if c=3∧P=[]∨idat=true∧last≠bo then(23,D,idat)else(0,D++data,true)
theorem Cc(data:List UInt8)(hF:FlS w0 w b a h d c l P T D tr idat last)(hm:D.length+data.length≤1000000000):
 Calls prog 137 #[.pointer b,strL data] w fun e w'=>e=.returned (.int .i64 (datR c P D idat last data).1)∧FlS w0 w' b a h d c l P T (datR c P D idat last data).2.1 tr (datR c P D idat last data).2.2 last∧Kp b w w':=by
 obtain⟨p,v,hf⟩:=hF;obtain⟨r,hr⟩:=E1 (datR c P D idat last data);rw[←hr];have hI:=hf.2.2.2.1;have c10:=hI.cell 10;have c11:=hI.cell 11;have hl:=vf w (b:=b) (c:=c) (P:=P) (hI.cell 3) (hI.cell 5);have hput:=OO data hf (by omega);have HF:=qhz hf;have HR:=qhz hr;have HK:=qhz (Kp.refl b w);clear hf hr hI hm
 by_cases hlk:c=3∧P=[]
 ·have HE:=qhz (show r=(23,D,idat)by rw[HR.out];unfold datR;rw[if_pos (.inl hlk)]);rw[decide_eq_true hlk]at hl;have HL:=qhz hl;clear hl hlk hput
  go_enter func137,ntmps137
  go_wp2_with (go_at_call 172;refine HL.out.mono ?_;rintro e w1 ⟨rfl,hw⟩;subst hw)
  go_ret;exact⟨by rw[HE.out];rfl,by rw[HE.out];exact⟨_,_,HF.out⟩,HK.out⟩
 rw[decide_eq_false hlk]at hl;have HL:=qhz hl;have HLK:=qhz hlk;clear hl hlk;have fin:∀(hn:¬(idat=true∧last≠bo)),r=(0,D++data,true):=fun hn=>by rw[HR.out];unfold datR;rw[if_neg (by rintro(h|h);exact HLK.out h;exact hn h)]
 have HPUT:=qhz hput;have HFIN:=qhz fin;clear hput fin;obtain⟨X,hX⟩:=E1 (strL data);rw[←hX]at HPUT⊢;clear hX;obtain⟨S,hS⟩:=E1 (strL last);rw[←hS]at c11;cases idat
 ·have HE:=qhz (HFIN.out (by simp));clear hS
  go_enter func137,ntmps137
  go_wp2_with (go_at_call 172;refine HL.out.mono ?_;rintro e w1 ⟨rfl,hw⟩;subst hw)
  refine HPUT.out.mono ?_;rintro e w2 ⟨rfl,v2,hf2,hk2⟩;have f10:=hf2.2.2.2.1.free 10;have k10:=hf2.2.2.2.1.cell 10;have HF2:=qhz hf2;have HK2:=qhz hk2;clear hf2 hk2;go_wp2;go_ret;exact⟨by rw[HE.out];rfl,by rw[HE.out];exact⟨_,_,HF2.out.put10 _⟩,HK2.out.set 10 _⟩
 ·by_cases hla:last=bo
  ·have HE:=qhz (HFIN.out (fun h=>h.2 hla));have e1:S.toList=[73,68,65,84]:=by rw[hS];exact r9 hla
   have e2:(S.toList==[73,68,65,84])=true:=by rw[e1];rfl
   have e4:(!(S.toList==[73,68,65,84]))=false:=by rw[e2];rfl
   clear hS hla
   go_enter func137,ntmps137
   go_wp2_with (go_at_call 172;refine HL.out.mono ?_;rintro e w1 ⟨rfl,hw⟩;subst hw)
   refine HPUT.out.mono ?_;rintro e w2 ⟨rfl,v2,hf2,hk2⟩;have f10:=hf2.2.2.2.1.free 10;have k10:=hf2.2.2.2.1.cell 10;have HF2:=qhz hf2;have HK2:=qhz hk2;clear hf2 hk2;go_wp2;go_ret;exact⟨by rw[HE.out];rfl,by rw[HE.out];exact⟨_,_,HF2.out.put10 _⟩,HK2.out.set 10 _⟩
  ·have HE:=qhz (show r=(23,D,true)by rw[HR.out];unfold datR;rw[if_pos (.inr ⟨rfl,hla⟩)]);have e0:=r7 hla;rw[←hS]at e0;obtain⟨e1,e2⟩:¬S.toList=[73,68,65,84]∧(S.toList==[73,68,65,84])=false:=e0;have e4:(!(S.toList==[73,68,65,84]))=true:=by rw[e2];rfl
   clear hS hla
   go_enter func137,ntmps137
   go_wp2_with (go_at_call 172;refine HL.out.mono ?_;rintro e w1 ⟨rfl,hw⟩;subst hw)
   go_ret;exact⟨by rw[HE.out];rfl,by rw[HE.out];exact⟨_,_,HF.out⟩,HK.out⟩
def endR(idat:Bool)(data:List UInt8)(n:Nat):Int:=if data.length≠0 then 21 else if idat=false then 23 else if n≠0 then 4 else 0
theorem NM(data:List UInt8)(n:Nat)(hc:w.cell? ⟨b,10,none⟩=some (.bool idat)):
 Calls prog 87 #[.pointer b,strL data,n] w fun e w'=>e=.returned (.int .i64 (endR idat data n))∧w=w':=by
 obtain⟨r,hr⟩:=E1 (endR idat data n);rw[←hr];have HR:=qhz hr;clear hr
 by_cases hd:data=[]
 rotate_left
 ·have HE:=qhz (show r=21 by rw[HR.out];unfold endR;rw[if_pos (fun h=>hd (List.eq_nil_of_length_eq_zero h))]);obtain⟨e1,e2,e3,e4⟩:=IR hd;obtain⟨S,hS⟩:=E1 (strL data);rw[←hS]at e1 e2 e3 e4⊢;clear hS hd
  go_enter func87,ntmps87
  go_wp2;go_ret;exact⟨by rw[HE.out];rfl,rfl⟩
 have hd0:¬data.length≠0:=by rw[hd];simp
 obtain⟨e1,e2,e3,e4⟩:=DF hd;obtain⟨S,hS⟩:=E1 (strL data);rw[←hS]at e1 e2 e3 e4⊢;clear hS hd;cases idat
 ·have HE:=qhz (show r=23 by rw[HR.out];unfold endR;rw[if_neg hd0,if_pos rfl]);clear hd0
  go_enter func87,ntmps87
  go_wp2;go_ret;exact⟨by rw[HE.out];rfl,rfl⟩
 ·by_cases hn:n=0
  ·have HE:=qhz (show r=0 by rw[HR.out];unfold endR;rw[if_neg hd0,if_neg (by simp),if_neg (fun h=>h hn)]);have dn:((n:Int) !=0)=false:=by simp;omega
   clear hd0 hn
   go_enter func87,ntmps87
   go_wp2;go_ret;exact⟨by rw[HE.out];rfl,rfl⟩
  ·have HE:=qhz (show r=4 by rw[HR.out];unfold endR;rw[if_neg hd0,if_neg (by simp),if_pos hn]);have dn:((n:Int) !=0)=true:=by simp;omega
   clear hd0 hn
   go_enter func87,ntmps87
   go_wp2;go_ret;exact⟨by rw[HE.out];rfl,rfl⟩
end
end
section
structure OkS(s:HS)(last:List UInt8):Prop where
 pal:s.pal=true↔¬s.P=[]
 gap:s.gap=true↔s.idat=true∧last≠bo
 len:s.P.length≤768
theorem zI:OkS hs0 []:=⟨by simp[hs0],by simp[hs0],by simp[hs0]⟩
theorem e23:¬(23:Int)=0:=by decide
theorem e25:¬(25:Int)=0:=by decide
theorem e26:¬(26:Int)=0:=by decide
theorem e27:¬(27:Int)=0:=by decide
def uC(x:HS×Option Int)(P T D:List UInt8)(tr idat:Bool)(t:List UInt8)(er:Int):Prop:=
 x.1.P=P∧x.1.T=T∧x.1.D=D∧x.1.trans=tr∧x.1.idat=idat∧x.2=(if er=0 then none else some er)∧(er=0→OkS x.1 t)
section
variable {d c:Int} {e:Bool} {s:HS} {last data:List UInt8}
theorem Nl:uC (ci d c e (fp,data) s) s.P s.T s.D s.trans s.idat fp 23:=by
 unfold ci;rw[if_pos (by rfl)];exact⟨rfl,rfl,rfl,rfl,rfl,rfl,fun h=>absurd h e23⟩
theorem IY(hok:OkS s last):uC (ci d c e (r5,data) s) (palR d c s.P s.trans s.idat data).2 s.T s.D s.trans s.idat r5 (palR d c s.P s.trans s.idat data).1:=by
 unfold ci palR;rw[if_neg (show ¬r5=fp by decide),if_pos (by rfl)]
 by_cases h1:¬s.P=[]∨s.trans=true∨s.idat=true
 ·rw[if_pos h1,if_pos (by rcases h1 with h|h;exact .inl (hok.pal.2 h);exact .inr h)];exact⟨rfl,rfl,rfl,rfl,rfl,rfl,fun h=>absurd h e23⟩
 ·rw[if_neg h1,if_neg (by intro h;apply h1;rcases h with h|h;exact .inl (hok.pal.1 h);exact .inr h)]
  by_cases h2:sS d c data.length
  ·rw[if_pos h2,if_pos (by exact h2)];exact⟨rfl,rfl,rfl,rfl,rfl,rfl,fun h=>absurd h e25⟩
  ·rw[if_neg h2,if_neg (by exact h2)];have h3:¬data.length<3:=fun h=>h2 (.inr (.inr (.inr (.inl h))));have h4:¬768<data.length:=fun h=>h2 (.inr (.inr (.inr (.inr (.inl h)))));refine⟨rfl,rfl,rfl,rfl,rfl,rfl,fun _=>⟨?_,?_,?_⟩⟩
   ·simp only[true_iff];intro h;rw[h]at h3;simp at h3
   ·simp only[];exact⟨fun h=>⟨h,by decide⟩,fun h=>h.1⟩
   ·simp only[];omega
theorem Nk(hok:OkS s last):uC (ci d c e (rZ,data) s) s.P (trR c s.P s.T s.trans s.idat data).2.1 s.D (trR c s.P s.T s.trans s.idat data).2.2 s.idat rZ (trR c s.P s.T s.trans s.idat data).1:=by
 unfold ci trR;rw[if_neg (show ¬rZ=fp by decide),if_neg (show ¬rZ=r5 by decide),if_pos (by rfl)];have hp:s.pal=false↔s.P=[]:=by
  have:=hok.pal;cases hx:s.pal
  ·rw[hx]at this;simp only[Bool.false_eq_true,false_iff]at this;simpa using this
  ·rw[hx]at this;simp only[true_iff]at this;simpa using this
 by_cases h1:s.trans=true∨s.idat=true∨c=3∧s.P=[]
 ·rw[if_pos h1,if_pos (by rcases h1 with h|h|h;exact .inl h;exact .inr (.inl h);exact .inr (.inr ⟨h.1,hp.2 h.2⟩))];exact⟨rfl,rfl,rfl,rfl,rfl,rfl,fun h=>absurd h e23⟩
 ·rw[if_neg h1,if_neg (by intro h;apply h1;rcases h with h|h|h;exact .inl h;exact .inr (.inl h);exact .inr (.inr ⟨h.1,hp.1 h.2⟩))]
  by_cases h2:mL c s.P data.length
  ·rw[if_pos h2,if_pos (by exact h2)];exact⟨rfl,rfl,rfl,rfl,rfl,rfl,fun h=>absurd h e26⟩
  ·rw[if_neg h2,if_neg (by exact h2)];refine⟨rfl,rfl,rfl,rfl,rfl,rfl,fun _=>⟨hok.pal,?_,hok.len⟩⟩;simp only[];exact⟨fun h=>⟨h,by decide⟩,fun h=>h.1⟩
theorem I1(hok:OkS s last):uC (ci d c e (bo,data) s) s.P s.T (datR c s.P s.D s.idat last data).2.1 s.trans (datR c s.P s.D s.idat last data).2.2 bo (datR c s.P s.D s.idat last data).1:=by
 unfold ci datR;rw[if_neg (show ¬bo=fp by decide),if_neg (show ¬bo=r5 by decide),if_neg (show ¬bo=rZ by decide),if_pos (by rfl)];have hp:s.pal=false↔s.P=[]:=by
  have:=hok.pal;cases hx:s.pal
  ·rw[hx]at this;simp only[Bool.false_eq_true,false_iff]at this;simpa using this
  ·rw[hx]at this;simp only[true_iff]at this;simpa using this
 by_cases h1:c=3∧s.P=[]∨s.idat=true∧last≠bo
 ·rw[if_pos h1,if_pos (by rcases h1 with h|h;exact .inl ⟨h.1,hp.2 h.2⟩;exact .inr (hok.gap.2 h))];exact⟨rfl,rfl,rfl,rfl,rfl,rfl,fun h=>absurd h e23⟩
 ·rw[if_neg h1];have h2:¬(c=3∧s.pal=false∨s.gap=true):=by intro h;apply h1;rcases h with h|h;exact .inl ⟨h.1,hp.1 h.2⟩;exact .inr (hok.gap.1 h)
  rw[if_neg h2];refine⟨rfl,rfl,rfl,rfl,rfl,rfl,fun _=>⟨hok.pal,?_,hok.len⟩⟩;simp only[];exact⟨fun h=>absurd (.inr h) h2,fun h=>absurd rfl h.2⟩
theorem IZ{t:List UInt8}(hok:OkS s last)(n1:¬t=fp)(n2:¬t=r5)(n3:¬t=rZ)(n4:¬t=bo)(n5:¬t=cf):uC (ci d c e (t,data) s) s.P s.T s.D s.trans s.idat t (if AI t=true then 27 else 0):=by
 unfold ci;rw[if_neg n1,if_neg n2,if_neg n3,if_neg n4,if_neg n5]
 by_cases h:AI t=true
 ·rw[if_pos h,if_pos h];exact⟨rfl,rfl,rfl,rfl,rfl,rfl,fun h=>absurd h e27⟩
 ·rw[if_neg h,if_neg h];refine⟨rfl,rfl,rfl,rfl,rfl,rfl,fun _=>⟨hok.pal,?_,hok.len⟩⟩;simp only[];exact⟨fun h=>⟨h,n4⟩,fun h=>h.1⟩
end
attribute [local irreducible] strL
theorem FlS.but{w0 w w':World}{b:Nat}{a h d c l:Int}{P T D:List UInt8}{tr idat:Bool}{last:List UInt8}(hf:FlS w0 w b a h d c l P T D tr idat last)(k:But [] w w'):FlS w0 w' b a h d c l P T D tr idat last:=by
 obtain⟨p,v,f⟩:=hf;exact⟨p,v,f.but k⟩
def GotA(w0 w:World)(b:Nat)(a h d c l:Int)(x:HS×Option Int)(last t:List UInt8)(e:Ending)(w':World):Prop:=
 ∃er:Int,e=.returned (.int .i64 er)∧FlS w0 w' b a h d c l x.1.P x.1.T x.1.D x.1.trans x.1.idat last∧Kp b w w'∧x.2=(if er=0 then none else some er)∧(er=0→OkS x.1 t)
theorem GotA.of{w0 w w':World}{b:Nat}{a h d c l er:Int}{x:HS×Option Int}{P T D last t:List UInt8}{tr idat:Bool}(hx:uC x P T D tr idat t er)(hf:FlS w0 w' b a h d c l P T D tr idat last)(hk:Kp b w w'):GotA w0 w b a h d c l x last t (.returned (.int .i64 er)) w':=by
 obtain⟨e1,e2,e3,e4,e5,e6,e7⟩:=hx;exact⟨er,rfl,by rw[e1,e2,e3,e4,e5];exact hf,hk,e6,e7⟩
theorem NU{w0 w:World}{b:Nat}{a h d c l:Int}{s:HS}{last:List UInt8}(e:Bool)(t data:List UInt8)(hF:FlS w0 w b a h d c l s.P s.T s.D s.trans s.idat last)(hok:OkS s last)(ht:¬t=cf)
 (hc:c=0∨c=2∨c=3∨c=4∨c=6) (hdep:c=3→d=1∨d=2∨d=4∨d=8) (hm:s.D.length+data.length≤1000000000) (htl:t.length≤140737488351232):
 Calls prog 88 #[.pointer b,.agg #[strL t,strL data]] w (GotA w0 w b a h d c l (ci d c e (t,data) s) last t):=by
 have hI:=Is.fresh w 42 #[strL t,strL data];have hB:=(But.refl [] w).alloc (.cells #[strL t,strL data] 42);obtain⟨c0,c1,_⟩:=hI.c2;have hF1:=hF.but hB;have HK:=qhz ((Kp.refl b w).but hB);have HF1:=qhz hF1;have hpal:=Cb data hF1 hdep (by omega);have htr:=F6 data hF1 hc (by omega) hok.len;have hdat:=Cc data hF1 hm;have hcr:=fun W=>Kn W (s:=strL t) (by rw[ac];exact htl);simp only[aj]at hcr;obtain⟨X,hX⟩:=E1 (strL data);have HOK:=qhz hok
 by_cases t1:t=fp
 ·have HC:=qhz (show uC (ci d c e (t,data) s) s.P s.T s.D s.trans s.idat t 23 by rw[t1];exact Nl);have e1:(strL t).toList=[73,72,68,82]:=r9 t1;have e2:((strL t).toList==[73,72,68,82])=true:=by rw[e1];rfl
  rw[←hX]at c0 c1 HK HF1⊢;obtain⟨S,hS⟩:=E1 (strL t);rw[←hS]at e1 e2 c0 c1 HK HF1⊢;clear hI hB hF hF1 hpal htr hdat hcr hX hS hok ht hc hdep hm htl t1
  go_enter func88,ntmps88
  go_wp2;go_ret;exact GotA.of HC.out HF1.out HK.out
 have n1:=r7 t1
 by_cases t2:t=r5
 ·have HC:=qhz (show uC (ci d c e (t,data) s) (palR d c s.P s.trans s.idat data).2 s.T s.D s.trans s.idat t (palR d c s.P s.trans s.idat data).1 by rw[t2];exact IY hok);have e1:(strL t).toList=[80,76,84,69]:=r9 t2;have e2:((strL t).toList==[80,76,84,69])=true:=by rw[e1];rfl
  rw[←hX]at c0 c1 HK hpal⊢;obtain⟨S,hS⟩:=E1 (strL t);rw[←hS]at e1 e2 c0 c1 HK hpal n1⊢;obtain⟨f1,f2⟩:¬S.toList=[73,72,68,82]∧(S.toList==[73,72,68,82])=false:=n1;have HP:=qhz hpal;clear hI hB hF hF1 HF1 hpal htr hdat hcr hX hS hok ht hc hdep hm htl t1 t2
  go_enter func88,ntmps88
  go_wp2_with fail
  refine HP.out.mono ?_;rintro e w2 ⟨rfl,hf,hk⟩;have HF2:=qhz hf;have HK2:=qhz hk;clear hf hk;go_wp2;go_ret;exact GotA.of HC.out HF2.out (HK.out.trans HK2.out)
 have n2:=r7 t2
 by_cases t3:t=rZ
 ·have HC:=qhz (show uC (ci d c e (t,data) s) s.P (trR c s.P s.T s.trans s.idat data).2.1 s.D (trR c s.P s.T s.trans s.idat data).2.2 s.idat t (trR c s.P s.T s.trans s.idat data).1 by rw[t3];exact Nk hok);have e1:(strL t).toList=[116,82,78,83]:=r9 t3;have e2:((strL t).toList==[116,82,78,83])=true:=by rw[e1];rfl
  rw[←hX]at c0 c1 HK htr⊢;obtain⟨S,hS⟩:=E1 (strL t);rw[←hS]at e1 e2 c0 c1 HK htr n1 n2⊢;obtain⟨f1,f2⟩:¬S.toList=[73,72,68,82]∧(S.toList==[73,72,68,82])=false:=n1;obtain⟨f3,f4⟩:¬S.toList=[80,76,84,69]∧(S.toList==[80,76,84,69])=false:=n2;have HP:=qhz htr;clear hI hB hF hF1 HF1 hpal htr hdat hcr hX hS hok ht hc hdep hm htl t1 t2 t3
  go_enter func88,ntmps88
  go_wp2_with fail
  refine HP.out.mono ?_;rintro e w2 ⟨rfl,hf,hk⟩;have HF2:=qhz hf;have HK2:=qhz hk;clear hf hk;go_wp2;go_ret;exact GotA.of HC.out HF2.out (HK.out.trans HK2.out)
 have n3:=r7 t3
 by_cases t4:t=bo
 ·have HC:=qhz (show uC (ci d c e (t,data) s) s.P s.T (datR c s.P s.D s.idat last data).2.1 s.trans (datR c s.P s.D s.idat last data).2.2 t (datR c s.P s.D s.idat last data).1 by rw[t4];exact I1 hok);have e1:(strL t).toList=[73,68,65,84]:=r9 t4;have e2:((strL t).toList==[73,68,65,84])=true:=by rw[e1];rfl
  rw[←hX]at c0 c1 HK hdat⊢;obtain⟨S,hS⟩:=E1 (strL t);rw[←hS]at e1 e2 c0 c1 HK hdat n1 n2 n3⊢;obtain⟨f1,f2⟩:¬S.toList=[73,72,68,82]∧(S.toList==[73,72,68,82])=false:=n1;obtain⟨f3,f4⟩:¬S.toList=[80,76,84,69]∧(S.toList==[80,76,84,69])=false:=n2;obtain⟨f5,f6⟩:¬S.toList=[116,82,78,83]∧(S.toList==[116,82,78,83])=false:=n3;have HP:=qhz hdat;clear hI hB hF hF1 HF1 hpal htr hdat hcr hX hS hok ht hc hdep hm htl t1 t2 t3 t4
  go_enter func88,ntmps88
  go_wp2_with fail
  refine HP.out.mono ?_;rintro e w2 ⟨rfl,hf,hk⟩;have HF2:=qhz hf;have HK2:=qhz hk;clear hf hk;go_wp2;go_ret;exact GotA.of HC.out HF2.out (HK.out.trans HK2.out)
 have n4:=r7 t4;have HC:=qhz (IZ (d:=d) (c:=c) (e:=e) (data:=data) hok t1 t2 t3 t4 ht);rw[←hX]at c0 c1 HK HF1⊢;obtain⟨S,hS⟩:=E1 (strL t);rw[←hS]at c0 c1 HK HF1 n1 n2 n3 n4⊢;simp only[←hS]at hcr;obtain⟨f1,f2⟩:¬S.toList=[73,72,68,82]∧(S.toList==[73,72,68,82])=false:=n1;obtain⟨f3,f4⟩:¬S.toList=[80,76,84,69]∧(S.toList==[80,76,84,69])=false:=n2;obtain⟨f5,f6⟩:¬S.toList=[116,82,78,83]∧(S.toList==[116,82,78,83])=false:=n3;obtain⟨f7,f8⟩:¬S.toList=[73,68,65,84]∧(S.toList==[73,68,65,84])=false:=n4
 by_cases hcrit:AI t=true
 ·rw[if_pos hcrit]at HC;simp only[hcrit]at hcr;have HCR:=qhz hcr;clear hI hB hF hF1 hpal htr hdat hcr hX hS hok ht hc hdep hm htl t1 t2 t3 t4 hcrit
  go_enter func88,ntmps88
  go_wp2_with (go_at_call 138;refine(HCR.out _).mono ?_;rintro e w1 ⟨rfl,hw⟩;subst hw)
  go_ret;exact GotA.of HC.out HF1.out HK.out
 ·rw[if_neg hcrit]at HC;simp only[show AI t=false by simpa using hcrit]at hcr;have HCR:=qhz hcr;clear hI hB hF hF1 hpal htr hdat hcr hX hS hok ht hc hdep hm htl t1 t2 t3 t4 hcrit
  go_enter func88,ntmps88
  go_wp2_with (go_at_call 138;refine(HCR.out _).mono ?_;rintro e w1 ⟨rfl,hw⟩;subst hw)
  go_ret;exact GotA.of HC.out HF1.out HK.out
end
section
theorem Rq{d c:Int}{e:Bool}{k:Ck}{s:HS}:(ci d c e k s).1.D.length≤s.D.length+k.2.length:=by
 unfold ci
 repeat' split
 all_goals simp
theorem OY{L:List Ck}{i:Nat}{k:Ck}(h:L[i]? =some k):L.drop i=k::L.drop (i+1)∧ir (L.drop i)=k.2.length+ir (L.drop (i+1)):=by
 obtain⟨hi,e⟩:=List.getElem?_eq_some_iff.1 h;have hd:L.drop i=k::L.drop (i+1):=by rw[List.drop_eq_getElem_cons hi,e]
 refine⟨hd,?_⟩;rw[hd];unfold ir;simp
theorem Ru{d c:Int}{k:Ck}{l:List Ck}{s:HS}(h:(ci d c l.isEmpty k s).2=none):runH d c (k::l) s=runH d c l (ci d c l.isEmpty k s).1:=by
 rw[DP];rcases hx:ci d c l.isEmpty k s with⟨s',o⟩
 rw[hx]at h;dsimp only at h;subst h;rfl
theorem DM{d c er:Int}{k:Ck}{l:List Ck}{s:HS}(h:(ci d c l.isEmpty k s).2=some er):runH d c (k::l) s=((ci d c l.isEmpty k s).1,er):=by
 rw[DP];rcases hx:ci d c l.isEmpty k s with⟨s',o⟩
 rw[hx]at h;dsimp only at h;subst h;rfl
theorem I0{d c:Int}{s:HS}{data:List UInt8}{l:List Ck}{n:Nat}(hn:l.length=n):ci d c l.isEmpty (cf,data) s=(s,some (endR s.idat data n)):=by
 unfold ci endR;rw[if_neg (show ¬cf=fp by decide),if_neg (show ¬cf=r5 by decide),if_neg (show ¬cf=rZ by decide),if_neg (show ¬cf=bo by decide),if_pos (by rfl)];show(if data.length≠0 then(s,some 21)else if s.idat=false then(s,some 23)else if l.isEmpty=false then(s,some 4)else(s,some 0))=(s,some (if data.length≠0 then 21 else if s.idat=false then 23 else if n≠0 then 4 else 0))
 by_cases h1:data.length≠0
 ·rw[if_pos h1,if_pos h1]
 rw[if_neg h1,if_neg h1]
 by_cases h2:s.idat=false
 ·rw[if_pos h2,if_pos h2]
 rw[if_neg h2,if_neg h2];cases l with
 |nil=>subst hn;simp
 |cons x l=>subst hn;simp
attribute [local irreducible] strL
def Sj(w0 w:World)(b:Nat)(a h d c l:Int)(R:HS×Int)(e:Ending)(w':World):Prop:=
 e=.returned (.int .i64 R.2)∧(∃last,FlS w0 w' b a h d c l R.1.P R.1.T R.1.D R.1.trans R.1.idat last)∧Kp b w w'
theorem FlS.lt{w0 w:World}{b:Nat}{a h d c l:Int}{P T D:List UInt8}{tr idat:Bool}{last:List UInt8}(hf:FlS w0 w b a h d c l P T D tr idat last):b<w.heap.size:=by
 obtain⟨p,v,f⟩:=hf;exact f.2.2.2.1.lt
theorem FlS.base{w0 w:World}{b:Nat}{a h d c l:Int}{P T D:List UInt8}{tr idat:Bool}{last:List UInt8}(hf:FlS w0 w b a h d c l P T D tr idat last):But [] w0 w:=by
 obtain⟨p,v,f⟩:=hf;exact f.2.1
theorem FlS.idat{w0 w:World}{b:Nat}{a h d c l:Int}{P T D:List UInt8}{tr idat:Bool}{last:List UInt8}(hf:FlS w0 w b a h d c l P T D tr idat last):w.cell? ⟨b,10,none⟩=some (.bool idat):=by
 obtain⟨p,v,f⟩:=hf;rw[f.2.2.2.1.cell];rfl
theorem FlS.last{w0 w:World}{b:Nat}{a h d c l:Int}{P T D:List UInt8}{tr idat:Bool}{last:List UInt8}(hf:FlS w0 w b a h d c l P T D tr idat last)(t:List UInt8):
 (∃u,w.cell? ⟨b,11,none⟩=some u)∧w.frozen? ⟨b,11,none⟩=false∧FlS w0 (w.setCell ⟨b,11,none⟩ (.string (strL t))) b a h d c l P T D tr idat t:=by
 obtain⟨p,v,f⟩:=hf;exact⟨⟨_,by rw[f.2.2.2.1.cell];rfl⟩,f.2.2.2.1.free 11,p,v,f.put11 _⟩
theorem sT{w0 w:World}{b n cap:Nat}{A:Option Addr}{a h d c l:Int}{s:HS}{last:List UInt8}{L:List Ck}(hK:Cks w0 A n L)(hF:FlS w0 w b a h d c l s.P s.T s.D s.trans s.idat last)(hok:OkS s last)
 (hc:c=0∨c=2∨c=3∨c=4∨c=6) (hdep:c=3→d=1∨d=2∨d=4∨d=8) (hL:s.D.length+ir L≤100000000) (hn:n≤8796093022208) (hs:∀(i:Nat) (k:Ck),L[i]? =some k→k.1.length≤140737488351232):
 Calls prog 49 #[.pointer b,.slice A n cap] w (Sj w0 w b a h d c l (runH d c L s)):=by
 obtain⟨R,hR⟩:=E1 (runH d c L s);rw[←hR];have HLN:=qhz hK.1;have HK:=qhz hK;have HR:=qhz hR;have HF:=qhz hF;have HOK:=qhz hok;have HC:=qhz hc;have HD:=qhz hdep;have HL:=qhz hL;have HTL:=qhz hs;clear hK hR hF hok hc hdep hL hs
 go_enter func49,ntmps49
 go_wp2
 go_loopw [10] (fun iv wr=>∃(i:Nat) (s:HS) (last:List UInt8),i≤n∧iv=.int .i64 i∧Hid (runH d c (L.drop i) s=R)∧Hid (OkS s last)∧Hid (s.D.length+ir (L.drop i)≤100000000)∧Hid (FlS w0 wr b a h d c l s.P s.T s.D s.trans s.idat last)∧Hid (Kp b w wr)) (fun iv _=>n-(intOf iv).toNat)
 case atStart=>exact⟨0,s,last,Nat.zero_le _,rfl,qhz (by rw[List.drop_zero,HR.out]),HOK,qhz (by rw[List.drop_zero];exact HL.out),HF,qhz (Kp.refl b w)⟩
 case round=>
  obtain⟨i,s,last,hi,rfl,HRR,HOK,HDL,HF,HKP⟩:=hrel
  by_cases hlt:i<n
  ·obtain⟨g,o,k,rfl,hg,hc0,hc1,hat⟩:=HK.out.at hlt;obtain⟨t,data⟩:=k;have c0:=HF.out.base.cell hc0 (by simp);have c1:=HF.out.base.cell hc1 (by simp);have k0:(0:Int)≤(i:Int):=by omega
   have k1:(i:Int)<(n:Int):=by omega
   obtain⟨hd1,hd2⟩:=OY hat;have htl:=HTL.out i _ hat;have hrr:=HRR.out;rw[hd1]at hrr;have hdl:=HDL.out;rw[hd2]at hdl;dsimp only at hdl htl;have hIb:=Is.fresh wr 42 #[strL t,strL data];have hBb:=(But.refl [] wr).alloc (.cells #[strL t,strL data] 42);have hF1:=HF.out.but hBb;have hlt1:=HF.out.lt;have HK1:=qhz (HKP.out.but hBb);have hid1:=hF1.idat;obtain⟨q0,q1,_⟩:=hIb.c2;have hlen:(L.drop (i+1)).length=n-i-1:=by rw[List.length_drop,HLN.out];omega
   by_cases ht:t=cf
   ·have hst:ci d c (L.drop (i+1)).isEmpty (t,data) s=(s,some (endR s.idat data (n-i-1))):=by rw[ht];exact I0 hlen
    have hfin:R=(s,endR s.idat data (n-i-1)):=by
     rw[←hrr,DM (by rw[hst]),hst]
    have he:=fun W (hW:W.cell? ⟨b,10,none⟩=some (.bool s.idat))=>NM (w:=W) (b:=b) (idat:=s.idat) data (n-i-1) hW;obtain⟨q,hq⟩:=E1 (n-i-1);rw[←hq]at hfin;simp only[←hq]at he;have z1:(n:Int)-(i:Int)=((q+1:Nat):Int):=by omega
    have z2:((q+1:Nat):Int)-1=(q:Int):=by omega
    have hqb:q+1≤8796093022208:=by omega
    obtain⟨m,hm⟩:=E1 (q+1);rw[←hm]at z1 z2 hqb;have e1:(strL t).toList=[73,69,78,68]:=r9 ht;have e2:((strL t).toList==[73,69,78,68])=true:=by rw[e1];rfl
    obtain⟨S,hS⟩:=E1 (strL t);rw[←hS]at e1 e2 c0 q0 q1 hF1 hid1 HK1;obtain⟨X,hX⟩:=E1 (strL data);rw[←hX]at c1 q0 q1 hF1 hid1 HK1;simp only[←hX]at he;have HFIN:=qhz hfin;have HE:=qhz (he _ hid1);have HF1:=qhz hF1;clear hst hfin he hq hm hS hX ht hlen hrr hdl htl hd1 hd2 hat hg hc0 hc1 hIb hBb hF1 hid1
    go_wp2_with fail
    refine HE.out.mono ?_;rintro e w2 ⟨rfl,rfl⟩;go_wp2;go_ret;exact⟨by rw[HFIN.out];rfl,by rw[HFIN.out];exact⟨_,HF1.out⟩,HK1.out⟩
   ·have hadd:=NU (L.drop (i+1)).isEmpty t data hF1 HOK.out ht HC.out HD.out (by omega) htl;have hsD:=Rq (d:=d) (c:=c) (e:=(L.drop (i+1)).isEmpty) (k:=(t,data)) (s:=s);dsimp only at hsD;obtain⟨e1,e2⟩:¬(strL t).toList=[73,69,78,68]∧((strL t).toList==[73,69,78,68])=false:=r7 ht;have HT:=qhz (fun(er:Int) (W:World) (hf:FlS w0 W b a h d c l (ci d c (L.drop (i+1)).isEmpty (t,data) s).1.P (ci d c (L.drop (i+1)).isEmpty (t,data) s).1.T (ci d c (L.drop (i+1)).isEmpty (t,data) s).1.D (ci d c (L.drop (i+1)).isEmpty (t,data) s).1.trans (ci d c (L.drop (i+1)).isEmpty (t,data) s).1.idat last)=>hf.last t);have HST:=qhz (fun er (hx:(ci d c (L.drop (i+1)).isEmpty (t,data) s).2=some er)=>hrr.symm.trans (DM hx));have HGO:=qhz (fun(hx:(ci d c (L.drop (i+1)).isEmpty (t,data) s).2=none)=>(Ru hx).symm.trans hrr);obtain⟨x,hx⟩:=E1 (ci d c (L.drop (i+1)).isEmpty (t,data) s);rw[←hx]at hadd hsD HT HST HGO;have HDL2:=qhz (show x.1.D.length+ir (L.drop (i+1))≤100000000 by omega);have HIB:=qhz hIb;obtain⟨S,hS⟩:=E1 (strL t);rw[←hS]at e1 e2 c0 q0 q1 hadd HK1 HT HIB;obtain⟨X,hX⟩:=E1 (strL data);rw[←hX]at c1 q0 q1 hadd HK1 HIB;have HADD:=qhz hadd;clear hadd hsD hx hS hX ht hlen hrr hdl htl hd1 hd2 hat hg hc0 hc1 hIb hBb hF1 hid1
    go_wp2_with fail
    refine HADD.out.mono ?_;rintro e w2 ⟨er,rfl,hf2,hk2,hst,hok2⟩;have hI2:=hk2 wr.heap.size 42 _ (by omega) (by decide) HIB.out;have u0:=hI2.cell 0
    by_cases her:er=0
    ·have p0:(er !=0)=false:=by simp[her]
     rw[if_pos her]at hst;obtain⟨⟨u,hu⟩,hfr,hf3⟩:=HT.out er w2 hf2;have HF3:=qhz hf3;have HOK2:=qhz (hok2 her);have HRR2:=qhz (HGO.out hst);have HK3:=qhz ((HK1.out.trans hk2).set 11 (.string S));clear hI2 hk2 hf2 hst hok2 her hf3;go_wp2
     go_roundw
     case rel=>exact⟨i+1,x.1,t,by omega,by go_num,HRR2,HOK2,HDL2,HF3,HK3⟩
     case measure=>simp[intOf];omega
    ·have p0:(er !=0)=true:=by simpa using her
     rw[if_neg her]at hst;have HFIN:=qhz (HST.out er hst);have HF2:=qhz hf2;have HK2:=qhz (HK1.out.trans hk2);clear hI2 hk2 hf2 hst hok2 her;go_wp2;go_ret;exact⟨by rw[HFIN.out];rfl,by rw[HFIN.out];exact⟨_,HF2.out⟩,HK2.out⟩
  ·obtain rfl:i=n:=by omega
   have HFIN:=qhz (show R=(s,3) by
    have h:=HRR.out;rw[List.drop_eq_nil_of_le (by rw[HLN.out];exact Nat.le_refl _)]at h;rw[←h];rfl)
   go_wp2;go_ret;exact⟨by rw[HFIN.out];rfl,by rw[HFIN.out];exact⟨_,HF.out⟩,HKP.out⟩
end
end Go.Proofs.YtbanopnofpjnbaaGreatDoor
