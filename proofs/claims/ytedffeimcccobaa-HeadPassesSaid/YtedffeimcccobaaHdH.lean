/- The loop of the document's Read, further cases. (Written by program: wip/gen/readloop.py.) -/
import Derived.Test.YtedffeimcccobaaHdE
set_option maxRecDepth 1000000
set_option linter.unusedVariables false
namespace Go.Proofs.Ytedffeimcccobaa
set_option maxRecDepth 100000
open Go Go.RowKit
attribute [local irreducible] strL
section
variable {w wr : World} {g o n cap b0 b1 b2 a b x8 x9 x12 : Nat} {L : List Ck} {R : HS × Int} {Q0 : Exit → Act → World → Prop} {i : Nat} {s : HS} {dv : Value} {t d D0 : List UInt8}
variable {c1 c6 c8 c16 c17 c18 c19 c20 c21 c22 c23 c24 c25 c26 c27 c28 c29 c30 c31 c32 c33 c34 c35 c36 c37 c38 c39 c40 c41 c42 c43 c44 c45 c46 c47 c48 c49 c50 c51 c52 c53 c54 c55 c56 c57 c58 c59 c60 c61 c62 c63 c64 c65 c66 c67 c68 c69 c260 : Value}
variable {u3 u4 u14 u15 u70 u71 u72 u73 u74 u75 u76 u77 u78 u79 u80 u81 u82 u83 u84 u85 u86 u87 u88 u89 u90 u91 u92 u93 u94 u95 u96 u97 u98 u99 u100 u101 u102 u103 u104 u105 u106 u107 u108 u109 u110 u111 u112 u113 u114 u115 u116 u117 u118 u119 u120 u121 u122 u123 u124 u125 u126 u127 u128 u129 u130 u131 u132 u133 u134 u135 u136 u137 u138 u139 u140 u141 u142 u143 u144 u145 u146 u147 u148 u149 u150 u151 u152 u153 u154 u155 u156 u157 u158 u159 u160 u161 u162 u163 u164 u165 u166 u167 u168 u169 u170 u171 u172 u173 u174 u175 u176 u177 u178 u179 u180 u181 u182 u183 u184 u185 u186 u187 u188 u189 u190 u191 u192 u193 u194 u195 u196 u197 u198 u199 u200 u201 u202 u203 u204 u205 u206 u207 u208 u209 u210 u211 u212 u213 u214 u215 u216 u217 u218 u219 u220 u221 u222 u223 u224 u225 u226 u227 u228 u229 u230 u231 u232 u233 u234 u235 u236 u237 u238 u239 u240 u241 u242 u243 u244 u245 u246 u247 u248 u249 u250 u251 u252 u253 u254 u255 u256 u257 u258 u259 : Value}
variable {pal trans idat gap : Bool} {PP TT DD : List UInt8}

/-- The way out without an error. -/
theorem read_ok {w W : World} {b0 : Nat} {tmps : Array Value} {e1 e2 e3 e4 e5 : Int} {s : HS} {r : List Int × HS × Int} (hI : Is W b0 36 (shpC e1 e2 e3 e4 e5 s.P s.T s.trans)) (hB : But [] w W)
    (h2 : tmps[2]? = some (.pointer (some ⟨b0, 0, none⟩))) (h3 : tmps[3]? = some (.string (strL s.D))) (h4 : tmps[4]? = some (.int .i64 0)) (hr : r = ([e1, e2, e3, e4, e5], s, 0)) :
    bodyPost Try.prog Try.f18 (GotH w r) Exit.ret { tmps := tmps, defers := [] } W := by
  have e0 := hI.cell 0
  have e1' := hI.cell 1
  have e2' := hI.cell 2
  have e3' := hI.cell 3
  have e4' := hI.cell 4
  have e5' := hI.cell 5
  have e6 := hI.cell 6
  have e7 := hI.cell 7
  unfold shpC at e0 e1' e2' e3' e4' e5' e6 e7
  refine bodyPost_ret (v := .tuple #[.agg #[.int .i64 e1, .int .i64 e2, .int .i64 e3, .int .i64 e4, .int .i64 e5, .string (strL s.P), .string (strL s.T), .bool s.trans], .string (strL s.D), .int .i64 0]) ?_ rfl ?_
  · simp [results, Try.results18, go_sem, e0, e1', e2', e3', e4', e5', e6, e7, h2, h3, h4]
  · rw [hr]; exact ⟨rfl, hB⟩
/-- What stands while the answer is laid. -/
def EndS (w : World) (b0 b2 : Nat) (cs : Array Value) (dv : Value) (D : List UInt8) (v : World) : Prop := (∃ x0 x1 x2 x3 x4 x5 x6 x7, Is v b0 36 #[x0, x1, x2, x3, x4, x5, x6, x7]) ∧ Is v b2 36 cs ∧ OwnY v w.heap.size dv D ∧ But [] w v
theorem EndS.but {w v v' : World} {b0 b2 : Nat} {cs : Array Value} {dv : Value} {D : List UInt8} (h : EndS w b0 b2 cs dv D v) (k : But [] v v') : EndS w b0 b2 cs dv D v' := by
  obtain ⟨⟨x0, x1, x2, x3, x4, x5, x6, x7, h0⟩, h1, h2, h3⟩ := h
  exact ⟨⟨x0, x1, x2, x3, x4, x5, x6, x7, h0.but k (by simp)⟩, h1.but k (by simp), h2.but k, h3.trans k⟩
/-- Eight cells laid over eight. -/
theorem eight_put {w W : World} {b : Nat} {x0 x1 x2 x3 x4 x5 x6 x7 : Value} (hI : Is W b 36 #[x0, x1, x2, x3, x4, x5, x6, x7]) (hB : But [] w W) (hb : w.heap.size ≤ b) (v0 v1 v2 v3 v4 v5 v6 v7 : Value) :
    Is ((((((((W.setCell ⟨b, 0, none⟩ v0).setCell ⟨b, 1, none⟩ v1).setCell ⟨b, 2, none⟩ v2).setCell ⟨b, 3, none⟩ v3).setCell ⟨b, 4, none⟩ v4).setCell ⟨b, 5, none⟩ v5).setCell ⟨b, 6, none⟩ v6).setCell ⟨b, 7, none⟩ v7) b 36 #[v0, v1, v2, v3, v4, v5, v6, v7] ∧
    But [] w ((((((((W.setCell ⟨b, 0, none⟩ v0).setCell ⟨b, 1, none⟩ v1).setCell ⟨b, 2, none⟩ v2).setCell ⟨b, 3, none⟩ v3).setCell ⟨b, 4, none⟩ v4).setCell ⟨b, 5, none⟩ v5).setCell ⟨b, 6, none⟩ v6).setCell ⟨b, 7, none⟩ v7) ∧
    But [b] W ((((((((W.setCell ⟨b, 0, none⟩ v0).setCell ⟨b, 1, none⟩ v1).setCell ⟨b, 2, none⟩ v2).setCell ⟨b, 3, none⟩ v3).setCell ⟨b, 4, none⟩ v4).setCell ⟨b, 5, none⟩ v5).setCell ⟨b, 6, none⟩ v6).setCell ⟨b, 7, none⟩ v7) := by
  have k := ((((((((But.refl [b] W).setCell (p := ⟨b, 0, none⟩) (.inl (by simp)) v0).setCell (p := ⟨b, 1, none⟩) (.inl (by simp)) v1).setCell (p := ⟨b, 2, none⟩) (.inl (by simp)) v2).setCell (p := ⟨b, 3, none⟩) (.inl (by simp)) v3).setCell (p := ⟨b, 4, none⟩) (.inl (by simp)) v4).setCell (p := ⟨b, 5, none⟩) (.inl (by simp)) v5).setCell (p := ⟨b, 6, none⟩) (.inl (by simp)) v6).setCell (p := ⟨b, 7, none⟩) (.inl (by simp)) v7
  have h0 := hI.put 0 v0
  have h1 := h0.put 1 v1
  have h2 := h1.put 2 v2
  have h3 := h2.put 3 v3
  have h4 := h3.put 4 v4
  have h5 := h4.put 5 v5
  have h6 := h5.put 6 v6
  have h7 := h6.put 7 v7
  refine ⟨by simpa using h7, ?_, k⟩
  exact (((((((hB.setCell (p := ⟨b, 0, none⟩) (.inr hb) _).setCell (p := ⟨b, 1, none⟩) (.inr hb) _).setCell (p := ⟨b, 2, none⟩) (.inr hb) _).setCell (p := ⟨b, 3, none⟩) (.inr hb) _).setCell (p := ⟨b, 4, none⟩) (.inr hb) _).setCell (p := ⟨b, 5, none⟩) (.inr hb) _).setCell (p := ⟨b, 6, none⟩) (.inr hb) _).setCell (p := ⟨b, 7, none⟩) (.inr hb) _

set_option maxHeartbeats 1000000 in
theorem rd_iend_d (hT : Stays w g o n b0 b1 b2 a b x8 x9 x12 L R) (hS : LoopS w b0 b1 b2 n a b x8 x9 x12 L R i ⟨pal, trans, true, gap, PP, TT, DD⟩ dv wr) (hlt : i < n) (hat : L[i]? = some (t, d)) (htIHDR : Hid (¬ t = tIHDR)) (htPLTE : Hid (¬ t = tPLTE)) (htTRNS : Hid (¬ t = tTRNS)) (htIDAT : Hid (¬ t = tIDAT)) (htIEND : Hid (t = tIEND)) (hd0 : Hid (d.length = 0)) (hmore : i + 1 = n) (hlast : Hid ((L.drop (i + 1)).isEmpty = true)) (HNS : Hid (numsH D0 = [(a : Int), (b : Int), (x8 : Int), (x9 : Int), (x12 : Int)])) (hpan : ∀ (c : List PanicEntry) (a : Act) (d : Option Tmp) (v : Value) (w : World), Q0 (.panic c) (a.put d v) w → Q0 (.panic c) a w) (HTL : Hid (readT L = if R.2 = 0 then (numsH D0, R) else ([], hs0, R.2))) (hret : ∀ act w1, bodyPost Try.prog Try.f18 (GotH w (readT L)) Exit.ret act w1 → Q0 .ret act w1) :
    Code.wp Try.prog bodyR (Exit.then (fun act w1 => WIR w g o n cap b0 b1 b2 a b x8 x9 x12 L R c1 c6 c8 c16 c17 c18 c19 c20 c21 c22 c23 c24 c25 c26 c27 c28 c29 c30 c31 c32 c33 c34 c35 c36 c37 c38 c39 c40 c41 c42 c43 c44 c45 c46 c47 c48 c49 c50 c51 c52 c53 c54 c55 c56 c57 c58 c59 c60 c61 c62 c63 c64 c65 c66 c67 c68 c69 c260 act w1 ∧ MuR n act w1 < MuR n ⟨#[.slice (some ⟨g, o, none⟩) n cap, c1, .pointer (some ⟨b0, 0, none⟩), u3, u4, .pointer (some ⟨b1, 0, none⟩), c6, .pointer (some ⟨b2, 0, none⟩), c8, dv, .bool pal, .bool true, .bool gap, .int .i64 (i : Int), u14, u15, c16, c17, c18, c19, c20, c21, c22, c23, c24, c25, c26, c27, c28, c29, c30, c31, c32, c33, c34, c35, c36, c37, c38, c39, c40, c41, c42, c43, c44, c45, c46, c47, c48, c49, c50, c51, c52, c53, c54, c55, c56, c57, c58, c59, c60, c61, c62, c63, c64, c65, c66, c67, c68, c69, u70, u71, u72, u73, u74, u75, u76, u77, u78, u79, u80, u81, u82, u83, u84, u85, u86, u87, u88, u89, u90, u91, u92, u93, u94, u95, u96, u97, u98, u99, u100, u101, u102, u103, u104, u105, u106, u107, u108, u109, u110, u111, u112, u113, u114, u115, u116, u117, u118, u119, u120, u121, u122, u123, u124, u125, u126, u127, u128, u129, u130, u131, u132, u133, u134, u135, u136, u137, u138, u139, u140, u141, u142, u143, u144, u145, u146, u147, u148, u149, u150, u151, u152, u153, u154, u155, u156, u157, u158, u159, u160, u161, u162, u163, u164, u165, u166, u167, u168, u169, u170, u171, u172, u173, u174, u175, u176, u177, u178, u179, u180, u181, u182, u183, u184, u185, u186, u187, u188, u189, u190, u191, u192, u193, u194, u195, u196, u197, u198, u199, u200, u201, u202, u203, u204, u205, u206, u207, u208, u209, u210, u211, u212, u213, u214, u215, u216, u217, u218, u219, u220, u221, u222, u223, u224, u225, u226, u227, u228, u229, u230, u231, u232, u233, u234, u235, u236, u237, u238, u239, u240, u241, u242, u243, u244, u245, u246, u247, u248, u249, u250, u251, u252, u253, u254, u255, u256, u257, u258, u259, c260], []⟩ wr) Q0) ⟨#[.slice (some ⟨g, o, none⟩) n cap, c1, .pointer (some ⟨b0, 0, none⟩), u3, u4, .pointer (some ⟨b1, 0, none⟩), c6, .pointer (some ⟨b2, 0, none⟩), c8, dv, .bool pal, .bool true, .bool gap, .int .i64 (i : Int), u14, u15, c16, c17, c18, c19, c20, c21, c22, c23, c24, c25, c26, c27, c28, c29, c30, c31, c32, c33, c34, c35, c36, c37, c38, c39, c40, c41, c42, c43, c44, c45, c46, c47, c48, c49, c50, c51, c52, c53, c54, c55, c56, c57, c58, c59, c60, c61, c62, c63, c64, c65, c66, c67, c68, c69, u70, u71, u72, u73, u74, u75, u76, u77, u78, u79, u80, u81, u82, u83, u84, u85, u86, u87, u88, u89, u90, u91, u92, u93, u94, u95, u96, u97, u98, u99, u100, u101, u102, u103, u104, u105, u106, u107, u108, u109, u110, u111, u112, u113, u114, u115, u116, u117, u118, u119, u120, u121, u122, u123, u124, u125, u126, u127, u128, u129, u130, u131, u132, u133, u134, u135, u136, u137, u138, u139, u140, u141, u142, u143, u144, u145, u146, u147, u148, u149, u150, u151, u152, u153, u154, u155, u156, u157, u158, u159, u160, u161, u162, u163, u164, u165, u166, u167, u168, u169, u170, u171, u172, u173, u174, u175, u176, u177, u178, u179, u180, u181, u182, u183, u184, u185, u186, u187, u188, u189, u190, u191, u192, u193, u194, u195, u196, u197, u198, u199, u200, u201, u202, u203, u204, u205, u206, u207, u208, u209, u210, u211, u212, u213, u214, u215, u216, u217, u218, u219, u220, u221, u222, u223, u224, u225, u226, u227, u228, u229, u230, u231, u232, u233, u234, u235, u236, u237, u238, u239, u240, u241, u242, u243, u244, u245, u246, u247, u248, u249, u250, u251, u252, u253, u254, u255, u256, u257, u258, u259, c260], []⟩ wr := by
  conv => arg 2; whnf
  have HT := Lib.hid hT
  have HS := Lib.hid hS
  have hcc := hT.cks.at hlt
  obtain ⟨g', o', k', he, hg, hc0, hc1, hat'⟩ := hcc
  have hk : k' = (t, d) := Option.some.inj (hat'.symm.trans hat)
  subst hk
  injection he with he
  injection he with he1 he2
  subst he1 he2
  have c0 := hS.rds.2.2.2.cell hc0 (by simp)
  have c1 := hS.rds.2.2.2.cell hc1 (by simp)
  dsimp only at c0 c1
  have k0 : (0 : Int) ≤ (i : Int) := by omega
  have k1 : (i : Int) < (n : Int) := by omega
  have n63 := hT.n63
  have hRS := hS.rds.alloc (.cells #[.string (strL t), .string (strL d)] 30)
  have hOW := hS.own.but ((But.refl [] wr).alloc (.cells #[.string (strL t), .string (strL d)] 30))
  have hI3 := Is.fresh wr 30 #[.string (strL t), .string (strL d)]
  have hds : (strL d).size = d.length := strL_size d
  obtain ⟨m, hm⟩ : ∃ m, m = d.length := ⟨_, rfl⟩
  rw [← hm] at hds
  have HM := Lib.hid hm
  have HAT := Lib.hid hat
  have HDA := Lib.hid (drop_at hat)
  clear hT hS hg hc0 hc1 hat' hat hm hlt
  have HRSw := Lib.hid hRS
  have HOWw := Lib.hid hOW
  have HI3w := Lib.hid hI3
  clear hRS hOW hI3
  go_upto_region 19 with (fail)
  have hRS := HRSw.out
  have hOW := HOWw.out
  have hI3 := HI3w.out
  clear HRSw HOWw HI3w
  obtain ⟨w3, hw3⟩ : ∃ x, x = wr.alloc (.cells #[.string (strL t), .string (strL d)] 30) := ⟨_, rfl⟩
  obtain ⟨b3, hb3⟩ : ∃ x, x = wr.heap.size := ⟨_, rfl⟩
  rw [← hw3] at hRS hOW hI3 ⊢
  rw [← hb3] at hI3 ⊢
  have HRS := Lib.hid hRS
  have HOW := Lib.hid hOW
  clear hw3 hb3 c0 c1
  have c0 : w3.cell? ⟨b3, 0, none⟩ = some (.string (strL t)) := hI3.cell 0
  have c1 : w3.cell? ⟨b3, 1, none⟩ = some (.string (strL d)) := hI3.cell 1
  have qtIEND := str_eq htIEND.out
  unfold tIEND at qtIEND
  have dm : ((m : Int) != 0) = false := by simp; rw [HM.out]; exact hd0.out
  have w1i : IntKind.i64.wrap ((i : Int) + 1) = (i : Int) + 1 := IntWalk.i64_in _ (by omega)
  have HR := Lib.hid (show readT L = ([(a : Int), (b : Int), (x8 : Int), (x9 : Int), (x12 : Int)], ⟨pal, trans, true, gap, PP, TT, DD⟩, 0) by
    have h := step_err (s' := ⟨pal, trans, true, gap, PP, TT, DD⟩) (e := 0) HDA.out HS.out.run (by unfold stepH; rw [if_neg htIHDR.out, if_neg htPLTE.out, if_neg htTRNS.out, if_neg htIDAT.out, if_pos htIEND.out, if_neg (by simpa using hd0.out), if_neg (by simp), if_neg (by rw [hlast.out]; simp)])
    rw [HTL.out, h, if_pos rfl, HNS.out])
  have dl : decide ((i : Int) + 1 < (n : Int)) = false := by simp; omega
  have HE := Lib.hid (show EndS w b0 b2 (shpC (a : Int) (b : Int) (x8 : Int) (x9 : Int) (x12 : Int) PP TT trans) dv DD w3 from ⟨⟨_, _, _, _, _, _, _, _, hRS.1⟩, hRS.2.2.1, hOW, hRS.2.2.2⟩)
  clear hRS hOW hI3 hmore
  go_upto_region 51 with (fail)
  refine wp_region_m (S := EndS w b0 b2 (shpC (a : Int) (b : Int) (x8 : Int) (x9 : Int) (x12 : Int) PP TT trans) dv DD) (R := fun v v' => But [] v v') (fun w => But.refl [] w) (by kernel_rfl) (HE.out.but ((But.refl [] w3).drew)) ?_
  refine wpM_take (fun w => But.refl [] w) (fun x y z h k => h.trans k) (i := 0) (v := .agg #[.int .i64 (a : Int), .int .i64 (b : Int), .int .i64 (x8 : Int), .int .i64 (x9 : Int), .int .i64 (x12 : Int), .string (strL PP), .string (strL TT), .bool trans]) rfl (by kernel_rfl) (by kernel_rfl) (by kernel_rfl) (fun c a w h => hpan c a _ _ w h) (YieldsR.read (fun w => But.refl [] w) ?_ fun w hS => ?_) ?_
  · go_simp
  · have z0 := hS.2.1.cell 0
    have z1 := hS.2.1.cell 1
    have z2 := hS.2.1.cell 2
    have z3 := hS.2.1.cell 3
    have z4 := hS.2.1.cell 4
    have z5 := hS.2.1.cell 5
    have z6 := hS.2.1.cell 6
    have z7 := hS.2.1.cell 7
    unfold shpC at z0 z1 z2 z3 z4 z5 z6 z7
    go_simp
  refine wpM_take (fun w => But.refl [] w) (fun x y z h k => h.trans k) (i := 1) (v := dv) rfl (by kernel_rfl) (by kernel_rfl) (by kernel_rfl) (fun c a w h => hpan c a _ _ w h) (YieldsR.read (fun w => But.refl [] w) ?_ fun w hS => ?_) ?_
  · go_simp
  · go_simp
  refine wpM_take (fun w => But.refl [] w) (fun x y z h k => h.trans k) (i := 2) (v := .string (strL DD)) rfl (by kernel_rfl) (by kernel_rfl) (by kernel_rfl) (fun c a w h => hpan c a _ _ w h) (YieldsR.read (fun w => But.refl [] w) ?_ fun w hS => ?_) ?_
  · go_simp
  · have hcv := own_textL hS.2.2.1
    go_simp
  refine wpM_one (i := 3) rfl (by kernel_rfl) fun w4 hR4 hS4 K' hK => ?_
  have hA := hS4.1
  have h1 := hS4.2.1
  have h2 := hS4.2.2.1
  have h3 := hS4.2.2.2
  clear hS4
  cases hA with
  | intro x0 hA =>
  cases hA with
  | intro x1 hA =>
  cases hA with
  | intro x2 hA =>
  cases hA with
  | intro x3 hA =>
  cases hA with
  | intro x4 hA =>
  cases hA with
  | intro x5 hA =>
  cases hA with
  | intro x6 hA =>
  cases hA with
  | intro x7 hA =>
  have h0 := hA
  clear hA
  have z0 := h0.cell 0
  have z1 := h0.cell 1
  have z2 := h0.cell 2
  have z3 := h0.cell 3
  have z4 := h0.cell 4
  have z5 := h0.cell 5
  have z6 := h0.cell 6
  have z7 := h0.cell 7
  have f0 := h0.free 0
  have f1 := h0.free 1
  have f2 := h0.free 2
  have f3 := h0.free 3
  have f4 := h0.free 4
  have f5 := h0.free 5
  have f6 := h0.free 6
  have f7 := h0.free 7
  have G0 := Lib.hid h0
  have G1 := Lib.hid h1
  have G2 := Lib.hid h2
  have G3 := Lib.hid h3
  have GR := Lib.hid hR4
  clear h0 h1 h2 h3 hR4
  go_simp
  have h0 := G0.out
  have h1 := G1.out
  have h2 := G2.out
  have h3 := G3.out
  have hP := eight_put (w := w) h0 h3 (by rw [HT.out.e0]; exact Nat.le_refl _) (.int .i64 (a : Int)) (.int .i64 (b : Int)) (.int .i64 (x8 : Int)) (.int .i64 (x9 : Int)) (.int .i64 (x12 : Int)) (.string (strL PP)) (.string (strL TT)) (.bool trans)
  have hne : b2 ≠ b0 := fun e => HT.out.ne0 e.symm
  refine hK _ _ ⟨⟨⟨_, _, _, _, _, _, _, _, hP.1⟩, h1.but hP.2.2 (by simp [hne]), ownsRow_but h2 hP.2.2 (fun g e hm => own_notShape h2 h0 (by rw [List.mem_singleton.1 hm] at e; exact e.symm)), hP.2.1⟩, ?_⟩
  clear hK K' z0 z1 z2 z3 z4 z5 z6 z7 f0 f1 f2 f3 f4 f5 f6 f7
  refine wpM_take (fun w => But.refl [] w) (fun x y z h k => h.trans k) (i := 4) (v := .string (strL DD)) rfl (by kernel_rfl) (by kernel_rfl) (by kernel_rfl) (fun c a w h => hpan c a _ _ w h) (YieldsR.read (fun w => But.refl [] w) ?_ fun w hS => ?_) ?_
  · go_simp
  · go_simp
  refine wpM_take (fun w => But.refl [] w) (fun x y z h k => h.trans k) (i := 5) (v := .int .i64 0) rfl (by kernel_rfl) (by kernel_rfl) (by kernel_rfl) (fun c a w h => hpan c a _ _ w h) (YieldsR.read (fun w => But.refl [] w) ?_ fun w hS => ?_) ?_
  · go_simp
  · go_simp
  refine ⟨by kernel_rfl, fun w5 hR5 hS5 => ?_⟩
  have hI7 := hP.1.but hR5 (by simp)
  have HI7 := Lib.hid hI7
  have HB7 := Lib.hid hS5.2.2.2
  clear hI7 hS5 hR5 hP h0 h1 h2 h3
  go_wp2
  exact read_ok (s := ⟨pal, trans, true, gap, PP, TT, DD⟩) HI7.out HB7.out rfl rfl rfl HR.out

end
end Go.Proofs.Ytedffeimcccobaa
