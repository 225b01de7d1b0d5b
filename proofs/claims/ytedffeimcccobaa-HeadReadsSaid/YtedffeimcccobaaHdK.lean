/- The loop of the document's Read, further cases. (Written by program: wip/gen/readloop.py.) -/
import Derived.Test.YtedffeimcccobaaHdE
set_option maxRecDepth 1000000
set_option linter.unusedVariables false
namespace Go.Proofs.Ytedffeimcccobaa
set_option maxRecDepth 100000
open Go Go.RowKit
attribute [local irreducible] strL
section
variable {w wr : World} {g o n cap b0 b1 b2 a b x8 x9 x12 : Nat} {L : List Ck} {R : HS × Int} {Q0 : Exit → Act → World → Prop} {i : Nat} {s : HS} {dv : Value} {t d D0 : List UInt8}
variable {c1 c6 c8 c16 c17 c18 c19 c20 c21 c22 c23 c24 c25 c26 c27 c28 c29 c30 c31 c32 c33 c34 c35 c36 c37 c38 c39 c40 c41 c42 c43 c44 c45 c46 c47 c48 c49 c50 c51 c52 c53 c54 c55 c56 c57 c58 c59 c60 c61 c62 c63 c64 c65 c66 c67 c68 c69 c260 : Value}
variable {u3 u4 u14 u15 u70 u71 u72 u73 u74 u75 u76 u77 u78 u79 u80 u81 u82 u83 u84 u85 u86 u87 u88 u89 u90 u91 u92 u93 u94 u95 u96 u97 u98 u99 u100 u101 u102 u103 u104 u105 u106 u107 u108 u109 u110 u111 u112 u113 u114 u115 u116 u117 u118 u119 u120 u121 u122 u123 u124 u125 u126 u127 u128 u129 u130 u131 u132 u133 u134 u135 u136 u137 u138 u139 u140 u141 u142 u143 u144 u145 u146 u147 u148 u149 u150 u151 u152 u153 u154 u155 u156 u157 u158 u159 u160 u161 u162 u163 u164 u165 u166 u167 u168 u169 u170 u171 u172 u173 u174 u175 u176 u177 u178 u179 u180 u181 u182 u183 u184 u185 u186 u187 u188 u189 u190 u191 u192 u193 u194 u195 u196 u197 u198 u199 u200 u201 u202 u203 u204 u205 u206 u207 u208 u209 u210 u211 u212 u213 u214 u215 u216 u217 u218 u219 u220 u221 u222 u223 u224 u225 u226 u227 u228 u229 u230 u231 u232 u233 u234 u235 u236 u237 u238 u239 u240 u241 u242 u243 u244 u245 u246 u247 u248 u249 u250 u251 u252 u253 u254 u255 u256 u257 u258 u259 : Value}
variable {pal trans idat gap : Bool} {PP TT DD : List UInt8}

set_option maxHeartbeats 1000000 in
theorem rd_trns_b1 (hT : Stays w g o n b0 b1 b2 a b x8 x9 x12 L R) (hS : LoopS w b0 b1 b2 n a b x8 x9 x12 L R i ⟨pal, false, false, gap, PP, TT, DD⟩ dv wr) (hlt : i < n) (hat : L[i]? = some (t, d)) (htIHDR : Hid (¬ t = tIHDR)) (htPLTE : Hid (¬ t = tPLTE)) (htTRNS : Hid (t = tTRNS)) (h9 : Hid (x9 = 4)) (HTL : Hid (readT L = if R.2 = 0 then (numsH D0, R) else ([], hs0, R.2))) (hret : ∀ act w1, bodyPost Try.prog Try.f18 (GotH w (readT L)) Exit.ret act w1 → Q0 .ret act w1) :
    Code.wp Try.prog bodyR (Exit.then (fun act w1 => WIR w g o n cap b0 b1 b2 a b x8 x9 x12 L R c1 c6 c8 c16 c17 c18 c19 c20 c21 c22 c23 c24 c25 c26 c27 c28 c29 c30 c31 c32 c33 c34 c35 c36 c37 c38 c39 c40 c41 c42 c43 c44 c45 c46 c47 c48 c49 c50 c51 c52 c53 c54 c55 c56 c57 c58 c59 c60 c61 c62 c63 c64 c65 c66 c67 c68 c69 c260 act w1 ∧ MuR n act w1 < MuR n ⟨#[.slice (some ⟨g, o, none⟩) n cap, c1, .pointer (some ⟨b0, 0, none⟩), u3, u4, .pointer (some ⟨b1, 0, none⟩), c6, .pointer (some ⟨b2, 0, none⟩), c8, dv, .bool pal, .bool false, .bool gap, .int .i64 (i : Int), u14, u15, c16, c17, c18, c19, c20, c21, c22, c23, c24, c25, c26, c27, c28, c29, c30, c31, c32, c33, c34, c35, c36, c37, c38, c39, c40, c41, c42, c43, c44, c45, c46, c47, c48, c49, c50, c51, c52, c53, c54, c55, c56, c57, c58, c59, c60, c61, c62, c63, c64, c65, c66, c67, c68, c69, u70, u71, u72, u73, u74, u75, u76, u77, u78, u79, u80, u81, u82, u83, u84, u85, u86, u87, u88, u89, u90, u91, u92, u93, u94, u95, u96, u97, u98, u99, u100, u101, u102, u103, u104, u105, u106, u107, u108, u109, u110, u111, u112, u113, u114, u115, u116, u117, u118, u119, u120, u121, u122, u123, u124, u125, u126, u127, u128, u129, u130, u131, u132, u133, u134, u135, u136, u137, u138, u139, u140, u141, u142, u143, u144, u145, u146, u147, u148, u149, u150, u151, u152, u153, u154, u155, u156, u157, u158, u159, u160, u161, u162, u163, u164, u165, u166, u167, u168, u169, u170, u171, u172, u173, u174, u175, u176, u177, u178, u179, u180, u181, u182, u183, u184, u185, u186, u187, u188, u189, u190, u191, u192, u193, u194, u195, u196, u197, u198, u199, u200, u201, u202, u203, u204, u205, u206, u207, u208, u209, u210, u211, u212, u213, u214, u215, u216, u217, u218, u219, u220, u221, u222, u223, u224, u225, u226, u227, u228, u229, u230, u231, u232, u233, u234, u235, u236, u237, u238, u239, u240, u241, u242, u243, u244, u245, u246, u247, u248, u249, u250, u251, u252, u253, u254, u255, u256, u257, u258, u259, c260], []⟩ wr) Q0) ⟨#[.slice (some ⟨g, o, none⟩) n cap, c1, .pointer (some ⟨b0, 0, none⟩), u3, u4, .pointer (some ⟨b1, 0, none⟩), c6, .pointer (some ⟨b2, 0, none⟩), c8, dv, .bool pal, .bool false, .bool gap, .int .i64 (i : Int), u14, u15, c16, c17, c18, c19, c20, c21, c22, c23, c24, c25, c26, c27, c28, c29, c30, c31, c32, c33, c34, c35, c36, c37, c38, c39, c40, c41, c42, c43, c44, c45, c46, c47, c48, c49, c50, c51, c52, c53, c54, c55, c56, c57, c58, c59, c60, c61, c62, c63, c64, c65, c66, c67, c68, c69, u70, u71, u72, u73, u74, u75, u76, u77, u78, u79, u80, u81, u82, u83, u84, u85, u86, u87, u88, u89, u90, u91, u92, u93, u94, u95, u96, u97, u98, u99, u100, u101, u102, u103, u104, u105, u106, u107, u108, u109, u110, u111, u112, u113, u114, u115, u116, u117, u118, u119, u120, u121, u122, u123, u124, u125, u126, u127, u128, u129, u130, u131, u132, u133, u134, u135, u136, u137, u138, u139, u140, u141, u142, u143, u144, u145, u146, u147, u148, u149, u150, u151, u152, u153, u154, u155, u156, u157, u158, u159, u160, u161, u162, u163, u164, u165, u166, u167, u168, u169, u170, u171, u172, u173, u174, u175, u176, u177, u178, u179, u180, u181, u182, u183, u184, u185, u186, u187, u188, u189, u190, u191, u192, u193, u194, u195, u196, u197, u198, u199, u200, u201, u202, u203, u204, u205, u206, u207, u208, u209, u210, u211, u212, u213, u214, u215, u216, u217, u218, u219, u220, u221, u222, u223, u224, u225, u226, u227, u228, u229, u230, u231, u232, u233, u234, u235, u236, u237, u238, u239, u240, u241, u242, u243, u244, u245, u246, u247, u248, u249, u250, u251, u252, u253, u254, u255, u256, u257, u258, u259, c260], []⟩ wr := by
  conv => arg 2; whnf
  have HT := Lib.hid hT
  have HS := Lib.hid hS
  have hcc := hT.cks.at hlt
  obtain ⟨g', o', k', he, hg, hc0, hc1, hat'⟩ := hcc
  have hk : k' = (t, d) := Option.some.inj (hat'.symm.trans hat)
  subst hk
  injection he with he
  injection he with he1 he2
  subst he1 he2
  have c0 := hS.rds.2.2.2.cell hc0 (by simp)
  have c1 := hS.rds.2.2.2.cell hc1 (by simp)
  dsimp only at c0 c1
  have k0 : (0 : Int) ≤ (i : Int) := by omega
  have k1 : (i : Int) < (n : Int) := by omega
  have n63 := hT.n63
  have hRS := hS.rds.alloc (.cells #[.string (strL t), .string (strL d)] 30)
  have hOW := hS.own.but ((But.refl [] wr).alloc (.cells #[.string (strL t), .string (strL d)] 30))
  have hI3 := Is.fresh wr 30 #[.string (strL t), .string (strL d)]
  have hds : (strL d).size = d.length := strL_size d
  obtain ⟨m, hm⟩ : ∃ m, m = d.length := ⟨_, rfl⟩
  rw [← hm] at hds
  have HM := Lib.hid hm
  have HAT := Lib.hid hat
  have HDA := Lib.hid (drop_at hat)
  clear hT hS hg hc0 hc1 hat' hat hm hlt
  have HRSw := Lib.hid hRS
  have HOWw := Lib.hid hOW
  have HI3w := Lib.hid hI3
  clear hRS hOW hI3
  go_upto_region 19 with (fail)
  have hRS := HRSw.out
  have hOW := HOWw.out
  have hI3 := HI3w.out
  clear HRSw HOWw HI3w
  obtain ⟨w3, hw3⟩ : ∃ x, x = wr.alloc (.cells #[.string (strL t), .string (strL d)] 30) := ⟨_, rfl⟩
  obtain ⟨b3, hb3⟩ : ∃ x, x = wr.heap.size := ⟨_, rfl⟩
  rw [← hw3] at hRS hOW hI3 ⊢
  rw [← hb3] at hI3 ⊢
  have HRS := Lib.hid hRS
  have HOW := Lib.hid hOW
  clear hw3 hb3 c0 c1
  have c0 : w3.cell? ⟨b3, 0, none⟩ = some (.string (strL t)) := hI3.cell 0
  have c1 : w3.cell? ⟨b3, 1, none⟩ = some (.string (strL d)) := hI3.cell 1
  have qtTRNS := str_eq htTRNS.out
  unfold tTRNS at qtTRNS
  have r0 : w3.cell? ⟨b0, 0, none⟩ = some (.int .i64 0) := hRS.1.cell 0
  have r1 : w3.cell? ⟨b0, 1, none⟩ = some (.int .i64 0) := hRS.1.cell 1
  have r2 : w3.cell? ⟨b0, 2, none⟩ = some (.int .i64 0) := hRS.1.cell 2
  have r3 : w3.cell? ⟨b0, 3, none⟩ = some (.int .i64 0) := hRS.1.cell 3
  have r4 : w3.cell? ⟨b0, 4, none⟩ = some (.int .i64 0) := hRS.1.cell 4
  have r5 : w3.cell? ⟨b0, 5, none⟩ = some (.string ⟨#[]⟩) := hRS.1.cell 5
  have r6 : w3.cell? ⟨b0, 6, none⟩ = some (.string ⟨#[]⟩) := hRS.1.cell 6
  have r7 : w3.cell? ⟨b0, 7, none⟩ = some (.bool false) := hRS.1.cell 7
  have f0 := hRS.1.free 0
  have f1 := hRS.1.free 1
  have f2 := hRS.1.free 2
  have f3 := hRS.1.free 3
  have f4 := hRS.1.free 4
  have f5 := hRS.1.free 5
  have f6 := hRS.1.free 6
  have f7 := hRS.1.free 7
  have n0 : w3.cell? ⟨b1, 0, none⟩ = some (.int .i64 0) := hRS.2.1.cell 0
  have n1 : w3.cell? ⟨b1, 1, none⟩ = some (.int .i64 0) := hRS.2.1.cell 1
  have n2 : w3.cell? ⟨b1, 2, none⟩ = some (.int .i64 0) := hRS.2.1.cell 2
  have n3 : w3.cell? ⟨b1, 3, none⟩ = some (.int .i64 0) := hRS.2.1.cell 3
  have n4 : w3.cell? ⟨b1, 4, none⟩ = some (.int .i64 0) := hRS.2.1.cell 4
  have n5 : w3.cell? ⟨b1, 5, none⟩ = some (.string ⟨#[]⟩) := hRS.2.1.cell 5
  have n6 : w3.cell? ⟨b1, 6, none⟩ = some (.string ⟨#[]⟩) := hRS.2.1.cell 6
  have n7 : w3.cell? ⟨b1, 7, none⟩ = some (.bool false) := hRS.2.1.cell 7
  have HQ := Lib.hid (zero_put hRS.1 hRS.2.2.2 (by rw [HT.out.e0]; exact Nat.le_refl _))
  have m0 : w3.cell? ⟨b2, 0, none⟩ = some (.int .i64 (a : Int)) := hRS.2.2.1.cell 0
  have m1 : w3.cell? ⟨b2, 1, none⟩ = some (.int .i64 (b : Int)) := hRS.2.2.1.cell 1
  have m2 : w3.cell? ⟨b2, 2, none⟩ = some (.int .i64 (x8 : Int)) := hRS.2.2.1.cell 2
  have m3 : w3.cell? ⟨b2, 3, none⟩ = some (.int .i64 (x9 : Int)) := hRS.2.2.1.cell 3
  have m4 : w3.cell? ⟨b2, 4, none⟩ = some (.int .i64 (x12 : Int)) := hRS.2.2.1.cell 4
  have m5 : w3.cell? ⟨b2, 5, none⟩ = some (.string (strL PP)) := hRS.2.2.1.cell 5
  have m6 : w3.cell? ⟨b2, 6, none⟩ = some (.string (strL TT)) := hRS.2.2.1.cell 6
  have m7 : w3.cell? ⟨b2, 7, none⟩ = some (.bool false) := hRS.2.2.1.cell 7
  have z3 : ((x9 : Int) = 3) = False := by simp; have := h9.out; omega
  have y3 : ((x9 : Int) == 3) = false := by simp; have := h9.out; omega
  have z4 : ((x9 : Int) = 4) = True := by simp; have := h9.out; omega
  have y4 : ((x9 : Int) == 4) = true := by simp; have := h9.out; omega
  have HNA := Lib.hid (show ¬ ((false : Bool) = true ∨ (false : Bool) = true ∨ ((x9 : Int) = 3 ∧ pal = false)) by rintro (h | h | h); exact absurd h (by decide); exact absurd h (by decide); exact absurd (show x9 = 3 from by omega) (by have := h9.out; omega))
  have HR := Lib.hid (show readT L = ([], hs0, 26) by
    have h := step_err (s' := ⟨pal, false, false, gap, PP, TT, DD⟩) (e := 26) HDA.out HS.out.run (by unfold stepH; rw [if_neg htIHDR.out, if_neg htPLTE.out, if_pos htTRNS.out, if_neg HNA.out, if_pos (by left; rw [h9.out]; rfl)])
    rw [HTL.out, h, if_neg (show ¬ (26 : Int) = 0 by decide)])
  clear hRS hOW hI3
  go_wp2
  exact read_ret HQ.out.1 HQ.out.2 rfl rfl rfl HR.out

set_option maxHeartbeats 1000000 in
theorem rd_trns_b2 (hT : Stays w g o n b0 b1 b2 a b x8 x9 x12 L R) (hS : LoopS w b0 b1 b2 n a b x8 x9 x12 L R i ⟨pal, false, false, gap, PP, TT, DD⟩ dv wr) (hlt : i < n) (hat : L[i]? = some (t, d)) (htIHDR : Hid (¬ t = tIHDR)) (htPLTE : Hid (¬ t = tPLTE)) (htTRNS : Hid (t = tTRNS)) (h9 : Hid (x9 = 6)) (HTL : Hid (readT L = if R.2 = 0 then (numsH D0, R) else ([], hs0, R.2))) (hret : ∀ act w1, bodyPost Try.prog Try.f18 (GotH w (readT L)) Exit.ret act w1 → Q0 .ret act w1) :
    Code.wp Try.prog bodyR (Exit.then (fun act w1 => WIR w g o n cap b0 b1 b2 a b x8 x9 x12 L R c1 c6 c8 c16 c17 c18 c19 c20 c21 c22 c23 c24 c25 c26 c27 c28 c29 c30 c31 c32 c33 c34 c35 c36 c37 c38 c39 c40 c41 c42 c43 c44 c45 c46 c47 c48 c49 c50 c51 c52 c53 c54 c55 c56 c57 c58 c59 c60 c61 c62 c63 c64 c65 c66 c67 c68 c69 c260 act w1 ∧ MuR n act w1 < MuR n ⟨#[.slice (some ⟨g, o, none⟩) n cap, c1, .pointer (some ⟨b0, 0, none⟩), u3, u4, .pointer (some ⟨b1, 0, none⟩), c6, .pointer (some ⟨b2, 0, none⟩), c8, dv, .bool pal, .bool false, .bool gap, .int .i64 (i : Int), u14, u15, c16, c17, c18, c19, c20, c21, c22, c23, c24, c25, c26, c27, c28, c29, c30, c31, c32, c33, c34, c35, c36, c37, c38, c39, c40, c41, c42, c43, c44, c45, c46, c47, c48, c49, c50, c51, c52, c53, c54, c55, c56, c57, c58, c59, c60, c61, c62, c63, c64, c65, c66, c67, c68, c69, u70, u71, u72, u73, u74, u75, u76, u77, u78, u79, u80, u81, u82, u83, u84, u85, u86, u87, u88, u89, u90, u91, u92, u93, u94, u95, u96, u97, u98, u99, u100, u101, u102, u103, u104, u105, u106, u107, u108, u109, u110, u111, u112, u113, u114, u115, u116, u117, u118, u119, u120, u121, u122, u123, u124, u125, u126, u127, u128, u129, u130, u131, u132, u133, u134, u135, u136, u137, u138, u139, u140, u141, u142, u143, u144, u145, u146, u147, u148, u149, u150, u151, u152, u153, u154, u155, u156, u157, u158, u159, u160, u161, u162, u163, u164, u165, u166, u167, u168, u169, u170, u171, u172, u173, u174, u175, u176, u177, u178, u179, u180, u181, u182, u183, u184, u185, u186, u187, u188, u189, u190, u191, u192, u193, u194, u195, u196, u197, u198, u199, u200, u201, u202, u203, u204, u205, u206, u207, u208, u209, u210, u211, u212, u213, u214, u215, u216, u217, u218, u219, u220, u221, u222, u223, u224, u225, u226, u227, u228, u229, u230, u231, u232, u233, u234, u235, u236, u237, u238, u239, u240, u241, u242, u243, u244, u245, u246, u247, u248, u249, u250, u251, u252, u253, u254, u255, u256, u257, u258, u259, c260], []⟩ wr) Q0) ⟨#[.slice (some ⟨g, o, none⟩) n cap, c1, .pointer (some ⟨b0, 0, none⟩), u3, u4, .pointer (some ⟨b1, 0, none⟩), c6, .pointer (some ⟨b2, 0, none⟩), c8, dv, .bool pal, .bool false, .bool gap, .int .i64 (i : Int), u14, u15, c16, c17, c18, c19, c20, c21, c22, c23, c24, c25, c26, c27, c28, c29, c30, c31, c32, c33, c34, c35, c36, c37, c38, c39, c40, c41, c42, c43, c44, c45, c46, c47, c48, c49, c50, c51, c52, c53, c54, c55, c56, c57, c58, c59, c60, c61, c62, c63, c64, c65, c66, c67, c68, c69, u70, u71, u72, u73, u74, u75, u76, u77, u78, u79, u80, u81, u82, u83, u84, u85, u86, u87, u88, u89, u90, u91, u92, u93, u94, u95, u96, u97, u98, u99, u100, u101, u102, u103, u104, u105, u106, u107, u108, u109, u110, u111, u112, u113, u114, u115, u116, u117, u118, u119, u120, u121, u122, u123, u124, u125, u126, u127, u128, u129, u130, u131, u132, u133, u134, u135, u136, u137, u138, u139, u140, u141, u142, u143, u144, u145, u146, u147, u148, u149, u150, u151, u152, u153, u154, u155, u156, u157, u158, u159, u160, u161, u162, u163, u164, u165, u166, u167, u168, u169, u170, u171, u172, u173, u174, u175, u176, u177, u178, u179, u180, u181, u182, u183, u184, u185, u186, u187, u188, u189, u190, u191, u192, u193, u194, u195, u196, u197, u198, u199, u200, u201, u202, u203, u204, u205, u206, u207, u208, u209, u210, u211, u212, u213, u214, u215, u216, u217, u218, u219, u220, u221, u222, u223, u224, u225, u226, u227, u228, u229, u230, u231, u232, u233, u234, u235, u236, u237, u238, u239, u240, u241, u242, u243, u244, u245, u246, u247, u248, u249, u250, u251, u252, u253, u254, u255, u256, u257, u258, u259, c260], []⟩ wr := by
  conv => arg 2; whnf
  have HT := Lib.hid hT
  have HS := Lib.hid hS
  have hcc := hT.cks.at hlt
  obtain ⟨g', o', k', he, hg, hc0, hc1, hat'⟩ := hcc
  have hk : k' = (t, d) := Option.some.inj (hat'.symm.trans hat)
  subst hk
  injection he with he
  injection he with he1 he2
  subst he1 he2
  have c0 := hS.rds.2.2.2.cell hc0 (by simp)
  have c1 := hS.rds.2.2.2.cell hc1 (by simp)
  dsimp only at c0 c1
  have k0 : (0 : Int) ≤ (i : Int) := by omega
  have k1 : (i : Int) < (n : Int) := by omega
  have n63 := hT.n63
  have hRS := hS.rds.alloc (.cells #[.string (strL t), .string (strL d)] 30)
  have hOW := hS.own.but ((But.refl [] wr).alloc (.cells #[.string (strL t), .string (strL d)] 30))
  have hI3 := Is.fresh wr 30 #[.string (strL t), .string (strL d)]
  have hds : (strL d).size = d.length := strL_size d
  obtain ⟨m, hm⟩ : ∃ m, m = d.length := ⟨_, rfl⟩
  rw [← hm] at hds
  have HM := Lib.hid hm
  have HAT := Lib.hid hat
  have HDA := Lib.hid (drop_at hat)
  clear hT hS hg hc0 hc1 hat' hat hm hlt
  have HRSw := Lib.hid hRS
  have HOWw := Lib.hid hOW
  have HI3w := Lib.hid hI3
  clear hRS hOW hI3
  go_upto_region 19 with (fail)
  have hRS := HRSw.out
  have hOW := HOWw.out
  have hI3 := HI3w.out
  clear HRSw HOWw HI3w
  obtain ⟨w3, hw3⟩ : ∃ x, x = wr.alloc (.cells #[.string (strL t), .string (strL d)] 30) := ⟨_, rfl⟩
  obtain ⟨b3, hb3⟩ : ∃ x, x = wr.heap.size := ⟨_, rfl⟩
  rw [← hw3] at hRS hOW hI3 ⊢
  rw [← hb3] at hI3 ⊢
  have HRS := Lib.hid hRS
  have HOW := Lib.hid hOW
  clear hw3 hb3 c0 c1
  have c0 : w3.cell? ⟨b3, 0, none⟩ = some (.string (strL t)) := hI3.cell 0
  have c1 : w3.cell? ⟨b3, 1, none⟩ = some (.string (strL d)) := hI3.cell 1
  have qtTRNS := str_eq htTRNS.out
  unfold tTRNS at qtTRNS
  have r0 : w3.cell? ⟨b0, 0, none⟩ = some (.int .i64 0) := hRS.1.cell 0
  have r1 : w3.cell? ⟨b0, 1, none⟩ = some (.int .i64 0) := hRS.1.cell 1
  have r2 : w3.cell? ⟨b0, 2, none⟩ = some (.int .i64 0) := hRS.1.cell 2
  have r3 : w3.cell? ⟨b0, 3, none⟩ = some (.int .i64 0) := hRS.1.cell 3
  have r4 : w3.cell? ⟨b0, 4, none⟩ = some (.int .i64 0) := hRS.1.cell 4
  have r5 : w3.cell? ⟨b0, 5, none⟩ = some (.string ⟨#[]⟩) := hRS.1.cell 5
  have r6 : w3.cell? ⟨b0, 6, none⟩ = some (.string ⟨#[]⟩) := hRS.1.cell 6
  have r7 : w3.cell? ⟨b0, 7, none⟩ = some (.bool false) := hRS.1.cell 7
  have f0 := hRS.1.free 0
  have f1 := hRS.1.free 1
  have f2 := hRS.1.free 2
  have f3 := hRS.1.free 3
  have f4 := hRS.1.free 4
  have f5 := hRS.1.free 5
  have f6 := hRS.1.free 6
  have f7 := hRS.1.free 7
  have n0 : w3.cell? ⟨b1, 0, none⟩ = some (.int .i64 0) := hRS.2.1.cell 0
  have n1 : w3.cell? ⟨b1, 1, none⟩ = some (.int .i64 0) := hRS.2.1.cell 1
  have n2 : w3.cell? ⟨b1, 2, none⟩ = some (.int .i64 0) := hRS.2.1.cell 2
  have n3 : w3.cell? ⟨b1, 3, none⟩ = some (.int .i64 0) := hRS.2.1.cell 3
  have n4 : w3.cell? ⟨b1, 4, none⟩ = some (.int .i64 0) := hRS.2.1.cell 4
  have n5 : w3.cell? ⟨b1, 5, none⟩ = some (.string ⟨#[]⟩) := hRS.2.1.cell 5
  have n6 : w3.cell? ⟨b1, 6, none⟩ = some (.string ⟨#[]⟩) := hRS.2.1.cell 6
  have n7 : w3.cell? ⟨b1, 7, none⟩ = some (.bool false) := hRS.2.1.cell 7
  have HQ := Lib.hid (zero_put hRS.1 hRS.2.2.2 (by rw [HT.out.e0]; exact Nat.le_refl _))
  have m0 : w3.cell? ⟨b2, 0, none⟩ = some (.int .i64 (a : Int)) := hRS.2.2.1.cell 0
  have m1 : w3.cell? ⟨b2, 1, none⟩ = some (.int .i64 (b : Int)) := hRS.2.2.1.cell 1
  have m2 : w3.cell? ⟨b2, 2, none⟩ = some (.int .i64 (x8 : Int)) := hRS.2.2.1.cell 2
  have m3 : w3.cell? ⟨b2, 3, none⟩ = some (.int .i64 (x9 : Int)) := hRS.2.2.1.cell 3
  have m4 : w3.cell? ⟨b2, 4, none⟩ = some (.int .i64 (x12 : Int)) := hRS.2.2.1.cell 4
  have m5 : w3.cell? ⟨b2, 5, none⟩ = some (.string (strL PP)) := hRS.2.2.1.cell 5
  have m6 : w3.cell? ⟨b2, 6, none⟩ = some (.string (strL TT)) := hRS.2.2.1.cell 6
  have m7 : w3.cell? ⟨b2, 7, none⟩ = some (.bool false) := hRS.2.2.1.cell 7
  have z3 : ((x9 : Int) = 3) = False := by simp; have := h9.out; omega
  have y3 : ((x9 : Int) == 3) = false := by simp; have := h9.out; omega
  have z4 : ((x9 : Int) = 4) = False := by simp; have := h9.out; omega
  have y4 : ((x9 : Int) == 4) = false := by simp; have := h9.out; omega
  have z6 : ((x9 : Int) = 6) = True := by simp; have := h9.out; omega
  have y6 : ((x9 : Int) == 6) = true := by simp; have := h9.out; omega
  have HNA := Lib.hid (show ¬ ((false : Bool) = true ∨ (false : Bool) = true ∨ ((x9 : Int) = 3 ∧ pal = false)) by rintro (h | h | h); exact absurd h (by decide); exact absurd h (by decide); exact absurd (show x9 = 3 from by omega) (by have := h9.out; omega))
  have HR := Lib.hid (show readT L = ([], hs0, 26) by
    have h := step_err (s' := ⟨pal, false, false, gap, PP, TT, DD⟩) (e := 26) HDA.out HS.out.run (by unfold stepH; rw [if_neg htIHDR.out, if_neg htPLTE.out, if_pos htTRNS.out, if_neg HNA.out, if_pos (by right; left; rw [h9.out]; rfl)])
    rw [HTL.out, h, if_neg (show ¬ (26 : Int) = 0 by decide)])
  clear hRS hOW hI3
  go_wp2
  exact read_ret HQ.out.1 HQ.out.2 rfl rfl rfl HR.out

set_option maxHeartbeats 1000000 in
theorem rd_trns_b3 (hT : Stays w g o n b0 b1 b2 a b x8 x9 x12 L R) (hS : LoopS w b0 b1 b2 n a b x8 x9 x12 L R i ⟨pal, false, false, gap, PP, TT, DD⟩ dv wr) (hlt : i < n) (hat : L[i]? = some (t, d)) (htIHDR : Hid (¬ t = tIHDR)) (htPLTE : Hid (¬ t = tPLTE)) (htTRNS : Hid (t = tTRNS)) (h9 : Hid (x9 = 0)) (hm3 : Hid (d.length ≠ 2)) (HTL : Hid (readT L = if R.2 = 0 then (numsH D0, R) else ([], hs0, R.2))) (hret : ∀ act w1, bodyPost Try.prog Try.f18 (GotH w (readT L)) Exit.ret act w1 → Q0 .ret act w1) :
    Code.wp Try.prog bodyR (Exit.then (fun act w1 => WIR w g o n cap b0 b1 b2 a b x8 x9 x12 L R c1 c6 c8 c16 c17 c18 c19 c20 c21 c22 c23 c24 c25 c26 c27 c28 c29 c30 c31 c32 c33 c34 c35 c36 c37 c38 c39 c40 c41 c42 c43 c44 c45 c46 c47 c48 c49 c50 c51 c52 c53 c54 c55 c56 c57 c58 c59 c60 c61 c62 c63 c64 c65 c66 c67 c68 c69 c260 act w1 ∧ MuR n act w1 < MuR n ⟨#[.slice (some ⟨g, o, none⟩) n cap, c1, .pointer (some ⟨b0, 0, none⟩), u3, u4, .pointer (some ⟨b1, 0, none⟩), c6, .pointer (some ⟨b2, 0, none⟩), c8, dv, .bool pal, .bool false, .bool gap, .int .i64 (i : Int), u14, u15, c16, c17, c18, c19, c20, c21, c22, c23, c24, c25, c26, c27, c28, c29, c30, c31, c32, c33, c34, c35, c36, c37, c38, c39, c40, c41, c42, c43, c44, c45, c46, c47, c48, c49, c50, c51, c52, c53, c54, c55, c56, c57, c58, c59, c60, c61, c62, c63, c64, c65, c66, c67, c68, c69, u70, u71, u72, u73, u74, u75, u76, u77, u78, u79, u80, u81, u82, u83, u84, u85, u86, u87, u88, u89, u90, u91, u92, u93, u94, u95, u96, u97, u98, u99, u100, u101, u102, u103, u104, u105, u106, u107, u108, u109, u110, u111, u112, u113, u114, u115, u116, u117, u118, u119, u120, u121, u122, u123, u124, u125, u126, u127, u128, u129, u130, u131, u132, u133, u134, u135, u136, u137, u138, u139, u140, u141, u142, u143, u144, u145, u146, u147, u148, u149, u150, u151, u152, u153, u154, u155, u156, u157, u158, u159, u160, u161, u162, u163, u164, u165, u166, u167, u168, u169, u170, u171, u172, u173, u174, u175, u176, u177, u178, u179, u180, u181, u182, u183, u184, u185, u186, u187, u188, u189, u190, u191, u192, u193, u194, u195, u196, u197, u198, u199, u200, u201, u202, u203, u204, u205, u206, u207, u208, u209, u210, u211, u212, u213, u214, u215, u216, u217, u218, u219, u220, u221, u222, u223, u224, u225, u226, u227, u228, u229, u230, u231, u232, u233, u234, u235, u236, u237, u238, u239, u240, u241, u242, u243, u244, u245, u246, u247, u248, u249, u250, u251, u252, u253, u254, u255, u256, u257, u258, u259, c260], []⟩ wr) Q0) ⟨#[.slice (some ⟨g, o, none⟩) n cap, c1, .pointer (some ⟨b0, 0, none⟩), u3, u4, .pointer (some ⟨b1, 0, none⟩), c6, .pointer (some ⟨b2, 0, none⟩), c8, dv, .bool pal, .bool false, .bool gap, .int .i64 (i : Int), u14, u15, c16, c17, c18, c19, c20, c21, c22, c23, c24, c25, c26, c27, c28, c29, c30, c31, c32, c33, c34, c35, c36, c37, c38, c39, c40, c41, c42, c43, c44, c45, c46, c47, c48, c49, c50, c51, c52, c53, c54, c55, c56, c57, c58, c59, c60, c61, c62, c63, c64, c65, c66, c67, c68, c69, u70, u71, u72, u73, u74, u75, u76, u77, u78, u79, u80, u81, u82, u83, u84, u85, u86, u87, u88, u89, u90, u91, u92, u93, u94, u95, u96, u97, u98, u99, u100, u101, u102, u103, u104, u105, u106, u107, u108, u109, u110, u111, u112, u113, u114, u115, u116, u117, u118, u119, u120, u121, u122, u123, u124, u125, u126, u127, u128, u129, u130, u131, u132, u133, u134, u135, u136, u137, u138, u139, u140, u141, u142, u143, u144, u145, u146, u147, u148, u149, u150, u151, u152, u153, u154, u155, u156, u157, u158, u159, u160, u161, u162, u163, u164, u165, u166, u167, u168, u169, u170, u171, u172, u173, u174, u175, u176, u177, u178, u179, u180, u181, u182, u183, u184, u185, u186, u187, u188, u189, u190, u191, u192, u193, u194, u195, u196, u197, u198, u199, u200, u201, u202, u203, u204, u205, u206, u207, u208, u209, u210, u211, u212, u213, u214, u215, u216, u217, u218, u219, u220, u221, u222, u223, u224, u225, u226, u227, u228, u229, u230, u231, u232, u233, u234, u235, u236, u237, u238, u239, u240, u241, u242, u243, u244, u245, u246, u247, u248, u249, u250, u251, u252, u253, u254, u255, u256, u257, u258, u259, c260], []⟩ wr := by
  conv => arg 2; whnf
  have HT := Lib.hid hT
  have HS := Lib.hid hS
  have hcc := hT.cks.at hlt
  obtain ⟨g', o', k', he, hg, hc0, hc1, hat'⟩ := hcc
  have hk : k' = (t, d) := Option.some.inj (hat'.symm.trans hat)
  subst hk
  injection he with he
  injection he with he1 he2
  subst he1 he2
  have c0 := hS.rds.2.2.2.cell hc0 (by simp)
  have c1 := hS.rds.2.2.2.cell hc1 (by simp)
  dsimp only at c0 c1
  have k0 : (0 : Int) ≤ (i : Int) := by omega
  have k1 : (i : Int) < (n : Int) := by omega
  have n63 := hT.n63
  have hRS := hS.rds.alloc (.cells #[.string (strL t), .string (strL d)] 30)
  have hOW := hS.own.but ((But.refl [] wr).alloc (.cells #[.string (strL t), .string (strL d)] 30))
  have hI3 := Is.fresh wr 30 #[.string (strL t), .string (strL d)]
  have hds : (strL d).size = d.length := strL_size d
  obtain ⟨m, hm⟩ : ∃ m, m = d.length := ⟨_, rfl⟩
  rw [← hm] at hds
  have HM := Lib.hid hm
  have HAT := Lib.hid hat
  have HDA := Lib.hid (drop_at hat)
  clear hT hS hg hc0 hc1 hat' hat hm hlt
  have HRSw := Lib.hid hRS
  have HOWw := Lib.hid hOW
  have HI3w := Lib.hid hI3
  clear hRS hOW hI3
  go_upto_region 19 with (fail)
  have hRS := HRSw.out
  have hOW := HOWw.out
  have hI3 := HI3w.out
  clear HRSw HOWw HI3w
  obtain ⟨w3, hw3⟩ : ∃ x, x = wr.alloc (.cells #[.string (strL t), .string (strL d)] 30) := ⟨_, rfl⟩
  obtain ⟨b3, hb3⟩ : ∃ x, x = wr.heap.size := ⟨_, rfl⟩
  rw [← hw3] at hRS hOW hI3 ⊢
  rw [← hb3] at hI3 ⊢
  have HRS := Lib.hid hRS
  have HOW := Lib.hid hOW
  clear hw3 hb3 c0 c1
  have c0 : w3.cell? ⟨b3, 0, none⟩ = some (.string (strL t)) := hI3.cell 0
  have c1 : w3.cell? ⟨b3, 1, none⟩ = some (.string (strL d)) := hI3.cell 1
  have qtTRNS := str_eq htTRNS.out
  unfold tTRNS at qtTRNS
  have r0 : w3.cell? ⟨b0, 0, none⟩ = some (.int .i64 0) := hRS.1.cell 0
  have r1 : w3.cell? ⟨b0, 1, none⟩ = some (.int .i64 0) := hRS.1.cell 1
  have r2 : w3.cell? ⟨b0, 2, none⟩ = some (.int .i64 0) := hRS.1.cell 2
  have r3 : w3.cell? ⟨b0, 3, none⟩ = some (.int .i64 0) := hRS.1.cell 3
  have r4 : w3.cell? ⟨b0, 4, none⟩ = some (.int .i64 0) := hRS.1.cell 4
  have r5 : w3.cell? ⟨b0, 5, none⟩ = some (.string ⟨#[]⟩) := hRS.1.cell 5
  have r6 : w3.cell? ⟨b0, 6, none⟩ = some (.string ⟨#[]⟩) := hRS.1.cell 6
  have r7 : w3.cell? ⟨b0, 7, none⟩ = some (.bool false) := hRS.1.cell 7
  have f0 := hRS.1.free 0
  have f1 := hRS.1.free 1
  have f2 := hRS.1.free 2
  have f3 := hRS.1.free 3
  have f4 := hRS.1.free 4
  have f5 := hRS.1.free 5
  have f6 := hRS.1.free 6
  have f7 := hRS.1.free 7
  have n0 : w3.cell? ⟨b1, 0, none⟩ = some (.int .i64 0) := hRS.2.1.cell 0
  have n1 : w3.cell? ⟨b1, 1, none⟩ = some (.int .i64 0) := hRS.2.1.cell 1
  have n2 : w3.cell? ⟨b1, 2, none⟩ = some (.int .i64 0) := hRS.2.1.cell 2
  have n3 : w3.cell? ⟨b1, 3, none⟩ = some (.int .i64 0) := hRS.2.1.cell 3
  have n4 : w3.cell? ⟨b1, 4, none⟩ = some (.int .i64 0) := hRS.2.1.cell 4
  have n5 : w3.cell? ⟨b1, 5, none⟩ = some (.string ⟨#[]⟩) := hRS.2.1.cell 5
  have n6 : w3.cell? ⟨b1, 6, none⟩ = some (.string ⟨#[]⟩) := hRS.2.1.cell 6
  have n7 : w3.cell? ⟨b1, 7, none⟩ = some (.bool false) := hRS.2.1.cell 7
  have HQ := Lib.hid (zero_put hRS.1 hRS.2.2.2 (by rw [HT.out.e0]; exact Nat.le_refl _))
  have m0 : w3.cell? ⟨b2, 0, none⟩ = some (.int .i64 (a : Int)) := hRS.2.2.1.cell 0
  have m1 : w3.cell? ⟨b2, 1, none⟩ = some (.int .i64 (b : Int)) := hRS.2.2.1.cell 1
  have m2 : w3.cell? ⟨b2, 2, none⟩ = some (.int .i64 (x8 : Int)) := hRS.2.2.1.cell 2
  have m3 : w3.cell? ⟨b2, 3, none⟩ = some (.int .i64 (x9 : Int)) := hRS.2.2.1.cell 3
  have m4 : w3.cell? ⟨b2, 4, none⟩ = some (.int .i64 (x12 : Int)) := hRS.2.2.1.cell 4
  have m5 : w3.cell? ⟨b2, 5, none⟩ = some (.string (strL PP)) := hRS.2.2.1.cell 5
  have m6 : w3.cell? ⟨b2, 6, none⟩ = some (.string (strL TT)) := hRS.2.2.1.cell 6
  have m7 : w3.cell? ⟨b2, 7, none⟩ = some (.bool false) := hRS.2.2.1.cell 7
  have z3 : ((x9 : Int) = 3) = False := by simp; have := h9.out; omega
  have y3 : ((x9 : Int) == 3) = false := by simp; have := h9.out; omega
  have z4 : ((x9 : Int) = 4) = False := by simp; have := h9.out; omega
  have y4 : ((x9 : Int) == 4) = false := by simp; have := h9.out; omega
  have z6 : ((x9 : Int) = 6) = False := by simp; have := h9.out; omega
  have y6 : ((x9 : Int) == 6) = false := by simp; have := h9.out; omega
  have z0 : ((x9 : Int) = 0) = True := by simp; have := h9.out; omega
  have y0 : ((x9 : Int) == 0) = true := by simp; have := h9.out; omega
  have hmm := hm3.out
  rw [← HM.out] at hmm
  have dm : ((m : Int) != 2) = true := by simp; omega
  clear hmm
  have HNA := Lib.hid (show ¬ ((false : Bool) = true ∨ (false : Bool) = true ∨ ((x9 : Int) = 3 ∧ pal = false)) by rintro (h | h | h); exact absurd h (by decide); exact absurd h (by decide); exact absurd (show x9 = 3 from by omega) (by have := h9.out; omega))
  have HR := Lib.hid (show readT L = ([], hs0, 26) by
    have h := step_err (s' := ⟨pal, false, false, gap, PP, TT, DD⟩) (e := 26) HDA.out HS.out.run (by unfold stepH; rw [if_neg htIHDR.out, if_neg htPLTE.out, if_pos htTRNS.out, if_neg HNA.out, if_pos (by right; right; left; exact ⟨by rw [h9.out]; rfl, hm3.out⟩)])
    rw [HTL.out, h, if_neg (show ¬ (26 : Int) = 0 by decide)])
  clear hRS hOW hI3
  go_wp2
  exact read_ret HQ.out.1 HQ.out.2 rfl rfl rfl HR.out

set_option maxHeartbeats 1000000 in
theorem rd_trns_b4 (hT : Stays w g o n b0 b1 b2 a b x8 x9 x12 L R) (hS : LoopS w b0 b1 b2 n a b x8 x9 x12 L R i ⟨pal, false, false, gap, PP, TT, DD⟩ dv wr) (hlt : i < n) (hat : L[i]? = some (t, d)) (htIHDR : Hid (¬ t = tIHDR)) (htPLTE : Hid (¬ t = tPLTE)) (htTRNS : Hid (t = tTRNS)) (h9 : Hid (x9 = 2)) (hm3 : Hid (d.length ≠ 6)) (HTL : Hid (readT L = if R.2 = 0 then (numsH D0, R) else ([], hs0, R.2))) (hret : ∀ act w1, bodyPost Try.prog Try.f18 (GotH w (readT L)) Exit.ret act w1 → Q0 .ret act w1) :
    Code.wp Try.prog bodyR (Exit.then (fun act w1 => WIR w g o n cap b0 b1 b2 a b x8 x9 x12 L R c1 c6 c8 c16 c17 c18 c19 c20 c21 c22 c23 c24 c25 c26 c27 c28 c29 c30 c31 c32 c33 c34 c35 c36 c37 c38 c39 c40 c41 c42 c43 c44 c45 c46 c47 c48 c49 c50 c51 c52 c53 c54 c55 c56 c57 c58 c59 c60 c61 c62 c63 c64 c65 c66 c67 c68 c69 c260 act w1 ∧ MuR n act w1 < MuR n ⟨#[.slice (some ⟨g, o, none⟩) n cap, c1, .pointer (some ⟨b0, 0, none⟩), u3, u4, .pointer (some ⟨b1, 0, none⟩), c6, .pointer (some ⟨b2, 0, none⟩), c8, dv, .bool pal, .bool false, .bool gap, .int .i64 (i : Int), u14, u15, c16, c17, c18, c19, c20, c21, c22, c23, c24, c25, c26, c27, c28, c29, c30, c31, c32, c33, c34, c35, c36, c37, c38, c39, c40, c41, c42, c43, c44, c45, c46, c47, c48, c49, c50, c51, c52, c53, c54, c55, c56, c57, c58, c59, c60, c61, c62, c63, c64, c65, c66, c67, c68, c69, u70, u71, u72, u73, u74, u75, u76, u77, u78, u79, u80, u81, u82, u83, u84, u85, u86, u87, u88, u89, u90, u91, u92, u93, u94, u95, u96, u97, u98, u99, u100, u101, u102, u103, u104, u105, u106, u107, u108, u109, u110, u111, u112, u113, u114, u115, u116, u117, u118, u119, u120, u121, u122, u123, u124, u125, u126, u127, u128, u129, u130, u131, u132, u133, u134, u135, u136, u137, u138, u139, u140, u141, u142, u143, u144, u145, u146, u147, u148, u149, u150, u151, u152, u153, u154, u155, u156, u157, u158, u159, u160, u161, u162, u163, u164, u165, u166, u167, u168, u169, u170, u171, u172, u173, u174, u175, u176, u177, u178, u179, u180, u181, u182, u183, u184, u185, u186, u187, u188, u189, u190, u191, u192, u193, u194, u195, u196, u197, u198, u199, u200, u201, u202, u203, u204, u205, u206, u207, u208, u209, u210, u211, u212, u213, u214, u215, u216, u217, u218, u219, u220, u221, u222, u223, u224, u225, u226, u227, u228, u229, u230, u231, u232, u233, u234, u235, u236, u237, u238, u239, u240, u241, u242, u243, u244, u245, u246, u247, u248, u249, u250, u251, u252, u253, u254, u255, u256, u257, u258, u259, c260], []⟩ wr) Q0) ⟨#[.slice (some ⟨g, o, none⟩) n cap, c1, .pointer (some ⟨b0, 0, none⟩), u3, u4, .pointer (some ⟨b1, 0, none⟩), c6, .pointer (some ⟨b2, 0, none⟩), c8, dv, .bool pal, .bool false, .bool gap, .int .i64 (i : Int), u14, u15, c16, c17, c18, c19, c20, c21, c22, c23, c24, c25, c26, c27, c28, c29, c30, c31, c32, c33, c34, c35, c36, c37, c38, c39, c40, c41, c42, c43, c44, c45, c46, c47, c48, c49, c50, c51, c52, c53, c54, c55, c56, c57, c58, c59, c60, c61, c62, c63, c64, c65, c66, c67, c68, c69, u70, u71, u72, u73, u74, u75, u76, u77, u78, u79, u80, u81, u82, u83, u84, u85, u86, u87, u88, u89, u90, u91, u92, u93, u94, u95, u96, u97, u98, u99, u100, u101, u102, u103, u104, u105, u106, u107, u108, u109, u110, u111, u112, u113, u114, u115, u116, u117, u118, u119, u120, u121, u122, u123, u124, u125, u126, u127, u128, u129, u130, u131, u132, u133, u134, u135, u136, u137, u138, u139, u140, u141, u142, u143, u144, u145, u146, u147, u148, u149, u150, u151, u152, u153, u154, u155, u156, u157, u158, u159, u160, u161, u162, u163, u164, u165, u166, u167, u168, u169, u170, u171, u172, u173, u174, u175, u176, u177, u178, u179, u180, u181, u182, u183, u184, u185, u186, u187, u188, u189, u190, u191, u192, u193, u194, u195, u196, u197, u198, u199, u200, u201, u202, u203, u204, u205, u206, u207, u208, u209, u210, u211, u212, u213, u214, u215, u216, u217, u218, u219, u220, u221, u222, u223, u224, u225, u226, u227, u228, u229, u230, u231, u232, u233, u234, u235, u236, u237, u238, u239, u240, u241, u242, u243, u244, u245, u246, u247, u248, u249, u250, u251, u252, u253, u254, u255, u256, u257, u258, u259, c260], []⟩ wr := by
  conv => arg 2; whnf
  have HT := Lib.hid hT
  have HS := Lib.hid hS
  have hcc := hT.cks.at hlt
  obtain ⟨g', o', k', he, hg, hc0, hc1, hat'⟩ := hcc
  have hk : k' = (t, d) := Option.some.inj (hat'.symm.trans hat)
  subst hk
  injection he with he
  injection he with he1 he2
  subst he1 he2
  have c0 := hS.rds.2.2.2.cell hc0 (by simp)
  have c1 := hS.rds.2.2.2.cell hc1 (by simp)
  dsimp only at c0 c1
  have k0 : (0 : Int) ≤ (i : Int) := by omega
  have k1 : (i : Int) < (n : Int) := by omega
  have n63 := hT.n63
  have hRS := hS.rds.alloc (.cells #[.string (strL t), .string (strL d)] 30)
  have hOW := hS.own.but ((But.refl [] wr).alloc (.cells #[.string (strL t), .string (strL d)] 30))
  have hI3 := Is.fresh wr 30 #[.string (strL t), .string (strL d)]
  have hds : (strL d).size = d.length := strL_size d
  obtain ⟨m, hm⟩ : ∃ m, m = d.length := ⟨_, rfl⟩
  rw [← hm] at hds
  have HM := Lib.hid hm
  have HAT := Lib.hid hat
  have HDA := Lib.hid (drop_at hat)
  clear hT hS hg hc0 hc1 hat' hat hm hlt
  have HRSw := Lib.hid hRS
  have HOWw := Lib.hid hOW
  have HI3w := Lib.hid hI3
  clear hRS hOW hI3
  go_upto_region 19 with (fail)
  have hRS := HRSw.out
  have hOW := HOWw.out
  have hI3 := HI3w.out
  clear HRSw HOWw HI3w
  obtain ⟨w3, hw3⟩ : ∃ x, x = wr.alloc (.cells #[.string (strL t), .string (strL d)] 30) := ⟨_, rfl⟩
  obtain ⟨b3, hb3⟩ : ∃ x, x = wr.heap.size := ⟨_, rfl⟩
  rw [← hw3] at hRS hOW hI3 ⊢
  rw [← hb3] at hI3 ⊢
  have HRS := Lib.hid hRS
  have HOW := Lib.hid hOW
  clear hw3 hb3 c0 c1
  have c0 : w3.cell? ⟨b3, 0, none⟩ = some (.string (strL t)) := hI3.cell 0
  have c1 : w3.cell? ⟨b3, 1, none⟩ = some (.string (strL d)) := hI3.cell 1
  have qtTRNS := str_eq htTRNS.out
  unfold tTRNS at qtTRNS
  have r0 : w3.cell? ⟨b0, 0, none⟩ = some (.int .i64 0) := hRS.1.cell 0
  have r1 : w3.cell? ⟨b0, 1, none⟩ = some (.int .i64 0) := hRS.1.cell 1
  have r2 : w3.cell? ⟨b0, 2, none⟩ = some (.int .i64 0) := hRS.1.cell 2
  have r3 : w3.cell? ⟨b0, 3, none⟩ = some (.int .i64 0) := hRS.1.cell 3
  have r4 : w3.cell? ⟨b0, 4, none⟩ = some (.int .i64 0) := hRS.1.cell 4
  have r5 : w3.cell? ⟨b0, 5, none⟩ = some (.string ⟨#[]⟩) := hRS.1.cell 5
  have r6 : w3.cell? ⟨b0, 6, none⟩ = some (.string ⟨#[]⟩) := hRS.1.cell 6
  have r7 : w3.cell? ⟨b0, 7, none⟩ = some (.bool false) := hRS.1.cell 7
  have f0 := hRS.1.free 0
  have f1 := hRS.1.free 1
  have f2 := hRS.1.free 2
  have f3 := hRS.1.free 3
  have f4 := hRS.1.free 4
  have f5 := hRS.1.free 5
  have f6 := hRS.1.free 6
  have f7 := hRS.1.free 7
  have n0 : w3.cell? ⟨b1, 0, none⟩ = some (.int .i64 0) := hRS.2.1.cell 0
  have n1 : w3.cell? ⟨b1, 1, none⟩ = some (.int .i64 0) := hRS.2.1.cell 1
  have n2 : w3.cell? ⟨b1, 2, none⟩ = some (.int .i64 0) := hRS.2.1.cell 2
  have n3 : w3.cell? ⟨b1, 3, none⟩ = some (.int .i64 0) := hRS.2.1.cell 3
  have n4 : w3.cell? ⟨b1, 4, none⟩ = some (.int .i64 0) := hRS.2.1.cell 4
  have n5 : w3.cell? ⟨b1, 5, none⟩ = some (.string ⟨#[]⟩) := hRS.2.1.cell 5
  have n6 : w3.cell? ⟨b1, 6, none⟩ = some (.string ⟨#[]⟩) := hRS.2.1.cell 6
  have n7 : w3.cell? ⟨b1, 7, none⟩ = some (.bool false) := hRS.2.1.cell 7
  have HQ := Lib.hid (zero_put hRS.1 hRS.2.2.2 (by rw [HT.out.e0]; exact Nat.le_refl _))
  have m0 : w3.cell? ⟨b2, 0, none⟩ = some (.int .i64 (a : Int)) := hRS.2.2.1.cell 0
  have m1 : w3.cell? ⟨b2, 1, none⟩ = some (.int .i64 (b : Int)) := hRS.2.2.1.cell 1
  have m2 : w3.cell? ⟨b2, 2, none⟩ = some (.int .i64 (x8 : Int)) := hRS.2.2.1.cell 2
  have m3 : w3.cell? ⟨b2, 3, none⟩ = some (.int .i64 (x9 : Int)) := hRS.2.2.1.cell 3
  have m4 : w3.cell? ⟨b2, 4, none⟩ = some (.int .i64 (x12 : Int)) := hRS.2.2.1.cell 4
  have m5 : w3.cell? ⟨b2, 5, none⟩ = some (.string (strL PP)) := hRS.2.2.1.cell 5
  have m6 : w3.cell? ⟨b2, 6, none⟩ = some (.string (strL TT)) := hRS.2.2.1.cell 6
  have m7 : w3.cell? ⟨b2, 7, none⟩ = some (.bool false) := hRS.2.2.1.cell 7
  have z3 : ((x9 : Int) = 3) = False := by simp; have := h9.out; omega
  have y3 : ((x9 : Int) == 3) = false := by simp; have := h9.out; omega
  have z4 : ((x9 : Int) = 4) = False := by simp; have := h9.out; omega
  have y4 : ((x9 : Int) == 4) = false := by simp; have := h9.out; omega
  have z6 : ((x9 : Int) = 6) = False := by simp; have := h9.out; omega
  have y6 : ((x9 : Int) == 6) = false := by simp; have := h9.out; omega
  have z0 : ((x9 : Int) = 0) = False := by simp; have := h9.out; omega
  have y0 : ((x9 : Int) == 0) = false := by simp; have := h9.out; omega
  have z2 : ((x9 : Int) = 2) = True := by simp; have := h9.out; omega
  have y2 : ((x9 : Int) == 2) = true := by simp; have := h9.out; omega
  have hmm := hm3.out
  rw [← HM.out] at hmm
  have dm : ((m : Int) != 6) = true := by simp; omega
  clear hmm
  have HNA := Lib.hid (show ¬ ((false : Bool) = true ∨ (false : Bool) = true ∨ ((x9 : Int) = 3 ∧ pal = false)) by rintro (h | h | h); exact absurd h (by decide); exact absurd h (by decide); exact absurd (show x9 = 3 from by omega) (by have := h9.out; omega))
  have HR := Lib.hid (show readT L = ([], hs0, 26) by
    have h := step_err (s' := ⟨pal, false, false, gap, PP, TT, DD⟩) (e := 26) HDA.out HS.out.run (by unfold stepH; rw [if_neg htIHDR.out, if_neg htPLTE.out, if_pos htTRNS.out, if_neg HNA.out, if_pos (by right; right; right; left; exact ⟨by rw [h9.out]; rfl, hm3.out⟩)])
    rw [HTL.out, h, if_neg (show ¬ (26 : Int) = 0 by decide)])
  clear hRS hOW hI3
  go_wp2
  exact read_ret HQ.out.1 HQ.out.2 rfl rfl rfl HR.out

set_option maxHeartbeats 1000000 in
theorem rd_trns_b5 (hT : Stays w g o n b0 b1 b2 a b x8 x9 x12 L R) (hS : LoopS w b0 b1 b2 n a b x8 x9 x12 L R i ⟨true, false, false, gap, PP, TT, DD⟩ dv wr) (hlt : i < n) (hat : L[i]? = some (t, d)) (htIHDR : Hid (¬ t = tIHDR)) (htPLTE : Hid (¬ t = tPLTE)) (htTRNS : Hid (t = tTRNS)) (h9 : Hid (x9 = 3)) (hm3 : Hid (PP.length / 3 < d.length)) (HTL : Hid (readT L = if R.2 = 0 then (numsH D0, R) else ([], hs0, R.2))) (hret : ∀ act w1, bodyPost Try.prog Try.f18 (GotH w (readT L)) Exit.ret act w1 → Q0 .ret act w1) :
    Code.wp Try.prog bodyR (Exit.then (fun act w1 => WIR w g o n cap b0 b1 b2 a b x8 x9 x12 L R c1 c6 c8 c16 c17 c18 c19 c20 c21 c22 c23 c24 c25 c26 c27 c28 c29 c30 c31 c32 c33 c34 c35 c36 c37 c38 c39 c40 c41 c42 c43 c44 c45 c46 c47 c48 c49 c50 c51 c52 c53 c54 c55 c56 c57 c58 c59 c60 c61 c62 c63 c64 c65 c66 c67 c68 c69 c260 act w1 ∧ MuR n act w1 < MuR n ⟨#[.slice (some ⟨g, o, none⟩) n cap, c1, .pointer (some ⟨b0, 0, none⟩), u3, u4, .pointer (some ⟨b1, 0, none⟩), c6, .pointer (some ⟨b2, 0, none⟩), c8, dv, .bool true, .bool false, .bool gap, .int .i64 (i : Int), u14, u15, c16, c17, c18, c19, c20, c21, c22, c23, c24, c25, c26, c27, c28, c29, c30, c31, c32, c33, c34, c35, c36, c37, c38, c39, c40, c41, c42, c43, c44, c45, c46, c47, c48, c49, c50, c51, c52, c53, c54, c55, c56, c57, c58, c59, c60, c61, c62, c63, c64, c65, c66, c67, c68, c69, u70, u71, u72, u73, u74, u75, u76, u77, u78, u79, u80, u81, u82, u83, u84, u85, u86, u87, u88, u89, u90, u91, u92, u93, u94, u95, u96, u97, u98, u99, u100, u101, u102, u103, u104, u105, u106, u107, u108, u109, u110, u111, u112, u113, u114, u115, u116, u117, u118, u119, u120, u121, u122, u123, u124, u125, u126, u127, u128, u129, u130, u131, u132, u133, u134, u135, u136, u137, u138, u139, u140, u141, u142, u143, u144, u145, u146, u147, u148, u149, u150, u151, u152, u153, u154, u155, u156, u157, u158, u159, u160, u161, u162, u163, u164, u165, u166, u167, u168, u169, u170, u171, u172, u173, u174, u175, u176, u177, u178, u179, u180, u181, u182, u183, u184, u185, u186, u187, u188, u189, u190, u191, u192, u193, u194, u195, u196, u197, u198, u199, u200, u201, u202, u203, u204, u205, u206, u207, u208, u209, u210, u211, u212, u213, u214, u215, u216, u217, u218, u219, u220, u221, u222, u223, u224, u225, u226, u227, u228, u229, u230, u231, u232, u233, u234, u235, u236, u237, u238, u239, u240, u241, u242, u243, u244, u245, u246, u247, u248, u249, u250, u251, u252, u253, u254, u255, u256, u257, u258, u259, c260], []⟩ wr) Q0) ⟨#[.slice (some ⟨g, o, none⟩) n cap, c1, .pointer (some ⟨b0, 0, none⟩), u3, u4, .pointer (some ⟨b1, 0, none⟩), c6, .pointer (some ⟨b2, 0, none⟩), c8, dv, .bool true, .bool false, .bool gap, .int .i64 (i : Int), u14, u15, c16, c17, c18, c19, c20, c21, c22, c23, c24, c25, c26, c27, c28, c29, c30, c31, c32, c33, c34, c35, c36, c37, c38, c39, c40, c41, c42, c43, c44, c45, c46, c47, c48, c49, c50, c51, c52, c53, c54, c55, c56, c57, c58, c59, c60, c61, c62, c63, c64, c65, c66, c67, c68, c69, u70, u71, u72, u73, u74, u75, u76, u77, u78, u79, u80, u81, u82, u83, u84, u85, u86, u87, u88, u89, u90, u91, u92, u93, u94, u95, u96, u97, u98, u99, u100, u101, u102, u103, u104, u105, u106, u107, u108, u109, u110, u111, u112, u113, u114, u115, u116, u117, u118, u119, u120, u121, u122, u123, u124, u125, u126, u127, u128, u129, u130, u131, u132, u133, u134, u135, u136, u137, u138, u139, u140, u141, u142, u143, u144, u145, u146, u147, u148, u149, u150, u151, u152, u153, u154, u155, u156, u157, u158, u159, u160, u161, u162, u163, u164, u165, u166, u167, u168, u169, u170, u171, u172, u173, u174, u175, u176, u177, u178, u179, u180, u181, u182, u183, u184, u185, u186, u187, u188, u189, u190, u191, u192, u193, u194, u195, u196, u197, u198, u199, u200, u201, u202, u203, u204, u205, u206, u207, u208, u209, u210, u211, u212, u213, u214, u215, u216, u217, u218, u219, u220, u221, u222, u223, u224, u225, u226, u227, u228, u229, u230, u231, u232, u233, u234, u235, u236, u237, u238, u239, u240, u241, u242, u243, u244, u245, u246, u247, u248, u249, u250, u251, u252, u253, u254, u255, u256, u257, u258, u259, c260], []⟩ wr := by
  conv => arg 2; whnf
  have HT := Lib.hid hT
  have HS := Lib.hid hS
  have hcc := hT.cks.at hlt
  obtain ⟨g', o', k', he, hg, hc0, hc1, hat'⟩ := hcc
  have hk : k' = (t, d) := Option.some.inj (hat'.symm.trans hat)
  subst hk
  injection he with he
  injection he with he1 he2
  subst he1 he2
  have c0 := hS.rds.2.2.2.cell hc0 (by simp)
  have c1 := hS.rds.2.2.2.cell hc1 (by simp)
  dsimp only at c0 c1
  have k0 : (0 : Int) ≤ (i : Int) := by omega
  have k1 : (i : Int) < (n : Int) := by omega
  have n63 := hT.n63
  have hRS := hS.rds.alloc (.cells #[.string (strL t), .string (strL d)] 30)
  have hOW := hS.own.but ((But.refl [] wr).alloc (.cells #[.string (strL t), .string (strL d)] 30))
  have hI3 := Is.fresh wr 30 #[.string (strL t), .string (strL d)]
  have hds : (strL d).size = d.length := strL_size d
  obtain ⟨m, hm⟩ : ∃ m, m = d.length := ⟨_, rfl⟩
  rw [← hm] at hds
  have HM := Lib.hid hm
  have HAT := Lib.hid hat
  have HDA := Lib.hid (drop_at hat)
  clear hT hS hg hc0 hc1 hat' hat hm hlt
  have HRSw := Lib.hid hRS
  have HOWw := Lib.hid hOW
  have HI3w := Lib.hid hI3
  clear hRS hOW hI3
  go_upto_region 19 with (fail)
  have hRS := HRSw.out
  have hOW := HOWw.out
  have hI3 := HI3w.out
  clear HRSw HOWw HI3w
  obtain ⟨w3, hw3⟩ : ∃ x, x = wr.alloc (.cells #[.string (strL t), .string (strL d)] 30) := ⟨_, rfl⟩
  obtain ⟨b3, hb3⟩ : ∃ x, x = wr.heap.size := ⟨_, rfl⟩
  rw [← hw3] at hRS hOW hI3 ⊢
  rw [← hb3] at hI3 ⊢
  have HRS := Lib.hid hRS
  have HOW := Lib.hid hOW
  clear hw3 hb3 c0 c1
  have c0 : w3.cell? ⟨b3, 0, none⟩ = some (.string (strL t)) := hI3.cell 0
  have c1 : w3.cell? ⟨b3, 1, none⟩ = some (.string (strL d)) := hI3.cell 1
  have qtTRNS := str_eq htTRNS.out
  unfold tTRNS at qtTRNS
  have r0 : w3.cell? ⟨b0, 0, none⟩ = some (.int .i64 0) := hRS.1.cell 0
  have r1 : w3.cell? ⟨b0, 1, none⟩ = some (.int .i64 0) := hRS.1.cell 1
  have r2 : w3.cell? ⟨b0, 2, none⟩ = some (.int .i64 0) := hRS.1.cell 2
  have r3 : w3.cell? ⟨b0, 3, none⟩ = some (.int .i64 0) := hRS.1.cell 3
  have r4 : w3.cell? ⟨b0, 4, none⟩ = some (.int .i64 0) := hRS.1.cell 4
  have r5 : w3.cell? ⟨b0, 5, none⟩ = some (.string ⟨#[]⟩) := hRS.1.cell 5
  have r6 : w3.cell? ⟨b0, 6, none⟩ = some (.string ⟨#[]⟩) := hRS.1.cell 6
  have r7 : w3.cell? ⟨b0, 7, none⟩ = some (.bool false) := hRS.1.cell 7
  have f0 := hRS.1.free 0
  have f1 := hRS.1.free 1
  have f2 := hRS.1.free 2
  have f3 := hRS.1.free 3
  have f4 := hRS.1.free 4
  have f5 := hRS.1.free 5
  have f6 := hRS.1.free 6
  have f7 := hRS.1.free 7
  have n0 : w3.cell? ⟨b1, 0, none⟩ = some (.int .i64 0) := hRS.2.1.cell 0
  have n1 : w3.cell? ⟨b1, 1, none⟩ = some (.int .i64 0) := hRS.2.1.cell 1
  have n2 : w3.cell? ⟨b1, 2, none⟩ = some (.int .i64 0) := hRS.2.1.cell 2
  have n3 : w3.cell? ⟨b1, 3, none⟩ = some (.int .i64 0) := hRS.2.1.cell 3
  have n4 : w3.cell? ⟨b1, 4, none⟩ = some (.int .i64 0) := hRS.2.1.cell 4
  have n5 : w3.cell? ⟨b1, 5, none⟩ = some (.string ⟨#[]⟩) := hRS.2.1.cell 5
  have n6 : w3.cell? ⟨b1, 6, none⟩ = some (.string ⟨#[]⟩) := hRS.2.1.cell 6
  have n7 : w3.cell? ⟨b1, 7, none⟩ = some (.bool false) := hRS.2.1.cell 7
  have HQ := Lib.hid (zero_put hRS.1 hRS.2.2.2 (by rw [HT.out.e0]; exact Nat.le_refl _))
  have m0 : w3.cell? ⟨b2, 0, none⟩ = some (.int .i64 (a : Int)) := hRS.2.2.1.cell 0
  have m1 : w3.cell? ⟨b2, 1, none⟩ = some (.int .i64 (b : Int)) := hRS.2.2.1.cell 1
  have m2 : w3.cell? ⟨b2, 2, none⟩ = some (.int .i64 (x8 : Int)) := hRS.2.2.1.cell 2
  have m3 : w3.cell? ⟨b2, 3, none⟩ = some (.int .i64 (x9 : Int)) := hRS.2.2.1.cell 3
  have m4 : w3.cell? ⟨b2, 4, none⟩ = some (.int .i64 (x12 : Int)) := hRS.2.2.1.cell 4
  have m5 : w3.cell? ⟨b2, 5, none⟩ = some (.string (strL PP)) := hRS.2.2.1.cell 5
  have m6 : w3.cell? ⟨b2, 6, none⟩ = some (.string (strL TT)) := hRS.2.2.1.cell 6
  have m7 : w3.cell? ⟨b2, 7, none⟩ = some (.bool false) := hRS.2.2.1.cell 7
  have z4 : ((x9 : Int) = 4) = False := by simp; have := h9.out; omega
  have y4 : ((x9 : Int) == 4) = false := by simp; have := h9.out; omega
  have z6 : ((x9 : Int) = 6) = False := by simp; have := h9.out; omega
  have y6 : ((x9 : Int) == 6) = false := by simp; have := h9.out; omega
  have z0 : ((x9 : Int) = 0) = False := by simp; have := h9.out; omega
  have y0 : ((x9 : Int) == 0) = false := by simp; have := h9.out; omega
  have z2 : ((x9 : Int) = 2) = False := by simp; have := h9.out; omega
  have y2 : ((x9 : Int) == 2) = false := by simp; have := h9.out; omega
  have z3 : ((x9 : Int) = 3) = True := by simp; have := h9.out; omega
  have y3 : ((x9 : Int) == 3) = true := by simp; have := h9.out; omega
  have hmm := hm3.out
  rw [← HM.out] at hmm
  have hps : (strL PP).size = PP.length := strL_size PP
  obtain ⟨pl, hpl⟩ : ∃ n, n = PP.length := ⟨_, rfl⟩
  rw [← hpl] at hps hmm
  have hpb0 := HS.out.pb
  dsimp only at hpb0
  rw [← hpl] at hpb0
  obtain ⟨p3, hp3⟩ : ∃ n, n = pl / 3 := ⟨_, rfl⟩
  rw [← hp3] at hmm
  have hq3 : (pl : Int) / 3 = (p3 : Int) := by omega
  have hq3' : (pl : Int).tdiv 3 = (p3 : Int) := by rw [Int.tdiv_eq_ediv_of_nonneg (by omega)]; exact hq3
  have hwp : wrap64 (p3 : Int) = (p3 : Int) := IntWalk.wrap64_in _ ⟨by omega, by omega⟩
  clear hpl hp3 hpb0
  have dk : decide ((p3 : Int) < (m : Int)) = true := by simp; omega
  have dk2 : decide (p3 < m) = true := by simp; omega
  have dk3 : p3 < m := hmm
  clear hmm
  have HNA := Lib.hid (show ¬ ((false : Bool) = true ∨ (false : Bool) = true ∨ ((x9 : Int) = 3 ∧ true = false)) by simp)
  have HR := Lib.hid (show readT L = ([], hs0, 26) by
    have h := step_err (s' := ⟨true, false, false, gap, PP, TT, DD⟩) (e := 26) HDA.out HS.out.run (by unfold stepH; rw [if_neg htIHDR.out, if_neg htPLTE.out, if_pos htTRNS.out, if_neg HNA.out, if_pos (by right; right; right; right; exact ⟨by rw [h9.out]; rfl, hm3.out⟩)])
    rw [HTL.out, h, if_neg (show ¬ (26 : Int) = 0 by decide)])
  clear hRS hOW hI3
  go_wp2
  exact read_ret HQ.out.1 HQ.out.2 rfl rfl rfl HR.out

set_option maxHeartbeats 1000000 in
theorem rd_trns_c1 (hT : Stays w g o n b0 b1 b2 a b x8 x9 x12 L R) (hS : LoopS w b0 b1 b2 n a b x8 x9 x12 L R i ⟨pal, false, false, gap, PP, TT, DD⟩ dv wr) (hlt : i < n) (hat : L[i]? = some (t, d)) (htIHDR : Hid (¬ t = tIHDR)) (htPLTE : Hid (¬ t = tPLTE)) (htTRNS : Hid (t = tTRNS)) (h9 : Hid (x9 = 0)) (hm3 : Hid (d.length = 2)) (HTL : Hid (readT L = if R.2 = 0 then (numsH D0, R) else ([], hs0, R.2)))  :
    Code.wp Try.prog bodyR (Exit.then (fun act w1 => WIR w g o n cap b0 b1 b2 a b x8 x9 x12 L R c1 c6 c8 c16 c17 c18 c19 c20 c21 c22 c23 c24 c25 c26 c27 c28 c29 c30 c31 c32 c33 c34 c35 c36 c37 c38 c39 c40 c41 c42 c43 c44 c45 c46 c47 c48 c49 c50 c51 c52 c53 c54 c55 c56 c57 c58 c59 c60 c61 c62 c63 c64 c65 c66 c67 c68 c69 c260 act w1 ∧ MuR n act w1 < MuR n ⟨#[.slice (some ⟨g, o, none⟩) n cap, c1, .pointer (some ⟨b0, 0, none⟩), u3, u4, .pointer (some ⟨b1, 0, none⟩), c6, .pointer (some ⟨b2, 0, none⟩), c8, dv, .bool pal, .bool false, .bool gap, .int .i64 (i : Int), u14, u15, c16, c17, c18, c19, c20, c21, c22, c23, c24, c25, c26, c27, c28, c29, c30, c31, c32, c33, c34, c35, c36, c37, c38, c39, c40, c41, c42, c43, c44, c45, c46, c47, c48, c49, c50, c51, c52, c53, c54, c55, c56, c57, c58, c59, c60, c61, c62, c63, c64, c65, c66, c67, c68, c69, u70, u71, u72, u73, u74, u75, u76, u77, u78, u79, u80, u81, u82, u83, u84, u85, u86, u87, u88, u89, u90, u91, u92, u93, u94, u95, u96, u97, u98, u99, u100, u101, u102, u103, u104, u105, u106, u107, u108, u109, u110, u111, u112, u113, u114, u115, u116, u117, u118, u119, u120, u121, u122, u123, u124, u125, u126, u127, u128, u129, u130, u131, u132, u133, u134, u135, u136, u137, u138, u139, u140, u141, u142, u143, u144, u145, u146, u147, u148, u149, u150, u151, u152, u153, u154, u155, u156, u157, u158, u159, u160, u161, u162, u163, u164, u165, u166, u167, u168, u169, u170, u171, u172, u173, u174, u175, u176, u177, u178, u179, u180, u181, u182, u183, u184, u185, u186, u187, u188, u189, u190, u191, u192, u193, u194, u195, u196, u197, u198, u199, u200, u201, u202, u203, u204, u205, u206, u207, u208, u209, u210, u211, u212, u213, u214, u215, u216, u217, u218, u219, u220, u221, u222, u223, u224, u225, u226, u227, u228, u229, u230, u231, u232, u233, u234, u235, u236, u237, u238, u239, u240, u241, u242, u243, u244, u245, u246, u247, u248, u249, u250, u251, u252, u253, u254, u255, u256, u257, u258, u259, c260], []⟩ wr) Q0) ⟨#[.slice (some ⟨g, o, none⟩) n cap, c1, .pointer (some ⟨b0, 0, none⟩), u3, u4, .pointer (some ⟨b1, 0, none⟩), c6, .pointer (some ⟨b2, 0, none⟩), c8, dv, .bool pal, .bool false, .bool gap, .int .i64 (i : Int), u14, u15, c16, c17, c18, c19, c20, c21, c22, c23, c24, c25, c26, c27, c28, c29, c30, c31, c32, c33, c34, c35, c36, c37, c38, c39, c40, c41, c42, c43, c44, c45, c46, c47, c48, c49, c50, c51, c52, c53, c54, c55, c56, c57, c58, c59, c60, c61, c62, c63, c64, c65, c66, c67, c68, c69, u70, u71, u72, u73, u74, u75, u76, u77, u78, u79, u80, u81, u82, u83, u84, u85, u86, u87, u88, u89, u90, u91, u92, u93, u94, u95, u96, u97, u98, u99, u100, u101, u102, u103, u104, u105, u106, u107, u108, u109, u110, u111, u112, u113, u114, u115, u116, u117, u118, u119, u120, u121, u122, u123, u124, u125, u126, u127, u128, u129, u130, u131, u132, u133, u134, u135, u136, u137, u138, u139, u140, u141, u142, u143, u144, u145, u146, u147, u148, u149, u150, u151, u152, u153, u154, u155, u156, u157, u158, u159, u160, u161, u162, u163, u164, u165, u166, u167, u168, u169, u170, u171, u172, u173, u174, u175, u176, u177, u178, u179, u180, u181, u182, u183, u184, u185, u186, u187, u188, u189, u190, u191, u192, u193, u194, u195, u196, u197, u198, u199, u200, u201, u202, u203, u204, u205, u206, u207, u208, u209, u210, u211, u212, u213, u214, u215, u216, u217, u218, u219, u220, u221, u222, u223, u224, u225, u226, u227, u228, u229, u230, u231, u232, u233, u234, u235, u236, u237, u238, u239, u240, u241, u242, u243, u244, u245, u246, u247, u248, u249, u250, u251, u252, u253, u254, u255, u256, u257, u258, u259, c260], []⟩ wr := by
  conv => arg 2; whnf
  have HT := Lib.hid hT
  have HS := Lib.hid hS
  have hcc := hT.cks.at hlt
  obtain ⟨g', o', k', he, hg, hc0, hc1, hat'⟩ := hcc
  have hk : k' = (t, d) := Option.some.inj (hat'.symm.trans hat)
  subst hk
  injection he with he
  injection he with he1 he2
  subst he1 he2
  have c0 := hS.rds.2.2.2.cell hc0 (by simp)
  have c1 := hS.rds.2.2.2.cell hc1 (by simp)
  dsimp only at c0 c1
  have k0 : (0 : Int) ≤ (i : Int) := by omega
  have k1 : (i : Int) < (n : Int) := by omega
  have n63 := hT.n63
  have hRS := hS.rds.alloc (.cells #[.string (strL t), .string (strL d)] 30)
  have hOW := hS.own.but ((But.refl [] wr).alloc (.cells #[.string (strL t), .string (strL d)] 30))
  have hI3 := Is.fresh wr 30 #[.string (strL t), .string (strL d)]
  have hds : (strL d).size = d.length := strL_size d
  obtain ⟨m, hm⟩ : ∃ m, m = d.length := ⟨_, rfl⟩
  rw [← hm] at hds
  have HM := Lib.hid hm
  have HAT := Lib.hid hat
  have HDA := Lib.hid (drop_at hat)
  clear hT hS hg hc0 hc1 hat' hat hm hlt
  have HRSw := Lib.hid hRS
  have HOWw := Lib.hid hOW
  have HI3w := Lib.hid hI3
  clear hRS hOW hI3
  go_upto_region 19 with (fail)
  have hRS := HRSw.out
  have hOW := HOWw.out
  have hI3 := HI3w.out
  clear HRSw HOWw HI3w
  obtain ⟨w3, hw3⟩ : ∃ x, x = wr.alloc (.cells #[.string (strL t), .string (strL d)] 30) := ⟨_, rfl⟩
  obtain ⟨b3, hb3⟩ : ∃ x, x = wr.heap.size := ⟨_, rfl⟩
  rw [← hw3] at hRS hOW hI3 ⊢
  rw [← hb3] at hI3 ⊢
  have HRS := Lib.hid hRS
  have HOW := Lib.hid hOW
  clear hw3 hb3 c0 c1
  have c0 : w3.cell? ⟨b3, 0, none⟩ = some (.string (strL t)) := hI3.cell 0
  have c1 : w3.cell? ⟨b3, 1, none⟩ = some (.string (strL d)) := hI3.cell 1
  have qtTRNS := str_eq htTRNS.out
  unfold tTRNS at qtTRNS
  have m0 : w3.cell? ⟨b2, 0, none⟩ = some (.int .i64 (a : Int)) := hRS.2.2.1.cell 0
  have m1 : w3.cell? ⟨b2, 1, none⟩ = some (.int .i64 (b : Int)) := hRS.2.2.1.cell 1
  have m2 : w3.cell? ⟨b2, 2, none⟩ = some (.int .i64 (x8 : Int)) := hRS.2.2.1.cell 2
  have m3 : w3.cell? ⟨b2, 3, none⟩ = some (.int .i64 (x9 : Int)) := hRS.2.2.1.cell 3
  have m4 : w3.cell? ⟨b2, 4, none⟩ = some (.int .i64 (x12 : Int)) := hRS.2.2.1.cell 4
  have m5 : w3.cell? ⟨b2, 5, none⟩ = some (.string (strL PP)) := hRS.2.2.1.cell 5
  have m6 : w3.cell? ⟨b2, 6, none⟩ = some (.string (strL TT)) := hRS.2.2.1.cell 6
  have m7 : w3.cell? ⟨b2, 7, none⟩ = some (.bool false) := hRS.2.2.1.cell 7
  have z3 : ((x9 : Int) = 3) = False := by simp; have := h9.out; omega
  have y3 : ((x9 : Int) == 3) = false := by simp; have := h9.out; omega
  have z4 : ((x9 : Int) = 4) = False := by simp; have := h9.out; omega
  have y4 : ((x9 : Int) == 4) = false := by simp; have := h9.out; omega
  have z6 : ((x9 : Int) = 6) = False := by simp; have := h9.out; omega
  have y6 : ((x9 : Int) == 6) = false := by simp; have := h9.out; omega
  have z0 : ((x9 : Int) = 0) = True := by simp; have := h9.out; omega
  have y0 : ((x9 : Int) == 0) = true := by simp; have := h9.out; omega
  have z2 : ((x9 : Int) = 2) = False := by simp; have := h9.out; omega
  have y2 : ((x9 : Int) == 2) = false := by simp; have := h9.out; omega
  have hmm := hm3.out
  rw [← HM.out] at hmm
  have dm : ((m : Int) != 2) = false := by simp; omega
  clear hmm
  have HNA := Lib.hid (show ¬ ((false : Bool) = true ∨ (false : Bool) = true ∨ ((x9 : Int) = 3 ∧ pal = false)) by rintro (h | h | h); exact absurd h (by decide); exact absurd h (by decide); exact absurd (show x9 = 3 from by omega) (by have := h9.out; omega))
  have hdat := HS.out.dat
  rw [HDA.out] at hdat
  unfold dataC at hdat
  rw [List.map_cons, List.sum_cons] at hdat
  dsimp only at hdat
  have HD2 := Lib.hid (show DD.length + dataC (L.drop (i + 1)) ≤ 100000000 by unfold dataC; omega)
  clear hdat
  have w1i : IntKind.i64.wrap ((i : Int) + 1) = (i : Int) + 1 := IntWalk.i64_in _ (by omega)
  have p6 := hRS.2.2.1.free 6
  have p7 := hRS.2.2.1.free 7
  have hR2 := hRS.put HT.out.ge2 HT.out.ne0 HT.out.ne1 7 (.bool true)
  have hO2 := OwnY.keepS (i := 7) (x := .bool true) hOW hRS.2.2.1
  have HR2 := Lib.hid (hR2.put HT.out.ge2 HT.out.ne0 HT.out.ne1 6 (.string (strL d)))
  have HO2 := Lib.hid (OwnY.keepS (i := 6) (x := .string (strL d)) hO2 hR2.2.2.1)
  clear hR2 hO2
  clear hRS hOW hI3
  go_wp2
  refine ⟨?_, ?_⟩
  · unfold WIR
    exact ⟨_, _, _, _, _, _, _, _, _, _, _, _, _, _, _, _, _, _, _, _, _, _, _, _, _, _, _, _, _, _, _, _, _, _, _, _, _, _, _, _, _, _, _, _, _, _, _, _, _, _, _, _, _, _, _, _, _, _, _, _, _, _, _, _, _, _, _, _, _, _, _, _, _, _, _, _, _, _, _, _, _, _, _, _, _, _, _, _, _, _, _, _, _, _, _, _, _, _, _, _, _, _, _, _, _, _, _, _, _, _, _, _, _, _, _, _, _, _, _, _, _, _, _, _, _, _, _, _, _, _, _, _, _, _, _, _, _, _, _, _, _, _, _, _, _, _, _, _, _, _, _, _, _, _, _, _, _, _, _, _, _, _, _, _, _, _, _, _, _, _, _, _, _, _, _, _, _, _, _, _, _, _, _, _, _, _, _, _, _, _, _, _, _, _, i + 1, ⟨pal, true, false, false, PP, d, DD⟩, dv, ⟨by have := HS.out.lo; omega, by omega, HO2.out, HD2.out, HR2.out, step_on HDA.out HS.out.run (by unfold stepH; rw [if_neg htIHDR.out, if_neg htPLTE.out, if_pos htTRNS.out, if_neg HNA.out, if_neg (by have h1 := h9.out; have h2 := hm3.out; dsimp only; omega)]), HS.out.pb⟩, rfl⟩
  · show n - (intOf (.int .i64 ((i : Int) + 1))).toNat < n - (intOf (.int .i64 (i : Int))).toNat
    simp [intOf]; omega

set_option maxHeartbeats 1000000 in
theorem rd_trns_c2 (hT : Stays w g o n b0 b1 b2 a b x8 x9 x12 L R) (hS : LoopS w b0 b1 b2 n a b x8 x9 x12 L R i ⟨pal, false, false, gap, PP, TT, DD⟩ dv wr) (hlt : i < n) (hat : L[i]? = some (t, d)) (htIHDR : Hid (¬ t = tIHDR)) (htPLTE : Hid (¬ t = tPLTE)) (htTRNS : Hid (t = tTRNS)) (h9 : Hid (x9 = 2)) (hm3 : Hid (d.length = 6)) (HTL : Hid (readT L = if R.2 = 0 then (numsH D0, R) else ([], hs0, R.2)))  :
    Code.wp Try.prog bodyR (Exit.then (fun act w1 => WIR w g o n cap b0 b1 b2 a b x8 x9 x12 L R c1 c6 c8 c16 c17 c18 c19 c20 c21 c22 c23 c24 c25 c26 c27 c28 c29 c30 c31 c32 c33 c34 c35 c36 c37 c38 c39 c40 c41 c42 c43 c44 c45 c46 c47 c48 c49 c50 c51 c52 c53 c54 c55 c56 c57 c58 c59 c60 c61 c62 c63 c64 c65 c66 c67 c68 c69 c260 act w1 ∧ MuR n act w1 < MuR n ⟨#[.slice (some ⟨g, o, none⟩) n cap, c1, .pointer (some ⟨b0, 0, none⟩), u3, u4, .pointer (some ⟨b1, 0, none⟩), c6, .pointer (some ⟨b2, 0, none⟩), c8, dv, .bool pal, .bool false, .bool gap, .int .i64 (i : Int), u14, u15, c16, c17, c18, c19, c20, c21, c22, c23, c24, c25, c26, c27, c28, c29, c30, c31, c32, c33, c34, c35, c36, c37, c38, c39, c40, c41, c42, c43, c44, c45, c46, c47, c48, c49, c50, c51, c52, c53, c54, c55, c56, c57, c58, c59, c60, c61, c62, c63, c64, c65, c66, c67, c68, c69, u70, u71, u72, u73, u74, u75, u76, u77, u78, u79, u80, u81, u82, u83, u84, u85, u86, u87, u88, u89, u90, u91, u92, u93, u94, u95, u96, u97, u98, u99, u100, u101, u102, u103, u104, u105, u106, u107, u108, u109, u110, u111, u112, u113, u114, u115, u116, u117, u118, u119, u120, u121, u122, u123, u124, u125, u126, u127, u128, u129, u130, u131, u132, u133, u134, u135, u136, u137, u138, u139, u140, u141, u142, u143, u144, u145, u146, u147, u148, u149, u150, u151, u152, u153, u154, u155, u156, u157, u158, u159, u160, u161, u162, u163, u164, u165, u166, u167, u168, u169, u170, u171, u172, u173, u174, u175, u176, u177, u178, u179, u180, u181, u182, u183, u184, u185, u186, u187, u188, u189, u190, u191, u192, u193, u194, u195, u196, u197, u198, u199, u200, u201, u202, u203, u204, u205, u206, u207, u208, u209, u210, u211, u212, u213, u214, u215, u216, u217, u218, u219, u220, u221, u222, u223, u224, u225, u226, u227, u228, u229, u230, u231, u232, u233, u234, u235, u236, u237, u238, u239, u240, u241, u242, u243, u244, u245, u246, u247, u248, u249, u250, u251, u252, u253, u254, u255, u256, u257, u258, u259, c260], []⟩ wr) Q0) ⟨#[.slice (some ⟨g, o, none⟩) n cap, c1, .pointer (some ⟨b0, 0, none⟩), u3, u4, .pointer (some ⟨b1, 0, none⟩), c6, .pointer (some ⟨b2, 0, none⟩), c8, dv, .bool pal, .bool false, .bool gap, .int .i64 (i : Int), u14, u15, c16, c17, c18, c19, c20, c21, c22, c23, c24, c25, c26, c27, c28, c29, c30, c31, c32, c33, c34, c35, c36, c37, c38, c39, c40, c41, c42, c43, c44, c45, c46, c47, c48, c49, c50, c51, c52, c53, c54, c55, c56, c57, c58, c59, c60, c61, c62, c63, c64, c65, c66, c67, c68, c69, u70, u71, u72, u73, u74, u75, u76, u77, u78, u79, u80, u81, u82, u83, u84, u85, u86, u87, u88, u89, u90, u91, u92, u93, u94, u95, u96, u97, u98, u99, u100, u101, u102, u103, u104, u105, u106, u107, u108, u109, u110, u111, u112, u113, u114, u115, u116, u117, u118, u119, u120, u121, u122, u123, u124, u125, u126, u127, u128, u129, u130, u131, u132, u133, u134, u135, u136, u137, u138, u139, u140, u141, u142, u143, u144, u145, u146, u147, u148, u149, u150, u151, u152, u153, u154, u155, u156, u157, u158, u159, u160, u161, u162, u163, u164, u165, u166, u167, u168, u169, u170, u171, u172, u173, u174, u175, u176, u177, u178, u179, u180, u181, u182, u183, u184, u185, u186, u187, u188, u189, u190, u191, u192, u193, u194, u195, u196, u197, u198, u199, u200, u201, u202, u203, u204, u205, u206, u207, u208, u209, u210, u211, u212, u213, u214, u215, u216, u217, u218, u219, u220, u221, u222, u223, u224, u225, u226, u227, u228, u229, u230, u231, u232, u233, u234, u235, u236, u237, u238, u239, u240, u241, u242, u243, u244, u245, u246, u247, u248, u249, u250, u251, u252, u253, u254, u255, u256, u257, u258, u259, c260], []⟩ wr := by
  conv => arg 2; whnf
  have HT := Lib.hid hT
  have HS := Lib.hid hS
  have hcc := hT.cks.at hlt
  obtain ⟨g', o', k', he, hg, hc0, hc1, hat'⟩ := hcc
  have hk : k' = (t, d) := Option.some.inj (hat'.symm.trans hat)
  subst hk
  injection he with he
  injection he with he1 he2
  subst he1 he2
  have c0 := hS.rds.2.2.2.cell hc0 (by simp)
  have c1 := hS.rds.2.2.2.cell hc1 (by simp)
  dsimp only at c0 c1
  have k0 : (0 : Int) ≤ (i : Int) := by omega
  have k1 : (i : Int) < (n : Int) := by omega
  have n63 := hT.n63
  have hRS := hS.rds.alloc (.cells #[.string (strL t), .string (strL d)] 30)
  have hOW := hS.own.but ((But.refl [] wr).alloc (.cells #[.string (strL t), .string (strL d)] 30))
  have hI3 := Is.fresh wr 30 #[.string (strL t), .string (strL d)]
  have hds : (strL d).size = d.length := strL_size d
  obtain ⟨m, hm⟩ : ∃ m, m = d.length := ⟨_, rfl⟩
  rw [← hm] at hds
  have HM := Lib.hid hm
  have HAT := Lib.hid hat
  have HDA := Lib.hid (drop_at hat)
  clear hT hS hg hc0 hc1 hat' hat hm hlt
  have HRSw := Lib.hid hRS
  have HOWw := Lib.hid hOW
  have HI3w := Lib.hid hI3
  clear hRS hOW hI3
  go_upto_region 19 with (fail)
  have hRS := HRSw.out
  have hOW := HOWw.out
  have hI3 := HI3w.out
  clear HRSw HOWw HI3w
  obtain ⟨w3, hw3⟩ : ∃ x, x = wr.alloc (.cells #[.string (strL t), .string (strL d)] 30) := ⟨_, rfl⟩
  obtain ⟨b3, hb3⟩ : ∃ x, x = wr.heap.size := ⟨_, rfl⟩
  rw [← hw3] at hRS hOW hI3 ⊢
  rw [← hb3] at hI3 ⊢
  have HRS := Lib.hid hRS
  have HOW := Lib.hid hOW
  clear hw3 hb3 c0 c1
  have c0 : w3.cell? ⟨b3, 0, none⟩ = some (.string (strL t)) := hI3.cell 0
  have c1 : w3.cell? ⟨b3, 1, none⟩ = some (.string (strL d)) := hI3.cell 1
  have qtTRNS := str_eq htTRNS.out
  unfold tTRNS at qtTRNS
  have m0 : w3.cell? ⟨b2, 0, none⟩ = some (.int .i64 (a : Int)) := hRS.2.2.1.cell 0
  have m1 : w3.cell? ⟨b2, 1, none⟩ = some (.int .i64 (b : Int)) := hRS.2.2.1.cell 1
  have m2 : w3.cell? ⟨b2, 2, none⟩ = some (.int .i64 (x8 : Int)) := hRS.2.2.1.cell 2
  have m3 : w3.cell? ⟨b2, 3, none⟩ = some (.int .i64 (x9 : Int)) := hRS.2.2.1.cell 3
  have m4 : w3.cell? ⟨b2, 4, none⟩ = some (.int .i64 (x12 : Int)) := hRS.2.2.1.cell 4
  have m5 : w3.cell? ⟨b2, 5, none⟩ = some (.string (strL PP)) := hRS.2.2.1.cell 5
  have m6 : w3.cell? ⟨b2, 6, none⟩ = some (.string (strL TT)) := hRS.2.2.1.cell 6
  have m7 : w3.cell? ⟨b2, 7, none⟩ = some (.bool false) := hRS.2.2.1.cell 7
  have z3 : ((x9 : Int) = 3) = False := by simp; have := h9.out; omega
  have y3 : ((x9 : Int) == 3) = false := by simp; have := h9.out; omega
  have z4 : ((x9 : Int) = 4) = False := by simp; have := h9.out; omega
  have y4 : ((x9 : Int) == 4) = false := by simp; have := h9.out; omega
  have z6 : ((x9 : Int) = 6) = False := by simp; have := h9.out; omega
  have y6 : ((x9 : Int) == 6) = false := by simp; have := h9.out; omega
  have z0 : ((x9 : Int) = 0) = False := by simp; have := h9.out; omega
  have y0 : ((x9 : Int) == 0) = false := by simp; have := h9.out; omega
  have z2 : ((x9 : Int) = 2) = True := by simp; have := h9.out; omega
  have y2 : ((x9 : Int) == 2) = true := by simp; have := h9.out; omega
  have hmm := hm3.out
  rw [← HM.out] at hmm
  have dm : ((m : Int) != 6) = false := by simp; omega
  clear hmm
  have HNA := Lib.hid (show ¬ ((false : Bool) = true ∨ (false : Bool) = true ∨ ((x9 : Int) = 3 ∧ pal = false)) by rintro (h | h | h); exact absurd h (by decide); exact absurd h (by decide); exact absurd (show x9 = 3 from by omega) (by have := h9.out; omega))
  have hdat := HS.out.dat
  rw [HDA.out] at hdat
  unfold dataC at hdat
  rw [List.map_cons, List.sum_cons] at hdat
  dsimp only at hdat
  have HD2 := Lib.hid (show DD.length + dataC (L.drop (i + 1)) ≤ 100000000 by unfold dataC; omega)
  clear hdat
  have w1i : IntKind.i64.wrap ((i : Int) + 1) = (i : Int) + 1 := IntWalk.i64_in _ (by omega)
  have p6 := hRS.2.2.1.free 6
  have p7 := hRS.2.2.1.free 7
  have hR2 := hRS.put HT.out.ge2 HT.out.ne0 HT.out.ne1 7 (.bool true)
  have hO2 := OwnY.keepS (i := 7) (x := .bool true) hOW hRS.2.2.1
  have HR2 := Lib.hid (hR2.put HT.out.ge2 HT.out.ne0 HT.out.ne1 6 (.string (strL d)))
  have HO2 := Lib.hid (OwnY.keepS (i := 6) (x := .string (strL d)) hO2 hR2.2.2.1)
  clear hR2 hO2
  clear hRS hOW hI3
  go_wp2
  refine ⟨?_, ?_⟩
  · unfold WIR
    exact ⟨_, _, _, _, _, _, _, _, _, _, _, _, _, _, _, _, _, _, _, _, _, _, _, _, _, _, _, _, _, _, _, _, _, _, _, _, _, _, _, _, _, _, _, _, _, _, _, _, _, _, _, _, _, _, _, _, _, _, _, _, _, _, _, _, _, _, _, _, _, _, _, _, _, _, _, _, _, _, _, _, _, _, _, _, _, _, _, _, _, _, _, _, _, _, _, _, _, _, _, _, _, _, _, _, _, _, _, _, _, _, _, _, _, _, _, _, _, _, _, _, _, _, _, _, _, _, _, _, _, _, _, _, _, _, _, _, _, _, _, _, _, _, _, _, _, _, _, _, _, _, _, _, _, _, _, _, _, _, _, _, _, _, _, _, _, _, _, _, _, _, _, _, _, _, _, _, _, _, _, _, _, _, _, _, _, _, _, _, _, _, _, _, _, _, i + 1, ⟨pal, true, false, false, PP, d, DD⟩, dv, ⟨by have := HS.out.lo; omega, by omega, HO2.out, HD2.out, HR2.out, step_on HDA.out HS.out.run (by unfold stepH; rw [if_neg htIHDR.out, if_neg htPLTE.out, if_pos htTRNS.out, if_neg HNA.out, if_neg (by have h1 := h9.out; have h2 := hm3.out; dsimp only; omega)]), HS.out.pb⟩, rfl⟩
  · show n - (intOf (.int .i64 ((i : Int) + 1))).toNat < n - (intOf (.int .i64 (i : Int))).toNat
    simp [intOf]; omega

set_option maxHeartbeats 1000000 in
theorem rd_trns_c3 (hT : Stays w g o n b0 b1 b2 a b x8 x9 x12 L R) (hS : LoopS w b0 b1 b2 n a b x8 x9 x12 L R i ⟨true, false, false, gap, PP, TT, DD⟩ dv wr) (hlt : i < n) (hat : L[i]? = some (t, d)) (htIHDR : Hid (¬ t = tIHDR)) (htPLTE : Hid (¬ t = tPLTE)) (htTRNS : Hid (t = tTRNS)) (h9 : Hid (x9 = 3)) (hm3 : Hid (d.length ≤ PP.length / 3)) (HTL : Hid (readT L = if R.2 = 0 then (numsH D0, R) else ([], hs0, R.2)))  :
    Code.wp Try.prog bodyR (Exit.then (fun act w1 => WIR w g o n cap b0 b1 b2 a b x8 x9 x12 L R c1 c6 c8 c16 c17 c18 c19 c20 c21 c22 c23 c24 c25 c26 c27 c28 c29 c30 c31 c32 c33 c34 c35 c36 c37 c38 c39 c40 c41 c42 c43 c44 c45 c46 c47 c48 c49 c50 c51 c52 c53 c54 c55 c56 c57 c58 c59 c60 c61 c62 c63 c64 c65 c66 c67 c68 c69 c260 act w1 ∧ MuR n act w1 < MuR n ⟨#[.slice (some ⟨g, o, none⟩) n cap, c1, .pointer (some ⟨b0, 0, none⟩), u3, u4, .pointer (some ⟨b1, 0, none⟩), c6, .pointer (some ⟨b2, 0, none⟩), c8, dv, .bool true, .bool false, .bool gap, .int .i64 (i : Int), u14, u15, c16, c17, c18, c19, c20, c21, c22, c23, c24, c25, c26, c27, c28, c29, c30, c31, c32, c33, c34, c35, c36, c37, c38, c39, c40, c41, c42, c43, c44, c45, c46, c47, c48, c49, c50, c51, c52, c53, c54, c55, c56, c57, c58, c59, c60, c61, c62, c63, c64, c65, c66, c67, c68, c69, u70, u71, u72, u73, u74, u75, u76, u77, u78, u79, u80, u81, u82, u83, u84, u85, u86, u87, u88, u89, u90, u91, u92, u93, u94, u95, u96, u97, u98, u99, u100, u101, u102, u103, u104, u105, u106, u107, u108, u109, u110, u111, u112, u113, u114, u115, u116, u117, u118, u119, u120, u121, u122, u123, u124, u125, u126, u127, u128, u129, u130, u131, u132, u133, u134, u135, u136, u137, u138, u139, u140, u141, u142, u143, u144, u145, u146, u147, u148, u149, u150, u151, u152, u153, u154, u155, u156, u157, u158, u159, u160, u161, u162, u163, u164, u165, u166, u167, u168, u169, u170, u171, u172, u173, u174, u175, u176, u177, u178, u179, u180, u181, u182, u183, u184, u185, u186, u187, u188, u189, u190, u191, u192, u193, u194, u195, u196, u197, u198, u199, u200, u201, u202, u203, u204, u205, u206, u207, u208, u209, u210, u211, u212, u213, u214, u215, u216, u217, u218, u219, u220, u221, u222, u223, u224, u225, u226, u227, u228, u229, u230, u231, u232, u233, u234, u235, u236, u237, u238, u239, u240, u241, u242, u243, u244, u245, u246, u247, u248, u249, u250, u251, u252, u253, u254, u255, u256, u257, u258, u259, c260], []⟩ wr) Q0) ⟨#[.slice (some ⟨g, o, none⟩) n cap, c1, .pointer (some ⟨b0, 0, none⟩), u3, u4, .pointer (some ⟨b1, 0, none⟩), c6, .pointer (some ⟨b2, 0, none⟩), c8, dv, .bool true, .bool false, .bool gap, .int .i64 (i : Int), u14, u15, c16, c17, c18, c19, c20, c21, c22, c23, c24, c25, c26, c27, c28, c29, c30, c31, c32, c33, c34, c35, c36, c37, c38, c39, c40, c41, c42, c43, c44, c45, c46, c47, c48, c49, c50, c51, c52, c53, c54, c55, c56, c57, c58, c59, c60, c61, c62, c63, c64, c65, c66, c67, c68, c69, u70, u71, u72, u73, u74, u75, u76, u77, u78, u79, u80, u81, u82, u83, u84, u85, u86, u87, u88, u89, u90, u91, u92, u93, u94, u95, u96, u97, u98, u99, u100, u101, u102, u103, u104, u105, u106, u107, u108, u109, u110, u111, u112, u113, u114, u115, u116, u117, u118, u119, u120, u121, u122, u123, u124, u125, u126, u127, u128, u129, u130, u131, u132, u133, u134, u135, u136, u137, u138, u139, u140, u141, u142, u143, u144, u145, u146, u147, u148, u149, u150, u151, u152, u153, u154, u155, u156, u157, u158, u159, u160, u161, u162, u163, u164, u165, u166, u167, u168, u169, u170, u171, u172, u173, u174, u175, u176, u177, u178, u179, u180, u181, u182, u183, u184, u185, u186, u187, u188, u189, u190, u191, u192, u193, u194, u195, u196, u197, u198, u199, u200, u201, u202, u203, u204, u205, u206, u207, u208, u209, u210, u211, u212, u213, u214, u215, u216, u217, u218, u219, u220, u221, u222, u223, u224, u225, u226, u227, u228, u229, u230, u231, u232, u233, u234, u235, u236, u237, u238, u239, u240, u241, u242, u243, u244, u245, u246, u247, u248, u249, u250, u251, u252, u253, u254, u255, u256, u257, u258, u259, c260], []⟩ wr := by
  conv => arg 2; whnf
  have HT := Lib.hid hT
  have HS := Lib.hid hS
  have hcc := hT.cks.at hlt
  obtain ⟨g', o', k', he, hg, hc0, hc1, hat'⟩ := hcc
  have hk : k' = (t, d) := Option.some.inj (hat'.symm.trans hat)
  subst hk
  injection he with he
  injection he with he1 he2
  subst he1 he2
  have c0 := hS.rds.2.2.2.cell hc0 (by simp)
  have c1 := hS.rds.2.2.2.cell hc1 (by simp)
  dsimp only at c0 c1
  have k0 : (0 : Int) ≤ (i : Int) := by omega
  have k1 : (i : Int) < (n : Int) := by omega
  have n63 := hT.n63
  have hRS := hS.rds.alloc (.cells #[.string (strL t), .string (strL d)] 30)
  have hOW := hS.own.but ((But.refl [] wr).alloc (.cells #[.string (strL t), .string (strL d)] 30))
  have hI3 := Is.fresh wr 30 #[.string (strL t), .string (strL d)]
  have hds : (strL d).size = d.length := strL_size d
  obtain ⟨m, hm⟩ : ∃ m, m = d.length := ⟨_, rfl⟩
  rw [← hm] at hds
  have HM := Lib.hid hm
  have HAT := Lib.hid hat
  have HDA := Lib.hid (drop_at hat)
  clear hT hS hg hc0 hc1 hat' hat hm hlt
  have HRSw := Lib.hid hRS
  have HOWw := Lib.hid hOW
  have HI3w := Lib.hid hI3
  clear hRS hOW hI3
  go_upto_region 19 with (fail)
  have hRS := HRSw.out
  have hOW := HOWw.out
  have hI3 := HI3w.out
  clear HRSw HOWw HI3w
  obtain ⟨w3, hw3⟩ : ∃ x, x = wr.alloc (.cells #[.string (strL t), .string (strL d)] 30) := ⟨_, rfl⟩
  obtain ⟨b3, hb3⟩ : ∃ x, x = wr.heap.size := ⟨_, rfl⟩
  rw [← hw3] at hRS hOW hI3 ⊢
  rw [← hb3] at hI3 ⊢
  have HRS := Lib.hid hRS
  have HOW := Lib.hid hOW
  clear hw3 hb3 c0 c1
  have c0 : w3.cell? ⟨b3, 0, none⟩ = some (.string (strL t)) := hI3.cell 0
  have c1 : w3.cell? ⟨b3, 1, none⟩ = some (.string (strL d)) := hI3.cell 1
  have qtTRNS := str_eq htTRNS.out
  unfold tTRNS at qtTRNS
  have m0 : w3.cell? ⟨b2, 0, none⟩ = some (.int .i64 (a : Int)) := hRS.2.2.1.cell 0
  have m1 : w3.cell? ⟨b2, 1, none⟩ = some (.int .i64 (b : Int)) := hRS.2.2.1.cell 1
  have m2 : w3.cell? ⟨b2, 2, none⟩ = some (.int .i64 (x8 : Int)) := hRS.2.2.1.cell 2
  have m3 : w3.cell? ⟨b2, 3, none⟩ = some (.int .i64 (x9 : Int)) := hRS.2.2.1.cell 3
  have m4 : w3.cell? ⟨b2, 4, none⟩ = some (.int .i64 (x12 : Int)) := hRS.2.2.1.cell 4
  have m5 : w3.cell? ⟨b2, 5, none⟩ = some (.string (strL PP)) := hRS.2.2.1.cell 5
  have m6 : w3.cell? ⟨b2, 6, none⟩ = some (.string (strL TT)) := hRS.2.2.1.cell 6
  have m7 : w3.cell? ⟨b2, 7, none⟩ = some (.bool false) := hRS.2.2.1.cell 7
  have z4 : ((x9 : Int) = 4) = False := by simp; have := h9.out; omega
  have y4 : ((x9 : Int) == 4) = false := by simp; have := h9.out; omega
  have z6 : ((x9 : Int) = 6) = False := by simp; have := h9.out; omega
  have y6 : ((x9 : Int) == 6) = false := by simp; have := h9.out; omega
  have z0 : ((x9 : Int) = 0) = False := by simp; have := h9.out; omega
  have y0 : ((x9 : Int) == 0) = false := by simp; have := h9.out; omega
  have z2 : ((x9 : Int) = 2) = False := by simp; have := h9.out; omega
  have y2 : ((x9 : Int) == 2) = false := by simp; have := h9.out; omega
  have z3 : ((x9 : Int) = 3) = True := by simp; have := h9.out; omega
  have y3 : ((x9 : Int) == 3) = true := by simp; have := h9.out; omega
  have hmm := hm3.out
  rw [← HM.out] at hmm
  have hps : (strL PP).size = PP.length := strL_size PP
  obtain ⟨pl, hpl⟩ : ∃ n, n = PP.length := ⟨_, rfl⟩
  rw [← hpl] at hps hmm
  have hpb0 := HS.out.pb
  dsimp only at hpb0
  rw [← hpl] at hpb0
  obtain ⟨p3, hp3⟩ : ∃ n, n = pl / 3 := ⟨_, rfl⟩
  rw [← hp3] at hmm
  have hq3 : (pl : Int) / 3 = (p3 : Int) := by omega
  have hq3' : (pl : Int).tdiv 3 = (p3 : Int) := by rw [Int.tdiv_eq_ediv_of_nonneg (by omega)]; exact hq3
  have hwp : wrap64 (p3 : Int) = (p3 : Int) := IntWalk.wrap64_in _ ⟨by omega, by omega⟩
  clear hpl hp3 hpb0
  have dk : decide ((p3 : Int) < (m : Int)) = false := by simp; omega
  have dk2 : decide (p3 < m) = false := by simp; omega
  have dk3 : ¬ p3 < m := by omega
  clear hmm
  have HNA := Lib.hid (show ¬ ((false : Bool) = true ∨ (false : Bool) = true ∨ ((x9 : Int) = 3 ∧ true = false)) by simp)
  have hdat := HS.out.dat
  rw [HDA.out] at hdat
  unfold dataC at hdat
  rw [List.map_cons, List.sum_cons] at hdat
  dsimp only at hdat
  have HD2 := Lib.hid (show DD.length + dataC (L.drop (i + 1)) ≤ 100000000 by unfold dataC; omega)
  clear hdat
  have w1i : IntKind.i64.wrap ((i : Int) + 1) = (i : Int) + 1 := IntWalk.i64_in _ (by omega)
  have p6 := hRS.2.2.1.free 6
  have p7 := hRS.2.2.1.free 7
  have hR2 := hRS.put HT.out.ge2 HT.out.ne0 HT.out.ne1 7 (.bool true)
  have hO2 := OwnY.keepS (i := 7) (x := .bool true) hOW hRS.2.2.1
  have HR2 := Lib.hid (hR2.put HT.out.ge2 HT.out.ne0 HT.out.ne1 6 (.string (strL d)))
  have HO2 := Lib.hid (OwnY.keepS (i := 6) (x := .string (strL d)) hO2 hR2.2.2.1)
  clear hR2 hO2
  clear hRS hOW hI3
  go_wp2
  refine ⟨?_, ?_⟩
  · unfold WIR
    exact ⟨_, _, _, _, _, _, _, _, _, _, _, _, _, _, _, _, _, _, _, _, _, _, _, _, _, _, _, _, _, _, _, _, _, _, _, _, _, _, _, _, _, _, _, _, _, _, _, _, _, _, _, _, _, _, _, _, _, _, _, _, _, _, _, _, _, _, _, _, _, _, _, _, _, _, _, _, _, _, _, _, _, _, _, _, _, _, _, _, _, _, _, _, _, _, _, _, _, _, _, _, _, _, _, _, _, _, _, _, _, _, _, _, _, _, _, _, _, _, _, _, _, _, _, _, _, _, _, _, _, _, _, _, _, _, _, _, _, _, _, _, _, _, _, _, _, _, _, _, _, _, _, _, _, _, _, _, _, _, _, _, _, _, _, _, _, _, _, _, _, _, _, _, _, _, _, _, _, _, _, _, _, _, _, _, _, _, _, _, _, _, _, _, _, _, i + 1, ⟨true, true, false, false, PP, d, DD⟩, dv, ⟨by have := HS.out.lo; omega, by omega, HO2.out, HD2.out, HR2.out, step_on HDA.out HS.out.run (by unfold stepH; rw [if_neg htIHDR.out, if_neg htPLTE.out, if_pos htTRNS.out, if_neg HNA.out, if_neg (by have h1 := h9.out; have h2 := hm3.out; dsimp only; omega)]), HS.out.pb⟩, rfl⟩
  · show n - (intOf (.int .i64 ((i : Int) + 1))).toNat < n - (intOf (.int .i64 (i : Int))).toNat
    simp [intOf]; omega

set_option maxHeartbeats 1000000 in
theorem rd_trns_c4 (hT : Stays w g o n b0 b1 b2 a b x8 x9 x12 L R) (hS : LoopS w b0 b1 b2 n a b x8 x9 x12 L R i ⟨pal, false, false, gap, PP, TT, DD⟩ dv wr) (hlt : i < n) (hat : L[i]? = some (t, d)) (htIHDR : Hid (¬ t = tIHDR)) (htPLTE : Hid (¬ t = tPLTE)) (htTRNS : Hid (t = tTRNS)) (h9 : Hid (x9 ≠ 0 ∧ x9 ≠ 2 ∧ x9 ≠ 3 ∧ x9 ≠ 4 ∧ x9 ≠ 6)) (HTL : Hid (readT L = if R.2 = 0 then (numsH D0, R) else ([], hs0, R.2)))  :
    Code.wp Try.prog bodyR (Exit.then (fun act w1 => WIR w g o n cap b0 b1 b2 a b x8 x9 x12 L R c1 c6 c8 c16 c17 c18 c19 c20 c21 c22 c23 c24 c25 c26 c27 c28 c29 c30 c31 c32 c33 c34 c35 c36 c37 c38 c39 c40 c41 c42 c43 c44 c45 c46 c47 c48 c49 c50 c51 c52 c53 c54 c55 c56 c57 c58 c59 c60 c61 c62 c63 c64 c65 c66 c67 c68 c69 c260 act w1 ∧ MuR n act w1 < MuR n ⟨#[.slice (some ⟨g, o, none⟩) n cap, c1, .pointer (some ⟨b0, 0, none⟩), u3, u4, .pointer (some ⟨b1, 0, none⟩), c6, .pointer (some ⟨b2, 0, none⟩), c8, dv, .bool pal, .bool false, .bool gap, .int .i64 (i : Int), u14, u15, c16, c17, c18, c19, c20, c21, c22, c23, c24, c25, c26, c27, c28, c29, c30, c31, c32, c33, c34, c35, c36, c37, c38, c39, c40, c41, c42, c43, c44, c45, c46, c47, c48, c49, c50, c51, c52, c53, c54, c55, c56, c57, c58, c59, c60, c61, c62, c63, c64, c65, c66, c67, c68, c69, u70, u71, u72, u73, u74, u75, u76, u77, u78, u79, u80, u81, u82, u83, u84, u85, u86, u87, u88, u89, u90, u91, u92, u93, u94, u95, u96, u97, u98, u99, u100, u101, u102, u103, u104, u105, u106, u107, u108, u109, u110, u111, u112, u113, u114, u115, u116, u117, u118, u119, u120, u121, u122, u123, u124, u125, u126, u127, u128, u129, u130, u131, u132, u133, u134, u135, u136, u137, u138, u139, u140, u141, u142, u143, u144, u145, u146, u147, u148, u149, u150, u151, u152, u153, u154, u155, u156, u157, u158, u159, u160, u161, u162, u163, u164, u165, u166, u167, u168, u169, u170, u171, u172, u173, u174, u175, u176, u177, u178, u179, u180, u181, u182, u183, u184, u185, u186, u187, u188, u189, u190, u191, u192, u193, u194, u195, u196, u197, u198, u199, u200, u201, u202, u203, u204, u205, u206, u207, u208, u209, u210, u211, u212, u213, u214, u215, u216, u217, u218, u219, u220, u221, u222, u223, u224, u225, u226, u227, u228, u229, u230, u231, u232, u233, u234, u235, u236, u237, u238, u239, u240, u241, u242, u243, u244, u245, u246, u247, u248, u249, u250, u251, u252, u253, u254, u255, u256, u257, u258, u259, c260], []⟩ wr) Q0) ⟨#[.slice (some ⟨g, o, none⟩) n cap, c1, .pointer (some ⟨b0, 0, none⟩), u3, u4, .pointer (some ⟨b1, 0, none⟩), c6, .pointer (some ⟨b2, 0, none⟩), c8, dv, .bool pal, .bool false, .bool gap, .int .i64 (i : Int), u14, u15, c16, c17, c18, c19, c20, c21, c22, c23, c24, c25, c26, c27, c28, c29, c30, c31, c32, c33, c34, c35, c36, c37, c38, c39, c40, c41, c42, c43, c44, c45, c46, c47, c48, c49, c50, c51, c52, c53, c54, c55, c56, c57, c58, c59, c60, c61, c62, c63, c64, c65, c66, c67, c68, c69, u70, u71, u72, u73, u74, u75, u76, u77, u78, u79, u80, u81, u82, u83, u84, u85, u86, u87, u88, u89, u90, u91, u92, u93, u94, u95, u96, u97, u98, u99, u100, u101, u102, u103, u104, u105, u106, u107, u108, u109, u110, u111, u112, u113, u114, u115, u116, u117, u118, u119, u120, u121, u122, u123, u124, u125, u126, u127, u128, u129, u130, u131, u132, u133, u134, u135, u136, u137, u138, u139, u140, u141, u142, u143, u144, u145, u146, u147, u148, u149, u150, u151, u152, u153, u154, u155, u156, u157, u158, u159, u160, u161, u162, u163, u164, u165, u166, u167, u168, u169, u170, u171, u172, u173, u174, u175, u176, u177, u178, u179, u180, u181, u182, u183, u184, u185, u186, u187, u188, u189, u190, u191, u192, u193, u194, u195, u196, u197, u198, u199, u200, u201, u202, u203, u204, u205, u206, u207, u208, u209, u210, u211, u212, u213, u214, u215, u216, u217, u218, u219, u220, u221, u222, u223, u224, u225, u226, u227, u228, u229, u230, u231, u232, u233, u234, u235, u236, u237, u238, u239, u240, u241, u242, u243, u244, u245, u246, u247, u248, u249, u250, u251, u252, u253, u254, u255, u256, u257, u258, u259, c260], []⟩ wr := by
  conv => arg 2; whnf
  have HT := Lib.hid hT
  have HS := Lib.hid hS
  have hcc := hT.cks.at hlt
  obtain ⟨g', o', k', he, hg, hc0, hc1, hat'⟩ := hcc
  have hk : k' = (t, d) := Option.some.inj (hat'.symm.trans hat)
  subst hk
  injection he with he
  injection he with he1 he2
  subst he1 he2
  have c0 := hS.rds.2.2.2.cell hc0 (by simp)
  have c1 := hS.rds.2.2.2.cell hc1 (by simp)
  dsimp only at c0 c1
  have k0 : (0 : Int) ≤ (i : Int) := by omega
  have k1 : (i : Int) < (n : Int) := by omega
  have n63 := hT.n63
  have hRS := hS.rds.alloc (.cells #[.string (strL t), .string (strL d)] 30)
  have hOW := hS.own.but ((But.refl [] wr).alloc (.cells #[.string (strL t), .string (strL d)] 30))
  have hI3 := Is.fresh wr 30 #[.string (strL t), .string (strL d)]
  have hds : (strL d).size = d.length := strL_size d
  obtain ⟨m, hm⟩ : ∃ m, m = d.length := ⟨_, rfl⟩
  rw [← hm] at hds
  have HM := Lib.hid hm
  have HAT := Lib.hid hat
  have HDA := Lib.hid (drop_at hat)
  clear hT hS hg hc0 hc1 hat' hat hm hlt
  have HRSw := Lib.hid hRS
  have HOWw := Lib.hid hOW
  have HI3w := Lib.hid hI3
  clear hRS hOW hI3
  go_upto_region 19 with (fail)
  have hRS := HRSw.out
  have hOW := HOWw.out
  have hI3 := HI3w.out
  clear HRSw HOWw HI3w
  obtain ⟨w3, hw3⟩ : ∃ x, x = wr.alloc (.cells #[.string (strL t), .string (strL d)] 30) := ⟨_, rfl⟩
  obtain ⟨b3, hb3⟩ : ∃ x, x = wr.heap.size := ⟨_, rfl⟩
  rw [← hw3] at hRS hOW hI3 ⊢
  rw [← hb3] at hI3 ⊢
  have HRS := Lib.hid hRS
  have HOW := Lib.hid hOW
  clear hw3 hb3 c0 c1
  have c0 : w3.cell? ⟨b3, 0, none⟩ = some (.string (strL t)) := hI3.cell 0
  have c1 : w3.cell? ⟨b3, 1, none⟩ = some (.string (strL d)) := hI3.cell 1
  have qtTRNS := str_eq htTRNS.out
  unfold tTRNS at qtTRNS
  have m0 : w3.cell? ⟨b2, 0, none⟩ = some (.int .i64 (a : Int)) := hRS.2.2.1.cell 0
  have m1 : w3.cell? ⟨b2, 1, none⟩ = some (.int .i64 (b : Int)) := hRS.2.2.1.cell 1
  have m2 : w3.cell? ⟨b2, 2, none⟩ = some (.int .i64 (x8 : Int)) := hRS.2.2.1.cell 2
  have m3 : w3.cell? ⟨b2, 3, none⟩ = some (.int .i64 (x9 : Int)) := hRS.2.2.1.cell 3
  have m4 : w3.cell? ⟨b2, 4, none⟩ = some (.int .i64 (x12 : Int)) := hRS.2.2.1.cell 4
  have m5 : w3.cell? ⟨b2, 5, none⟩ = some (.string (strL PP)) := hRS.2.2.1.cell 5
  have m6 : w3.cell? ⟨b2, 6, none⟩ = some (.string (strL TT)) := hRS.2.2.1.cell 6
  have m7 : w3.cell? ⟨b2, 7, none⟩ = some (.bool false) := hRS.2.2.1.cell 7
  have z3 : ((x9 : Int) = 3) = False := by simp; have := h9.out; omega
  have y3 : ((x9 : Int) == 3) = false := by simp; have := h9.out; omega
  have z4 : ((x9 : Int) = 4) = False := by simp; have := h9.out; omega
  have y4 : ((x9 : Int) == 4) = false := by simp; have := h9.out; omega
  have z6 : ((x9 : Int) = 6) = False := by simp; have := h9.out; omega
  have y6 : ((x9 : Int) == 6) = false := by simp; have := h9.out; omega
  have z0 : ((x9 : Int) = 0) = False := by simp; have := h9.out; omega
  have y0 : ((x9 : Int) == 0) = false := by simp; have := h9.out; omega
  have z2 : ((x9 : Int) = 2) = False := by simp; have := h9.out; omega
  have y2 : ((x9 : Int) == 2) = false := by simp; have := h9.out; omega
  have HNA := Lib.hid (show ¬ ((false : Bool) = true ∨ (false : Bool) = true ∨ ((x9 : Int) = 3 ∧ pal = false)) by rintro (h | h | h); exact absurd h (by decide); exact absurd h (by decide); exact absurd (show x9 = 3 from by omega) (by have := h9.out; omega))
  have hdat := HS.out.dat
  rw [HDA.out] at hdat
  unfold dataC at hdat
  rw [List.map_cons, List.sum_cons] at hdat
  dsimp only at hdat
  have HD2 := Lib.hid (show DD.length + dataC (L.drop (i + 1)) ≤ 100000000 by unfold dataC; omega)
  clear hdat
  have w1i : IntKind.i64.wrap ((i : Int) + 1) = (i : Int) + 1 := IntWalk.i64_in _ (by omega)
  have p6 := hRS.2.2.1.free 6
  have p7 := hRS.2.2.1.free 7
  have hR2 := hRS.put HT.out.ge2 HT.out.ne0 HT.out.ne1 7 (.bool true)
  have hO2 := OwnY.keepS (i := 7) (x := .bool true) hOW hRS.2.2.1
  have HR2 := Lib.hid (hR2.put HT.out.ge2 HT.out.ne0 HT.out.ne1 6 (.string (strL d)))
  have HO2 := Lib.hid (OwnY.keepS (i := 6) (x := .string (strL d)) hO2 hR2.2.2.1)
  clear hR2 hO2
  clear hRS hOW hI3
  go_wp2
  refine ⟨?_, ?_⟩
  · unfold WIR
    exact ⟨_, _, _, _, _, _, _, _, _, _, _, _, _, _, _, _, _, _, _, _, _, _, _, _, _, _, _, _, _, _, _, _, _, _, _, _, _, _, _, _, _, _, _, _, _, _, _, _, _, _, _, _, _, _, _, _, _, _, _, _, _, _, _, _, _, _, _, _, _, _, _, _, _, _, _, _, _, _, _, _, _, _, _, _, _, _, _, _, _, _, _, _, _, _, _, _, _, _, _, _, _, _, _, _, _, _, _, _, _, _, _, _, _, _, _, _, _, _, _, _, _, _, _, _, _, _, _, _, _, _, _, _, _, _, _, _, _, _, _, _, _, _, _, _, _, _, _, _, _, _, _, _, _, _, _, _, _, _, _, _, _, _, _, _, _, _, _, _, _, _, _, _, _, _, _, _, _, _, _, _, _, _, _, _, _, _, _, _, _, _, _, _, _, _, i + 1, ⟨pal, true, false, false, PP, d, DD⟩, dv, ⟨by have := HS.out.lo; omega, by omega, HO2.out, HD2.out, HR2.out, step_on HDA.out HS.out.run (by unfold stepH; rw [if_neg htIHDR.out, if_neg htPLTE.out, if_pos htTRNS.out, if_neg HNA.out, if_neg (by have h1 := h9.out; dsimp only; omega)]), HS.out.pb⟩, rfl⟩
  · show n - (intOf (.int .i64 ((i : Int) + 1))).toNat < n - (intOf (.int .i64 (i : Int))).toNat
    simp [intOf]; omega

end
end Go.Proofs.Ytedffeimcccobaa
