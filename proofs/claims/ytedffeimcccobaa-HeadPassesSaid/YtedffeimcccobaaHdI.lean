/- The loop of the document's Read, further cases. (Written by program: wip/gen/readloop.py.) -/
import Derived.Test.YtedffeimcccobaaHdE
set_option maxRecDepth 1000000
set_option linter.unusedVariables false
namespace Go.Proofs.Ytedffeimcccobaa
set_option maxRecDepth 100000
open Go Go.RowKit
attribute [local irreducible] strL
section
variable {w wr : World} {g o n cap b0 b1 b2 a b x8 x9 x12 : Nat} {L : List Ck} {R : HS × Int} {Q0 : Exit → Act → World → Prop} {i : Nat} {s : HS} {dv : Value} {t d D0 : List UInt8}
variable {c1 c6 c8 c16 c17 c18 c19 c20 c21 c22 c23 c24 c25 c26 c27 c28 c29 c30 c31 c32 c33 c34 c35 c36 c37 c38 c39 c40 c41 c42 c43 c44 c45 c46 c47 c48 c49 c50 c51 c52 c53 c54 c55 c56 c57 c58 c59 c60 c61 c62 c63 c64 c65 c66 c67 c68 c69 c260 : Value}
variable {u3 u4 u14 u15 u70 u71 u72 u73 u74 u75 u76 u77 u78 u79 u80 u81 u82 u83 u84 u85 u86 u87 u88 u89 u90 u91 u92 u93 u94 u95 u96 u97 u98 u99 u100 u101 u102 u103 u104 u105 u106 u107 u108 u109 u110 u111 u112 u113 u114 u115 u116 u117 u118 u119 u120 u121 u122 u123 u124 u125 u126 u127 u128 u129 u130 u131 u132 u133 u134 u135 u136 u137 u138 u139 u140 u141 u142 u143 u144 u145 u146 u147 u148 u149 u150 u151 u152 u153 u154 u155 u156 u157 u158 u159 u160 u161 u162 u163 u164 u165 u166 u167 u168 u169 u170 u171 u172 u173 u174 u175 u176 u177 u178 u179 u180 u181 u182 u183 u184 u185 u186 u187 u188 u189 u190 u191 u192 u193 u194 u195 u196 u197 u198 u199 u200 u201 u202 u203 u204 u205 u206 u207 u208 u209 u210 u211 u212 u213 u214 u215 u216 u217 u218 u219 u220 u221 u222 u223 u224 u225 u226 u227 u228 u229 u230 u231 u232 u233 u234 u235 u236 u237 u238 u239 u240 u241 u242 u243 u244 u245 u246 u247 u248 u249 u250 u251 u252 u253 u254 u255 u256 u257 u258 u259 : Value}
variable {pal trans idat gap : Bool} {PP TT DD : List UInt8}

set_option maxHeartbeats 1000000 in
theorem rd_other_a (hT : Stays w g o n b0 b1 b2 a b x8 x9 x12 L R) (hS : LoopS w b0 b1 b2 n a b x8 x9 x12 L R i ⟨pal, trans, idat, gap, PP, TT, DD⟩ dv wr) (hlt : i < n) (hat : L[i]? = some (t, d)) (htIHDR : Hid (¬ t = tIHDR)) (htPLTE : Hid (¬ t = tPLTE)) (htTRNS : Hid (¬ t = tTRNS)) (htIDAT : Hid (¬ t = tIDAT)) (htIEND : Hid (¬ t = tIEND)) (x : Nat) (hx : Hid (0 < t.length ∧ x = (t.getD 0 0).toNat)) (hcr : Hid (critT t = true)) (hx1 : 65 ≤ x) (hx2 : x ≤ 90) (HTL : Hid (readT L = if R.2 = 0 then (numsH D0, R) else ([], hs0, R.2))) (hret : ∀ act w1, bodyPost Try.prog Try.f18 (GotH w (readT L)) Exit.ret act w1 → Q0 .ret act w1) :
    Code.wp Try.prog bodyR (Exit.then (fun act w1 => WIR w g o n cap b0 b1 b2 a b x8 x9 x12 L R c1 c6 c8 c16 c17 c18 c19 c20 c21 c22 c23 c24 c25 c26 c27 c28 c29 c30 c31 c32 c33 c34 c35 c36 c37 c38 c39 c40 c41 c42 c43 c44 c45 c46 c47 c48 c49 c50 c51 c52 c53 c54 c55 c56 c57 c58 c59 c60 c61 c62 c63 c64 c65 c66 c67 c68 c69 c260 act w1 ∧ MuR n act w1 < MuR n ⟨#[.slice (some ⟨g, o, none⟩) n cap, c1, .pointer (some ⟨b0, 0, none⟩), u3, u4, .pointer (some ⟨b1, 0, none⟩), c6, .pointer (some ⟨b2, 0, none⟩), c8, dv, .bool pal, .bool idat, .bool gap, .int .i64 (i : Int), u14, u15, c16, c17, c18, c19, c20, c21, c22, c23, c24, c25, c26, c27, c28, c29, c30, c31, c32, c33, c34, c35, c36, c37, c38, c39, c40, c41, c42, c43, c44, c45, c46, c47, c48, c49, c50, c51, c52, c53, c54, c55, c56, c57, c58, c59, c60, c61, c62, c63, c64, c65, c66, c67, c68, c69, u70, u71, u72, u73, u74, u75, u76, u77, u78, u79, u80, u81, u82, u83, u84, u85, u86, u87, u88, u89, u90, u91, u92, u93, u94, u95, u96, u97, u98, u99, u100, u101, u102, u103, u104, u105, u106, u107, u108, u109, u110, u111, u112, u113, u114, u115, u116, u117, u118, u119, u120, u121, u122, u123, u124, u125, u126, u127, u128, u129, u130, u131, u132, u133, u134, u135, u136, u137, u138, u139, u140, u141, u142, u143, u144, u145, u146, u147, u148, u149, u150, u151, u152, u153, u154, u155, u156, u157, u158, u159, u160, u161, u162, u163, u164, u165, u166, u167, u168, u169, u170, u171, u172, u173, u174, u175, u176, u177, u178, u179, u180, u181, u182, u183, u184, u185, u186, u187, u188, u189, u190, u191, u192, u193, u194, u195, u196, u197, u198, u199, u200, u201, u202, u203, u204, u205, u206, u207, u208, u209, u210, u211, u212, u213, u214, u215, u216, u217, u218, u219, u220, u221, u222, u223, u224, u225, u226, u227, u228, u229, u230, u231, u232, u233, u234, u235, u236, u237, u238, u239, u240, u241, u242, u243, u244, u245, u246, u247, u248, u249, u250, u251, u252, u253, u254, u255, u256, u257, u258, u259, c260], []⟩ wr) Q0) ⟨#[.slice (some ⟨g, o, none⟩) n cap, c1, .pointer (some ⟨b0, 0, none⟩), u3, u4, .pointer (some ⟨b1, 0, none⟩), c6, .pointer (some ⟨b2, 0, none⟩), c8, dv, .bool pal, .bool idat, .bool gap, .int .i64 (i : Int), u14, u15, c16, c17, c18, c19, c20, c21, c22, c23, c24, c25, c26, c27, c28, c29, c30, c31, c32, c33, c34, c35, c36, c37, c38, c39, c40, c41, c42, c43, c44, c45, c46, c47, c48, c49, c50, c51, c52, c53, c54, c55, c56, c57, c58, c59, c60, c61, c62, c63, c64, c65, c66, c67, c68, c69, u70, u71, u72, u73, u74, u75, u76, u77, u78, u79, u80, u81, u82, u83, u84, u85, u86, u87, u88, u89, u90, u91, u92, u93, u94, u95, u96, u97, u98, u99, u100, u101, u102, u103, u104, u105, u106, u107, u108, u109, u110, u111, u112, u113, u114, u115, u116, u117, u118, u119, u120, u121, u122, u123, u124, u125, u126, u127, u128, u129, u130, u131, u132, u133, u134, u135, u136, u137, u138, u139, u140, u141, u142, u143, u144, u145, u146, u147, u148, u149, u150, u151, u152, u153, u154, u155, u156, u157, u158, u159, u160, u161, u162, u163, u164, u165, u166, u167, u168, u169, u170, u171, u172, u173, u174, u175, u176, u177, u178, u179, u180, u181, u182, u183, u184, u185, u186, u187, u188, u189, u190, u191, u192, u193, u194, u195, u196, u197, u198, u199, u200, u201, u202, u203, u204, u205, u206, u207, u208, u209, u210, u211, u212, u213, u214, u215, u216, u217, u218, u219, u220, u221, u222, u223, u224, u225, u226, u227, u228, u229, u230, u231, u232, u233, u234, u235, u236, u237, u238, u239, u240, u241, u242, u243, u244, u245, u246, u247, u248, u249, u250, u251, u252, u253, u254, u255, u256, u257, u258, u259, c260], []⟩ wr := by
  conv => arg 2; whnf
  have HT := Lib.hid hT
  have HS := Lib.hid hS
  have hcc := hT.cks.at hlt
  obtain ⟨g', o', k', he, hg, hc0, hc1, hat'⟩ := hcc
  have hk : k' = (t, d) := Option.some.inj (hat'.symm.trans hat)
  subst hk
  injection he with he
  injection he with he1 he2
  subst he1 he2
  have c0 := hS.rds.2.2.2.cell hc0 (by simp)
  have c1 := hS.rds.2.2.2.cell hc1 (by simp)
  dsimp only at c0 c1
  have k0 : (0 : Int) ≤ (i : Int) := by omega
  have k1 : (i : Int) < (n : Int) := by omega
  have n63 := hT.n63
  have hRS := hS.rds.alloc (.cells #[.string (strL t), .string (strL d)] 30)
  have hOW := hS.own.but ((But.refl [] wr).alloc (.cells #[.string (strL t), .string (strL d)] 30))
  have hI3 := Is.fresh wr 30 #[.string (strL t), .string (strL d)]
  have hds : (strL d).size = d.length := strL_size d
  obtain ⟨m, hm⟩ : ∃ m, m = d.length := ⟨_, rfl⟩
  rw [← hm] at hds
  have HM := Lib.hid hm
  have HAT := Lib.hid hat
  have HDA := Lib.hid (drop_at hat)
  clear hT hS hg hc0 hc1 hat' hat hm hlt
  have HRSw := Lib.hid hRS
  have HOWw := Lib.hid hOW
  have HI3w := Lib.hid hI3
  clear hRS hOW hI3
  go_upto_region 19 with (fail)
  have hRS := HRSw.out
  have hOW := HOWw.out
  have hI3 := HI3w.out
  clear HRSw HOWw HI3w
  obtain ⟨w3, hw3⟩ : ∃ x, x = wr.alloc (.cells #[.string (strL t), .string (strL d)] 30) := ⟨_, rfl⟩
  obtain ⟨b3, hb3⟩ : ∃ x, x = wr.heap.size := ⟨_, rfl⟩
  rw [← hw3] at hRS hOW hI3 ⊢
  rw [← hb3] at hI3 ⊢
  have HRS := Lib.hid hRS
  have HOW := Lib.hid hOW
  clear hw3 hb3 c0 c1
  have c0 : w3.cell? ⟨b3, 0, none⟩ = some (.string (strL t)) := hI3.cell 0
  have c1 : w3.cell? ⟨b3, 1, none⟩ = some (.string (strL d)) := hI3.cell 1
  obtain ⟨qtIHDR, ptIHDR⟩ := str_ne htIHDR.out
  unfold tIHDR at qtIHDR ptIHDR
  obtain ⟨qtPLTE, ptPLTE⟩ := str_ne htPLTE.out
  unfold tPLTE at qtPLTE ptPLTE
  obtain ⟨qtTRNS, ptTRNS⟩ := str_ne htTRNS.out
  unfold tTRNS at qtTRNS ptTRNS
  obtain ⟨qtIDAT, ptIDAT⟩ := str_ne htIDAT.out
  unfold tIDAT at qtIDAT ptIDAT
  obtain ⟨qtIEND, ptIEND⟩ := str_ne htIEND.out
  unfold tIEND at qtIEND ptIEND
  have r0 : w3.cell? ⟨b0, 0, none⟩ = some (.int .i64 0) := hRS.1.cell 0
  have r1 : w3.cell? ⟨b0, 1, none⟩ = some (.int .i64 0) := hRS.1.cell 1
  have r2 : w3.cell? ⟨b0, 2, none⟩ = some (.int .i64 0) := hRS.1.cell 2
  have r3 : w3.cell? ⟨b0, 3, none⟩ = some (.int .i64 0) := hRS.1.cell 3
  have r4 : w3.cell? ⟨b0, 4, none⟩ = some (.int .i64 0) := hRS.1.cell 4
  have r5 : w3.cell? ⟨b0, 5, none⟩ = some (.string ⟨#[]⟩) := hRS.1.cell 5
  have r6 : w3.cell? ⟨b0, 6, none⟩ = some (.string ⟨#[]⟩) := hRS.1.cell 6
  have r7 : w3.cell? ⟨b0, 7, none⟩ = some (.bool false) := hRS.1.cell 7
  have f0 := hRS.1.free 0
  have f1 := hRS.1.free 1
  have f2 := hRS.1.free 2
  have f3 := hRS.1.free 3
  have f4 := hRS.1.free 4
  have f5 := hRS.1.free 5
  have f6 := hRS.1.free 6
  have f7 := hRS.1.free 7
  have n0 : w3.cell? ⟨b1, 0, none⟩ = some (.int .i64 0) := hRS.2.1.cell 0
  have n1 : w3.cell? ⟨b1, 1, none⟩ = some (.int .i64 0) := hRS.2.1.cell 1
  have n2 : w3.cell? ⟨b1, 2, none⟩ = some (.int .i64 0) := hRS.2.1.cell 2
  have n3 : w3.cell? ⟨b1, 3, none⟩ = some (.int .i64 0) := hRS.2.1.cell 3
  have n4 : w3.cell? ⟨b1, 4, none⟩ = some (.int .i64 0) := hRS.2.1.cell 4
  have n5 : w3.cell? ⟨b1, 5, none⟩ = some (.string ⟨#[]⟩) := hRS.2.1.cell 5
  have n6 : w3.cell? ⟨b1, 6, none⟩ = some (.string ⟨#[]⟩) := hRS.2.1.cell 6
  have n7 : w3.cell? ⟨b1, 7, none⟩ = some (.bool false) := hRS.2.1.cell 7
  have HQ := Lib.hid (zero_put hRS.1 hRS.2.2.2 (by rw [HT.out.e0]; exact Nat.le_refl _))
  have m0 : w3.cell? ⟨b2, 0, none⟩ = some (.int .i64 (a : Int)) := hRS.2.2.1.cell 0
  have m1 : w3.cell? ⟨b2, 1, none⟩ = some (.int .i64 (b : Int)) := hRS.2.2.1.cell 1
  have m2 : w3.cell? ⟨b2, 2, none⟩ = some (.int .i64 (x8 : Int)) := hRS.2.2.1.cell 2
  have m3 : w3.cell? ⟨b2, 3, none⟩ = some (.int .i64 (x9 : Int)) := hRS.2.2.1.cell 3
  have m4 : w3.cell? ⟨b2, 4, none⟩ = some (.int .i64 (x12 : Int)) := hRS.2.2.1.cell 4
  have m5 : w3.cell? ⟨b2, 5, none⟩ = some (.string (strL PP)) := hRS.2.2.1.cell 5
  have m6 : w3.cell? ⟨b2, 6, none⟩ = some (.string (strL TT)) := hRS.2.2.1.cell 6
  have m7 : w3.cell? ⟨b2, 7, none⟩ = some (.bool trans) := hRS.2.2.1.cell 7
  have hp : 0 < (strL t).size := by rw [strL_size]; exact hx.out.1
  have kx : ∀ W, (Instr.index 9 (.string (strL t)) (.int .i64 0)).run Try.prog W = .ok (.int .u8 (x : Nat)) W := fun W => by
    have h := byteD_run (D := t) (k := 0) hx.out.1 W
    rw [hx.out.2]
    exact h
  have dx1 : decide ((65 : Int) ≤ (x : Int)) = true := by simp; omega
  have dx2 : decide ((x : Int) ≤ 90) = true := by simp; omega
  have HR := Lib.hid (show readT L = ([], hs0, 27) by
    have h := step_err (s' := ⟨pal, trans, idat, gap, PP, TT, DD⟩) (e := 27) HDA.out HS.out.run (by unfold stepH; rw [if_neg htIHDR.out, if_neg htPLTE.out, if_neg htTRNS.out, if_neg htIDAT.out, if_neg htIEND.out, if_pos hcr.out])
    rw [HTL.out, h, if_neg (show ¬ (27 : Int) = 0 by decide)])
  clear hRS hOW hI3
  go_wp2
  exact read_ret HQ.out.1 HQ.out.2 rfl rfl rfl HR.out

set_option maxHeartbeats 1000000 in
theorem rd_other_b1 (hT : Stays w g o n b0 b1 b2 a b x8 x9 x12 L R) (hS : LoopS w b0 b1 b2 n a b x8 x9 x12 L R i ⟨pal, trans, idat, gap, PP, TT, DD⟩ dv wr) (hlt : i < n) (hat : L[i]? = some (t, d)) (htIHDR : Hid (¬ t = tIHDR)) (htPLTE : Hid (¬ t = tPLTE)) (htTRNS : Hid (¬ t = tTRNS)) (htIDAT : Hid (¬ t = tIDAT)) (htIEND : Hid (¬ t = tIEND)) (hcr : Hid (critT t = false)) (ht0 : Hid (t.length = 0)) (HTL : Hid (readT L = if R.2 = 0 then (numsH D0, R) else ([], hs0, R.2)))  :
    Code.wp Try.prog bodyR (Exit.then (fun act w1 => WIR w g o n cap b0 b1 b2 a b x8 x9 x12 L R c1 c6 c8 c16 c17 c18 c19 c20 c21 c22 c23 c24 c25 c26 c27 c28 c29 c30 c31 c32 c33 c34 c35 c36 c37 c38 c39 c40 c41 c42 c43 c44 c45 c46 c47 c48 c49 c50 c51 c52 c53 c54 c55 c56 c57 c58 c59 c60 c61 c62 c63 c64 c65 c66 c67 c68 c69 c260 act w1 ∧ MuR n act w1 < MuR n ⟨#[.slice (some ⟨g, o, none⟩) n cap, c1, .pointer (some ⟨b0, 0, none⟩), u3, u4, .pointer (some ⟨b1, 0, none⟩), c6, .pointer (some ⟨b2, 0, none⟩), c8, dv, .bool pal, .bool idat, .bool gap, .int .i64 (i : Int), u14, u15, c16, c17, c18, c19, c20, c21, c22, c23, c24, c25, c26, c27, c28, c29, c30, c31, c32, c33, c34, c35, c36, c37, c38, c39, c40, c41, c42, c43, c44, c45, c46, c47, c48, c49, c50, c51, c52, c53, c54, c55, c56, c57, c58, c59, c60, c61, c62, c63, c64, c65, c66, c67, c68, c69, u70, u71, u72, u73, u74, u75, u76, u77, u78, u79, u80, u81, u82, u83, u84, u85, u86, u87, u88, u89, u90, u91, u92, u93, u94, u95, u96, u97, u98, u99, u100, u101, u102, u103, u104, u105, u106, u107, u108, u109, u110, u111, u112, u113, u114, u115, u116, u117, u118, u119, u120, u121, u122, u123, u124, u125, u126, u127, u128, u129, u130, u131, u132, u133, u134, u135, u136, u137, u138, u139, u140, u141, u142, u143, u144, u145, u146, u147, u148, u149, u150, u151, u152, u153, u154, u155, u156, u157, u158, u159, u160, u161, u162, u163, u164, u165, u166, u167, u168, u169, u170, u171, u172, u173, u174, u175, u176, u177, u178, u179, u180, u181, u182, u183, u184, u185, u186, u187, u188, u189, u190, u191, u192, u193, u194, u195, u196, u197, u198, u199, u200, u201, u202, u203, u204, u205, u206, u207, u208, u209, u210, u211, u212, u213, u214, u215, u216, u217, u218, u219, u220, u221, u222, u223, u224, u225, u226, u227, u228, u229, u230, u231, u232, u233, u234, u235, u236, u237, u238, u239, u240, u241, u242, u243, u244, u245, u246, u247, u248, u249, u250, u251, u252, u253, u254, u255, u256, u257, u258, u259, c260], []⟩ wr) Q0) ⟨#[.slice (some ⟨g, o, none⟩) n cap, c1, .pointer (some ⟨b0, 0, none⟩), u3, u4, .pointer (some ⟨b1, 0, none⟩), c6, .pointer (some ⟨b2, 0, none⟩), c8, dv, .bool pal, .bool idat, .bool gap, .int .i64 (i : Int), u14, u15, c16, c17, c18, c19, c20, c21, c22, c23, c24, c25, c26, c27, c28, c29, c30, c31, c32, c33, c34, c35, c36, c37, c38, c39, c40, c41, c42, c43, c44, c45, c46, c47, c48, c49, c50, c51, c52, c53, c54, c55, c56, c57, c58, c59, c60, c61, c62, c63, c64, c65, c66, c67, c68, c69, u70, u71, u72, u73, u74, u75, u76, u77, u78, u79, u80, u81, u82, u83, u84, u85, u86, u87, u88, u89, u90, u91, u92, u93, u94, u95, u96, u97, u98, u99, u100, u101, u102, u103, u104, u105, u106, u107, u108, u109, u110, u111, u112, u113, u114, u115, u116, u117, u118, u119, u120, u121, u122, u123, u124, u125, u126, u127, u128, u129, u130, u131, u132, u133, u134, u135, u136, u137, u138, u139, u140, u141, u142, u143, u144, u145, u146, u147, u148, u149, u150, u151, u152, u153, u154, u155, u156, u157, u158, u159, u160, u161, u162, u163, u164, u165, u166, u167, u168, u169, u170, u171, u172, u173, u174, u175, u176, u177, u178, u179, u180, u181, u182, u183, u184, u185, u186, u187, u188, u189, u190, u191, u192, u193, u194, u195, u196, u197, u198, u199, u200, u201, u202, u203, u204, u205, u206, u207, u208, u209, u210, u211, u212, u213, u214, u215, u216, u217, u218, u219, u220, u221, u222, u223, u224, u225, u226, u227, u228, u229, u230, u231, u232, u233, u234, u235, u236, u237, u238, u239, u240, u241, u242, u243, u244, u245, u246, u247, u248, u249, u250, u251, u252, u253, u254, u255, u256, u257, u258, u259, c260], []⟩ wr := by
  conv => arg 2; whnf
  have HT := Lib.hid hT
  have HS := Lib.hid hS
  have hcc := hT.cks.at hlt
  obtain ⟨g', o', k', he, hg, hc0, hc1, hat'⟩ := hcc
  have hk : k' = (t, d) := Option.some.inj (hat'.symm.trans hat)
  subst hk
  injection he with he
  injection he with he1 he2
  subst he1 he2
  have c0 := hS.rds.2.2.2.cell hc0 (by simp)
  have c1 := hS.rds.2.2.2.cell hc1 (by simp)
  dsimp only at c0 c1
  have k0 : (0 : Int) ≤ (i : Int) := by omega
  have k1 : (i : Int) < (n : Int) := by omega
  have n63 := hT.n63
  have hRS := hS.rds.alloc (.cells #[.string (strL t), .string (strL d)] 30)
  have hOW := hS.own.but ((But.refl [] wr).alloc (.cells #[.string (strL t), .string (strL d)] 30))
  have hI3 := Is.fresh wr 30 #[.string (strL t), .string (strL d)]
  have hds : (strL d).size = d.length := strL_size d
  obtain ⟨m, hm⟩ : ∃ m, m = d.length := ⟨_, rfl⟩
  rw [← hm] at hds
  have HM := Lib.hid hm
  have HAT := Lib.hid hat
  have HDA := Lib.hid (drop_at hat)
  clear hT hS hg hc0 hc1 hat' hat hm hlt
  have HRSw := Lib.hid hRS
  have HOWw := Lib.hid hOW
  have HI3w := Lib.hid hI3
  clear hRS hOW hI3
  go_upto_region 19 with (fail)
  have hRS := HRSw.out
  have hOW := HOWw.out
  have hI3 := HI3w.out
  clear HRSw HOWw HI3w
  obtain ⟨w3, hw3⟩ : ∃ x, x = wr.alloc (.cells #[.string (strL t), .string (strL d)] 30) := ⟨_, rfl⟩
  obtain ⟨b3, hb3⟩ : ∃ x, x = wr.heap.size := ⟨_, rfl⟩
  rw [← hw3] at hRS hOW hI3 ⊢
  rw [← hb3] at hI3 ⊢
  have HRS := Lib.hid hRS
  have HOW := Lib.hid hOW
  clear hw3 hb3 c0 c1
  have c0 : w3.cell? ⟨b3, 0, none⟩ = some (.string (strL t)) := hI3.cell 0
  have c1 : w3.cell? ⟨b3, 1, none⟩ = some (.string (strL d)) := hI3.cell 1
  obtain ⟨qtIHDR, ptIHDR⟩ := str_ne htIHDR.out
  unfold tIHDR at qtIHDR ptIHDR
  obtain ⟨qtPLTE, ptPLTE⟩ := str_ne htPLTE.out
  unfold tPLTE at qtPLTE ptPLTE
  obtain ⟨qtTRNS, ptTRNS⟩ := str_ne htTRNS.out
  unfold tTRNS at qtTRNS ptTRNS
  obtain ⟨qtIDAT, ptIDAT⟩ := str_ne htIDAT.out
  unfold tIDAT at qtIDAT ptIDAT
  obtain ⟨qtIEND, ptIEND⟩ := str_ne htIEND.out
  unfold tIEND at qtIEND ptIEND
  have m0 : w3.cell? ⟨b2, 0, none⟩ = some (.int .i64 (a : Int)) := hRS.2.2.1.cell 0
  have m1 : w3.cell? ⟨b2, 1, none⟩ = some (.int .i64 (b : Int)) := hRS.2.2.1.cell 1
  have m2 : w3.cell? ⟨b2, 2, none⟩ = some (.int .i64 (x8 : Int)) := hRS.2.2.1.cell 2
  have m3 : w3.cell? ⟨b2, 3, none⟩ = some (.int .i64 (x9 : Int)) := hRS.2.2.1.cell 3
  have m4 : w3.cell? ⟨b2, 4, none⟩ = some (.int .i64 (x12 : Int)) := hRS.2.2.1.cell 4
  have m5 : w3.cell? ⟨b2, 5, none⟩ = some (.string (strL PP)) := hRS.2.2.1.cell 5
  have m6 : w3.cell? ⟨b2, 6, none⟩ = some (.string (strL TT)) := hRS.2.2.1.cell 6
  have m7 : w3.cell? ⟨b2, 7, none⟩ = some (.bool trans) := hRS.2.2.1.cell 7
  have hz : (strL t).size = 0 := by rw [strL_size]; exact ht0.out
  have hdat := HS.out.dat
  rw [HDA.out] at hdat
  unfold dataC at hdat
  rw [List.map_cons, List.sum_cons] at hdat
  dsimp only at hdat
  have HD2 := Lib.hid (show DD.length + dataC (L.drop (i + 1)) ≤ 100000000 by unfold dataC; omega)
  clear hdat
  have w1i : IntKind.i64.wrap ((i : Int) + 1) = (i : Int) + 1 := IntWalk.i64_in _ (by omega)
  clear hRS hOW hI3
  go_wp2
  refine ⟨?_, ?_⟩
  · unfold WIR
    exact ⟨_, _, _, _, _, _, _, _, _, _, _, _, _, _, _, _, _, _, _, _, _, _, _, _, _, _, _, _, _, _, _, _, _, _, _, _, _, _, _, _, _, _, _, _, _, _, _, _, _, _, _, _, _, _, _, _, _, _, _, _, _, _, _, _, _, _, _, _, _, _, _, _, _, _, _, _, _, _, _, _, _, _, _, _, _, _, _, _, _, _, _, _, _, _, _, _, _, _, _, _, _, _, _, _, _, _, _, _, _, _, _, _, _, _, _, _, _, _, _, _, _, _, _, _, _, _, _, _, _, _, _, _, _, _, _, _, _, _, _, _, _, _, _, _, _, _, _, _, _, _, _, _, _, _, _, _, _, _, _, _, _, _, _, _, _, _, _, _, _, _, _, _, _, _, _, _, _, _, _, _, _, _, _, _, _, _, _, _, _, _, _, _, _, _, i + 1, ⟨pal, trans, idat, idat, PP, TT, DD⟩, dv, ⟨by have := HS.out.lo; omega, by omega, HOW.out, HD2.out, HRS.out, step_on HDA.out HS.out.run (by unfold stepH; rw [if_neg htIHDR.out, if_neg htPLTE.out, if_neg htTRNS.out, if_neg htIDAT.out, if_neg htIEND.out, if_neg (by rw [hcr.out]; simp)]), HS.out.pb⟩, rfl⟩
  · show n - (intOf (.int .i64 ((i : Int) + 1))).toNat < n - (intOf (.int .i64 (i : Int))).toNat
    simp [intOf]; omega

set_option maxHeartbeats 1000000 in
theorem rd_other_b2 (hT : Stays w g o n b0 b1 b2 a b x8 x9 x12 L R) (hS : LoopS w b0 b1 b2 n a b x8 x9 x12 L R i ⟨pal, trans, idat, gap, PP, TT, DD⟩ dv wr) (hlt : i < n) (hat : L[i]? = some (t, d)) (htIHDR : Hid (¬ t = tIHDR)) (htPLTE : Hid (¬ t = tPLTE)) (htTRNS : Hid (¬ t = tTRNS)) (htIDAT : Hid (¬ t = tIDAT)) (htIEND : Hid (¬ t = tIEND)) (x : Nat) (hx : Hid (0 < t.length ∧ x = (t.getD 0 0).toNat)) (hcr : Hid (critT t = false)) (hx1 : x < 65) (HTL : Hid (readT L = if R.2 = 0 then (numsH D0, R) else ([], hs0, R.2)))  :
    Code.wp Try.prog bodyR (Exit.then (fun act w1 => WIR w g o n cap b0 b1 b2 a b x8 x9 x12 L R c1 c6 c8 c16 c17 c18 c19 c20 c21 c22 c23 c24 c25 c26 c27 c28 c29 c30 c31 c32 c33 c34 c35 c36 c37 c38 c39 c40 c41 c42 c43 c44 c45 c46 c47 c48 c49 c50 c51 c52 c53 c54 c55 c56 c57 c58 c59 c60 c61 c62 c63 c64 c65 c66 c67 c68 c69 c260 act w1 ∧ MuR n act w1 < MuR n ⟨#[.slice (some ⟨g, o, none⟩) n cap, c1, .pointer (some ⟨b0, 0, none⟩), u3, u4, .pointer (some ⟨b1, 0, none⟩), c6, .pointer (some ⟨b2, 0, none⟩), c8, dv, .bool pal, .bool idat, .bool gap, .int .i64 (i : Int), u14, u15, c16, c17, c18, c19, c20, c21, c22, c23, c24, c25, c26, c27, c28, c29, c30, c31, c32, c33, c34, c35, c36, c37, c38, c39, c40, c41, c42, c43, c44, c45, c46, c47, c48, c49, c50, c51, c52, c53, c54, c55, c56, c57, c58, c59, c60, c61, c62, c63, c64, c65, c66, c67, c68, c69, u70, u71, u72, u73, u74, u75, u76, u77, u78, u79, u80, u81, u82, u83, u84, u85, u86, u87, u88, u89, u90, u91, u92, u93, u94, u95, u96, u97, u98, u99, u100, u101, u102, u103, u104, u105, u106, u107, u108, u109, u110, u111, u112, u113, u114, u115, u116, u117, u118, u119, u120, u121, u122, u123, u124, u125, u126, u127, u128, u129, u130, u131, u132, u133, u134, u135, u136, u137, u138, u139, u140, u141, u142, u143, u144, u145, u146, u147, u148, u149, u150, u151, u152, u153, u154, u155, u156, u157, u158, u159, u160, u161, u162, u163, u164, u165, u166, u167, u168, u169, u170, u171, u172, u173, u174, u175, u176, u177, u178, u179, u180, u181, u182, u183, u184, u185, u186, u187, u188, u189, u190, u191, u192, u193, u194, u195, u196, u197, u198, u199, u200, u201, u202, u203, u204, u205, u206, u207, u208, u209, u210, u211, u212, u213, u214, u215, u216, u217, u218, u219, u220, u221, u222, u223, u224, u225, u226, u227, u228, u229, u230, u231, u232, u233, u234, u235, u236, u237, u238, u239, u240, u241, u242, u243, u244, u245, u246, u247, u248, u249, u250, u251, u252, u253, u254, u255, u256, u257, u258, u259, c260], []⟩ wr) Q0) ⟨#[.slice (some ⟨g, o, none⟩) n cap, c1, .pointer (some ⟨b0, 0, none⟩), u3, u4, .pointer (some ⟨b1, 0, none⟩), c6, .pointer (some ⟨b2, 0, none⟩), c8, dv, .bool pal, .bool idat, .bool gap, .int .i64 (i : Int), u14, u15, c16, c17, c18, c19, c20, c21, c22, c23, c24, c25, c26, c27, c28, c29, c30, c31, c32, c33, c34, c35, c36, c37, c38, c39, c40, c41, c42, c43, c44, c45, c46, c47, c48, c49, c50, c51, c52, c53, c54, c55, c56, c57, c58, c59, c60, c61, c62, c63, c64, c65, c66, c67, c68, c69, u70, u71, u72, u73, u74, u75, u76, u77, u78, u79, u80, u81, u82, u83, u84, u85, u86, u87, u88, u89, u90, u91, u92, u93, u94, u95, u96, u97, u98, u99, u100, u101, u102, u103, u104, u105, u106, u107, u108, u109, u110, u111, u112, u113, u114, u115, u116, u117, u118, u119, u120, u121, u122, u123, u124, u125, u126, u127, u128, u129, u130, u131, u132, u133, u134, u135, u136, u137, u138, u139, u140, u141, u142, u143, u144, u145, u146, u147, u148, u149, u150, u151, u152, u153, u154, u155, u156, u157, u158, u159, u160, u161, u162, u163, u164, u165, u166, u167, u168, u169, u170, u171, u172, u173, u174, u175, u176, u177, u178, u179, u180, u181, u182, u183, u184, u185, u186, u187, u188, u189, u190, u191, u192, u193, u194, u195, u196, u197, u198, u199, u200, u201, u202, u203, u204, u205, u206, u207, u208, u209, u210, u211, u212, u213, u214, u215, u216, u217, u218, u219, u220, u221, u222, u223, u224, u225, u226, u227, u228, u229, u230, u231, u232, u233, u234, u235, u236, u237, u238, u239, u240, u241, u242, u243, u244, u245, u246, u247, u248, u249, u250, u251, u252, u253, u254, u255, u256, u257, u258, u259, c260], []⟩ wr := by
  conv => arg 2; whnf
  have HT := Lib.hid hT
  have HS := Lib.hid hS
  have hcc := hT.cks.at hlt
  obtain ⟨g', o', k', he, hg, hc0, hc1, hat'⟩ := hcc
  have hk : k' = (t, d) := Option.some.inj (hat'.symm.trans hat)
  subst hk
  injection he with he
  injection he with he1 he2
  subst he1 he2
  have c0 := hS.rds.2.2.2.cell hc0 (by simp)
  have c1 := hS.rds.2.2.2.cell hc1 (by simp)
  dsimp only at c0 c1
  have k0 : (0 : Int) ≤ (i : Int) := by omega
  have k1 : (i : Int) < (n : Int) := by omega
  have n63 := hT.n63
  have hRS := hS.rds.alloc (.cells #[.string (strL t), .string (strL d)] 30)
  have hOW := hS.own.but ((But.refl [] wr).alloc (.cells #[.string (strL t), .string (strL d)] 30))
  have hI3 := Is.fresh wr 30 #[.string (strL t), .string (strL d)]
  have hds : (strL d).size = d.length := strL_size d
  obtain ⟨m, hm⟩ : ∃ m, m = d.length := ⟨_, rfl⟩
  rw [← hm] at hds
  have HM := Lib.hid hm
  have HAT := Lib.hid hat
  have HDA := Lib.hid (drop_at hat)
  clear hT hS hg hc0 hc1 hat' hat hm hlt
  have HRSw := Lib.hid hRS
  have HOWw := Lib.hid hOW
  have HI3w := Lib.hid hI3
  clear hRS hOW hI3
  go_upto_region 19 with (fail)
  have hRS := HRSw.out
  have hOW := HOWw.out
  have hI3 := HI3w.out
  clear HRSw HOWw HI3w
  obtain ⟨w3, hw3⟩ : ∃ x, x = wr.alloc (.cells #[.string (strL t), .string (strL d)] 30) := ⟨_, rfl⟩
  obtain ⟨b3, hb3⟩ : ∃ x, x = wr.heap.size := ⟨_, rfl⟩
  rw [← hw3] at hRS hOW hI3 ⊢
  rw [← hb3] at hI3 ⊢
  have HRS := Lib.hid hRS
  have HOW := Lib.hid hOW
  clear hw3 hb3 c0 c1
  have c0 : w3.cell? ⟨b3, 0, none⟩ = some (.string (strL t)) := hI3.cell 0
  have c1 : w3.cell? ⟨b3, 1, none⟩ = some (.string (strL d)) := hI3.cell 1
  obtain ⟨qtIHDR, ptIHDR⟩ := str_ne htIHDR.out
  unfold tIHDR at qtIHDR ptIHDR
  obtain ⟨qtPLTE, ptPLTE⟩ := str_ne htPLTE.out
  unfold tPLTE at qtPLTE ptPLTE
  obtain ⟨qtTRNS, ptTRNS⟩ := str_ne htTRNS.out
  unfold tTRNS at qtTRNS ptTRNS
  obtain ⟨qtIDAT, ptIDAT⟩ := str_ne htIDAT.out
  unfold tIDAT at qtIDAT ptIDAT
  obtain ⟨qtIEND, ptIEND⟩ := str_ne htIEND.out
  unfold tIEND at qtIEND ptIEND
  have m0 : w3.cell? ⟨b2, 0, none⟩ = some (.int .i64 (a : Int)) := hRS.2.2.1.cell 0
  have m1 : w3.cell? ⟨b2, 1, none⟩ = some (.int .i64 (b : Int)) := hRS.2.2.1.cell 1
  have m2 : w3.cell? ⟨b2, 2, none⟩ = some (.int .i64 (x8 : Int)) := hRS.2.2.1.cell 2
  have m3 : w3.cell? ⟨b2, 3, none⟩ = some (.int .i64 (x9 : Int)) := hRS.2.2.1.cell 3
  have m4 : w3.cell? ⟨b2, 4, none⟩ = some (.int .i64 (x12 : Int)) := hRS.2.2.1.cell 4
  have m5 : w3.cell? ⟨b2, 5, none⟩ = some (.string (strL PP)) := hRS.2.2.1.cell 5
  have m6 : w3.cell? ⟨b2, 6, none⟩ = some (.string (strL TT)) := hRS.2.2.1.cell 6
  have m7 : w3.cell? ⟨b2, 7, none⟩ = some (.bool trans) := hRS.2.2.1.cell 7
  have hp : 0 < (strL t).size := by rw [strL_size]; exact hx.out.1
  have kx : ∀ W, (Instr.index 9 (.string (strL t)) (.int .i64 0)).run Try.prog W = .ok (.int .u8 (x : Nat)) W := fun W => by
    have h := byteD_run (D := t) (k := 0) hx.out.1 W
    rw [hx.out.2]
    exact h
  have dx1 : decide ((65 : Int) ≤ (x : Int)) = false := by simp; omega
  have hdat := HS.out.dat
  rw [HDA.out] at hdat
  unfold dataC at hdat
  rw [List.map_cons, List.sum_cons] at hdat
  dsimp only at hdat
  have HD2 := Lib.hid (show DD.length + dataC (L.drop (i + 1)) ≤ 100000000 by unfold dataC; omega)
  clear hdat
  have w1i : IntKind.i64.wrap ((i : Int) + 1) = (i : Int) + 1 := IntWalk.i64_in _ (by omega)
  clear hRS hOW hI3
  go_wp2
  refine ⟨?_, ?_⟩
  · unfold WIR
    exact ⟨_, _, _, _, _, _, _, _, _, _, _, _, _, _, _, _, _, _, _, _, _, _, _, _, _, _, _, _, _, _, _, _, _, _, _, _, _, _, _, _, _, _, _, _, _, _, _, _, _, _, _, _, _, _, _, _, _, _, _, _, _, _, _, _, _, _, _, _, _, _, _, _, _, _, _, _, _, _, _, _, _, _, _, _, _, _, _, _, _, _, _, _, _, _, _, _, _, _, _, _, _, _, _, _, _, _, _, _, _, _, _, _, _, _, _, _, _, _, _, _, _, _, _, _, _, _, _, _, _, _, _, _, _, _, _, _, _, _, _, _, _, _, _, _, _, _, _, _, _, _, _, _, _, _, _, _, _, _, _, _, _, _, _, _, _, _, _, _, _, _, _, _, _, _, _, _, _, _, _, _, _, _, _, _, _, _, _, _, _, _, _, _, _, _, i + 1, ⟨pal, trans, idat, idat, PP, TT, DD⟩, dv, ⟨by have := HS.out.lo; omega, by omega, HOW.out, HD2.out, HRS.out, step_on HDA.out HS.out.run (by unfold stepH; rw [if_neg htIHDR.out, if_neg htPLTE.out, if_neg htTRNS.out, if_neg htIDAT.out, if_neg htIEND.out, if_neg (by rw [hcr.out]; simp)]), HS.out.pb⟩, rfl⟩
  · show n - (intOf (.int .i64 ((i : Int) + 1))).toNat < n - (intOf (.int .i64 (i : Int))).toNat
    simp [intOf]; omega

set_option maxHeartbeats 1000000 in
theorem rd_other_b3 (hT : Stays w g o n b0 b1 b2 a b x8 x9 x12 L R) (hS : LoopS w b0 b1 b2 n a b x8 x9 x12 L R i ⟨pal, trans, idat, gap, PP, TT, DD⟩ dv wr) (hlt : i < n) (hat : L[i]? = some (t, d)) (htIHDR : Hid (¬ t = tIHDR)) (htPLTE : Hid (¬ t = tPLTE)) (htTRNS : Hid (¬ t = tTRNS)) (htIDAT : Hid (¬ t = tIDAT)) (htIEND : Hid (¬ t = tIEND)) (x : Nat) (hx : Hid (0 < t.length ∧ x = (t.getD 0 0).toNat)) (hcr : Hid (critT t = false)) (hx1 : 65 ≤ x) (hx2 : 90 < x) (HTL : Hid (readT L = if R.2 = 0 then (numsH D0, R) else ([], hs0, R.2)))  :
    Code.wp Try.prog bodyR (Exit.then (fun act w1 => WIR w g o n cap b0 b1 b2 a b x8 x9 x12 L R c1 c6 c8 c16 c17 c18 c19 c20 c21 c22 c23 c24 c25 c26 c27 c28 c29 c30 c31 c32 c33 c34 c35 c36 c37 c38 c39 c40 c41 c42 c43 c44 c45 c46 c47 c48 c49 c50 c51 c52 c53 c54 c55 c56 c57 c58 c59 c60 c61 c62 c63 c64 c65 c66 c67 c68 c69 c260 act w1 ∧ MuR n act w1 < MuR n ⟨#[.slice (some ⟨g, o, none⟩) n cap, c1, .pointer (some ⟨b0, 0, none⟩), u3, u4, .pointer (some ⟨b1, 0, none⟩), c6, .pointer (some ⟨b2, 0, none⟩), c8, dv, .bool pal, .bool idat, .bool gap, .int .i64 (i : Int), u14, u15, c16, c17, c18, c19, c20, c21, c22, c23, c24, c25, c26, c27, c28, c29, c30, c31, c32, c33, c34, c35, c36, c37, c38, c39, c40, c41, c42, c43, c44, c45, c46, c47, c48, c49, c50, c51, c52, c53, c54, c55, c56, c57, c58, c59, c60, c61, c62, c63, c64, c65, c66, c67, c68, c69, u70, u71, u72, u73, u74, u75, u76, u77, u78, u79, u80, u81, u82, u83, u84, u85, u86, u87, u88, u89, u90, u91, u92, u93, u94, u95, u96, u97, u98, u99, u100, u101, u102, u103, u104, u105, u106, u107, u108, u109, u110, u111, u112, u113, u114, u115, u116, u117, u118, u119, u120, u121, u122, u123, u124, u125, u126, u127, u128, u129, u130, u131, u132, u133, u134, u135, u136, u137, u138, u139, u140, u141, u142, u143, u144, u145, u146, u147, u148, u149, u150, u151, u152, u153, u154, u155, u156, u157, u158, u159, u160, u161, u162, u163, u164, u165, u166, u167, u168, u169, u170, u171, u172, u173, u174, u175, u176, u177, u178, u179, u180, u181, u182, u183, u184, u185, u186, u187, u188, u189, u190, u191, u192, u193, u194, u195, u196, u197, u198, u199, u200, u201, u202, u203, u204, u205, u206, u207, u208, u209, u210, u211, u212, u213, u214, u215, u216, u217, u218, u219, u220, u221, u222, u223, u224, u225, u226, u227, u228, u229, u230, u231, u232, u233, u234, u235, u236, u237, u238, u239, u240, u241, u242, u243, u244, u245, u246, u247, u248, u249, u250, u251, u252, u253, u254, u255, u256, u257, u258, u259, c260], []⟩ wr) Q0) ⟨#[.slice (some ⟨g, o, none⟩) n cap, c1, .pointer (some ⟨b0, 0, none⟩), u3, u4, .pointer (some ⟨b1, 0, none⟩), c6, .pointer (some ⟨b2, 0, none⟩), c8, dv, .bool pal, .bool idat, .bool gap, .int .i64 (i : Int), u14, u15, c16, c17, c18, c19, c20, c21, c22, c23, c24, c25, c26, c27, c28, c29, c30, c31, c32, c33, c34, c35, c36, c37, c38, c39, c40, c41, c42, c43, c44, c45, c46, c47, c48, c49, c50, c51, c52, c53, c54, c55, c56, c57, c58, c59, c60, c61, c62, c63, c64, c65, c66, c67, c68, c69, u70, u71, u72, u73, u74, u75, u76, u77, u78, u79, u80, u81, u82, u83, u84, u85, u86, u87, u88, u89, u90, u91, u92, u93, u94, u95, u96, u97, u98, u99, u100, u101, u102, u103, u104, u105, u106, u107, u108, u109, u110, u111, u112, u113, u114, u115, u116, u117, u118, u119, u120, u121, u122, u123, u124, u125, u126, u127, u128, u129, u130, u131, u132, u133, u134, u135, u136, u137, u138, u139, u140, u141, u142, u143, u144, u145, u146, u147, u148, u149, u150, u151, u152, u153, u154, u155, u156, u157, u158, u159, u160, u161, u162, u163, u164, u165, u166, u167, u168, u169, u170, u171, u172, u173, u174, u175, u176, u177, u178, u179, u180, u181, u182, u183, u184, u185, u186, u187, u188, u189, u190, u191, u192, u193, u194, u195, u196, u197, u198, u199, u200, u201, u202, u203, u204, u205, u206, u207, u208, u209, u210, u211, u212, u213, u214, u215, u216, u217, u218, u219, u220, u221, u222, u223, u224, u225, u226, u227, u228, u229, u230, u231, u232, u233, u234, u235, u236, u237, u238, u239, u240, u241, u242, u243, u244, u245, u246, u247, u248, u249, u250, u251, u252, u253, u254, u255, u256, u257, u258, u259, c260], []⟩ wr := by
  conv => arg 2; whnf
  have HT := Lib.hid hT
  have HS := Lib.hid hS
  have hcc := hT.cks.at hlt
  obtain ⟨g', o', k', he, hg, hc0, hc1, hat'⟩ := hcc
  have hk : k' = (t, d) := Option.some.inj (hat'.symm.trans hat)
  subst hk
  injection he with he
  injection he with he1 he2
  subst he1 he2
  have c0 := hS.rds.2.2.2.cell hc0 (by simp)
  have c1 := hS.rds.2.2.2.cell hc1 (by simp)
  dsimp only at c0 c1
  have k0 : (0 : Int) ≤ (i : Int) := by omega
  have k1 : (i : Int) < (n : Int) := by omega
  have n63 := hT.n63
  have hRS := hS.rds.alloc (.cells #[.string (strL t), .string (strL d)] 30)
  have hOW := hS.own.but ((But.refl [] wr).alloc (.cells #[.string (strL t), .string (strL d)] 30))
  have hI3 := Is.fresh wr 30 #[.string (strL t), .string (strL d)]
  have hds : (strL d).size = d.length := strL_size d
  obtain ⟨m, hm⟩ : ∃ m, m = d.length := ⟨_, rfl⟩
  rw [← hm] at hds
  have HM := Lib.hid hm
  have HAT := Lib.hid hat
  have HDA := Lib.hid (drop_at hat)
  clear hT hS hg hc0 hc1 hat' hat hm hlt
  have HRSw := Lib.hid hRS
  have HOWw := Lib.hid hOW
  have HI3w := Lib.hid hI3
  clear hRS hOW hI3
  go_upto_region 19 with (fail)
  have hRS := HRSw.out
  have hOW := HOWw.out
  have hI3 := HI3w.out
  clear HRSw HOWw HI3w
  obtain ⟨w3, hw3⟩ : ∃ x, x = wr.alloc (.cells #[.string (strL t), .string (strL d)] 30) := ⟨_, rfl⟩
  obtain ⟨b3, hb3⟩ : ∃ x, x = wr.heap.size := ⟨_, rfl⟩
  rw [← hw3] at hRS hOW hI3 ⊢
  rw [← hb3] at hI3 ⊢
  have HRS := Lib.hid hRS
  have HOW := Lib.hid hOW
  clear hw3 hb3 c0 c1
  have c0 : w3.cell? ⟨b3, 0, none⟩ = some (.string (strL t)) := hI3.cell 0
  have c1 : w3.cell? ⟨b3, 1, none⟩ = some (.string (strL d)) := hI3.cell 1
  obtain ⟨qtIHDR, ptIHDR⟩ := str_ne htIHDR.out
  unfold tIHDR at qtIHDR ptIHDR
  obtain ⟨qtPLTE, ptPLTE⟩ := str_ne htPLTE.out
  unfold tPLTE at qtPLTE ptPLTE
  obtain ⟨qtTRNS, ptTRNS⟩ := str_ne htTRNS.out
  unfold tTRNS at qtTRNS ptTRNS
  obtain ⟨qtIDAT, ptIDAT⟩ := str_ne htIDAT.out
  unfold tIDAT at qtIDAT ptIDAT
  obtain ⟨qtIEND, ptIEND⟩ := str_ne htIEND.out
  unfold tIEND at qtIEND ptIEND
  have m0 : w3.cell? ⟨b2, 0, none⟩ = some (.int .i64 (a : Int)) := hRS.2.2.1.cell 0
  have m1 : w3.cell? ⟨b2, 1, none⟩ = some (.int .i64 (b : Int)) := hRS.2.2.1.cell 1
  have m2 : w3.cell? ⟨b2, 2, none⟩ = some (.int .i64 (x8 : Int)) := hRS.2.2.1.cell 2
  have m3 : w3.cell? ⟨b2, 3, none⟩ = some (.int .i64 (x9 : Int)) := hRS.2.2.1.cell 3
  have m4 : w3.cell? ⟨b2, 4, none⟩ = some (.int .i64 (x12 : Int)) := hRS.2.2.1.cell 4
  have m5 : w3.cell? ⟨b2, 5, none⟩ = some (.string (strL PP)) := hRS.2.2.1.cell 5
  have m6 : w3.cell? ⟨b2, 6, none⟩ = some (.string (strL TT)) := hRS.2.2.1.cell 6
  have m7 : w3.cell? ⟨b2, 7, none⟩ = some (.bool trans) := hRS.2.2.1.cell 7
  have hp : 0 < (strL t).size := by rw [strL_size]; exact hx.out.1
  have kx : ∀ W, (Instr.index 9 (.string (strL t)) (.int .i64 0)).run Try.prog W = .ok (.int .u8 (x : Nat)) W := fun W => by
    have h := byteD_run (D := t) (k := 0) hx.out.1 W
    rw [hx.out.2]
    exact h
  have dx1 : decide ((65 : Int) ≤ (x : Int)) = true := by simp; omega
  have dx2 : decide ((x : Int) ≤ 90) = false := by simp; omega
  have hdat := HS.out.dat
  rw [HDA.out] at hdat
  unfold dataC at hdat
  rw [List.map_cons, List.sum_cons] at hdat
  dsimp only at hdat
  have HD2 := Lib.hid (show DD.length + dataC (L.drop (i + 1)) ≤ 100000000 by unfold dataC; omega)
  clear hdat
  have w1i : IntKind.i64.wrap ((i : Int) + 1) = (i : Int) + 1 := IntWalk.i64_in _ (by omega)
  clear hRS hOW hI3
  go_wp2
  refine ⟨?_, ?_⟩
  · unfold WIR
    exact ⟨_, _, _, _, _, _, _, _, _, _, _, _, _, _, _, _, _, _, _, _, _, _, _, _, _, _, _, _, _, _, _, _, _, _, _, _, _, _, _, _, _, _, _, _, _, _, _, _, _, _, _, _, _, _, _, _, _, _, _, _, _, _, _, _, _, _, _, _, _, _, _, _, _, _, _, _, _, _, _, _, _, _, _, _, _, _, _, _, _, _, _, _, _, _, _, _, _, _, _, _, _, _, _, _, _, _, _, _, _, _, _, _, _, _, _, _, _, _, _, _, _, _, _, _, _, _, _, _, _, _, _, _, _, _, _, _, _, _, _, _, _, _, _, _, _, _, _, _, _, _, _, _, _, _, _, _, _, _, _, _, _, _, _, _, _, _, _, _, _, _, _, _, _, _, _, _, _, _, _, _, _, _, _, _, _, _, _, _, _, _, _, _, _, _, i + 1, ⟨pal, trans, idat, idat, PP, TT, DD⟩, dv, ⟨by have := HS.out.lo; omega, by omega, HOW.out, HD2.out, HRS.out, step_on HDA.out HS.out.run (by unfold stepH; rw [if_neg htIHDR.out, if_neg htPLTE.out, if_neg htTRNS.out, if_neg htIDAT.out, if_neg htIEND.out, if_neg (by rw [hcr.out]; simp)]), HS.out.pb⟩, rfl⟩
  · show n - (intOf (.int .i64 ((i : Int) + 1))).toNat < n - (intOf (.int .i64 (i : Int))).toNat
    simp [intOf]; omega

end
end Go.Proofs.Ytedffeimcccobaa
