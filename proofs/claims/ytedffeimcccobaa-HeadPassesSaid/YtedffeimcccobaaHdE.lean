/- The loop of the document's Read, cut into declarations. (Written by program: wip/gen/readloop.py.) -/
import Derived.Test.YtedffeimcccobaaHdD
set_option maxRecDepth 1000000
set_option linter.unusedVariables false
namespace Go.Proofs.Ytedffeimcccobaa
set_option maxRecDepth 100000
open Go Go.RowKit
def firstLoop : Code → Option Code
  | .loop c => some c
  | .seq a b => match firstLoop a with
    | some c => some c
    | none => firstLoop b
  | .block _ c => firstLoop c
  | .scope c => firstLoop c
  | .cond _ a b => match firstLoop a with
    | some c => some c
    | none => firstLoop b
  | _ => none
noncomputable def bodyR : Code := (Try.f18.body.bind firstLoop).getD .skip
/-- What holds ahead of each round. -/
structure LoopS (w : World) (b0 b1 b2 n a b x8 x9 x12 : Nat) (L : List Ck) (R : HS × Int) (i : Nat) (s : HS) (dv : Value) (wr : World) : Prop where
  lo : 1 ≤ i
  hi : i ≤ n
  own : OwnY wr w.heap.size dv s.D
  dat : s.D.length + dataC (L.drop i) ≤ 100000000
  rds : RdS w b0 b1 b2 (shpC (a : Int) (b : Int) (x8 : Int) (x9 : Int) (x12 : Int) s.P s.T s.trans) wr
  run : runH (x8 : Int) (x9 : Int) (L.drop i) s = R
  pb : s.P.length ≤ 100000000
def MuR (n : Nat) (a : Act) (_ : World) : Nat := n - (intOf (a.tmps.getD 13 undef)).toNat

def WIR (w : World) (g o n cap b0 b1 b2 a b x8 x9 x12 : Nat) (L : List Ck) (R : HS × Int) (c1 c6 c8 c16 c17 c18 c19 c20 c21 c22 c23 c24 c25 c26 c27 c28 c29 c30 c31 c32 c33 c34 c35 c36 c37 c38 c39 c40 c41 c42 c43 c44 c45 c46 c47 c48 c49 c50 c51 c52 c53 c54 c55 c56 c57 c58 c59 c60 c61 c62 c63 c64 c65 c66 c67 c68 c69 c260 : Value) (act : Act) (w1 : World) : Prop :=
  ∃ (u3 u4 u14 u15 u70 u71 u72 u73 u74 u75 u76 u77 u78 u79 u80 u81 u82 u83 u84 u85 u86 u87 u88 u89 u90 u91 u92 u93 u94 u95 u96 u97 u98 u99 u100 u101 u102 u103 u104 u105 u106 u107 u108 u109 u110 u111 u112 u113 u114 u115 u116 u117 u118 u119 u120 u121 u122 u123 u124 u125 u126 u127 u128 u129 u130 u131 u132 u133 u134 u135 u136 u137 u138 u139 u140 u141 u142 u143 u144 u145 u146 u147 u148 u149 u150 u151 u152 u153 u154 u155 u156 u157 u158 u159 u160 u161 u162 u163 u164 u165 u166 u167 u168 u169 u170 u171 u172 u173 u174 u175 u176 u177 u178 u179 u180 u181 u182 u183 u184 u185 u186 u187 u188 u189 u190 u191 u192 u193 u194 u195 u196 u197 u198 u199 u200 u201 u202 u203 u204 u205 u206 u207 u208 u209 u210 u211 u212 u213 u214 u215 u216 u217 u218 u219 u220 u221 u222 u223 u224 u225 u226 u227 u228 u229 u230 u231 u232 u233 u234 u235 u236 u237 u238 u239 u240 u241 u242 u243 u244 u245 u246 u247 u248 u249 u250 u251 u252 u253 u254 u255 u256 u257 u258 u259 : Value) (i : Nat) (s : HS) (dv : Value), LoopS w b0 b1 b2 n a b x8 x9 x12 L R i s dv w1 ∧ act = ⟨#[.slice (some ⟨g, o, none⟩) n cap, c1, .pointer (some ⟨b0, 0, none⟩), u3, u4, .pointer (some ⟨b1, 0, none⟩), c6, .pointer (some ⟨b2, 0, none⟩), c8, dv, .bool s.pal, .bool s.idat, .bool s.gap, .int .i64 (i : Int), u14, u15, c16, c17, c18, c19, c20, c21, c22, c23, c24, c25, c26, c27, c28, c29, c30, c31, c32, c33, c34, c35, c36, c37, c38, c39, c40, c41, c42, c43, c44, c45, c46, c47, c48, c49, c50, c51, c52, c53, c54, c55, c56, c57, c58, c59, c60, c61, c62, c63, c64, c65, c66, c67, c68, c69, u70, u71, u72, u73, u74, u75, u76, u77, u78, u79, u80, u81, u82, u83, u84, u85, u86, u87, u88, u89, u90, u91, u92, u93, u94, u95, u96, u97, u98, u99, u100, u101, u102, u103, u104, u105, u106, u107, u108, u109, u110, u111, u112, u113, u114, u115, u116, u117, u118, u119, u120, u121, u122, u123, u124, u125, u126, u127, u128, u129, u130, u131, u132, u133, u134, u135, u136, u137, u138, u139, u140, u141, u142, u143, u144, u145, u146, u147, u148, u149, u150, u151, u152, u153, u154, u155, u156, u157, u158, u159, u160, u161, u162, u163, u164, u165, u166, u167, u168, u169, u170, u171, u172, u173, u174, u175, u176, u177, u178, u179, u180, u181, u182, u183, u184, u185, u186, u187, u188, u189, u190, u191, u192, u193, u194, u195, u196, u197, u198, u199, u200, u201, u202, u203, u204, u205, u206, u207, u208, u209, u210, u211, u212, u213, u214, u215, u216, u217, u218, u219, u220, u221, u222, u223, u224, u225, u226, u227, u228, u229, u230, u231, u232, u233, u234, u235, u236, u237, u238, u239, u240, u241, u242, u243, u244, u245, u246, u247, u248, u249, u250, u251, u252, u253, u254, u255, u256, u257, u258, u259, c260], []⟩

/-- What stands throughout. -/
structure Stays (w : World) (g o n b0 b1 b2 a b x8 x9 x12 : Nat) (L : List Ck) (R : HS × Int) : Prop where
  cks : Cks w (some ⟨g, o, none⟩) n L
  n63 : n ≤ 8796093022208
  e0 : b0 = w.heap.size
  ge2 : w.heap.size ≤ b2
  ne0 : b0 ≠ b2
  ne1 : b1 ≠ b2
  dep : x9 = 3 → x8 = 1 ∨ x8 = 2 ∨ x8 = 4 ∨ x8 = 8
  l8 : x8 < 256
  l9 : x9 < 256
/-- One round's chunk. -/
theorem step_err {d c : Int} {L l : List Ck} {i : Nat} {k : Ck} {s s' : HS} {R : HS × Int} {e : Int} (hd : L.drop i = k :: l) (hr : runH d c (L.drop i) s = R) (h : stepH d c l.isEmpty k s = (s', some e)) : R = (s', e) := by
  rw [← hr, hd, run_step, h]
theorem step_on {d c : Int} {L l : List Ck} {i : Nat} {k : Ck} {s s' : HS} {R : HS × Int} (hd : L.drop i = k :: l) (hr : runH d c (L.drop i) s = R) (h : stepH d c l.isEmpty k s = (s', none)) : runH d c (L.drop (i + 1)) s' = R := by
  have e : L.drop (i + 1) = l := by rw [← List.drop_drop, hd]; rfl
  rw [← hr, hd, run_step, h, e]
theorem drop_at {L : List Ck} {i : Nat} {k : Ck} (h : L[i]? = some k) : L.drop i = k :: L.drop (i + 1) := by
  obtain ⟨hi, e⟩ := List.getElem?_eq_some_iff.1 h
  rw [List.drop_eq_getElem_cons hi, e]
attribute [local irreducible] strL

section
variable {w wr : World} {g o n cap b0 b1 b2 a b x8 x9 x12 : Nat} {L : List Ck} {R : HS × Int} {Q0 : Exit → Act → World → Prop} {i : Nat} {s : HS} {dv : Value} {t d D0 : List UInt8}
variable {c1 c6 c8 c16 c17 c18 c19 c20 c21 c22 c23 c24 c25 c26 c27 c28 c29 c30 c31 c32 c33 c34 c35 c36 c37 c38 c39 c40 c41 c42 c43 c44 c45 c46 c47 c48 c49 c50 c51 c52 c53 c54 c55 c56 c57 c58 c59 c60 c61 c62 c63 c64 c65 c66 c67 c68 c69 c260 : Value}
variable {u3 u4 u14 u15 u70 u71 u72 u73 u74 u75 u76 u77 u78 u79 u80 u81 u82 u83 u84 u85 u86 u87 u88 u89 u90 u91 u92 u93 u94 u95 u96 u97 u98 u99 u100 u101 u102 u103 u104 u105 u106 u107 u108 u109 u110 u111 u112 u113 u114 u115 u116 u117 u118 u119 u120 u121 u122 u123 u124 u125 u126 u127 u128 u129 u130 u131 u132 u133 u134 u135 u136 u137 u138 u139 u140 u141 u142 u143 u144 u145 u146 u147 u148 u149 u150 u151 u152 u153 u154 u155 u156 u157 u158 u159 u160 u161 u162 u163 u164 u165 u166 u167 u168 u169 u170 u171 u172 u173 u174 u175 u176 u177 u178 u179 u180 u181 u182 u183 u184 u185 u186 u187 u188 u189 u190 u191 u192 u193 u194 u195 u196 u197 u198 u199 u200 u201 u202 u203 u204 u205 u206 u207 u208 u209 u210 u211 u212 u213 u214 u215 u216 u217 u218 u219 u220 u221 u222 u223 u224 u225 u226 u227 u228 u229 u230 u231 u232 u233 u234 u235 u236 u237 u238 u239 u240 u241 u242 u243 u244 u245 u246 u247 u248 u249 u250 u251 u252 u253 u254 u255 u256 u257 u258 u259 : Value}
variable {pal trans idat gap : Bool} {PP TT DD : List UInt8}

set_option maxHeartbeats 1000000 in
theorem rd_ihdr (hT : Stays w g o n b0 b1 b2 a b x8 x9 x12 L R) (hS : LoopS w b0 b1 b2 n a b x8 x9 x12 L R i ⟨pal, trans, idat, gap, PP, TT, DD⟩ dv wr) (hlt : i < n) (hat : L[i]? = some (t, d))  (htIHDR : Hid (t = tIHDR))  (HTL : Hid (readT L = if R.2 = 0 then (numsH D0, R) else ([], hs0, R.2))) (hret : ∀ act w1, bodyPost Try.prog Try.f18 (GotH w (readT L)) Exit.ret act w1 → Q0 .ret act w1) :
    Code.wp Try.prog bodyR (Exit.then (fun act w1 => WIR w g o n cap b0 b1 b2 a b x8 x9 x12 L R c1 c6 c8 c16 c17 c18 c19 c20 c21 c22 c23 c24 c25 c26 c27 c28 c29 c30 c31 c32 c33 c34 c35 c36 c37 c38 c39 c40 c41 c42 c43 c44 c45 c46 c47 c48 c49 c50 c51 c52 c53 c54 c55 c56 c57 c58 c59 c60 c61 c62 c63 c64 c65 c66 c67 c68 c69 c260 act w1 ∧ MuR n act w1 < MuR n ⟨#[.slice (some ⟨g, o, none⟩) n cap, c1, .pointer (some ⟨b0, 0, none⟩), u3, u4, .pointer (some ⟨b1, 0, none⟩), c6, .pointer (some ⟨b2, 0, none⟩), c8, dv, .bool pal, .bool idat, .bool gap, .int .i64 (i : Int), u14, u15, c16, c17, c18, c19, c20, c21, c22, c23, c24, c25, c26, c27, c28, c29, c30, c31, c32, c33, c34, c35, c36, c37, c38, c39, c40, c41, c42, c43, c44, c45, c46, c47, c48, c49, c50, c51, c52, c53, c54, c55, c56, c57, c58, c59, c60, c61, c62, c63, c64, c65, c66, c67, c68, c69, u70, u71, u72, u73, u74, u75, u76, u77, u78, u79, u80, u81, u82, u83, u84, u85, u86, u87, u88, u89, u90, u91, u92, u93, u94, u95, u96, u97, u98, u99, u100, u101, u102, u103, u104, u105, u106, u107, u108, u109, u110, u111, u112, u113, u114, u115, u116, u117, u118, u119, u120, u121, u122, u123, u124, u125, u126, u127, u128, u129, u130, u131, u132, u133, u134, u135, u136, u137, u138, u139, u140, u141, u142, u143, u144, u145, u146, u147, u148, u149, u150, u151, u152, u153, u154, u155, u156, u157, u158, u159, u160, u161, u162, u163, u164, u165, u166, u167, u168, u169, u170, u171, u172, u173, u174, u175, u176, u177, u178, u179, u180, u181, u182, u183, u184, u185, u186, u187, u188, u189, u190, u191, u192, u193, u194, u195, u196, u197, u198, u199, u200, u201, u202, u203, u204, u205, u206, u207, u208, u209, u210, u211, u212, u213, u214, u215, u216, u217, u218, u219, u220, u221, u222, u223, u224, u225, u226, u227, u228, u229, u230, u231, u232, u233, u234, u235, u236, u237, u238, u239, u240, u241, u242, u243, u244, u245, u246, u247, u248, u249, u250, u251, u252, u253, u254, u255, u256, u257, u258, u259, c260], []⟩ wr) Q0) ⟨#[.slice (some ⟨g, o, none⟩) n cap, c1, .pointer (some ⟨b0, 0, none⟩), u3, u4, .pointer (some ⟨b1, 0, none⟩), c6, .pointer (some ⟨b2, 0, none⟩), c8, dv, .bool pal, .bool idat, .bool gap, .int .i64 (i : Int), u14, u15, c16, c17, c18, c19, c20, c21, c22, c23, c24, c25, c26, c27, c28, c29, c30, c31, c32, c33, c34, c35, c36, c37, c38, c39, c40, c41, c42, c43, c44, c45, c46, c47, c48, c49, c50, c51, c52, c53, c54, c55, c56, c57, c58, c59, c60, c61, c62, c63, c64, c65, c66, c67, c68, c69, u70, u71, u72, u73, u74, u75, u76, u77, u78, u79, u80, u81, u82, u83, u84, u85, u86, u87, u88, u89, u90, u91, u92, u93, u94, u95, u96, u97, u98, u99, u100, u101, u102, u103, u104, u105, u106, u107, u108, u109, u110, u111, u112, u113, u114, u115, u116, u117, u118, u119, u120, u121, u122, u123, u124, u125, u126, u127, u128, u129, u130, u131, u132, u133, u134, u135, u136, u137, u138, u139, u140, u141, u142, u143, u144, u145, u146, u147, u148, u149, u150, u151, u152, u153, u154, u155, u156, u157, u158, u159, u160, u161, u162, u163, u164, u165, u166, u167, u168, u169, u170, u171, u172, u173, u174, u175, u176, u177, u178, u179, u180, u181, u182, u183, u184, u185, u186, u187, u188, u189, u190, u191, u192, u193, u194, u195, u196, u197, u198, u199, u200, u201, u202, u203, u204, u205, u206, u207, u208, u209, u210, u211, u212, u213, u214, u215, u216, u217, u218, u219, u220, u221, u222, u223, u224, u225, u226, u227, u228, u229, u230, u231, u232, u233, u234, u235, u236, u237, u238, u239, u240, u241, u242, u243, u244, u245, u246, u247, u248, u249, u250, u251, u252, u253, u254, u255, u256, u257, u258, u259, c260], []⟩ wr := by
  conv => arg 2; whnf
  have HT := Lib.hid hT
  have HS := Lib.hid hS
  have hcc := hT.cks.at hlt
  obtain ⟨g', o', k', he, hg, hc0, hc1, hat'⟩ := hcc
  have hk : k' = (t, d) := Option.some.inj (hat'.symm.trans hat)
  subst hk
  injection he with he
  injection he with he1 he2
  subst he1 he2
  have c0 := hS.rds.2.2.2.cell hc0 (by simp)
  have c1 := hS.rds.2.2.2.cell hc1 (by simp)
  dsimp only at c0 c1
  have k0 : (0 : Int) ≤ (i : Int) := by omega
  have k1 : (i : Int) < (n : Int) := by omega
  have n63 := hT.n63
  have hRS := hS.rds.alloc (.cells #[.string (strL t), .string (strL d)] 30)
  have hOW := hS.own.but ((But.refl [] wr).alloc (.cells #[.string (strL t), .string (strL d)] 30))
  have hI3 := Is.fresh wr 30 #[.string (strL t), .string (strL d)]
  have hds : (strL d).size = d.length := strL_size d
  obtain ⟨m, hm⟩ : ∃ m, m = d.length := ⟨_, rfl⟩
  rw [← hm] at hds
  have HM := Lib.hid hm
  have HAT := Lib.hid hat
  have HDA := Lib.hid (drop_at hat)
  clear hT hS hg hc0 hc1 hat' hat hm hlt
  have HRSw := Lib.hid hRS
  have HOWw := Lib.hid hOW
  have HI3w := Lib.hid hI3
  clear hRS hOW hI3
  go_upto_region 19 with (fail)
  have hRS := HRSw.out
  have hOW := HOWw.out
  have hI3 := HI3w.out
  clear HRSw HOWw HI3w
  obtain ⟨w3, hw3⟩ : ∃ x, x = wr.alloc (.cells #[.string (strL t), .string (strL d)] 30) := ⟨_, rfl⟩
  obtain ⟨b3, hb3⟩ : ∃ x, x = wr.heap.size := ⟨_, rfl⟩
  rw [← hw3] at hRS hOW hI3 ⊢
  rw [← hb3] at hI3 ⊢
  have HRS := Lib.hid hRS
  have HOW := Lib.hid hOW
  clear hw3 hb3 c0 c1
  have c0 : w3.cell? ⟨b3, 0, none⟩ = some (.string (strL t)) := hI3.cell 0
  have c1 : w3.cell? ⟨b3, 1, none⟩ = some (.string (strL d)) := hI3.cell 1
  have qtIHDR := str_eq htIHDR.out
  unfold tIHDR at qtIHDR
  have r0 : w3.cell? ⟨b0, 0, none⟩ = some (.int .i64 0) := hRS.1.cell 0
  have r1 : w3.cell? ⟨b0, 1, none⟩ = some (.int .i64 0) := hRS.1.cell 1
  have r2 : w3.cell? ⟨b0, 2, none⟩ = some (.int .i64 0) := hRS.1.cell 2
  have r3 : w3.cell? ⟨b0, 3, none⟩ = some (.int .i64 0) := hRS.1.cell 3
  have r4 : w3.cell? ⟨b0, 4, none⟩ = some (.int .i64 0) := hRS.1.cell 4
  have r5 : w3.cell? ⟨b0, 5, none⟩ = some (.string ⟨#[]⟩) := hRS.1.cell 5
  have r6 : w3.cell? ⟨b0, 6, none⟩ = some (.string ⟨#[]⟩) := hRS.1.cell 6
  have r7 : w3.cell? ⟨b0, 7, none⟩ = some (.bool false) := hRS.1.cell 7
  have f0 := hRS.1.free 0
  have f1 := hRS.1.free 1
  have f2 := hRS.1.free 2
  have f3 := hRS.1.free 3
  have f4 := hRS.1.free 4
  have f5 := hRS.1.free 5
  have f6 := hRS.1.free 6
  have f7 := hRS.1.free 7
  have n0 : w3.cell? ⟨b1, 0, none⟩ = some (.int .i64 0) := hRS.2.1.cell 0
  have n1 : w3.cell? ⟨b1, 1, none⟩ = some (.int .i64 0) := hRS.2.1.cell 1
  have n2 : w3.cell? ⟨b1, 2, none⟩ = some (.int .i64 0) := hRS.2.1.cell 2
  have n3 : w3.cell? ⟨b1, 3, none⟩ = some (.int .i64 0) := hRS.2.1.cell 3
  have n4 : w3.cell? ⟨b1, 4, none⟩ = some (.int .i64 0) := hRS.2.1.cell 4
  have n5 : w3.cell? ⟨b1, 5, none⟩ = some (.string ⟨#[]⟩) := hRS.2.1.cell 5
  have n6 : w3.cell? ⟨b1, 6, none⟩ = some (.string ⟨#[]⟩) := hRS.2.1.cell 6
  have n7 : w3.cell? ⟨b1, 7, none⟩ = some (.bool false) := hRS.2.1.cell 7
  have HQ := Lib.hid (zero_put hRS.1 hRS.2.2.2 (by rw [HT.out.e0]; exact Nat.le_refl _))
  have m0 : w3.cell? ⟨b2, 0, none⟩ = some (.int .i64 (a : Int)) := hRS.2.2.1.cell 0
  have m1 : w3.cell? ⟨b2, 1, none⟩ = some (.int .i64 (b : Int)) := hRS.2.2.1.cell 1
  have m2 : w3.cell? ⟨b2, 2, none⟩ = some (.int .i64 (x8 : Int)) := hRS.2.2.1.cell 2
  have m3 : w3.cell? ⟨b2, 3, none⟩ = some (.int .i64 (x9 : Int)) := hRS.2.2.1.cell 3
  have m4 : w3.cell? ⟨b2, 4, none⟩ = some (.int .i64 (x12 : Int)) := hRS.2.2.1.cell 4
  have m5 : w3.cell? ⟨b2, 5, none⟩ = some (.string (strL PP)) := hRS.2.2.1.cell 5
  have m6 : w3.cell? ⟨b2, 6, none⟩ = some (.string (strL TT)) := hRS.2.2.1.cell 6
  have m7 : w3.cell? ⟨b2, 7, none⟩ = some (.bool trans) := hRS.2.2.1.cell 7
  have HR := Lib.hid (show readT L = ([], hs0, 23) by
    have h := step_err (s' := ⟨pal, trans, idat, gap, PP, TT, DD⟩) (e := 23) HDA.out HS.out.run (by unfold stepH; rw [if_pos htIHDR.out])
    rw [HTL.out, h, if_neg (show ¬ (23 : Int) = 0 by decide)])
  clear hRS hOW hI3
  go_wp2
  exact read_ret HQ.out.1 HQ.out.2 rfl rfl rfl HR.out

set_option maxHeartbeats 1000000 in
theorem rd_plte_a1 (hT : Stays w g o n b0 b1 b2 a b x8 x9 x12 L R) (hS : LoopS w b0 b1 b2 n a b x8 x9 x12 L R i ⟨true, trans, idat, gap, PP, TT, DD⟩ dv wr) (hlt : i < n) (hat : L[i]? = some (t, d)) (htIHDR : Hid (¬ t = tIHDR)) (htPLTE : Hid (t = tPLTE))  (HTL : Hid (readT L = if R.2 = 0 then (numsH D0, R) else ([], hs0, R.2))) (hret : ∀ act w1, bodyPost Try.prog Try.f18 (GotH w (readT L)) Exit.ret act w1 → Q0 .ret act w1) :
    Code.wp Try.prog bodyR (Exit.then (fun act w1 => WIR w g o n cap b0 b1 b2 a b x8 x9 x12 L R c1 c6 c8 c16 c17 c18 c19 c20 c21 c22 c23 c24 c25 c26 c27 c28 c29 c30 c31 c32 c33 c34 c35 c36 c37 c38 c39 c40 c41 c42 c43 c44 c45 c46 c47 c48 c49 c50 c51 c52 c53 c54 c55 c56 c57 c58 c59 c60 c61 c62 c63 c64 c65 c66 c67 c68 c69 c260 act w1 ∧ MuR n act w1 < MuR n ⟨#[.slice (some ⟨g, o, none⟩) n cap, c1, .pointer (some ⟨b0, 0, none⟩), u3, u4, .pointer (some ⟨b1, 0, none⟩), c6, .pointer (some ⟨b2, 0, none⟩), c8, dv, .bool true, .bool idat, .bool gap, .int .i64 (i : Int), u14, u15, c16, c17, c18, c19, c20, c21, c22, c23, c24, c25, c26, c27, c28, c29, c30, c31, c32, c33, c34, c35, c36, c37, c38, c39, c40, c41, c42, c43, c44, c45, c46, c47, c48, c49, c50, c51, c52, c53, c54, c55, c56, c57, c58, c59, c60, c61, c62, c63, c64, c65, c66, c67, c68, c69, u70, u71, u72, u73, u74, u75, u76, u77, u78, u79, u80, u81, u82, u83, u84, u85, u86, u87, u88, u89, u90, u91, u92, u93, u94, u95, u96, u97, u98, u99, u100, u101, u102, u103, u104, u105, u106, u107, u108, u109, u110, u111, u112, u113, u114, u115, u116, u117, u118, u119, u120, u121, u122, u123, u124, u125, u126, u127, u128, u129, u130, u131, u132, u133, u134, u135, u136, u137, u138, u139, u140, u141, u142, u143, u144, u145, u146, u147, u148, u149, u150, u151, u152, u153, u154, u155, u156, u157, u158, u159, u160, u161, u162, u163, u164, u165, u166, u167, u168, u169, u170, u171, u172, u173, u174, u175, u176, u177, u178, u179, u180, u181, u182, u183, u184, u185, u186, u187, u188, u189, u190, u191, u192, u193, u194, u195, u196, u197, u198, u199, u200, u201, u202, u203, u204, u205, u206, u207, u208, u209, u210, u211, u212, u213, u214, u215, u216, u217, u218, u219, u220, u221, u222, u223, u224, u225, u226, u227, u228, u229, u230, u231, u232, u233, u234, u235, u236, u237, u238, u239, u240, u241, u242, u243, u244, u245, u246, u247, u248, u249, u250, u251, u252, u253, u254, u255, u256, u257, u258, u259, c260], []⟩ wr) Q0) ⟨#[.slice (some ⟨g, o, none⟩) n cap, c1, .pointer (some ⟨b0, 0, none⟩), u3, u4, .pointer (some ⟨b1, 0, none⟩), c6, .pointer (some ⟨b2, 0, none⟩), c8, dv, .bool true, .bool idat, .bool gap, .int .i64 (i : Int), u14, u15, c16, c17, c18, c19, c20, c21, c22, c23, c24, c25, c26, c27, c28, c29, c30, c31, c32, c33, c34, c35, c36, c37, c38, c39, c40, c41, c42, c43, c44, c45, c46, c47, c48, c49, c50, c51, c52, c53, c54, c55, c56, c57, c58, c59, c60, c61, c62, c63, c64, c65, c66, c67, c68, c69, u70, u71, u72, u73, u74, u75, u76, u77, u78, u79, u80, u81, u82, u83, u84, u85, u86, u87, u88, u89, u90, u91, u92, u93, u94, u95, u96, u97, u98, u99, u100, u101, u102, u103, u104, u105, u106, u107, u108, u109, u110, u111, u112, u113, u114, u115, u116, u117, u118, u119, u120, u121, u122, u123, u124, u125, u126, u127, u128, u129, u130, u131, u132, u133, u134, u135, u136, u137, u138, u139, u140, u141, u142, u143, u144, u145, u146, u147, u148, u149, u150, u151, u152, u153, u154, u155, u156, u157, u158, u159, u160, u161, u162, u163, u164, u165, u166, u167, u168, u169, u170, u171, u172, u173, u174, u175, u176, u177, u178, u179, u180, u181, u182, u183, u184, u185, u186, u187, u188, u189, u190, u191, u192, u193, u194, u195, u196, u197, u198, u199, u200, u201, u202, u203, u204, u205, u206, u207, u208, u209, u210, u211, u212, u213, u214, u215, u216, u217, u218, u219, u220, u221, u222, u223, u224, u225, u226, u227, u228, u229, u230, u231, u232, u233, u234, u235, u236, u237, u238, u239, u240, u241, u242, u243, u244, u245, u246, u247, u248, u249, u250, u251, u252, u253, u254, u255, u256, u257, u258, u259, c260], []⟩ wr := by
  conv => arg 2; whnf
  have HT := Lib.hid hT
  have HS := Lib.hid hS
  have hcc := hT.cks.at hlt
  obtain ⟨g', o', k', he, hg, hc0, hc1, hat'⟩ := hcc
  have hk : k' = (t, d) := Option.some.inj (hat'.symm.trans hat)
  subst hk
  injection he with he
  injection he with he1 he2
  subst he1 he2
  have c0 := hS.rds.2.2.2.cell hc0 (by simp)
  have c1 := hS.rds.2.2.2.cell hc1 (by simp)
  dsimp only at c0 c1
  have k0 : (0 : Int) ≤ (i : Int) := by omega
  have k1 : (i : Int) < (n : Int) := by omega
  have n63 := hT.n63
  have hRS := hS.rds.alloc (.cells #[.string (strL t), .string (strL d)] 30)
  have hOW := hS.own.but ((But.refl [] wr).alloc (.cells #[.string (strL t), .string (strL d)] 30))
  have hI3 := Is.fresh wr 30 #[.string (strL t), .string (strL d)]
  have hds : (strL d).size = d.length := strL_size d
  obtain ⟨m, hm⟩ : ∃ m, m = d.length := ⟨_, rfl⟩
  rw [← hm] at hds
  have HM := Lib.hid hm
  have HAT := Lib.hid hat
  have HDA := Lib.hid (drop_at hat)
  clear hT hS hg hc0 hc1 hat' hat hm hlt
  have HRSw := Lib.hid hRS
  have HOWw := Lib.hid hOW
  have HI3w := Lib.hid hI3
  clear hRS hOW hI3
  go_upto_region 19 with (fail)
  have hRS := HRSw.out
  have hOW := HOWw.out
  have hI3 := HI3w.out
  clear HRSw HOWw HI3w
  obtain ⟨w3, hw3⟩ : ∃ x, x = wr.alloc (.cells #[.string (strL t), .string (strL d)] 30) := ⟨_, rfl⟩
  obtain ⟨b3, hb3⟩ : ∃ x, x = wr.heap.size := ⟨_, rfl⟩
  rw [← hw3] at hRS hOW hI3 ⊢
  rw [← hb3] at hI3 ⊢
  have HRS := Lib.hid hRS
  have HOW := Lib.hid hOW
  clear hw3 hb3 c0 c1
  have c0 : w3.cell? ⟨b3, 0, none⟩ = some (.string (strL t)) := hI3.cell 0
  have c1 : w3.cell? ⟨b3, 1, none⟩ = some (.string (strL d)) := hI3.cell 1
  have qtPLTE := str_eq htPLTE.out
  unfold tPLTE at qtPLTE
  have r0 : w3.cell? ⟨b0, 0, none⟩ = some (.int .i64 0) := hRS.1.cell 0
  have r1 : w3.cell? ⟨b0, 1, none⟩ = some (.int .i64 0) := hRS.1.cell 1
  have r2 : w3.cell? ⟨b0, 2, none⟩ = some (.int .i64 0) := hRS.1.cell 2
  have r3 : w3.cell? ⟨b0, 3, none⟩ = some (.int .i64 0) := hRS.1.cell 3
  have r4 : w3.cell? ⟨b0, 4, none⟩ = some (.int .i64 0) := hRS.1.cell 4
  have r5 : w3.cell? ⟨b0, 5, none⟩ = some (.string ⟨#[]⟩) := hRS.1.cell 5
  have r6 : w3.cell? ⟨b0, 6, none⟩ = some (.string ⟨#[]⟩) := hRS.1.cell 6
  have r7 : w3.cell? ⟨b0, 7, none⟩ = some (.bool false) := hRS.1.cell 7
  have f0 := hRS.1.free 0
  have f1 := hRS.1.free 1
  have f2 := hRS.1.free 2
  have f3 := hRS.1.free 3
  have f4 := hRS.1.free 4
  have f5 := hRS.1.free 5
  have f6 := hRS.1.free 6
  have f7 := hRS.1.free 7
  have n0 : w3.cell? ⟨b1, 0, none⟩ = some (.int .i64 0) := hRS.2.1.cell 0
  have n1 : w3.cell? ⟨b1, 1, none⟩ = some (.int .i64 0) := hRS.2.1.cell 1
  have n2 : w3.cell? ⟨b1, 2, none⟩ = some (.int .i64 0) := hRS.2.1.cell 2
  have n3 : w3.cell? ⟨b1, 3, none⟩ = some (.int .i64 0) := hRS.2.1.cell 3
  have n4 : w3.cell? ⟨b1, 4, none⟩ = some (.int .i64 0) := hRS.2.1.cell 4
  have n5 : w3.cell? ⟨b1, 5, none⟩ = some (.string ⟨#[]⟩) := hRS.2.1.cell 5
  have n6 : w3.cell? ⟨b1, 6, none⟩ = some (.string ⟨#[]⟩) := hRS.2.1.cell 6
  have n7 : w3.cell? ⟨b1, 7, none⟩ = some (.bool false) := hRS.2.1.cell 7
  have HQ := Lib.hid (zero_put hRS.1 hRS.2.2.2 (by rw [HT.out.e0]; exact Nat.le_refl _))
  have m0 : w3.cell? ⟨b2, 0, none⟩ = some (.int .i64 (a : Int)) := hRS.2.2.1.cell 0
  have m1 : w3.cell? ⟨b2, 1, none⟩ = some (.int .i64 (b : Int)) := hRS.2.2.1.cell 1
  have m2 : w3.cell? ⟨b2, 2, none⟩ = some (.int .i64 (x8 : Int)) := hRS.2.2.1.cell 2
  have m3 : w3.cell? ⟨b2, 3, none⟩ = some (.int .i64 (x9 : Int)) := hRS.2.2.1.cell 3
  have m4 : w3.cell? ⟨b2, 4, none⟩ = some (.int .i64 (x12 : Int)) := hRS.2.2.1.cell 4
  have m5 : w3.cell? ⟨b2, 5, none⟩ = some (.string (strL PP)) := hRS.2.2.1.cell 5
  have m6 : w3.cell? ⟨b2, 6, none⟩ = some (.string (strL TT)) := hRS.2.2.1.cell 6
  have m7 : w3.cell? ⟨b2, 7, none⟩ = some (.bool trans) := hRS.2.2.1.cell 7
  have HR := Lib.hid (show readT L = ([], hs0, 23) by
    have h := step_err (s' := ⟨true, trans, idat, gap, PP, TT, DD⟩) (e := 23) HDA.out HS.out.run (by unfold stepH; rw [if_neg htIHDR.out, if_pos htPLTE.out, if_pos (by simp)])
    rw [HTL.out, h, if_neg (show ¬ (23 : Int) = 0 by decide)])
  clear hRS hOW hI3
  go_wp2
  exact read_ret HQ.out.1 HQ.out.2 rfl rfl rfl HR.out

set_option maxHeartbeats 1000000 in
theorem rd_plte_a2 (hT : Stays w g o n b0 b1 b2 a b x8 x9 x12 L R) (hS : LoopS w b0 b1 b2 n a b x8 x9 x12 L R i ⟨false, true, idat, gap, PP, TT, DD⟩ dv wr) (hlt : i < n) (hat : L[i]? = some (t, d)) (htIHDR : Hid (¬ t = tIHDR)) (htPLTE : Hid (t = tPLTE))  (HTL : Hid (readT L = if R.2 = 0 then (numsH D0, R) else ([], hs0, R.2))) (hret : ∀ act w1, bodyPost Try.prog Try.f18 (GotH w (readT L)) Exit.ret act w1 → Q0 .ret act w1) :
    Code.wp Try.prog bodyR (Exit.then (fun act w1 => WIR w g o n cap b0 b1 b2 a b x8 x9 x12 L R c1 c6 c8 c16 c17 c18 c19 c20 c21 c22 c23 c24 c25 c26 c27 c28 c29 c30 c31 c32 c33 c34 c35 c36 c37 c38 c39 c40 c41 c42 c43 c44 c45 c46 c47 c48 c49 c50 c51 c52 c53 c54 c55 c56 c57 c58 c59 c60 c61 c62 c63 c64 c65 c66 c67 c68 c69 c260 act w1 ∧ MuR n act w1 < MuR n ⟨#[.slice (some ⟨g, o, none⟩) n cap, c1, .pointer (some ⟨b0, 0, none⟩), u3, u4, .pointer (some ⟨b1, 0, none⟩), c6, .pointer (some ⟨b2, 0, none⟩), c8, dv, .bool false, .bool idat, .bool gap, .int .i64 (i : Int), u14, u15, c16, c17, c18, c19, c20, c21, c22, c23, c24, c25, c26, c27, c28, c29, c30, c31, c32, c33, c34, c35, c36, c37, c38, c39, c40, c41, c42, c43, c44, c45, c46, c47, c48, c49, c50, c51, c52, c53, c54, c55, c56, c57, c58, c59, c60, c61, c62, c63, c64, c65, c66, c67, c68, c69, u70, u71, u72, u73, u74, u75, u76, u77, u78, u79, u80, u81, u82, u83, u84, u85, u86, u87, u88, u89, u90, u91, u92, u93, u94, u95, u96, u97, u98, u99, u100, u101, u102, u103, u104, u105, u106, u107, u108, u109, u110, u111, u112, u113, u114, u115, u116, u117, u118, u119, u120, u121, u122, u123, u124, u125, u126, u127, u128, u129, u130, u131, u132, u133, u134, u135, u136, u137, u138, u139, u140, u141, u142, u143, u144, u145, u146, u147, u148, u149, u150, u151, u152, u153, u154, u155, u156, u157, u158, u159, u160, u161, u162, u163, u164, u165, u166, u167, u168, u169, u170, u171, u172, u173, u174, u175, u176, u177, u178, u179, u180, u181, u182, u183, u184, u185, u186, u187, u188, u189, u190, u191, u192, u193, u194, u195, u196, u197, u198, u199, u200, u201, u202, u203, u204, u205, u206, u207, u208, u209, u210, u211, u212, u213, u214, u215, u216, u217, u218, u219, u220, u221, u222, u223, u224, u225, u226, u227, u228, u229, u230, u231, u232, u233, u234, u235, u236, u237, u238, u239, u240, u241, u242, u243, u244, u245, u246, u247, u248, u249, u250, u251, u252, u253, u254, u255, u256, u257, u258, u259, c260], []⟩ wr) Q0) ⟨#[.slice (some ⟨g, o, none⟩) n cap, c1, .pointer (some ⟨b0, 0, none⟩), u3, u4, .pointer (some ⟨b1, 0, none⟩), c6, .pointer (some ⟨b2, 0, none⟩), c8, dv, .bool false, .bool idat, .bool gap, .int .i64 (i : Int), u14, u15, c16, c17, c18, c19, c20, c21, c22, c23, c24, c25, c26, c27, c28, c29, c30, c31, c32, c33, c34, c35, c36, c37, c38, c39, c40, c41, c42, c43, c44, c45, c46, c47, c48, c49, c50, c51, c52, c53, c54, c55, c56, c57, c58, c59, c60, c61, c62, c63, c64, c65, c66, c67, c68, c69, u70, u71, u72, u73, u74, u75, u76, u77, u78, u79, u80, u81, u82, u83, u84, u85, u86, u87, u88, u89, u90, u91, u92, u93, u94, u95, u96, u97, u98, u99, u100, u101, u102, u103, u104, u105, u106, u107, u108, u109, u110, u111, u112, u113, u114, u115, u116, u117, u118, u119, u120, u121, u122, u123, u124, u125, u126, u127, u128, u129, u130, u131, u132, u133, u134, u135, u136, u137, u138, u139, u140, u141, u142, u143, u144, u145, u146, u147, u148, u149, u150, u151, u152, u153, u154, u155, u156, u157, u158, u159, u160, u161, u162, u163, u164, u165, u166, u167, u168, u169, u170, u171, u172, u173, u174, u175, u176, u177, u178, u179, u180, u181, u182, u183, u184, u185, u186, u187, u188, u189, u190, u191, u192, u193, u194, u195, u196, u197, u198, u199, u200, u201, u202, u203, u204, u205, u206, u207, u208, u209, u210, u211, u212, u213, u214, u215, u216, u217, u218, u219, u220, u221, u222, u223, u224, u225, u226, u227, u228, u229, u230, u231, u232, u233, u234, u235, u236, u237, u238, u239, u240, u241, u242, u243, u244, u245, u246, u247, u248, u249, u250, u251, u252, u253, u254, u255, u256, u257, u258, u259, c260], []⟩ wr := by
  conv => arg 2; whnf
  have HT := Lib.hid hT
  have HS := Lib.hid hS
  have hcc := hT.cks.at hlt
  obtain ⟨g', o', k', he, hg, hc0, hc1, hat'⟩ := hcc
  have hk : k' = (t, d) := Option.some.inj (hat'.symm.trans hat)
  subst hk
  injection he with he
  injection he with he1 he2
  subst he1 he2
  have c0 := hS.rds.2.2.2.cell hc0 (by simp)
  have c1 := hS.rds.2.2.2.cell hc1 (by simp)
  dsimp only at c0 c1
  have k0 : (0 : Int) ≤ (i : Int) := by omega
  have k1 : (i : Int) < (n : Int) := by omega
  have n63 := hT.n63
  have hRS := hS.rds.alloc (.cells #[.string (strL t), .string (strL d)] 30)
  have hOW := hS.own.but ((But.refl [] wr).alloc (.cells #[.string (strL t), .string (strL d)] 30))
  have hI3 := Is.fresh wr 30 #[.string (strL t), .string (strL d)]
  have hds : (strL d).size = d.length := strL_size d
  obtain ⟨m, hm⟩ : ∃ m, m = d.length := ⟨_, rfl⟩
  rw [← hm] at hds
  have HM := Lib.hid hm
  have HAT := Lib.hid hat
  have HDA := Lib.hid (drop_at hat)
  clear hT hS hg hc0 hc1 hat' hat hm hlt
  have HRSw := Lib.hid hRS
  have HOWw := Lib.hid hOW
  have HI3w := Lib.hid hI3
  clear hRS hOW hI3
  go_upto_region 19 with (fail)
  have hRS := HRSw.out
  have hOW := HOWw.out
  have hI3 := HI3w.out
  clear HRSw HOWw HI3w
  obtain ⟨w3, hw3⟩ : ∃ x, x = wr.alloc (.cells #[.string (strL t), .string (strL d)] 30) := ⟨_, rfl⟩
  obtain ⟨b3, hb3⟩ : ∃ x, x = wr.heap.size := ⟨_, rfl⟩
  rw [← hw3] at hRS hOW hI3 ⊢
  rw [← hb3] at hI3 ⊢
  have HRS := Lib.hid hRS
  have HOW := Lib.hid hOW
  clear hw3 hb3 c0 c1
  have c0 : w3.cell? ⟨b3, 0, none⟩ = some (.string (strL t)) := hI3.cell 0
  have c1 : w3.cell? ⟨b3, 1, none⟩ = some (.string (strL d)) := hI3.cell 1
  have qtPLTE := str_eq htPLTE.out
  unfold tPLTE at qtPLTE
  have r0 : w3.cell? ⟨b0, 0, none⟩ = some (.int .i64 0) := hRS.1.cell 0
  have r1 : w3.cell? ⟨b0, 1, none⟩ = some (.int .i64 0) := hRS.1.cell 1
  have r2 : w3.cell? ⟨b0, 2, none⟩ = some (.int .i64 0) := hRS.1.cell 2
  have r3 : w3.cell? ⟨b0, 3, none⟩ = some (.int .i64 0) := hRS.1.cell 3
  have r4 : w3.cell? ⟨b0, 4, none⟩ = some (.int .i64 0) := hRS.1.cell 4
  have r5 : w3.cell? ⟨b0, 5, none⟩ = some (.string ⟨#[]⟩) := hRS.1.cell 5
  have r6 : w3.cell? ⟨b0, 6, none⟩ = some (.string ⟨#[]⟩) := hRS.1.cell 6
  have r7 : w3.cell? ⟨b0, 7, none⟩ = some (.bool false) := hRS.1.cell 7
  have f0 := hRS.1.free 0
  have f1 := hRS.1.free 1
  have f2 := hRS.1.free 2
  have f3 := hRS.1.free 3
  have f4 := hRS.1.free 4
  have f5 := hRS.1.free 5
  have f6 := hRS.1.free 6
  have f7 := hRS.1.free 7
  have n0 : w3.cell? ⟨b1, 0, none⟩ = some (.int .i64 0) := hRS.2.1.cell 0
  have n1 : w3.cell? ⟨b1, 1, none⟩ = some (.int .i64 0) := hRS.2.1.cell 1
  have n2 : w3.cell? ⟨b1, 2, none⟩ = some (.int .i64 0) := hRS.2.1.cell 2
  have n3 : w3.cell? ⟨b1, 3, none⟩ = some (.int .i64 0) := hRS.2.1.cell 3
  have n4 : w3.cell? ⟨b1, 4, none⟩ = some (.int .i64 0) := hRS.2.1.cell 4
  have n5 : w3.cell? ⟨b1, 5, none⟩ = some (.string ⟨#[]⟩) := hRS.2.1.cell 5
  have n6 : w3.cell? ⟨b1, 6, none⟩ = some (.string ⟨#[]⟩) := hRS.2.1.cell 6
  have n7 : w3.cell? ⟨b1, 7, none⟩ = some (.bool false) := hRS.2.1.cell 7
  have HQ := Lib.hid (zero_put hRS.1 hRS.2.2.2 (by rw [HT.out.e0]; exact Nat.le_refl _))
  have m0 : w3.cell? ⟨b2, 0, none⟩ = some (.int .i64 (a : Int)) := hRS.2.2.1.cell 0
  have m1 : w3.cell? ⟨b2, 1, none⟩ = some (.int .i64 (b : Int)) := hRS.2.2.1.cell 1
  have m2 : w3.cell? ⟨b2, 2, none⟩ = some (.int .i64 (x8 : Int)) := hRS.2.2.1.cell 2
  have m3 : w3.cell? ⟨b2, 3, none⟩ = some (.int .i64 (x9 : Int)) := hRS.2.2.1.cell 3
  have m4 : w3.cell? ⟨b2, 4, none⟩ = some (.int .i64 (x12 : Int)) := hRS.2.2.1.cell 4
  have m5 : w3.cell? ⟨b2, 5, none⟩ = some (.string (strL PP)) := hRS.2.2.1.cell 5
  have m6 : w3.cell? ⟨b2, 6, none⟩ = some (.string (strL TT)) := hRS.2.2.1.cell 6
  have m7 : w3.cell? ⟨b2, 7, none⟩ = some (.bool true) := hRS.2.2.1.cell 7
  have HR := Lib.hid (show readT L = ([], hs0, 23) by
    have h := step_err (s' := ⟨false, true, idat, gap, PP, TT, DD⟩) (e := 23) HDA.out HS.out.run (by unfold stepH; rw [if_neg htIHDR.out, if_pos htPLTE.out, if_pos (by simp)])
    rw [HTL.out, h, if_neg (show ¬ (23 : Int) = 0 by decide)])
  clear hRS hOW hI3
  go_wp2
  exact read_ret HQ.out.1 HQ.out.2 rfl rfl rfl HR.out

set_option maxHeartbeats 1000000 in
theorem rd_plte_a3 (hT : Stays w g o n b0 b1 b2 a b x8 x9 x12 L R) (hS : LoopS w b0 b1 b2 n a b x8 x9 x12 L R i ⟨false, false, true, gap, PP, TT, DD⟩ dv wr) (hlt : i < n) (hat : L[i]? = some (t, d)) (htIHDR : Hid (¬ t = tIHDR)) (htPLTE : Hid (t = tPLTE))  (HTL : Hid (readT L = if R.2 = 0 then (numsH D0, R) else ([], hs0, R.2))) (hret : ∀ act w1, bodyPost Try.prog Try.f18 (GotH w (readT L)) Exit.ret act w1 → Q0 .ret act w1) :
    Code.wp Try.prog bodyR (Exit.then (fun act w1 => WIR w g o n cap b0 b1 b2 a b x8 x9 x12 L R c1 c6 c8 c16 c17 c18 c19 c20 c21 c22 c23 c24 c25 c26 c27 c28 c29 c30 c31 c32 c33 c34 c35 c36 c37 c38 c39 c40 c41 c42 c43 c44 c45 c46 c47 c48 c49 c50 c51 c52 c53 c54 c55 c56 c57 c58 c59 c60 c61 c62 c63 c64 c65 c66 c67 c68 c69 c260 act w1 ∧ MuR n act w1 < MuR n ⟨#[.slice (some ⟨g, o, none⟩) n cap, c1, .pointer (some ⟨b0, 0, none⟩), u3, u4, .pointer (some ⟨b1, 0, none⟩), c6, .pointer (some ⟨b2, 0, none⟩), c8, dv, .bool false, .bool true, .bool gap, .int .i64 (i : Int), u14, u15, c16, c17, c18, c19, c20, c21, c22, c23, c24, c25, c26, c27, c28, c29, c30, c31, c32, c33, c34, c35, c36, c37, c38, c39, c40, c41, c42, c43, c44, c45, c46, c47, c48, c49, c50, c51, c52, c53, c54, c55, c56, c57, c58, c59, c60, c61, c62, c63, c64, c65, c66, c67, c68, c69, u70, u71, u72, u73, u74, u75, u76, u77, u78, u79, u80, u81, u82, u83, u84, u85, u86, u87, u88, u89, u90, u91, u92, u93, u94, u95, u96, u97, u98, u99, u100, u101, u102, u103, u104, u105, u106, u107, u108, u109, u110, u111, u112, u113, u114, u115, u116, u117, u118, u119, u120, u121, u122, u123, u124, u125, u126, u127, u128, u129, u130, u131, u132, u133, u134, u135, u136, u137, u138, u139, u140, u141, u142, u143, u144, u145, u146, u147, u148, u149, u150, u151, u152, u153, u154, u155, u156, u157, u158, u159, u160, u161, u162, u163, u164, u165, u166, u167, u168, u169, u170, u171, u172, u173, u174, u175, u176, u177, u178, u179, u180, u181, u182, u183, u184, u185, u186, u187, u188, u189, u190, u191, u192, u193, u194, u195, u196, u197, u198, u199, u200, u201, u202, u203, u204, u205, u206, u207, u208, u209, u210, u211, u212, u213, u214, u215, u216, u217, u218, u219, u220, u221, u222, u223, u224, u225, u226, u227, u228, u229, u230, u231, u232, u233, u234, u235, u236, u237, u238, u239, u240, u241, u242, u243, u244, u245, u246, u247, u248, u249, u250, u251, u252, u253, u254, u255, u256, u257, u258, u259, c260], []⟩ wr) Q0) ⟨#[.slice (some ⟨g, o, none⟩) n cap, c1, .pointer (some ⟨b0, 0, none⟩), u3, u4, .pointer (some ⟨b1, 0, none⟩), c6, .pointer (some ⟨b2, 0, none⟩), c8, dv, .bool false, .bool true, .bool gap, .int .i64 (i : Int), u14, u15, c16, c17, c18, c19, c20, c21, c22, c23, c24, c25, c26, c27, c28, c29, c30, c31, c32, c33, c34, c35, c36, c37, c38, c39, c40, c41, c42, c43, c44, c45, c46, c47, c48, c49, c50, c51, c52, c53, c54, c55, c56, c57, c58, c59, c60, c61, c62, c63, c64, c65, c66, c67, c68, c69, u70, u71, u72, u73, u74, u75, u76, u77, u78, u79, u80, u81, u82, u83, u84, u85, u86, u87, u88, u89, u90, u91, u92, u93, u94, u95, u96, u97, u98, u99, u100, u101, u102, u103, u104, u105, u106, u107, u108, u109, u110, u111, u112, u113, u114, u115, u116, u117, u118, u119, u120, u121, u122, u123, u124, u125, u126, u127, u128, u129, u130, u131, u132, u133, u134, u135, u136, u137, u138, u139, u140, u141, u142, u143, u144, u145, u146, u147, u148, u149, u150, u151, u152, u153, u154, u155, u156, u157, u158, u159, u160, u161, u162, u163, u164, u165, u166, u167, u168, u169, u170, u171, u172, u173, u174, u175, u176, u177, u178, u179, u180, u181, u182, u183, u184, u185, u186, u187, u188, u189, u190, u191, u192, u193, u194, u195, u196, u197, u198, u199, u200, u201, u202, u203, u204, u205, u206, u207, u208, u209, u210, u211, u212, u213, u214, u215, u216, u217, u218, u219, u220, u221, u222, u223, u224, u225, u226, u227, u228, u229, u230, u231, u232, u233, u234, u235, u236, u237, u238, u239, u240, u241, u242, u243, u244, u245, u246, u247, u248, u249, u250, u251, u252, u253, u254, u255, u256, u257, u258, u259, c260], []⟩ wr := by
  conv => arg 2; whnf
  have HT := Lib.hid hT
  have HS := Lib.hid hS
  have hcc := hT.cks.at hlt
  obtain ⟨g', o', k', he, hg, hc0, hc1, hat'⟩ := hcc
  have hk : k' = (t, d) := Option.some.inj (hat'.symm.trans hat)
  subst hk
  injection he with he
  injection he with he1 he2
  subst he1 he2
  have c0 := hS.rds.2.2.2.cell hc0 (by simp)
  have c1 := hS.rds.2.2.2.cell hc1 (by simp)
  dsimp only at c0 c1
  have k0 : (0 : Int) ≤ (i : Int) := by omega
  have k1 : (i : Int) < (n : Int) := by omega
  have n63 := hT.n63
  have hRS := hS.rds.alloc (.cells #[.string (strL t), .string (strL d)] 30)
  have hOW := hS.own.but ((But.refl [] wr).alloc (.cells #[.string (strL t), .string (strL d)] 30))
  have hI3 := Is.fresh wr 30 #[.string (strL t), .string (strL d)]
  have hds : (strL d).size = d.length := strL_size d
  obtain ⟨m, hm⟩ : ∃ m, m = d.length := ⟨_, rfl⟩
  rw [← hm] at hds
  have HM := Lib.hid hm
  have HAT := Lib.hid hat
  have HDA := Lib.hid (drop_at hat)
  clear hT hS hg hc0 hc1 hat' hat hm hlt
  have HRSw := Lib.hid hRS
  have HOWw := Lib.hid hOW
  have HI3w := Lib.hid hI3
  clear hRS hOW hI3
  go_upto_region 19 with (fail)
  have hRS := HRSw.out
  have hOW := HOWw.out
  have hI3 := HI3w.out
  clear HRSw HOWw HI3w
  obtain ⟨w3, hw3⟩ : ∃ x, x = wr.alloc (.cells #[.string (strL t), .string (strL d)] 30) := ⟨_, rfl⟩
  obtain ⟨b3, hb3⟩ : ∃ x, x = wr.heap.size := ⟨_, rfl⟩
  rw [← hw3] at hRS hOW hI3 ⊢
  rw [← hb3] at hI3 ⊢
  have HRS := Lib.hid hRS
  have HOW := Lib.hid hOW
  clear hw3 hb3 c0 c1
  have c0 : w3.cell? ⟨b3, 0, none⟩ = some (.string (strL t)) := hI3.cell 0
  have c1 : w3.cell? ⟨b3, 1, none⟩ = some (.string (strL d)) := hI3.cell 1
  have qtPLTE := str_eq htPLTE.out
  unfold tPLTE at qtPLTE
  have r0 : w3.cell? ⟨b0, 0, none⟩ = some (.int .i64 0) := hRS.1.cell 0
  have r1 : w3.cell? ⟨b0, 1, none⟩ = some (.int .i64 0) := hRS.1.cell 1
  have r2 : w3.cell? ⟨b0, 2, none⟩ = some (.int .i64 0) := hRS.1.cell 2
  have r3 : w3.cell? ⟨b0, 3, none⟩ = some (.int .i64 0) := hRS.1.cell 3
  have r4 : w3.cell? ⟨b0, 4, none⟩ = some (.int .i64 0) := hRS.1.cell 4
  have r5 : w3.cell? ⟨b0, 5, none⟩ = some (.string ⟨#[]⟩) := hRS.1.cell 5
  have r6 : w3.cell? ⟨b0, 6, none⟩ = some (.string ⟨#[]⟩) := hRS.1.cell 6
  have r7 : w3.cell? ⟨b0, 7, none⟩ = some (.bool false) := hRS.1.cell 7
  have f0 := hRS.1.free 0
  have f1 := hRS.1.free 1
  have f2 := hRS.1.free 2
  have f3 := hRS.1.free 3
  have f4 := hRS.1.free 4
  have f5 := hRS.1.free 5
  have f6 := hRS.1.free 6
  have f7 := hRS.1.free 7
  have n0 : w3.cell? ⟨b1, 0, none⟩ = some (.int .i64 0) := hRS.2.1.cell 0
  have n1 : w3.cell? ⟨b1, 1, none⟩ = some (.int .i64 0) := hRS.2.1.cell 1
  have n2 : w3.cell? ⟨b1, 2, none⟩ = some (.int .i64 0) := hRS.2.1.cell 2
  have n3 : w3.cell? ⟨b1, 3, none⟩ = some (.int .i64 0) := hRS.2.1.cell 3
  have n4 : w3.cell? ⟨b1, 4, none⟩ = some (.int .i64 0) := hRS.2.1.cell 4
  have n5 : w3.cell? ⟨b1, 5, none⟩ = some (.string ⟨#[]⟩) := hRS.2.1.cell 5
  have n6 : w3.cell? ⟨b1, 6, none⟩ = some (.string ⟨#[]⟩) := hRS.2.1.cell 6
  have n7 : w3.cell? ⟨b1, 7, none⟩ = some (.bool false) := hRS.2.1.cell 7
  have HQ := Lib.hid (zero_put hRS.1 hRS.2.2.2 (by rw [HT.out.e0]; exact Nat.le_refl _))
  have m0 : w3.cell? ⟨b2, 0, none⟩ = some (.int .i64 (a : Int)) := hRS.2.2.1.cell 0
  have m1 : w3.cell? ⟨b2, 1, none⟩ = some (.int .i64 (b : Int)) := hRS.2.2.1.cell 1
  have m2 : w3.cell? ⟨b2, 2, none⟩ = some (.int .i64 (x8 : Int)) := hRS.2.2.1.cell 2
  have m3 : w3.cell? ⟨b2, 3, none⟩ = some (.int .i64 (x9 : Int)) := hRS.2.2.1.cell 3
  have m4 : w3.cell? ⟨b2, 4, none⟩ = some (.int .i64 (x12 : Int)) := hRS.2.2.1.cell 4
  have m5 : w3.cell? ⟨b2, 5, none⟩ = some (.string (strL PP)) := hRS.2.2.1.cell 5
  have m6 : w3.cell? ⟨b2, 6, none⟩ = some (.string (strL TT)) := hRS.2.2.1.cell 6
  have m7 : w3.cell? ⟨b2, 7, none⟩ = some (.bool false) := hRS.2.2.1.cell 7
  have HR := Lib.hid (show readT L = ([], hs0, 23) by
    have h := step_err (s' := ⟨false, false, true, gap, PP, TT, DD⟩) (e := 23) HDA.out HS.out.run (by unfold stepH; rw [if_neg htIHDR.out, if_pos htPLTE.out, if_pos (by simp)])
    rw [HTL.out, h, if_neg (show ¬ (23 : Int) = 0 by decide)])
  clear hRS hOW hI3
  go_wp2
  exact read_ret HQ.out.1 HQ.out.2 rfl rfl rfl HR.out

set_option maxHeartbeats 1000000 in
theorem rd_trns_a1 (hT : Stays w g o n b0 b1 b2 a b x8 x9 x12 L R) (hS : LoopS w b0 b1 b2 n a b x8 x9 x12 L R i ⟨pal, true, idat, gap, PP, TT, DD⟩ dv wr) (hlt : i < n) (hat : L[i]? = some (t, d)) (htIHDR : Hid (¬ t = tIHDR)) (htPLTE : Hid (¬ t = tPLTE)) (htTRNS : Hid (t = tTRNS))  (HTL : Hid (readT L = if R.2 = 0 then (numsH D0, R) else ([], hs0, R.2))) (hret : ∀ act w1, bodyPost Try.prog Try.f18 (GotH w (readT L)) Exit.ret act w1 → Q0 .ret act w1) :
    Code.wp Try.prog bodyR (Exit.then (fun act w1 => WIR w g o n cap b0 b1 b2 a b x8 x9 x12 L R c1 c6 c8 c16 c17 c18 c19 c20 c21 c22 c23 c24 c25 c26 c27 c28 c29 c30 c31 c32 c33 c34 c35 c36 c37 c38 c39 c40 c41 c42 c43 c44 c45 c46 c47 c48 c49 c50 c51 c52 c53 c54 c55 c56 c57 c58 c59 c60 c61 c62 c63 c64 c65 c66 c67 c68 c69 c260 act w1 ∧ MuR n act w1 < MuR n ⟨#[.slice (some ⟨g, o, none⟩) n cap, c1, .pointer (some ⟨b0, 0, none⟩), u3, u4, .pointer (some ⟨b1, 0, none⟩), c6, .pointer (some ⟨b2, 0, none⟩), c8, dv, .bool pal, .bool idat, .bool gap, .int .i64 (i : Int), u14, u15, c16, c17, c18, c19, c20, c21, c22, c23, c24, c25, c26, c27, c28, c29, c30, c31, c32, c33, c34, c35, c36, c37, c38, c39, c40, c41, c42, c43, c44, c45, c46, c47, c48, c49, c50, c51, c52, c53, c54, c55, c56, c57, c58, c59, c60, c61, c62, c63, c64, c65, c66, c67, c68, c69, u70, u71, u72, u73, u74, u75, u76, u77, u78, u79, u80, u81, u82, u83, u84, u85, u86, u87, u88, u89, u90, u91, u92, u93, u94, u95, u96, u97, u98, u99, u100, u101, u102, u103, u104, u105, u106, u107, u108, u109, u110, u111, u112, u113, u114, u115, u116, u117, u118, u119, u120, u121, u122, u123, u124, u125, u126, u127, u128, u129, u130, u131, u132, u133, u134, u135, u136, u137, u138, u139, u140, u141, u142, u143, u144, u145, u146, u147, u148, u149, u150, u151, u152, u153, u154, u155, u156, u157, u158, u159, u160, u161, u162, u163, u164, u165, u166, u167, u168, u169, u170, u171, u172, u173, u174, u175, u176, u177, u178, u179, u180, u181, u182, u183, u184, u185, u186, u187, u188, u189, u190, u191, u192, u193, u194, u195, u196, u197, u198, u199, u200, u201, u202, u203, u204, u205, u206, u207, u208, u209, u210, u211, u212, u213, u214, u215, u216, u217, u218, u219, u220, u221, u222, u223, u224, u225, u226, u227, u228, u229, u230, u231, u232, u233, u234, u235, u236, u237, u238, u239, u240, u241, u242, u243, u244, u245, u246, u247, u248, u249, u250, u251, u252, u253, u254, u255, u256, u257, u258, u259, c260], []⟩ wr) Q0) ⟨#[.slice (some ⟨g, o, none⟩) n cap, c1, .pointer (some ⟨b0, 0, none⟩), u3, u4, .pointer (some ⟨b1, 0, none⟩), c6, .pointer (some ⟨b2, 0, none⟩), c8, dv, .bool pal, .bool idat, .bool gap, .int .i64 (i : Int), u14, u15, c16, c17, c18, c19, c20, c21, c22, c23, c24, c25, c26, c27, c28, c29, c30, c31, c32, c33, c34, c35, c36, c37, c38, c39, c40, c41, c42, c43, c44, c45, c46, c47, c48, c49, c50, c51, c52, c53, c54, c55, c56, c57, c58, c59, c60, c61, c62, c63, c64, c65, c66, c67, c68, c69, u70, u71, u72, u73, u74, u75, u76, u77, u78, u79, u80, u81, u82, u83, u84, u85, u86, u87, u88, u89, u90, u91, u92, u93, u94, u95, u96, u97, u98, u99, u100, u101, u102, u103, u104, u105, u106, u107, u108, u109, u110, u111, u112, u113, u114, u115, u116, u117, u118, u119, u120, u121, u122, u123, u124, u125, u126, u127, u128, u129, u130, u131, u132, u133, u134, u135, u136, u137, u138, u139, u140, u141, u142, u143, u144, u145, u146, u147, u148, u149, u150, u151, u152, u153, u154, u155, u156, u157, u158, u159, u160, u161, u162, u163, u164, u165, u166, u167, u168, u169, u170, u171, u172, u173, u174, u175, u176, u177, u178, u179, u180, u181, u182, u183, u184, u185, u186, u187, u188, u189, u190, u191, u192, u193, u194, u195, u196, u197, u198, u199, u200, u201, u202, u203, u204, u205, u206, u207, u208, u209, u210, u211, u212, u213, u214, u215, u216, u217, u218, u219, u220, u221, u222, u223, u224, u225, u226, u227, u228, u229, u230, u231, u232, u233, u234, u235, u236, u237, u238, u239, u240, u241, u242, u243, u244, u245, u246, u247, u248, u249, u250, u251, u252, u253, u254, u255, u256, u257, u258, u259, c260], []⟩ wr := by
  conv => arg 2; whnf
  have HT := Lib.hid hT
  have HS := Lib.hid hS
  have hcc := hT.cks.at hlt
  obtain ⟨g', o', k', he, hg, hc0, hc1, hat'⟩ := hcc
  have hk : k' = (t, d) := Option.some.inj (hat'.symm.trans hat)
  subst hk
  injection he with he
  injection he with he1 he2
  subst he1 he2
  have c0 := hS.rds.2.2.2.cell hc0 (by simp)
  have c1 := hS.rds.2.2.2.cell hc1 (by simp)
  dsimp only at c0 c1
  have k0 : (0 : Int) ≤ (i : Int) := by omega
  have k1 : (i : Int) < (n : Int) := by omega
  have n63 := hT.n63
  have hRS := hS.rds.alloc (.cells #[.string (strL t), .string (strL d)] 30)
  have hOW := hS.own.but ((But.refl [] wr).alloc (.cells #[.string (strL t), .string (strL d)] 30))
  have hI3 := Is.fresh wr 30 #[.string (strL t), .string (strL d)]
  have hds : (strL d).size = d.length := strL_size d
  obtain ⟨m, hm⟩ : ∃ m, m = d.length := ⟨_, rfl⟩
  rw [← hm] at hds
  have HM := Lib.hid hm
  have HAT := Lib.hid hat
  have HDA := Lib.hid (drop_at hat)
  clear hT hS hg hc0 hc1 hat' hat hm hlt
  have HRSw := Lib.hid hRS
  have HOWw := Lib.hid hOW
  have HI3w := Lib.hid hI3
  clear hRS hOW hI3
  go_upto_region 19 with (fail)
  have hRS := HRSw.out
  have hOW := HOWw.out
  have hI3 := HI3w.out
  clear HRSw HOWw HI3w
  obtain ⟨w3, hw3⟩ : ∃ x, x = wr.alloc (.cells #[.string (strL t), .string (strL d)] 30) := ⟨_, rfl⟩
  obtain ⟨b3, hb3⟩ : ∃ x, x = wr.heap.size := ⟨_, rfl⟩
  rw [← hw3] at hRS hOW hI3 ⊢
  rw [← hb3] at hI3 ⊢
  have HRS := Lib.hid hRS
  have HOW := Lib.hid hOW
  clear hw3 hb3 c0 c1
  have c0 : w3.cell? ⟨b3, 0, none⟩ = some (.string (strL t)) := hI3.cell 0
  have c1 : w3.cell? ⟨b3, 1, none⟩ = some (.string (strL d)) := hI3.cell 1
  have qtTRNS := str_eq htTRNS.out
  unfold tTRNS at qtTRNS
  have r0 : w3.cell? ⟨b0, 0, none⟩ = some (.int .i64 0) := hRS.1.cell 0
  have r1 : w3.cell? ⟨b0, 1, none⟩ = some (.int .i64 0) := hRS.1.cell 1
  have r2 : w3.cell? ⟨b0, 2, none⟩ = some (.int .i64 0) := hRS.1.cell 2
  have r3 : w3.cell? ⟨b0, 3, none⟩ = some (.int .i64 0) := hRS.1.cell 3
  have r4 : w3.cell? ⟨b0, 4, none⟩ = some (.int .i64 0) := hRS.1.cell 4
  have r5 : w3.cell? ⟨b0, 5, none⟩ = some (.string ⟨#[]⟩) := hRS.1.cell 5
  have r6 : w3.cell? ⟨b0, 6, none⟩ = some (.string ⟨#[]⟩) := hRS.1.cell 6
  have r7 : w3.cell? ⟨b0, 7, none⟩ = some (.bool false) := hRS.1.cell 7
  have f0 := hRS.1.free 0
  have f1 := hRS.1.free 1
  have f2 := hRS.1.free 2
  have f3 := hRS.1.free 3
  have f4 := hRS.1.free 4
  have f5 := hRS.1.free 5
  have f6 := hRS.1.free 6
  have f7 := hRS.1.free 7
  have n0 : w3.cell? ⟨b1, 0, none⟩ = some (.int .i64 0) := hRS.2.1.cell 0
  have n1 : w3.cell? ⟨b1, 1, none⟩ = some (.int .i64 0) := hRS.2.1.cell 1
  have n2 : w3.cell? ⟨b1, 2, none⟩ = some (.int .i64 0) := hRS.2.1.cell 2
  have n3 : w3.cell? ⟨b1, 3, none⟩ = some (.int .i64 0) := hRS.2.1.cell 3
  have n4 : w3.cell? ⟨b1, 4, none⟩ = some (.int .i64 0) := hRS.2.1.cell 4
  have n5 : w3.cell? ⟨b1, 5, none⟩ = some (.string ⟨#[]⟩) := hRS.2.1.cell 5
  have n6 : w3.cell? ⟨b1, 6, none⟩ = some (.string ⟨#[]⟩) := hRS.2.1.cell 6
  have n7 : w3.cell? ⟨b1, 7, none⟩ = some (.bool false) := hRS.2.1.cell 7
  have HQ := Lib.hid (zero_put hRS.1 hRS.2.2.2 (by rw [HT.out.e0]; exact Nat.le_refl _))
  have m0 : w3.cell? ⟨b2, 0, none⟩ = some (.int .i64 (a : Int)) := hRS.2.2.1.cell 0
  have m1 : w3.cell? ⟨b2, 1, none⟩ = some (.int .i64 (b : Int)) := hRS.2.2.1.cell 1
  have m2 : w3.cell? ⟨b2, 2, none⟩ = some (.int .i64 (x8 : Int)) := hRS.2.2.1.cell 2
  have m3 : w3.cell? ⟨b2, 3, none⟩ = some (.int .i64 (x9 : Int)) := hRS.2.2.1.cell 3
  have m4 : w3.cell? ⟨b2, 4, none⟩ = some (.int .i64 (x12 : Int)) := hRS.2.2.1.cell 4
  have m5 : w3.cell? ⟨b2, 5, none⟩ = some (.string (strL PP)) := hRS.2.2.1.cell 5
  have m6 : w3.cell? ⟨b2, 6, none⟩ = some (.string (strL TT)) := hRS.2.2.1.cell 6
  have m7 : w3.cell? ⟨b2, 7, none⟩ = some (.bool true) := hRS.2.2.1.cell 7
  have HR := Lib.hid (show readT L = ([], hs0, 23) by
    have h := step_err (s' := ⟨pal, true, idat, gap, PP, TT, DD⟩) (e := 23) HDA.out HS.out.run (by unfold stepH; rw [if_neg htIHDR.out, if_neg htPLTE.out, if_pos htTRNS.out, if_pos (by simp)])
    rw [HTL.out, h, if_neg (show ¬ (23 : Int) = 0 by decide)])
  clear hRS hOW hI3
  go_wp2
  exact read_ret HQ.out.1 HQ.out.2 rfl rfl rfl HR.out

set_option maxHeartbeats 1000000 in
theorem rd_trns_a2 (hT : Stays w g o n b0 b1 b2 a b x8 x9 x12 L R) (hS : LoopS w b0 b1 b2 n a b x8 x9 x12 L R i ⟨pal, false, true, gap, PP, TT, DD⟩ dv wr) (hlt : i < n) (hat : L[i]? = some (t, d)) (htIHDR : Hid (¬ t = tIHDR)) (htPLTE : Hid (¬ t = tPLTE)) (htTRNS : Hid (t = tTRNS))  (HTL : Hid (readT L = if R.2 = 0 then (numsH D0, R) else ([], hs0, R.2))) (hret : ∀ act w1, bodyPost Try.prog Try.f18 (GotH w (readT L)) Exit.ret act w1 → Q0 .ret act w1) :
    Code.wp Try.prog bodyR (Exit.then (fun act w1 => WIR w g o n cap b0 b1 b2 a b x8 x9 x12 L R c1 c6 c8 c16 c17 c18 c19 c20 c21 c22 c23 c24 c25 c26 c27 c28 c29 c30 c31 c32 c33 c34 c35 c36 c37 c38 c39 c40 c41 c42 c43 c44 c45 c46 c47 c48 c49 c50 c51 c52 c53 c54 c55 c56 c57 c58 c59 c60 c61 c62 c63 c64 c65 c66 c67 c68 c69 c260 act w1 ∧ MuR n act w1 < MuR n ⟨#[.slice (some ⟨g, o, none⟩) n cap, c1, .pointer (some ⟨b0, 0, none⟩), u3, u4, .pointer (some ⟨b1, 0, none⟩), c6, .pointer (some ⟨b2, 0, none⟩), c8, dv, .bool pal, .bool true, .bool gap, .int .i64 (i : Int), u14, u15, c16, c17, c18, c19, c20, c21, c22, c23, c24, c25, c26, c27, c28, c29, c30, c31, c32, c33, c34, c35, c36, c37, c38, c39, c40, c41, c42, c43, c44, c45, c46, c47, c48, c49, c50, c51, c52, c53, c54, c55, c56, c57, c58, c59, c60, c61, c62, c63, c64, c65, c66, c67, c68, c69, u70, u71, u72, u73, u74, u75, u76, u77, u78, u79, u80, u81, u82, u83, u84, u85, u86, u87, u88, u89, u90, u91, u92, u93, u94, u95, u96, u97, u98, u99, u100, u101, u102, u103, u104, u105, u106, u107, u108, u109, u110, u111, u112, u113, u114, u115, u116, u117, u118, u119, u120, u121, u122, u123, u124, u125, u126, u127, u128, u129, u130, u131, u132, u133, u134, u135, u136, u137, u138, u139, u140, u141, u142, u143, u144, u145, u146, u147, u148, u149, u150, u151, u152, u153, u154, u155, u156, u157, u158, u159, u160, u161, u162, u163, u164, u165, u166, u167, u168, u169, u170, u171, u172, u173, u174, u175, u176, u177, u178, u179, u180, u181, u182, u183, u184, u185, u186, u187, u188, u189, u190, u191, u192, u193, u194, u195, u196, u197, u198, u199, u200, u201, u202, u203, u204, u205, u206, u207, u208, u209, u210, u211, u212, u213, u214, u215, u216, u217, u218, u219, u220, u221, u222, u223, u224, u225, u226, u227, u228, u229, u230, u231, u232, u233, u234, u235, u236, u237, u238, u239, u240, u241, u242, u243, u244, u245, u246, u247, u248, u249, u250, u251, u252, u253, u254, u255, u256, u257, u258, u259, c260], []⟩ wr) Q0) ⟨#[.slice (some ⟨g, o, none⟩) n cap, c1, .pointer (some ⟨b0, 0, none⟩), u3, u4, .pointer (some ⟨b1, 0, none⟩), c6, .pointer (some ⟨b2, 0, none⟩), c8, dv, .bool pal, .bool true, .bool gap, .int .i64 (i : Int), u14, u15, c16, c17, c18, c19, c20, c21, c22, c23, c24, c25, c26, c27, c28, c29, c30, c31, c32, c33, c34, c35, c36, c37, c38, c39, c40, c41, c42, c43, c44, c45, c46, c47, c48, c49, c50, c51, c52, c53, c54, c55, c56, c57, c58, c59, c60, c61, c62, c63, c64, c65, c66, c67, c68, c69, u70, u71, u72, u73, u74, u75, u76, u77, u78, u79, u80, u81, u82, u83, u84, u85, u86, u87, u88, u89, u90, u91, u92, u93, u94, u95, u96, u97, u98, u99, u100, u101, u102, u103, u104, u105, u106, u107, u108, u109, u110, u111, u112, u113, u114, u115, u116, u117, u118, u119, u120, u121, u122, u123, u124, u125, u126, u127, u128, u129, u130, u131, u132, u133, u134, u135, u136, u137, u138, u139, u140, u141, u142, u143, u144, u145, u146, u147, u148, u149, u150, u151, u152, u153, u154, u155, u156, u157, u158, u159, u160, u161, u162, u163, u164, u165, u166, u167, u168, u169, u170, u171, u172, u173, u174, u175, u176, u177, u178, u179, u180, u181, u182, u183, u184, u185, u186, u187, u188, u189, u190, u191, u192, u193, u194, u195, u196, u197, u198, u199, u200, u201, u202, u203, u204, u205, u206, u207, u208, u209, u210, u211, u212, u213, u214, u215, u216, u217, u218, u219, u220, u221, u222, u223, u224, u225, u226, u227, u228, u229, u230, u231, u232, u233, u234, u235, u236, u237, u238, u239, u240, u241, u242, u243, u244, u245, u246, u247, u248, u249, u250, u251, u252, u253, u254, u255, u256, u257, u258, u259, c260], []⟩ wr := by
  conv => arg 2; whnf
  have HT := Lib.hid hT
  have HS := Lib.hid hS
  have hcc := hT.cks.at hlt
  obtain ⟨g', o', k', he, hg, hc0, hc1, hat'⟩ := hcc
  have hk : k' = (t, d) := Option.some.inj (hat'.symm.trans hat)
  subst hk
  injection he with he
  injection he with he1 he2
  subst he1 he2
  have c0 := hS.rds.2.2.2.cell hc0 (by simp)
  have c1 := hS.rds.2.2.2.cell hc1 (by simp)
  dsimp only at c0 c1
  have k0 : (0 : Int) ≤ (i : Int) := by omega
  have k1 : (i : Int) < (n : Int) := by omega
  have n63 := hT.n63
  have hRS := hS.rds.alloc (.cells #[.string (strL t), .string (strL d)] 30)
  have hOW := hS.own.but ((But.refl [] wr).alloc (.cells #[.string (strL t), .string (strL d)] 30))
  have hI3 := Is.fresh wr 30 #[.string (strL t), .string (strL d)]
  have hds : (strL d).size = d.length := strL_size d
  obtain ⟨m, hm⟩ : ∃ m, m = d.length := ⟨_, rfl⟩
  rw [← hm] at hds
  have HM := Lib.hid hm
  have HAT := Lib.hid hat
  have HDA := Lib.hid (drop_at hat)
  clear hT hS hg hc0 hc1 hat' hat hm hlt
  have HRSw := Lib.hid hRS
  have HOWw := Lib.hid hOW
  have HI3w := Lib.hid hI3
  clear hRS hOW hI3
  go_upto_region 19 with (fail)
  have hRS := HRSw.out
  have hOW := HOWw.out
  have hI3 := HI3w.out
  clear HRSw HOWw HI3w
  obtain ⟨w3, hw3⟩ : ∃ x, x = wr.alloc (.cells #[.string (strL t), .string (strL d)] 30) := ⟨_, rfl⟩
  obtain ⟨b3, hb3⟩ : ∃ x, x = wr.heap.size := ⟨_, rfl⟩
  rw [← hw3] at hRS hOW hI3 ⊢
  rw [← hb3] at hI3 ⊢
  have HRS := Lib.hid hRS
  have HOW := Lib.hid hOW
  clear hw3 hb3 c0 c1
  have c0 : w3.cell? ⟨b3, 0, none⟩ = some (.string (strL t)) := hI3.cell 0
  have c1 : w3.cell? ⟨b3, 1, none⟩ = some (.string (strL d)) := hI3.cell 1
  have qtTRNS := str_eq htTRNS.out
  unfold tTRNS at qtTRNS
  have r0 : w3.cell? ⟨b0, 0, none⟩ = some (.int .i64 0) := hRS.1.cell 0
  have r1 : w3.cell? ⟨b0, 1, none⟩ = some (.int .i64 0) := hRS.1.cell 1
  have r2 : w3.cell? ⟨b0, 2, none⟩ = some (.int .i64 0) := hRS.1.cell 2
  have r3 : w3.cell? ⟨b0, 3, none⟩ = some (.int .i64 0) := hRS.1.cell 3
  have r4 : w3.cell? ⟨b0, 4, none⟩ = some (.int .i64 0) := hRS.1.cell 4
  have r5 : w3.cell? ⟨b0, 5, none⟩ = some (.string ⟨#[]⟩) := hRS.1.cell 5
  have r6 : w3.cell? ⟨b0, 6, none⟩ = some (.string ⟨#[]⟩) := hRS.1.cell 6
  have r7 : w3.cell? ⟨b0, 7, none⟩ = some (.bool false) := hRS.1.cell 7
  have f0 := hRS.1.free 0
  have f1 := hRS.1.free 1
  have f2 := hRS.1.free 2
  have f3 := hRS.1.free 3
  have f4 := hRS.1.free 4
  have f5 := hRS.1.free 5
  have f6 := hRS.1.free 6
  have f7 := hRS.1.free 7
  have n0 : w3.cell? ⟨b1, 0, none⟩ = some (.int .i64 0) := hRS.2.1.cell 0
  have n1 : w3.cell? ⟨b1, 1, none⟩ = some (.int .i64 0) := hRS.2.1.cell 1
  have n2 : w3.cell? ⟨b1, 2, none⟩ = some (.int .i64 0) := hRS.2.1.cell 2
  have n3 : w3.cell? ⟨b1, 3, none⟩ = some (.int .i64 0) := hRS.2.1.cell 3
  have n4 : w3.cell? ⟨b1, 4, none⟩ = some (.int .i64 0) := hRS.2.1.cell 4
  have n5 : w3.cell? ⟨b1, 5, none⟩ = some (.string ⟨#[]⟩) := hRS.2.1.cell 5
  have n6 : w3.cell? ⟨b1, 6, none⟩ = some (.string ⟨#[]⟩) := hRS.2.1.cell 6
  have n7 : w3.cell? ⟨b1, 7, none⟩ = some (.bool false) := hRS.2.1.cell 7
  have HQ := Lib.hid (zero_put hRS.1 hRS.2.2.2 (by rw [HT.out.e0]; exact Nat.le_refl _))
  have m0 : w3.cell? ⟨b2, 0, none⟩ = some (.int .i64 (a : Int)) := hRS.2.2.1.cell 0
  have m1 : w3.cell? ⟨b2, 1, none⟩ = some (.int .i64 (b : Int)) := hRS.2.2.1.cell 1
  have m2 : w3.cell? ⟨b2, 2, none⟩ = some (.int .i64 (x8 : Int)) := hRS.2.2.1.cell 2
  have m3 : w3.cell? ⟨b2, 3, none⟩ = some (.int .i64 (x9 : Int)) := hRS.2.2.1.cell 3
  have m4 : w3.cell? ⟨b2, 4, none⟩ = some (.int .i64 (x12 : Int)) := hRS.2.2.1.cell 4
  have m5 : w3.cell? ⟨b2, 5, none⟩ = some (.string (strL PP)) := hRS.2.2.1.cell 5
  have m6 : w3.cell? ⟨b2, 6, none⟩ = some (.string (strL TT)) := hRS.2.2.1.cell 6
  have m7 : w3.cell? ⟨b2, 7, none⟩ = some (.bool false) := hRS.2.2.1.cell 7
  have HR := Lib.hid (show readT L = ([], hs0, 23) by
    have h := step_err (s' := ⟨pal, false, true, gap, PP, TT, DD⟩) (e := 23) HDA.out HS.out.run (by unfold stepH; rw [if_neg htIHDR.out, if_neg htPLTE.out, if_pos htTRNS.out, if_pos (by simp)])
    rw [HTL.out, h, if_neg (show ¬ (23 : Int) = 0 by decide)])
  clear hRS hOW hI3
  go_wp2
  exact read_ret HQ.out.1 HQ.out.2 rfl rfl rfl HR.out

set_option maxHeartbeats 1000000 in
theorem rd_trns_a3 (hT : Stays w g o n b0 b1 b2 a b x8 x9 x12 L R) (hS : LoopS w b0 b1 b2 n a b x8 x9 x12 L R i ⟨false, false, false, gap, PP, TT, DD⟩ dv wr) (hlt : i < n) (hat : L[i]? = some (t, d)) (htIHDR : Hid (¬ t = tIHDR)) (htPLTE : Hid (¬ t = tPLTE)) (htTRNS : Hid (t = tTRNS)) (h9 : Hid (x9 = 3)) (HTL : Hid (readT L = if R.2 = 0 then (numsH D0, R) else ([], hs0, R.2))) (hret : ∀ act w1, bodyPost Try.prog Try.f18 (GotH w (readT L)) Exit.ret act w1 → Q0 .ret act w1) :
    Code.wp Try.prog bodyR (Exit.then (fun act w1 => WIR w g o n cap b0 b1 b2 a b x8 x9 x12 L R c1 c6 c8 c16 c17 c18 c19 c20 c21 c22 c23 c24 c25 c26 c27 c28 c29 c30 c31 c32 c33 c34 c35 c36 c37 c38 c39 c40 c41 c42 c43 c44 c45 c46 c47 c48 c49 c50 c51 c52 c53 c54 c55 c56 c57 c58 c59 c60 c61 c62 c63 c64 c65 c66 c67 c68 c69 c260 act w1 ∧ MuR n act w1 < MuR n ⟨#[.slice (some ⟨g, o, none⟩) n cap, c1, .pointer (some ⟨b0, 0, none⟩), u3, u4, .pointer (some ⟨b1, 0, none⟩), c6, .pointer (some ⟨b2, 0, none⟩), c8, dv, .bool false, .bool false, .bool gap, .int .i64 (i : Int), u14, u15, c16, c17, c18, c19, c20, c21, c22, c23, c24, c25, c26, c27, c28, c29, c30, c31, c32, c33, c34, c35, c36, c37, c38, c39, c40, c41, c42, c43, c44, c45, c46, c47, c48, c49, c50, c51, c52, c53, c54, c55, c56, c57, c58, c59, c60, c61, c62, c63, c64, c65, c66, c67, c68, c69, u70, u71, u72, u73, u74, u75, u76, u77, u78, u79, u80, u81, u82, u83, u84, u85, u86, u87, u88, u89, u90, u91, u92, u93, u94, u95, u96, u97, u98, u99, u100, u101, u102, u103, u104, u105, u106, u107, u108, u109, u110, u111, u112, u113, u114, u115, u116, u117, u118, u119, u120, u121, u122, u123, u124, u125, u126, u127, u128, u129, u130, u131, u132, u133, u134, u135, u136, u137, u138, u139, u140, u141, u142, u143, u144, u145, u146, u147, u148, u149, u150, u151, u152, u153, u154, u155, u156, u157, u158, u159, u160, u161, u162, u163, u164, u165, u166, u167, u168, u169, u170, u171, u172, u173, u174, u175, u176, u177, u178, u179, u180, u181, u182, u183, u184, u185, u186, u187, u188, u189, u190, u191, u192, u193, u194, u195, u196, u197, u198, u199, u200, u201, u202, u203, u204, u205, u206, u207, u208, u209, u210, u211, u212, u213, u214, u215, u216, u217, u218, u219, u220, u221, u222, u223, u224, u225, u226, u227, u228, u229, u230, u231, u232, u233, u234, u235, u236, u237, u238, u239, u240, u241, u242, u243, u244, u245, u246, u247, u248, u249, u250, u251, u252, u253, u254, u255, u256, u257, u258, u259, c260], []⟩ wr) Q0) ⟨#[.slice (some ⟨g, o, none⟩) n cap, c1, .pointer (some ⟨b0, 0, none⟩), u3, u4, .pointer (some ⟨b1, 0, none⟩), c6, .pointer (some ⟨b2, 0, none⟩), c8, dv, .bool false, .bool false, .bool gap, .int .i64 (i : Int), u14, u15, c16, c17, c18, c19, c20, c21, c22, c23, c24, c25, c26, c27, c28, c29, c30, c31, c32, c33, c34, c35, c36, c37, c38, c39, c40, c41, c42, c43, c44, c45, c46, c47, c48, c49, c50, c51, c52, c53, c54, c55, c56, c57, c58, c59, c60, c61, c62, c63, c64, c65, c66, c67, c68, c69, u70, u71, u72, u73, u74, u75, u76, u77, u78, u79, u80, u81, u82, u83, u84, u85, u86, u87, u88, u89, u90, u91, u92, u93, u94, u95, u96, u97, u98, u99, u100, u101, u102, u103, u104, u105, u106, u107, u108, u109, u110, u111, u112, u113, u114, u115, u116, u117, u118, u119, u120, u121, u122, u123, u124, u125, u126, u127, u128, u129, u130, u131, u132, u133, u134, u135, u136, u137, u138, u139, u140, u141, u142, u143, u144, u145, u146, u147, u148, u149, u150, u151, u152, u153, u154, u155, u156, u157, u158, u159, u160, u161, u162, u163, u164, u165, u166, u167, u168, u169, u170, u171, u172, u173, u174, u175, u176, u177, u178, u179, u180, u181, u182, u183, u184, u185, u186, u187, u188, u189, u190, u191, u192, u193, u194, u195, u196, u197, u198, u199, u200, u201, u202, u203, u204, u205, u206, u207, u208, u209, u210, u211, u212, u213, u214, u215, u216, u217, u218, u219, u220, u221, u222, u223, u224, u225, u226, u227, u228, u229, u230, u231, u232, u233, u234, u235, u236, u237, u238, u239, u240, u241, u242, u243, u244, u245, u246, u247, u248, u249, u250, u251, u252, u253, u254, u255, u256, u257, u258, u259, c260], []⟩ wr := by
  conv => arg 2; whnf
  have HT := Lib.hid hT
  have HS := Lib.hid hS
  have hcc := hT.cks.at hlt
  obtain ⟨g', o', k', he, hg, hc0, hc1, hat'⟩ := hcc
  have hk : k' = (t, d) := Option.some.inj (hat'.symm.trans hat)
  subst hk
  injection he with he
  injection he with he1 he2
  subst he1 he2
  have c0 := hS.rds.2.2.2.cell hc0 (by simp)
  have c1 := hS.rds.2.2.2.cell hc1 (by simp)
  dsimp only at c0 c1
  have k0 : (0 : Int) ≤ (i : Int) := by omega
  have k1 : (i : Int) < (n : Int) := by omega
  have n63 := hT.n63
  have hRS := hS.rds.alloc (.cells #[.string (strL t), .string (strL d)] 30)
  have hOW := hS.own.but ((But.refl [] wr).alloc (.cells #[.string (strL t), .string (strL d)] 30))
  have hI3 := Is.fresh wr 30 #[.string (strL t), .string (strL d)]
  have hds : (strL d).size = d.length := strL_size d
  obtain ⟨m, hm⟩ : ∃ m, m = d.length := ⟨_, rfl⟩
  rw [← hm] at hds
  have HM := Lib.hid hm
  have HAT := Lib.hid hat
  have HDA := Lib.hid (drop_at hat)
  clear hT hS hg hc0 hc1 hat' hat hm hlt
  have HRSw := Lib.hid hRS
  have HOWw := Lib.hid hOW
  have HI3w := Lib.hid hI3
  clear hRS hOW hI3
  go_upto_region 19 with (fail)
  have hRS := HRSw.out
  have hOW := HOWw.out
  have hI3 := HI3w.out
  clear HRSw HOWw HI3w
  obtain ⟨w3, hw3⟩ : ∃ x, x = wr.alloc (.cells #[.string (strL t), .string (strL d)] 30) := ⟨_, rfl⟩
  obtain ⟨b3, hb3⟩ : ∃ x, x = wr.heap.size := ⟨_, rfl⟩
  rw [← hw3] at hRS hOW hI3 ⊢
  rw [← hb3] at hI3 ⊢
  have HRS := Lib.hid hRS
  have HOW := Lib.hid hOW
  clear hw3 hb3 c0 c1
  have c0 : w3.cell? ⟨b3, 0, none⟩ = some (.string (strL t)) := hI3.cell 0
  have c1 : w3.cell? ⟨b3, 1, none⟩ = some (.string (strL d)) := hI3.cell 1
  have qtTRNS := str_eq htTRNS.out
  unfold tTRNS at qtTRNS
  have r0 : w3.cell? ⟨b0, 0, none⟩ = some (.int .i64 0) := hRS.1.cell 0
  have r1 : w3.cell? ⟨b0, 1, none⟩ = some (.int .i64 0) := hRS.1.cell 1
  have r2 : w3.cell? ⟨b0, 2, none⟩ = some (.int .i64 0) := hRS.1.cell 2
  have r3 : w3.cell? ⟨b0, 3, none⟩ = some (.int .i64 0) := hRS.1.cell 3
  have r4 : w3.cell? ⟨b0, 4, none⟩ = some (.int .i64 0) := hRS.1.cell 4
  have r5 : w3.cell? ⟨b0, 5, none⟩ = some (.string ⟨#[]⟩) := hRS.1.cell 5
  have r6 : w3.cell? ⟨b0, 6, none⟩ = some (.string ⟨#[]⟩) := hRS.1.cell 6
  have r7 : w3.cell? ⟨b0, 7, none⟩ = some (.bool false) := hRS.1.cell 7
  have f0 := hRS.1.free 0
  have f1 := hRS.1.free 1
  have f2 := hRS.1.free 2
  have f3 := hRS.1.free 3
  have f4 := hRS.1.free 4
  have f5 := hRS.1.free 5
  have f6 := hRS.1.free 6
  have f7 := hRS.1.free 7
  have n0 : w3.cell? ⟨b1, 0, none⟩ = some (.int .i64 0) := hRS.2.1.cell 0
  have n1 : w3.cell? ⟨b1, 1, none⟩ = some (.int .i64 0) := hRS.2.1.cell 1
  have n2 : w3.cell? ⟨b1, 2, none⟩ = some (.int .i64 0) := hRS.2.1.cell 2
  have n3 : w3.cell? ⟨b1, 3, none⟩ = some (.int .i64 0) := hRS.2.1.cell 3
  have n4 : w3.cell? ⟨b1, 4, none⟩ = some (.int .i64 0) := hRS.2.1.cell 4
  have n5 : w3.cell? ⟨b1, 5, none⟩ = some (.string ⟨#[]⟩) := hRS.2.1.cell 5
  have n6 : w3.cell? ⟨b1, 6, none⟩ = some (.string ⟨#[]⟩) := hRS.2.1.cell 6
  have n7 : w3.cell? ⟨b1, 7, none⟩ = some (.bool false) := hRS.2.1.cell 7
  have HQ := Lib.hid (zero_put hRS.1 hRS.2.2.2 (by rw [HT.out.e0]; exact Nat.le_refl _))
  have m0 : w3.cell? ⟨b2, 0, none⟩ = some (.int .i64 (a : Int)) := hRS.2.2.1.cell 0
  have m1 : w3.cell? ⟨b2, 1, none⟩ = some (.int .i64 (b : Int)) := hRS.2.2.1.cell 1
  have m2 : w3.cell? ⟨b2, 2, none⟩ = some (.int .i64 (x8 : Int)) := hRS.2.2.1.cell 2
  have m3 : w3.cell? ⟨b2, 3, none⟩ = some (.int .i64 (x9 : Int)) := hRS.2.2.1.cell 3
  have m4 : w3.cell? ⟨b2, 4, none⟩ = some (.int .i64 (x12 : Int)) := hRS.2.2.1.cell 4
  have m5 : w3.cell? ⟨b2, 5, none⟩ = some (.string (strL PP)) := hRS.2.2.1.cell 5
  have m6 : w3.cell? ⟨b2, 6, none⟩ = some (.string (strL TT)) := hRS.2.2.1.cell 6
  have m7 : w3.cell? ⟨b2, 7, none⟩ = some (.bool false) := hRS.2.2.1.cell 7
  have z3 : ((x9 : Int) = 3) = True := by simp; have := h9.out; omega
  have y3 : ((x9 : Int) == 3) = true := by simp; have := h9.out; omega
  have HR := Lib.hid (show readT L = ([], hs0, 23) by
    have h := step_err (s' := ⟨false, false, false, gap, PP, TT, DD⟩) (e := 23) HDA.out HS.out.run (by unfold stepH; rw [if_neg htIHDR.out, if_neg htPLTE.out, if_pos htTRNS.out, if_pos (.inr (.inr ⟨by rw [h9.out]; rfl, rfl⟩))])
    rw [HTL.out, h, if_neg (show ¬ (23 : Int) = 0 by decide)])
  clear hRS hOW hI3
  go_wp2
  exact read_ret HQ.out.1 HQ.out.2 rfl rfl rfl HR.out

set_option maxHeartbeats 1000000 in
theorem rd_idat_a1 (hT : Stays w g o n b0 b1 b2 a b x8 x9 x12 L R) (hS : LoopS w b0 b1 b2 n a b x8 x9 x12 L R i ⟨false, trans, idat, gap, PP, TT, DD⟩ dv wr) (hlt : i < n) (hat : L[i]? = some (t, d)) (htIHDR : Hid (¬ t = tIHDR)) (htPLTE : Hid (¬ t = tPLTE)) (htTRNS : Hid (¬ t = tTRNS)) (htIDAT : Hid (t = tIDAT)) (h9 : Hid (x9 = 3)) (HTL : Hid (readT L = if R.2 = 0 then (numsH D0, R) else ([], hs0, R.2))) (hret : ∀ act w1, bodyPost Try.prog Try.f18 (GotH w (readT L)) Exit.ret act w1 → Q0 .ret act w1) :
    Code.wp Try.prog bodyR (Exit.then (fun act w1 => WIR w g o n cap b0 b1 b2 a b x8 x9 x12 L R c1 c6 c8 c16 c17 c18 c19 c20 c21 c22 c23 c24 c25 c26 c27 c28 c29 c30 c31 c32 c33 c34 c35 c36 c37 c38 c39 c40 c41 c42 c43 c44 c45 c46 c47 c48 c49 c50 c51 c52 c53 c54 c55 c56 c57 c58 c59 c60 c61 c62 c63 c64 c65 c66 c67 c68 c69 c260 act w1 ∧ MuR n act w1 < MuR n ⟨#[.slice (some ⟨g, o, none⟩) n cap, c1, .pointer (some ⟨b0, 0, none⟩), u3, u4, .pointer (some ⟨b1, 0, none⟩), c6, .pointer (some ⟨b2, 0, none⟩), c8, dv, .bool false, .bool idat, .bool gap, .int .i64 (i : Int), u14, u15, c16, c17, c18, c19, c20, c21, c22, c23, c24, c25, c26, c27, c28, c29, c30, c31, c32, c33, c34, c35, c36, c37, c38, c39, c40, c41, c42, c43, c44, c45, c46, c47, c48, c49, c50, c51, c52, c53, c54, c55, c56, c57, c58, c59, c60, c61, c62, c63, c64, c65, c66, c67, c68, c69, u70, u71, u72, u73, u74, u75, u76, u77, u78, u79, u80, u81, u82, u83, u84, u85, u86, u87, u88, u89, u90, u91, u92, u93, u94, u95, u96, u97, u98, u99, u100, u101, u102, u103, u104, u105, u106, u107, u108, u109, u110, u111, u112, u113, u114, u115, u116, u117, u118, u119, u120, u121, u122, u123, u124, u125, u126, u127, u128, u129, u130, u131, u132, u133, u134, u135, u136, u137, u138, u139, u140, u141, u142, u143, u144, u145, u146, u147, u148, u149, u150, u151, u152, u153, u154, u155, u156, u157, u158, u159, u160, u161, u162, u163, u164, u165, u166, u167, u168, u169, u170, u171, u172, u173, u174, u175, u176, u177, u178, u179, u180, u181, u182, u183, u184, u185, u186, u187, u188, u189, u190, u191, u192, u193, u194, u195, u196, u197, u198, u199, u200, u201, u202, u203, u204, u205, u206, u207, u208, u209, u210, u211, u212, u213, u214, u215, u216, u217, u218, u219, u220, u221, u222, u223, u224, u225, u226, u227, u228, u229, u230, u231, u232, u233, u234, u235, u236, u237, u238, u239, u240, u241, u242, u243, u244, u245, u246, u247, u248, u249, u250, u251, u252, u253, u254, u255, u256, u257, u258, u259, c260], []⟩ wr) Q0) ⟨#[.slice (some ⟨g, o, none⟩) n cap, c1, .pointer (some ⟨b0, 0, none⟩), u3, u4, .pointer (some ⟨b1, 0, none⟩), c6, .pointer (some ⟨b2, 0, none⟩), c8, dv, .bool false, .bool idat, .bool gap, .int .i64 (i : Int), u14, u15, c16, c17, c18, c19, c20, c21, c22, c23, c24, c25, c26, c27, c28, c29, c30, c31, c32, c33, c34, c35, c36, c37, c38, c39, c40, c41, c42, c43, c44, c45, c46, c47, c48, c49, c50, c51, c52, c53, c54, c55, c56, c57, c58, c59, c60, c61, c62, c63, c64, c65, c66, c67, c68, c69, u70, u71, u72, u73, u74, u75, u76, u77, u78, u79, u80, u81, u82, u83, u84, u85, u86, u87, u88, u89, u90, u91, u92, u93, u94, u95, u96, u97, u98, u99, u100, u101, u102, u103, u104, u105, u106, u107, u108, u109, u110, u111, u112, u113, u114, u115, u116, u117, u118, u119, u120, u121, u122, u123, u124, u125, u126, u127, u128, u129, u130, u131, u132, u133, u134, u135, u136, u137, u138, u139, u140, u141, u142, u143, u144, u145, u146, u147, u148, u149, u150, u151, u152, u153, u154, u155, u156, u157, u158, u159, u160, u161, u162, u163, u164, u165, u166, u167, u168, u169, u170, u171, u172, u173, u174, u175, u176, u177, u178, u179, u180, u181, u182, u183, u184, u185, u186, u187, u188, u189, u190, u191, u192, u193, u194, u195, u196, u197, u198, u199, u200, u201, u202, u203, u204, u205, u206, u207, u208, u209, u210, u211, u212, u213, u214, u215, u216, u217, u218, u219, u220, u221, u222, u223, u224, u225, u226, u227, u228, u229, u230, u231, u232, u233, u234, u235, u236, u237, u238, u239, u240, u241, u242, u243, u244, u245, u246, u247, u248, u249, u250, u251, u252, u253, u254, u255, u256, u257, u258, u259, c260], []⟩ wr := by
  conv => arg 2; whnf
  have HT := Lib.hid hT
  have HS := Lib.hid hS
  have hcc := hT.cks.at hlt
  obtain ⟨g', o', k', he, hg, hc0, hc1, hat'⟩ := hcc
  have hk : k' = (t, d) := Option.some.inj (hat'.symm.trans hat)
  subst hk
  injection he with he
  injection he with he1 he2
  subst he1 he2
  have c0 := hS.rds.2.2.2.cell hc0 (by simp)
  have c1 := hS.rds.2.2.2.cell hc1 (by simp)
  dsimp only at c0 c1
  have k0 : (0 : Int) ≤ (i : Int) := by omega
  have k1 : (i : Int) < (n : Int) := by omega
  have n63 := hT.n63
  have hRS := hS.rds.alloc (.cells #[.string (strL t), .string (strL d)] 30)
  have hOW := hS.own.but ((But.refl [] wr).alloc (.cells #[.string (strL t), .string (strL d)] 30))
  have hI3 := Is.fresh wr 30 #[.string (strL t), .string (strL d)]
  have hds : (strL d).size = d.length := strL_size d
  obtain ⟨m, hm⟩ : ∃ m, m = d.length := ⟨_, rfl⟩
  rw [← hm] at hds
  have HM := Lib.hid hm
  have HAT := Lib.hid hat
  have HDA := Lib.hid (drop_at hat)
  clear hT hS hg hc0 hc1 hat' hat hm hlt
  have HRSw := Lib.hid hRS
  have HOWw := Lib.hid hOW
  have HI3w := Lib.hid hI3
  clear hRS hOW hI3
  go_upto_region 19 with (fail)
  have hRS := HRSw.out
  have hOW := HOWw.out
  have hI3 := HI3w.out
  clear HRSw HOWw HI3w
  obtain ⟨w3, hw3⟩ : ∃ x, x = wr.alloc (.cells #[.string (strL t), .string (strL d)] 30) := ⟨_, rfl⟩
  obtain ⟨b3, hb3⟩ : ∃ x, x = wr.heap.size := ⟨_, rfl⟩
  rw [← hw3] at hRS hOW hI3 ⊢
  rw [← hb3] at hI3 ⊢
  have HRS := Lib.hid hRS
  have HOW := Lib.hid hOW
  clear hw3 hb3 c0 c1
  have c0 : w3.cell? ⟨b3, 0, none⟩ = some (.string (strL t)) := hI3.cell 0
  have c1 : w3.cell? ⟨b3, 1, none⟩ = some (.string (strL d)) := hI3.cell 1
  have qtIDAT := str_eq htIDAT.out
  unfold tIDAT at qtIDAT
  have r0 : w3.cell? ⟨b0, 0, none⟩ = some (.int .i64 0) := hRS.1.cell 0
  have r1 : w3.cell? ⟨b0, 1, none⟩ = some (.int .i64 0) := hRS.1.cell 1
  have r2 : w3.cell? ⟨b0, 2, none⟩ = some (.int .i64 0) := hRS.1.cell 2
  have r3 : w3.cell? ⟨b0, 3, none⟩ = some (.int .i64 0) := hRS.1.cell 3
  have r4 : w3.cell? ⟨b0, 4, none⟩ = some (.int .i64 0) := hRS.1.cell 4
  have r5 : w3.cell? ⟨b0, 5, none⟩ = some (.string ⟨#[]⟩) := hRS.1.cell 5
  have r6 : w3.cell? ⟨b0, 6, none⟩ = some (.string ⟨#[]⟩) := hRS.1.cell 6
  have r7 : w3.cell? ⟨b0, 7, none⟩ = some (.bool false) := hRS.1.cell 7
  have f0 := hRS.1.free 0
  have f1 := hRS.1.free 1
  have f2 := hRS.1.free 2
  have f3 := hRS.1.free 3
  have f4 := hRS.1.free 4
  have f5 := hRS.1.free 5
  have f6 := hRS.1.free 6
  have f7 := hRS.1.free 7
  have n0 : w3.cell? ⟨b1, 0, none⟩ = some (.int .i64 0) := hRS.2.1.cell 0
  have n1 : w3.cell? ⟨b1, 1, none⟩ = some (.int .i64 0) := hRS.2.1.cell 1
  have n2 : w3.cell? ⟨b1, 2, none⟩ = some (.int .i64 0) := hRS.2.1.cell 2
  have n3 : w3.cell? ⟨b1, 3, none⟩ = some (.int .i64 0) := hRS.2.1.cell 3
  have n4 : w3.cell? ⟨b1, 4, none⟩ = some (.int .i64 0) := hRS.2.1.cell 4
  have n5 : w3.cell? ⟨b1, 5, none⟩ = some (.string ⟨#[]⟩) := hRS.2.1.cell 5
  have n6 : w3.cell? ⟨b1, 6, none⟩ = some (.string ⟨#[]⟩) := hRS.2.1.cell 6
  have n7 : w3.cell? ⟨b1, 7, none⟩ = some (.bool false) := hRS.2.1.cell 7
  have HQ := Lib.hid (zero_put hRS.1 hRS.2.2.2 (by rw [HT.out.e0]; exact Nat.le_refl _))
  have m0 : w3.cell? ⟨b2, 0, none⟩ = some (.int .i64 (a : Int)) := hRS.2.2.1.cell 0
  have m1 : w3.cell? ⟨b2, 1, none⟩ = some (.int .i64 (b : Int)) := hRS.2.2.1.cell 1
  have m2 : w3.cell? ⟨b2, 2, none⟩ = some (.int .i64 (x8 : Int)) := hRS.2.2.1.cell 2
  have m3 : w3.cell? ⟨b2, 3, none⟩ = some (.int .i64 (x9 : Int)) := hRS.2.2.1.cell 3
  have m4 : w3.cell? ⟨b2, 4, none⟩ = some (.int .i64 (x12 : Int)) := hRS.2.2.1.cell 4
  have m5 : w3.cell? ⟨b2, 5, none⟩ = some (.string (strL PP)) := hRS.2.2.1.cell 5
  have m6 : w3.cell? ⟨b2, 6, none⟩ = some (.string (strL TT)) := hRS.2.2.1.cell 6
  have m7 : w3.cell? ⟨b2, 7, none⟩ = some (.bool trans) := hRS.2.2.1.cell 7
  have z3 : ((x9 : Int) = 3) = True := by simp; have := h9.out; omega
  have y3 : ((x9 : Int) == 3) = true := by simp; have := h9.out; omega
  have HR := Lib.hid (show readT L = ([], hs0, 23) by
    have h := step_err (s' := ⟨false, trans, idat, gap, PP, TT, DD⟩) (e := 23) HDA.out HS.out.run (by unfold stepH; rw [if_neg htIHDR.out, if_neg htPLTE.out, if_neg htTRNS.out, if_pos htIDAT.out, if_pos (.inl ⟨by rw [h9.out]; rfl, rfl⟩)])
    rw [HTL.out, h, if_neg (show ¬ (23 : Int) = 0 by decide)])
  clear hRS hOW hI3
  go_wp2
  exact read_ret HQ.out.1 HQ.out.2 rfl rfl rfl HR.out

set_option maxHeartbeats 1000000 in
theorem rd_idat_a2 (hT : Stays w g o n b0 b1 b2 a b x8 x9 x12 L R) (hS : LoopS w b0 b1 b2 n a b x8 x9 x12 L R i ⟨true, trans, idat, true, PP, TT, DD⟩ dv wr) (hlt : i < n) (hat : L[i]? = some (t, d)) (htIHDR : Hid (¬ t = tIHDR)) (htPLTE : Hid (¬ t = tPLTE)) (htTRNS : Hid (¬ t = tTRNS)) (htIDAT : Hid (t = tIDAT)) (h9 : Hid (x9 = 3)) (HTL : Hid (readT L = if R.2 = 0 then (numsH D0, R) else ([], hs0, R.2))) (hret : ∀ act w1, bodyPost Try.prog Try.f18 (GotH w (readT L)) Exit.ret act w1 → Q0 .ret act w1) :
    Code.wp Try.prog bodyR (Exit.then (fun act w1 => WIR w g o n cap b0 b1 b2 a b x8 x9 x12 L R c1 c6 c8 c16 c17 c18 c19 c20 c21 c22 c23 c24 c25 c26 c27 c28 c29 c30 c31 c32 c33 c34 c35 c36 c37 c38 c39 c40 c41 c42 c43 c44 c45 c46 c47 c48 c49 c50 c51 c52 c53 c54 c55 c56 c57 c58 c59 c60 c61 c62 c63 c64 c65 c66 c67 c68 c69 c260 act w1 ∧ MuR n act w1 < MuR n ⟨#[.slice (some ⟨g, o, none⟩) n cap, c1, .pointer (some ⟨b0, 0, none⟩), u3, u4, .pointer (some ⟨b1, 0, none⟩), c6, .pointer (some ⟨b2, 0, none⟩), c8, dv, .bool true, .bool idat, .bool true, .int .i64 (i : Int), u14, u15, c16, c17, c18, c19, c20, c21, c22, c23, c24, c25, c26, c27, c28, c29, c30, c31, c32, c33, c34, c35, c36, c37, c38, c39, c40, c41, c42, c43, c44, c45, c46, c47, c48, c49, c50, c51, c52, c53, c54, c55, c56, c57, c58, c59, c60, c61, c62, c63, c64, c65, c66, c67, c68, c69, u70, u71, u72, u73, u74, u75, u76, u77, u78, u79, u80, u81, u82, u83, u84, u85, u86, u87, u88, u89, u90, u91, u92, u93, u94, u95, u96, u97, u98, u99, u100, u101, u102, u103, u104, u105, u106, u107, u108, u109, u110, u111, u112, u113, u114, u115, u116, u117, u118, u119, u120, u121, u122, u123, u124, u125, u126, u127, u128, u129, u130, u131, u132, u133, u134, u135, u136, u137, u138, u139, u140, u141, u142, u143, u144, u145, u146, u147, u148, u149, u150, u151, u152, u153, u154, u155, u156, u157, u158, u159, u160, u161, u162, u163, u164, u165, u166, u167, u168, u169, u170, u171, u172, u173, u174, u175, u176, u177, u178, u179, u180, u181, u182, u183, u184, u185, u186, u187, u188, u189, u190, u191, u192, u193, u194, u195, u196, u197, u198, u199, u200, u201, u202, u203, u204, u205, u206, u207, u208, u209, u210, u211, u212, u213, u214, u215, u216, u217, u218, u219, u220, u221, u222, u223, u224, u225, u226, u227, u228, u229, u230, u231, u232, u233, u234, u235, u236, u237, u238, u239, u240, u241, u242, u243, u244, u245, u246, u247, u248, u249, u250, u251, u252, u253, u254, u255, u256, u257, u258, u259, c260], []⟩ wr) Q0) ⟨#[.slice (some ⟨g, o, none⟩) n cap, c1, .pointer (some ⟨b0, 0, none⟩), u3, u4, .pointer (some ⟨b1, 0, none⟩), c6, .pointer (some ⟨b2, 0, none⟩), c8, dv, .bool true, .bool idat, .bool true, .int .i64 (i : Int), u14, u15, c16, c17, c18, c19, c20, c21, c22, c23, c24, c25, c26, c27, c28, c29, c30, c31, c32, c33, c34, c35, c36, c37, c38, c39, c40, c41, c42, c43, c44, c45, c46, c47, c48, c49, c50, c51, c52, c53, c54, c55, c56, c57, c58, c59, c60, c61, c62, c63, c64, c65, c66, c67, c68, c69, u70, u71, u72, u73, u74, u75, u76, u77, u78, u79, u80, u81, u82, u83, u84, u85, u86, u87, u88, u89, u90, u91, u92, u93, u94, u95, u96, u97, u98, u99, u100, u101, u102, u103, u104, u105, u106, u107, u108, u109, u110, u111, u112, u113, u114, u115, u116, u117, u118, u119, u120, u121, u122, u123, u124, u125, u126, u127, u128, u129, u130, u131, u132, u133, u134, u135, u136, u137, u138, u139, u140, u141, u142, u143, u144, u145, u146, u147, u148, u149, u150, u151, u152, u153, u154, u155, u156, u157, u158, u159, u160, u161, u162, u163, u164, u165, u166, u167, u168, u169, u170, u171, u172, u173, u174, u175, u176, u177, u178, u179, u180, u181, u182, u183, u184, u185, u186, u187, u188, u189, u190, u191, u192, u193, u194, u195, u196, u197, u198, u199, u200, u201, u202, u203, u204, u205, u206, u207, u208, u209, u210, u211, u212, u213, u214, u215, u216, u217, u218, u219, u220, u221, u222, u223, u224, u225, u226, u227, u228, u229, u230, u231, u232, u233, u234, u235, u236, u237, u238, u239, u240, u241, u242, u243, u244, u245, u246, u247, u248, u249, u250, u251, u252, u253, u254, u255, u256, u257, u258, u259, c260], []⟩ wr := by
  conv => arg 2; whnf
  have HT := Lib.hid hT
  have HS := Lib.hid hS
  have hcc := hT.cks.at hlt
  obtain ⟨g', o', k', he, hg, hc0, hc1, hat'⟩ := hcc
  have hk : k' = (t, d) := Option.some.inj (hat'.symm.trans hat)
  subst hk
  injection he with he
  injection he with he1 he2
  subst he1 he2
  have c0 := hS.rds.2.2.2.cell hc0 (by simp)
  have c1 := hS.rds.2.2.2.cell hc1 (by simp)
  dsimp only at c0 c1
  have k0 : (0 : Int) ≤ (i : Int) := by omega
  have k1 : (i : Int) < (n : Int) := by omega
  have n63 := hT.n63
  have hRS := hS.rds.alloc (.cells #[.string (strL t), .string (strL d)] 30)
  have hOW := hS.own.but ((But.refl [] wr).alloc (.cells #[.string (strL t), .string (strL d)] 30))
  have hI3 := Is.fresh wr 30 #[.string (strL t), .string (strL d)]
  have hds : (strL d).size = d.length := strL_size d
  obtain ⟨m, hm⟩ : ∃ m, m = d.length := ⟨_, rfl⟩
  rw [← hm] at hds
  have HM := Lib.hid hm
  have HAT := Lib.hid hat
  have HDA := Lib.hid (drop_at hat)
  clear hT hS hg hc0 hc1 hat' hat hm hlt
  have HRSw := Lib.hid hRS
  have HOWw := Lib.hid hOW
  have HI3w := Lib.hid hI3
  clear hRS hOW hI3
  go_upto_region 19 with (fail)
  have hRS := HRSw.out
  have hOW := HOWw.out
  have hI3 := HI3w.out
  clear HRSw HOWw HI3w
  obtain ⟨w3, hw3⟩ : ∃ x, x = wr.alloc (.cells #[.string (strL t), .string (strL d)] 30) := ⟨_, rfl⟩
  obtain ⟨b3, hb3⟩ : ∃ x, x = wr.heap.size := ⟨_, rfl⟩
  rw [← hw3] at hRS hOW hI3 ⊢
  rw [← hb3] at hI3 ⊢
  have HRS := Lib.hid hRS
  have HOW := Lib.hid hOW
  clear hw3 hb3 c0 c1
  have c0 : w3.cell? ⟨b3, 0, none⟩ = some (.string (strL t)) := hI3.cell 0
  have c1 : w3.cell? ⟨b3, 1, none⟩ = some (.string (strL d)) := hI3.cell 1
  have qtIDAT := str_eq htIDAT.out
  unfold tIDAT at qtIDAT
  have r0 : w3.cell? ⟨b0, 0, none⟩ = some (.int .i64 0) := hRS.1.cell 0
  have r1 : w3.cell? ⟨b0, 1, none⟩ = some (.int .i64 0) := hRS.1.cell 1
  have r2 : w3.cell? ⟨b0, 2, none⟩ = some (.int .i64 0) := hRS.1.cell 2
  have r3 : w3.cell? ⟨b0, 3, none⟩ = some (.int .i64 0) := hRS.1.cell 3
  have r4 : w3.cell? ⟨b0, 4, none⟩ = some (.int .i64 0) := hRS.1.cell 4
  have r5 : w3.cell? ⟨b0, 5, none⟩ = some (.string ⟨#[]⟩) := hRS.1.cell 5
  have r6 : w3.cell? ⟨b0, 6, none⟩ = some (.string ⟨#[]⟩) := hRS.1.cell 6
  have r7 : w3.cell? ⟨b0, 7, none⟩ = some (.bool false) := hRS.1.cell 7
  have f0 := hRS.1.free 0
  have f1 := hRS.1.free 1
  have f2 := hRS.1.free 2
  have f3 := hRS.1.free 3
  have f4 := hRS.1.free 4
  have f5 := hRS.1.free 5
  have f6 := hRS.1.free 6
  have f7 := hRS.1.free 7
  have n0 : w3.cell? ⟨b1, 0, none⟩ = some (.int .i64 0) := hRS.2.1.cell 0
  have n1 : w3.cell? ⟨b1, 1, none⟩ = some (.int .i64 0) := hRS.2.1.cell 1
  have n2 : w3.cell? ⟨b1, 2, none⟩ = some (.int .i64 0) := hRS.2.1.cell 2
  have n3 : w3.cell? ⟨b1, 3, none⟩ = some (.int .i64 0) := hRS.2.1.cell 3
  have n4 : w3.cell? ⟨b1, 4, none⟩ = some (.int .i64 0) := hRS.2.1.cell 4
  have n5 : w3.cell? ⟨b1, 5, none⟩ = some (.string ⟨#[]⟩) := hRS.2.1.cell 5
  have n6 : w3.cell? ⟨b1, 6, none⟩ = some (.string ⟨#[]⟩) := hRS.2.1.cell 6
  have n7 : w3.cell? ⟨b1, 7, none⟩ = some (.bool false) := hRS.2.1.cell 7
  have HQ := Lib.hid (zero_put hRS.1 hRS.2.2.2 (by rw [HT.out.e0]; exact Nat.le_refl _))
  have m0 : w3.cell? ⟨b2, 0, none⟩ = some (.int .i64 (a : Int)) := hRS.2.2.1.cell 0
  have m1 : w3.cell? ⟨b2, 1, none⟩ = some (.int .i64 (b : Int)) := hRS.2.2.1.cell 1
  have m2 : w3.cell? ⟨b2, 2, none⟩ = some (.int .i64 (x8 : Int)) := hRS.2.2.1.cell 2
  have m3 : w3.cell? ⟨b2, 3, none⟩ = some (.int .i64 (x9 : Int)) := hRS.2.2.1.cell 3
  have m4 : w3.cell? ⟨b2, 4, none⟩ = some (.int .i64 (x12 : Int)) := hRS.2.2.1.cell 4
  have m5 : w3.cell? ⟨b2, 5, none⟩ = some (.string (strL PP)) := hRS.2.2.1.cell 5
  have m6 : w3.cell? ⟨b2, 6, none⟩ = some (.string (strL TT)) := hRS.2.2.1.cell 6
  have m7 : w3.cell? ⟨b2, 7, none⟩ = some (.bool trans) := hRS.2.2.1.cell 7
  have z3 : ((x9 : Int) = 3) = True := by simp; have := h9.out; omega
  have y3 : ((x9 : Int) == 3) = true := by simp; have := h9.out; omega
  have HR := Lib.hid (show readT L = ([], hs0, 23) by
    have h := step_err (s' := ⟨true, trans, idat, true, PP, TT, DD⟩) (e := 23) HDA.out HS.out.run (by unfold stepH; rw [if_neg htIHDR.out, if_neg htPLTE.out, if_neg htTRNS.out, if_pos htIDAT.out, if_pos (.inr rfl)])
    rw [HTL.out, h, if_neg (show ¬ (23 : Int) = 0 by decide)])
  clear hRS hOW hI3
  go_wp2
  exact read_ret HQ.out.1 HQ.out.2 rfl rfl rfl HR.out

set_option maxHeartbeats 1000000 in
theorem rd_idat_a3 (hT : Stays w g o n b0 b1 b2 a b x8 x9 x12 L R) (hS : LoopS w b0 b1 b2 n a b x8 x9 x12 L R i ⟨pal, trans, idat, true, PP, TT, DD⟩ dv wr) (hlt : i < n) (hat : L[i]? = some (t, d)) (htIHDR : Hid (¬ t = tIHDR)) (htPLTE : Hid (¬ t = tPLTE)) (htTRNS : Hid (¬ t = tTRNS)) (htIDAT : Hid (t = tIDAT)) (h9 : Hid (¬ x9 = 3)) (HTL : Hid (readT L = if R.2 = 0 then (numsH D0, R) else ([], hs0, R.2))) (hret : ∀ act w1, bodyPost Try.prog Try.f18 (GotH w (readT L)) Exit.ret act w1 → Q0 .ret act w1) :
    Code.wp Try.prog bodyR (Exit.then (fun act w1 => WIR w g o n cap b0 b1 b2 a b x8 x9 x12 L R c1 c6 c8 c16 c17 c18 c19 c20 c21 c22 c23 c24 c25 c26 c27 c28 c29 c30 c31 c32 c33 c34 c35 c36 c37 c38 c39 c40 c41 c42 c43 c44 c45 c46 c47 c48 c49 c50 c51 c52 c53 c54 c55 c56 c57 c58 c59 c60 c61 c62 c63 c64 c65 c66 c67 c68 c69 c260 act w1 ∧ MuR n act w1 < MuR n ⟨#[.slice (some ⟨g, o, none⟩) n cap, c1, .pointer (some ⟨b0, 0, none⟩), u3, u4, .pointer (some ⟨b1, 0, none⟩), c6, .pointer (some ⟨b2, 0, none⟩), c8, dv, .bool pal, .bool idat, .bool true, .int .i64 (i : Int), u14, u15, c16, c17, c18, c19, c20, c21, c22, c23, c24, c25, c26, c27, c28, c29, c30, c31, c32, c33, c34, c35, c36, c37, c38, c39, c40, c41, c42, c43, c44, c45, c46, c47, c48, c49, c50, c51, c52, c53, c54, c55, c56, c57, c58, c59, c60, c61, c62, c63, c64, c65, c66, c67, c68, c69, u70, u71, u72, u73, u74, u75, u76, u77, u78, u79, u80, u81, u82, u83, u84, u85, u86, u87, u88, u89, u90, u91, u92, u93, u94, u95, u96, u97, u98, u99, u100, u101, u102, u103, u104, u105, u106, u107, u108, u109, u110, u111, u112, u113, u114, u115, u116, u117, u118, u119, u120, u121, u122, u123, u124, u125, u126, u127, u128, u129, u130, u131, u132, u133, u134, u135, u136, u137, u138, u139, u140, u141, u142, u143, u144, u145, u146, u147, u148, u149, u150, u151, u152, u153, u154, u155, u156, u157, u158, u159, u160, u161, u162, u163, u164, u165, u166, u167, u168, u169, u170, u171, u172, u173, u174, u175, u176, u177, u178, u179, u180, u181, u182, u183, u184, u185, u186, u187, u188, u189, u190, u191, u192, u193, u194, u195, u196, u197, u198, u199, u200, u201, u202, u203, u204, u205, u206, u207, u208, u209, u210, u211, u212, u213, u214, u215, u216, u217, u218, u219, u220, u221, u222, u223, u224, u225, u226, u227, u228, u229, u230, u231, u232, u233, u234, u235, u236, u237, u238, u239, u240, u241, u242, u243, u244, u245, u246, u247, u248, u249, u250, u251, u252, u253, u254, u255, u256, u257, u258, u259, c260], []⟩ wr) Q0) ⟨#[.slice (some ⟨g, o, none⟩) n cap, c1, .pointer (some ⟨b0, 0, none⟩), u3, u4, .pointer (some ⟨b1, 0, none⟩), c6, .pointer (some ⟨b2, 0, none⟩), c8, dv, .bool pal, .bool idat, .bool true, .int .i64 (i : Int), u14, u15, c16, c17, c18, c19, c20, c21, c22, c23, c24, c25, c26, c27, c28, c29, c30, c31, c32, c33, c34, c35, c36, c37, c38, c39, c40, c41, c42, c43, c44, c45, c46, c47, c48, c49, c50, c51, c52, c53, c54, c55, c56, c57, c58, c59, c60, c61, c62, c63, c64, c65, c66, c67, c68, c69, u70, u71, u72, u73, u74, u75, u76, u77, u78, u79, u80, u81, u82, u83, u84, u85, u86, u87, u88, u89, u90, u91, u92, u93, u94, u95, u96, u97, u98, u99, u100, u101, u102, u103, u104, u105, u106, u107, u108, u109, u110, u111, u112, u113, u114, u115, u116, u117, u118, u119, u120, u121, u122, u123, u124, u125, u126, u127, u128, u129, u130, u131, u132, u133, u134, u135, u136, u137, u138, u139, u140, u141, u142, u143, u144, u145, u146, u147, u148, u149, u150, u151, u152, u153, u154, u155, u156, u157, u158, u159, u160, u161, u162, u163, u164, u165, u166, u167, u168, u169, u170, u171, u172, u173, u174, u175, u176, u177, u178, u179, u180, u181, u182, u183, u184, u185, u186, u187, u188, u189, u190, u191, u192, u193, u194, u195, u196, u197, u198, u199, u200, u201, u202, u203, u204, u205, u206, u207, u208, u209, u210, u211, u212, u213, u214, u215, u216, u217, u218, u219, u220, u221, u222, u223, u224, u225, u226, u227, u228, u229, u230, u231, u232, u233, u234, u235, u236, u237, u238, u239, u240, u241, u242, u243, u244, u245, u246, u247, u248, u249, u250, u251, u252, u253, u254, u255, u256, u257, u258, u259, c260], []⟩ wr := by
  conv => arg 2; whnf
  have HT := Lib.hid hT
  have HS := Lib.hid hS
  have hcc := hT.cks.at hlt
  obtain ⟨g', o', k', he, hg, hc0, hc1, hat'⟩ := hcc
  have hk : k' = (t, d) := Option.some.inj (hat'.symm.trans hat)
  subst hk
  injection he with he
  injection he with he1 he2
  subst he1 he2
  have c0 := hS.rds.2.2.2.cell hc0 (by simp)
  have c1 := hS.rds.2.2.2.cell hc1 (by simp)
  dsimp only at c0 c1
  have k0 : (0 : Int) ≤ (i : Int) := by omega
  have k1 : (i : Int) < (n : Int) := by omega
  have n63 := hT.n63
  have hRS := hS.rds.alloc (.cells #[.string (strL t), .string (strL d)] 30)
  have hOW := hS.own.but ((But.refl [] wr).alloc (.cells #[.string (strL t), .string (strL d)] 30))
  have hI3 := Is.fresh wr 30 #[.string (strL t), .string (strL d)]
  have hds : (strL d).size = d.length := strL_size d
  obtain ⟨m, hm⟩ : ∃ m, m = d.length := ⟨_, rfl⟩
  rw [← hm] at hds
  have HM := Lib.hid hm
  have HAT := Lib.hid hat
  have HDA := Lib.hid (drop_at hat)
  clear hT hS hg hc0 hc1 hat' hat hm hlt
  have HRSw := Lib.hid hRS
  have HOWw := Lib.hid hOW
  have HI3w := Lib.hid hI3
  clear hRS hOW hI3
  go_upto_region 19 with (fail)
  have hRS := HRSw.out
  have hOW := HOWw.out
  have hI3 := HI3w.out
  clear HRSw HOWw HI3w
  obtain ⟨w3, hw3⟩ : ∃ x, x = wr.alloc (.cells #[.string (strL t), .string (strL d)] 30) := ⟨_, rfl⟩
  obtain ⟨b3, hb3⟩ : ∃ x, x = wr.heap.size := ⟨_, rfl⟩
  rw [← hw3] at hRS hOW hI3 ⊢
  rw [← hb3] at hI3 ⊢
  have HRS := Lib.hid hRS
  have HOW := Lib.hid hOW
  clear hw3 hb3 c0 c1
  have c0 : w3.cell? ⟨b3, 0, none⟩ = some (.string (strL t)) := hI3.cell 0
  have c1 : w3.cell? ⟨b3, 1, none⟩ = some (.string (strL d)) := hI3.cell 1
  have qtIDAT := str_eq htIDAT.out
  unfold tIDAT at qtIDAT
  have r0 : w3.cell? ⟨b0, 0, none⟩ = some (.int .i64 0) := hRS.1.cell 0
  have r1 : w3.cell? ⟨b0, 1, none⟩ = some (.int .i64 0) := hRS.1.cell 1
  have r2 : w3.cell? ⟨b0, 2, none⟩ = some (.int .i64 0) := hRS.1.cell 2
  have r3 : w3.cell? ⟨b0, 3, none⟩ = some (.int .i64 0) := hRS.1.cell 3
  have r4 : w3.cell? ⟨b0, 4, none⟩ = some (.int .i64 0) := hRS.1.cell 4
  have r5 : w3.cell? ⟨b0, 5, none⟩ = some (.string ⟨#[]⟩) := hRS.1.cell 5
  have r6 : w3.cell? ⟨b0, 6, none⟩ = some (.string ⟨#[]⟩) := hRS.1.cell 6
  have r7 : w3.cell? ⟨b0, 7, none⟩ = some (.bool false) := hRS.1.cell 7
  have f0 := hRS.1.free 0
  have f1 := hRS.1.free 1
  have f2 := hRS.1.free 2
  have f3 := hRS.1.free 3
  have f4 := hRS.1.free 4
  have f5 := hRS.1.free 5
  have f6 := hRS.1.free 6
  have f7 := hRS.1.free 7
  have n0 : w3.cell? ⟨b1, 0, none⟩ = some (.int .i64 0) := hRS.2.1.cell 0
  have n1 : w3.cell? ⟨b1, 1, none⟩ = some (.int .i64 0) := hRS.2.1.cell 1
  have n2 : w3.cell? ⟨b1, 2, none⟩ = some (.int .i64 0) := hRS.2.1.cell 2
  have n3 : w3.cell? ⟨b1, 3, none⟩ = some (.int .i64 0) := hRS.2.1.cell 3
  have n4 : w3.cell? ⟨b1, 4, none⟩ = some (.int .i64 0) := hRS.2.1.cell 4
  have n5 : w3.cell? ⟨b1, 5, none⟩ = some (.string ⟨#[]⟩) := hRS.2.1.cell 5
  have n6 : w3.cell? ⟨b1, 6, none⟩ = some (.string ⟨#[]⟩) := hRS.2.1.cell 6
  have n7 : w3.cell? ⟨b1, 7, none⟩ = some (.bool false) := hRS.2.1.cell 7
  have HQ := Lib.hid (zero_put hRS.1 hRS.2.2.2 (by rw [HT.out.e0]; exact Nat.le_refl _))
  have m0 : w3.cell? ⟨b2, 0, none⟩ = some (.int .i64 (a : Int)) := hRS.2.2.1.cell 0
  have m1 : w3.cell? ⟨b2, 1, none⟩ = some (.int .i64 (b : Int)) := hRS.2.2.1.cell 1
  have m2 : w3.cell? ⟨b2, 2, none⟩ = some (.int .i64 (x8 : Int)) := hRS.2.2.1.cell 2
  have m3 : w3.cell? ⟨b2, 3, none⟩ = some (.int .i64 (x9 : Int)) := hRS.2.2.1.cell 3
  have m4 : w3.cell? ⟨b2, 4, none⟩ = some (.int .i64 (x12 : Int)) := hRS.2.2.1.cell 4
  have m5 : w3.cell? ⟨b2, 5, none⟩ = some (.string (strL PP)) := hRS.2.2.1.cell 5
  have m6 : w3.cell? ⟨b2, 6, none⟩ = some (.string (strL TT)) := hRS.2.2.1.cell 6
  have m7 : w3.cell? ⟨b2, 7, none⟩ = some (.bool trans) := hRS.2.2.1.cell 7
  have z3 : ((x9 : Int) = 3) = False := by simp; have := h9.out; omega
  have y3 : ((x9 : Int) == 3) = false := by simp; have := h9.out; omega
  have HR := Lib.hid (show readT L = ([], hs0, 23) by
    have h := step_err (s' := ⟨pal, trans, idat, true, PP, TT, DD⟩) (e := 23) HDA.out HS.out.run (by unfold stepH; rw [if_neg htIHDR.out, if_neg htPLTE.out, if_neg htTRNS.out, if_pos htIDAT.out, if_pos (.inr rfl)])
    rw [HTL.out, h, if_neg (show ¬ (23 : Int) = 0 by decide)])
  clear hRS hOW hI3
  go_wp2
  exact read_ret HQ.out.1 HQ.out.2 rfl rfl rfl HR.out

set_option maxHeartbeats 1000000 in
theorem rd_iend_a (hT : Stays w g o n b0 b1 b2 a b x8 x9 x12 L R) (hS : LoopS w b0 b1 b2 n a b x8 x9 x12 L R i ⟨pal, trans, idat, gap, PP, TT, DD⟩ dv wr) (hlt : i < n) (hat : L[i]? = some (t, d)) (htIHDR : Hid (¬ t = tIHDR)) (htPLTE : Hid (¬ t = tPLTE)) (htTRNS : Hid (¬ t = tTRNS)) (htIDAT : Hid (¬ t = tIDAT)) (htIEND : Hid (t = tIEND)) (hd0 : Hid (¬ d.length = 0)) (HTL : Hid (readT L = if R.2 = 0 then (numsH D0, R) else ([], hs0, R.2))) (hret : ∀ act w1, bodyPost Try.prog Try.f18 (GotH w (readT L)) Exit.ret act w1 → Q0 .ret act w1) :
    Code.wp Try.prog bodyR (Exit.then (fun act w1 => WIR w g o n cap b0 b1 b2 a b x8 x9 x12 L R c1 c6 c8 c16 c17 c18 c19 c20 c21 c22 c23 c24 c25 c26 c27 c28 c29 c30 c31 c32 c33 c34 c35 c36 c37 c38 c39 c40 c41 c42 c43 c44 c45 c46 c47 c48 c49 c50 c51 c52 c53 c54 c55 c56 c57 c58 c59 c60 c61 c62 c63 c64 c65 c66 c67 c68 c69 c260 act w1 ∧ MuR n act w1 < MuR n ⟨#[.slice (some ⟨g, o, none⟩) n cap, c1, .pointer (some ⟨b0, 0, none⟩), u3, u4, .pointer (some ⟨b1, 0, none⟩), c6, .pointer (some ⟨b2, 0, none⟩), c8, dv, .bool pal, .bool idat, .bool gap, .int .i64 (i : Int), u14, u15, c16, c17, c18, c19, c20, c21, c22, c23, c24, c25, c26, c27, c28, c29, c30, c31, c32, c33, c34, c35, c36, c37, c38, c39, c40, c41, c42, c43, c44, c45, c46, c47, c48, c49, c50, c51, c52, c53, c54, c55, c56, c57, c58, c59, c60, c61, c62, c63, c64, c65, c66, c67, c68, c69, u70, u71, u72, u73, u74, u75, u76, u77, u78, u79, u80, u81, u82, u83, u84, u85, u86, u87, u88, u89, u90, u91, u92, u93, u94, u95, u96, u97, u98, u99, u100, u101, u102, u103, u104, u105, u106, u107, u108, u109, u110, u111, u112, u113, u114, u115, u116, u117, u118, u119, u120, u121, u122, u123, u124, u125, u126, u127, u128, u129, u130, u131, u132, u133, u134, u135, u136, u137, u138, u139, u140, u141, u142, u143, u144, u145, u146, u147, u148, u149, u150, u151, u152, u153, u154, u155, u156, u157, u158, u159, u160, u161, u162, u163, u164, u165, u166, u167, u168, u169, u170, u171, u172, u173, u174, u175, u176, u177, u178, u179, u180, u181, u182, u183, u184, u185, u186, u187, u188, u189, u190, u191, u192, u193, u194, u195, u196, u197, u198, u199, u200, u201, u202, u203, u204, u205, u206, u207, u208, u209, u210, u211, u212, u213, u214, u215, u216, u217, u218, u219, u220, u221, u222, u223, u224, u225, u226, u227, u228, u229, u230, u231, u232, u233, u234, u235, u236, u237, u238, u239, u240, u241, u242, u243, u244, u245, u246, u247, u248, u249, u250, u251, u252, u253, u254, u255, u256, u257, u258, u259, c260], []⟩ wr) Q0) ⟨#[.slice (some ⟨g, o, none⟩) n cap, c1, .pointer (some ⟨b0, 0, none⟩), u3, u4, .pointer (some ⟨b1, 0, none⟩), c6, .pointer (some ⟨b2, 0, none⟩), c8, dv, .bool pal, .bool idat, .bool gap, .int .i64 (i : Int), u14, u15, c16, c17, c18, c19, c20, c21, c22, c23, c24, c25, c26, c27, c28, c29, c30, c31, c32, c33, c34, c35, c36, c37, c38, c39, c40, c41, c42, c43, c44, c45, c46, c47, c48, c49, c50, c51, c52, c53, c54, c55, c56, c57, c58, c59, c60, c61, c62, c63, c64, c65, c66, c67, c68, c69, u70, u71, u72, u73, u74, u75, u76, u77, u78, u79, u80, u81, u82, u83, u84, u85, u86, u87, u88, u89, u90, u91, u92, u93, u94, u95, u96, u97, u98, u99, u100, u101, u102, u103, u104, u105, u106, u107, u108, u109, u110, u111, u112, u113, u114, u115, u116, u117, u118, u119, u120, u121, u122, u123, u124, u125, u126, u127, u128, u129, u130, u131, u132, u133, u134, u135, u136, u137, u138, u139, u140, u141, u142, u143, u144, u145, u146, u147, u148, u149, u150, u151, u152, u153, u154, u155, u156, u157, u158, u159, u160, u161, u162, u163, u164, u165, u166, u167, u168, u169, u170, u171, u172, u173, u174, u175, u176, u177, u178, u179, u180, u181, u182, u183, u184, u185, u186, u187, u188, u189, u190, u191, u192, u193, u194, u195, u196, u197, u198, u199, u200, u201, u202, u203, u204, u205, u206, u207, u208, u209, u210, u211, u212, u213, u214, u215, u216, u217, u218, u219, u220, u221, u222, u223, u224, u225, u226, u227, u228, u229, u230, u231, u232, u233, u234, u235, u236, u237, u238, u239, u240, u241, u242, u243, u244, u245, u246, u247, u248, u249, u250, u251, u252, u253, u254, u255, u256, u257, u258, u259, c260], []⟩ wr := by
  conv => arg 2; whnf
  have HT := Lib.hid hT
  have HS := Lib.hid hS
  have hcc := hT.cks.at hlt
  obtain ⟨g', o', k', he, hg, hc0, hc1, hat'⟩ := hcc
  have hk : k' = (t, d) := Option.some.inj (hat'.symm.trans hat)
  subst hk
  injection he with he
  injection he with he1 he2
  subst he1 he2
  have c0 := hS.rds.2.2.2.cell hc0 (by simp)
  have c1 := hS.rds.2.2.2.cell hc1 (by simp)
  dsimp only at c0 c1
  have k0 : (0 : Int) ≤ (i : Int) := by omega
  have k1 : (i : Int) < (n : Int) := by omega
  have n63 := hT.n63
  have hRS := hS.rds.alloc (.cells #[.string (strL t), .string (strL d)] 30)
  have hOW := hS.own.but ((But.refl [] wr).alloc (.cells #[.string (strL t), .string (strL d)] 30))
  have hI3 := Is.fresh wr 30 #[.string (strL t), .string (strL d)]
  have hds : (strL d).size = d.length := strL_size d
  obtain ⟨m, hm⟩ : ∃ m, m = d.length := ⟨_, rfl⟩
  rw [← hm] at hds
  have HM := Lib.hid hm
  have HAT := Lib.hid hat
  have HDA := Lib.hid (drop_at hat)
  clear hT hS hg hc0 hc1 hat' hat hm hlt
  have HRSw := Lib.hid hRS
  have HOWw := Lib.hid hOW
  have HI3w := Lib.hid hI3
  clear hRS hOW hI3
  go_upto_region 19 with (fail)
  have hRS := HRSw.out
  have hOW := HOWw.out
  have hI3 := HI3w.out
  clear HRSw HOWw HI3w
  obtain ⟨w3, hw3⟩ : ∃ x, x = wr.alloc (.cells #[.string (strL t), .string (strL d)] 30) := ⟨_, rfl⟩
  obtain ⟨b3, hb3⟩ : ∃ x, x = wr.heap.size := ⟨_, rfl⟩
  rw [← hw3] at hRS hOW hI3 ⊢
  rw [← hb3] at hI3 ⊢
  have HRS := Lib.hid hRS
  have HOW := Lib.hid hOW
  clear hw3 hb3 c0 c1
  have c0 : w3.cell? ⟨b3, 0, none⟩ = some (.string (strL t)) := hI3.cell 0
  have c1 : w3.cell? ⟨b3, 1, none⟩ = some (.string (strL d)) := hI3.cell 1
  have qtIEND := str_eq htIEND.out
  unfold tIEND at qtIEND
  have r0 : w3.cell? ⟨b0, 0, none⟩ = some (.int .i64 0) := hRS.1.cell 0
  have r1 : w3.cell? ⟨b0, 1, none⟩ = some (.int .i64 0) := hRS.1.cell 1
  have r2 : w3.cell? ⟨b0, 2, none⟩ = some (.int .i64 0) := hRS.1.cell 2
  have r3 : w3.cell? ⟨b0, 3, none⟩ = some (.int .i64 0) := hRS.1.cell 3
  have r4 : w3.cell? ⟨b0, 4, none⟩ = some (.int .i64 0) := hRS.1.cell 4
  have r5 : w3.cell? ⟨b0, 5, none⟩ = some (.string ⟨#[]⟩) := hRS.1.cell 5
  have r6 : w3.cell? ⟨b0, 6, none⟩ = some (.string ⟨#[]⟩) := hRS.1.cell 6
  have r7 : w3.cell? ⟨b0, 7, none⟩ = some (.bool false) := hRS.1.cell 7
  have f0 := hRS.1.free 0
  have f1 := hRS.1.free 1
  have f2 := hRS.1.free 2
  have f3 := hRS.1.free 3
  have f4 := hRS.1.free 4
  have f5 := hRS.1.free 5
  have f6 := hRS.1.free 6
  have f7 := hRS.1.free 7
  have n0 : w3.cell? ⟨b1, 0, none⟩ = some (.int .i64 0) := hRS.2.1.cell 0
  have n1 : w3.cell? ⟨b1, 1, none⟩ = some (.int .i64 0) := hRS.2.1.cell 1
  have n2 : w3.cell? ⟨b1, 2, none⟩ = some (.int .i64 0) := hRS.2.1.cell 2
  have n3 : w3.cell? ⟨b1, 3, none⟩ = some (.int .i64 0) := hRS.2.1.cell 3
  have n4 : w3.cell? ⟨b1, 4, none⟩ = some (.int .i64 0) := hRS.2.1.cell 4
  have n5 : w3.cell? ⟨b1, 5, none⟩ = some (.string ⟨#[]⟩) := hRS.2.1.cell 5
  have n6 : w3.cell? ⟨b1, 6, none⟩ = some (.string ⟨#[]⟩) := hRS.2.1.cell 6
  have n7 : w3.cell? ⟨b1, 7, none⟩ = some (.bool false) := hRS.2.1.cell 7
  have HQ := Lib.hid (zero_put hRS.1 hRS.2.2.2 (by rw [HT.out.e0]; exact Nat.le_refl _))
  have m0 : w3.cell? ⟨b2, 0, none⟩ = some (.int .i64 (a : Int)) := hRS.2.2.1.cell 0
  have m1 : w3.cell? ⟨b2, 1, none⟩ = some (.int .i64 (b : Int)) := hRS.2.2.1.cell 1
  have m2 : w3.cell? ⟨b2, 2, none⟩ = some (.int .i64 (x8 : Int)) := hRS.2.2.1.cell 2
  have m3 : w3.cell? ⟨b2, 3, none⟩ = some (.int .i64 (x9 : Int)) := hRS.2.2.1.cell 3
  have m4 : w3.cell? ⟨b2, 4, none⟩ = some (.int .i64 (x12 : Int)) := hRS.2.2.1.cell 4
  have m5 : w3.cell? ⟨b2, 5, none⟩ = some (.string (strL PP)) := hRS.2.2.1.cell 5
  have m6 : w3.cell? ⟨b2, 6, none⟩ = some (.string (strL TT)) := hRS.2.2.1.cell 6
  have m7 : w3.cell? ⟨b2, 7, none⟩ = some (.bool trans) := hRS.2.2.1.cell 7
  have hm0 : Hid (¬ m = 0) := Lib.hid (by rw [HM.out]; exact hd0.out)
  have dm : ((m : Int) != 0) = true := by simp; exact hm0.out
  have HR := Lib.hid (show readT L = ([], hs0, 21) by
    have h := step_err (s' := ⟨pal, trans, idat, gap, PP, TT, DD⟩) (e := 21) HDA.out HS.out.run (by unfold stepH; rw [if_neg htIHDR.out, if_neg htPLTE.out, if_neg htTRNS.out, if_neg htIDAT.out, if_pos htIEND.out, if_pos (by rw [← HM.out]; exact hm0.out)])
    rw [HTL.out, h, if_neg (show ¬ (21 : Int) = 0 by decide)])
  clear hRS hOW hI3
  go_wp2
  exact read_ret HQ.out.1 HQ.out.2 rfl rfl rfl HR.out

set_option maxHeartbeats 1000000 in
theorem rd_iend_b (hT : Stays w g o n b0 b1 b2 a b x8 x9 x12 L R) (hS : LoopS w b0 b1 b2 n a b x8 x9 x12 L R i ⟨pal, trans, false, gap, PP, TT, DD⟩ dv wr) (hlt : i < n) (hat : L[i]? = some (t, d)) (htIHDR : Hid (¬ t = tIHDR)) (htPLTE : Hid (¬ t = tPLTE)) (htTRNS : Hid (¬ t = tTRNS)) (htIDAT : Hid (¬ t = tIDAT)) (htIEND : Hid (t = tIEND)) (hd0 : Hid (d.length = 0)) (HTL : Hid (readT L = if R.2 = 0 then (numsH D0, R) else ([], hs0, R.2))) (hret : ∀ act w1, bodyPost Try.prog Try.f18 (GotH w (readT L)) Exit.ret act w1 → Q0 .ret act w1) :
    Code.wp Try.prog bodyR (Exit.then (fun act w1 => WIR w g o n cap b0 b1 b2 a b x8 x9 x12 L R c1 c6 c8 c16 c17 c18 c19 c20 c21 c22 c23 c24 c25 c26 c27 c28 c29 c30 c31 c32 c33 c34 c35 c36 c37 c38 c39 c40 c41 c42 c43 c44 c45 c46 c47 c48 c49 c50 c51 c52 c53 c54 c55 c56 c57 c58 c59 c60 c61 c62 c63 c64 c65 c66 c67 c68 c69 c260 act w1 ∧ MuR n act w1 < MuR n ⟨#[.slice (some ⟨g, o, none⟩) n cap, c1, .pointer (some ⟨b0, 0, none⟩), u3, u4, .pointer (some ⟨b1, 0, none⟩), c6, .pointer (some ⟨b2, 0, none⟩), c8, dv, .bool pal, .bool false, .bool gap, .int .i64 (i : Int), u14, u15, c16, c17, c18, c19, c20, c21, c22, c23, c24, c25, c26, c27, c28, c29, c30, c31, c32, c33, c34, c35, c36, c37, c38, c39, c40, c41, c42, c43, c44, c45, c46, c47, c48, c49, c50, c51, c52, c53, c54, c55, c56, c57, c58, c59, c60, c61, c62, c63, c64, c65, c66, c67, c68, c69, u70, u71, u72, u73, u74, u75, u76, u77, u78, u79, u80, u81, u82, u83, u84, u85, u86, u87, u88, u89, u90, u91, u92, u93, u94, u95, u96, u97, u98, u99, u100, u101, u102, u103, u104, u105, u106, u107, u108, u109, u110, u111, u112, u113, u114, u115, u116, u117, u118, u119, u120, u121, u122, u123, u124, u125, u126, u127, u128, u129, u130, u131, u132, u133, u134, u135, u136, u137, u138, u139, u140, u141, u142, u143, u144, u145, u146, u147, u148, u149, u150, u151, u152, u153, u154, u155, u156, u157, u158, u159, u160, u161, u162, u163, u164, u165, u166, u167, u168, u169, u170, u171, u172, u173, u174, u175, u176, u177, u178, u179, u180, u181, u182, u183, u184, u185, u186, u187, u188, u189, u190, u191, u192, u193, u194, u195, u196, u197, u198, u199, u200, u201, u202, u203, u204, u205, u206, u207, u208, u209, u210, u211, u212, u213, u214, u215, u216, u217, u218, u219, u220, u221, u222, u223, u224, u225, u226, u227, u228, u229, u230, u231, u232, u233, u234, u235, u236, u237, u238, u239, u240, u241, u242, u243, u244, u245, u246, u247, u248, u249, u250, u251, u252, u253, u254, u255, u256, u257, u258, u259, c260], []⟩ wr) Q0) ⟨#[.slice (some ⟨g, o, none⟩) n cap, c1, .pointer (some ⟨b0, 0, none⟩), u3, u4, .pointer (some ⟨b1, 0, none⟩), c6, .pointer (some ⟨b2, 0, none⟩), c8, dv, .bool pal, .bool false, .bool gap, .int .i64 (i : Int), u14, u15, c16, c17, c18, c19, c20, c21, c22, c23, c24, c25, c26, c27, c28, c29, c30, c31, c32, c33, c34, c35, c36, c37, c38, c39, c40, c41, c42, c43, c44, c45, c46, c47, c48, c49, c50, c51, c52, c53, c54, c55, c56, c57, c58, c59, c60, c61, c62, c63, c64, c65, c66, c67, c68, c69, u70, u71, u72, u73, u74, u75, u76, u77, u78, u79, u80, u81, u82, u83, u84, u85, u86, u87, u88, u89, u90, u91, u92, u93, u94, u95, u96, u97, u98, u99, u100, u101, u102, u103, u104, u105, u106, u107, u108, u109, u110, u111, u112, u113, u114, u115, u116, u117, u118, u119, u120, u121, u122, u123, u124, u125, u126, u127, u128, u129, u130, u131, u132, u133, u134, u135, u136, u137, u138, u139, u140, u141, u142, u143, u144, u145, u146, u147, u148, u149, u150, u151, u152, u153, u154, u155, u156, u157, u158, u159, u160, u161, u162, u163, u164, u165, u166, u167, u168, u169, u170, u171, u172, u173, u174, u175, u176, u177, u178, u179, u180, u181, u182, u183, u184, u185, u186, u187, u188, u189, u190, u191, u192, u193, u194, u195, u196, u197, u198, u199, u200, u201, u202, u203, u204, u205, u206, u207, u208, u209, u210, u211, u212, u213, u214, u215, u216, u217, u218, u219, u220, u221, u222, u223, u224, u225, u226, u227, u228, u229, u230, u231, u232, u233, u234, u235, u236, u237, u238, u239, u240, u241, u242, u243, u244, u245, u246, u247, u248, u249, u250, u251, u252, u253, u254, u255, u256, u257, u258, u259, c260], []⟩ wr := by
  conv => arg 2; whnf
  have HT := Lib.hid hT
  have HS := Lib.hid hS
  have hcc := hT.cks.at hlt
  obtain ⟨g', o', k', he, hg, hc0, hc1, hat'⟩ := hcc
  have hk : k' = (t, d) := Option.some.inj (hat'.symm.trans hat)
  subst hk
  injection he with he
  injection he with he1 he2
  subst he1 he2
  have c0 := hS.rds.2.2.2.cell hc0 (by simp)
  have c1 := hS.rds.2.2.2.cell hc1 (by simp)
  dsimp only at c0 c1
  have k0 : (0 : Int) ≤ (i : Int) := by omega
  have k1 : (i : Int) < (n : Int) := by omega
  have n63 := hT.n63
  have hRS := hS.rds.alloc (.cells #[.string (strL t), .string (strL d)] 30)
  have hOW := hS.own.but ((But.refl [] wr).alloc (.cells #[.string (strL t), .string (strL d)] 30))
  have hI3 := Is.fresh wr 30 #[.string (strL t), .string (strL d)]
  have hds : (strL d).size = d.length := strL_size d
  obtain ⟨m, hm⟩ : ∃ m, m = d.length := ⟨_, rfl⟩
  rw [← hm] at hds
  have HM := Lib.hid hm
  have HAT := Lib.hid hat
  have HDA := Lib.hid (drop_at hat)
  clear hT hS hg hc0 hc1 hat' hat hm hlt
  have HRSw := Lib.hid hRS
  have HOWw := Lib.hid hOW
  have HI3w := Lib.hid hI3
  clear hRS hOW hI3
  go_upto_region 19 with (fail)
  have hRS := HRSw.out
  have hOW := HOWw.out
  have hI3 := HI3w.out
  clear HRSw HOWw HI3w
  obtain ⟨w3, hw3⟩ : ∃ x, x = wr.alloc (.cells #[.string (strL t), .string (strL d)] 30) := ⟨_, rfl⟩
  obtain ⟨b3, hb3⟩ : ∃ x, x = wr.heap.size := ⟨_, rfl⟩
  rw [← hw3] at hRS hOW hI3 ⊢
  rw [← hb3] at hI3 ⊢
  have HRS := Lib.hid hRS
  have HOW := Lib.hid hOW
  clear hw3 hb3 c0 c1
  have c0 : w3.cell? ⟨b3, 0, none⟩ = some (.string (strL t)) := hI3.cell 0
  have c1 : w3.cell? ⟨b3, 1, none⟩ = some (.string (strL d)) := hI3.cell 1
  have qtIEND := str_eq htIEND.out
  unfold tIEND at qtIEND
  have r0 : w3.cell? ⟨b0, 0, none⟩ = some (.int .i64 0) := hRS.1.cell 0
  have r1 : w3.cell? ⟨b0, 1, none⟩ = some (.int .i64 0) := hRS.1.cell 1
  have r2 : w3.cell? ⟨b0, 2, none⟩ = some (.int .i64 0) := hRS.1.cell 2
  have r3 : w3.cell? ⟨b0, 3, none⟩ = some (.int .i64 0) := hRS.1.cell 3
  have r4 : w3.cell? ⟨b0, 4, none⟩ = some (.int .i64 0) := hRS.1.cell 4
  have r5 : w3.cell? ⟨b0, 5, none⟩ = some (.string ⟨#[]⟩) := hRS.1.cell 5
  have r6 : w3.cell? ⟨b0, 6, none⟩ = some (.string ⟨#[]⟩) := hRS.1.cell 6
  have r7 : w3.cell? ⟨b0, 7, none⟩ = some (.bool false) := hRS.1.cell 7
  have f0 := hRS.1.free 0
  have f1 := hRS.1.free 1
  have f2 := hRS.1.free 2
  have f3 := hRS.1.free 3
  have f4 := hRS.1.free 4
  have f5 := hRS.1.free 5
  have f6 := hRS.1.free 6
  have f7 := hRS.1.free 7
  have n0 : w3.cell? ⟨b1, 0, none⟩ = some (.int .i64 0) := hRS.2.1.cell 0
  have n1 : w3.cell? ⟨b1, 1, none⟩ = some (.int .i64 0) := hRS.2.1.cell 1
  have n2 : w3.cell? ⟨b1, 2, none⟩ = some (.int .i64 0) := hRS.2.1.cell 2
  have n3 : w3.cell? ⟨b1, 3, none⟩ = some (.int .i64 0) := hRS.2.1.cell 3
  have n4 : w3.cell? ⟨b1, 4, none⟩ = some (.int .i64 0) := hRS.2.1.cell 4
  have n5 : w3.cell? ⟨b1, 5, none⟩ = some (.string ⟨#[]⟩) := hRS.2.1.cell 5
  have n6 : w3.cell? ⟨b1, 6, none⟩ = some (.string ⟨#[]⟩) := hRS.2.1.cell 6
  have n7 : w3.cell? ⟨b1, 7, none⟩ = some (.bool false) := hRS.2.1.cell 7
  have HQ := Lib.hid (zero_put hRS.1 hRS.2.2.2 (by rw [HT.out.e0]; exact Nat.le_refl _))
  have m0 : w3.cell? ⟨b2, 0, none⟩ = some (.int .i64 (a : Int)) := hRS.2.2.1.cell 0
  have m1 : w3.cell? ⟨b2, 1, none⟩ = some (.int .i64 (b : Int)) := hRS.2.2.1.cell 1
  have m2 : w3.cell? ⟨b2, 2, none⟩ = some (.int .i64 (x8 : Int)) := hRS.2.2.1.cell 2
  have m3 : w3.cell? ⟨b2, 3, none⟩ = some (.int .i64 (x9 : Int)) := hRS.2.2.1.cell 3
  have m4 : w3.cell? ⟨b2, 4, none⟩ = some (.int .i64 (x12 : Int)) := hRS.2.2.1.cell 4
  have m5 : w3.cell? ⟨b2, 5, none⟩ = some (.string (strL PP)) := hRS.2.2.1.cell 5
  have m6 : w3.cell? ⟨b2, 6, none⟩ = some (.string (strL TT)) := hRS.2.2.1.cell 6
  have m7 : w3.cell? ⟨b2, 7, none⟩ = some (.bool trans) := hRS.2.2.1.cell 7
  have dm : ((m : Int) != 0) = false := by simp; rw [HM.out]; exact hd0.out
  have HR := Lib.hid (show readT L = ([], hs0, 23) by
    have h := step_err (s' := ⟨pal, trans, false, gap, PP, TT, DD⟩) (e := 23) HDA.out HS.out.run (by unfold stepH; rw [if_neg htIHDR.out, if_neg htPLTE.out, if_neg htTRNS.out, if_neg htIDAT.out, if_pos htIEND.out, if_neg (by simpa using hd0.out), if_pos rfl])
    rw [HTL.out, h, if_neg (show ¬ (23 : Int) = 0 by decide)])
  clear hRS hOW hI3
  go_wp2
  exact read_ret HQ.out.1 HQ.out.2 rfl rfl rfl HR.out

set_option maxHeartbeats 1000000 in
theorem rd_iend_c (hT : Stays w g o n b0 b1 b2 a b x8 x9 x12 L R) (hS : LoopS w b0 b1 b2 n a b x8 x9 x12 L R i ⟨pal, trans, true, gap, PP, TT, DD⟩ dv wr) (hlt : i < n) (hat : L[i]? = some (t, d)) (htIHDR : Hid (¬ t = tIHDR)) (htPLTE : Hid (¬ t = tPLTE)) (htTRNS : Hid (¬ t = tTRNS)) (htIDAT : Hid (¬ t = tIDAT)) (htIEND : Hid (t = tIEND)) (hd0 : Hid (d.length = 0)) (hmore : i + 1 < n) (hlast : Hid ((L.drop (i + 1)).isEmpty = false)) (HTL : Hid (readT L = if R.2 = 0 then (numsH D0, R) else ([], hs0, R.2))) (hret : ∀ act w1, bodyPost Try.prog Try.f18 (GotH w (readT L)) Exit.ret act w1 → Q0 .ret act w1) :
    Code.wp Try.prog bodyR (Exit.then (fun act w1 => WIR w g o n cap b0 b1 b2 a b x8 x9 x12 L R c1 c6 c8 c16 c17 c18 c19 c20 c21 c22 c23 c24 c25 c26 c27 c28 c29 c30 c31 c32 c33 c34 c35 c36 c37 c38 c39 c40 c41 c42 c43 c44 c45 c46 c47 c48 c49 c50 c51 c52 c53 c54 c55 c56 c57 c58 c59 c60 c61 c62 c63 c64 c65 c66 c67 c68 c69 c260 act w1 ∧ MuR n act w1 < MuR n ⟨#[.slice (some ⟨g, o, none⟩) n cap, c1, .pointer (some ⟨b0, 0, none⟩), u3, u4, .pointer (some ⟨b1, 0, none⟩), c6, .pointer (some ⟨b2, 0, none⟩), c8, dv, .bool pal, .bool true, .bool gap, .int .i64 (i : Int), u14, u15, c16, c17, c18, c19, c20, c21, c22, c23, c24, c25, c26, c27, c28, c29, c30, c31, c32, c33, c34, c35, c36, c37, c38, c39, c40, c41, c42, c43, c44, c45, c46, c47, c48, c49, c50, c51, c52, c53, c54, c55, c56, c57, c58, c59, c60, c61, c62, c63, c64, c65, c66, c67, c68, c69, u70, u71, u72, u73, u74, u75, u76, u77, u78, u79, u80, u81, u82, u83, u84, u85, u86, u87, u88, u89, u90, u91, u92, u93, u94, u95, u96, u97, u98, u99, u100, u101, u102, u103, u104, u105, u106, u107, u108, u109, u110, u111, u112, u113, u114, u115, u116, u117, u118, u119, u120, u121, u122, u123, u124, u125, u126, u127, u128, u129, u130, u131, u132, u133, u134, u135, u136, u137, u138, u139, u140, u141, u142, u143, u144, u145, u146, u147, u148, u149, u150, u151, u152, u153, u154, u155, u156, u157, u158, u159, u160, u161, u162, u163, u164, u165, u166, u167, u168, u169, u170, u171, u172, u173, u174, u175, u176, u177, u178, u179, u180, u181, u182, u183, u184, u185, u186, u187, u188, u189, u190, u191, u192, u193, u194, u195, u196, u197, u198, u199, u200, u201, u202, u203, u204, u205, u206, u207, u208, u209, u210, u211, u212, u213, u214, u215, u216, u217, u218, u219, u220, u221, u222, u223, u224, u225, u226, u227, u228, u229, u230, u231, u232, u233, u234, u235, u236, u237, u238, u239, u240, u241, u242, u243, u244, u245, u246, u247, u248, u249, u250, u251, u252, u253, u254, u255, u256, u257, u258, u259, c260], []⟩ wr) Q0) ⟨#[.slice (some ⟨g, o, none⟩) n cap, c1, .pointer (some ⟨b0, 0, none⟩), u3, u4, .pointer (some ⟨b1, 0, none⟩), c6, .pointer (some ⟨b2, 0, none⟩), c8, dv, .bool pal, .bool true, .bool gap, .int .i64 (i : Int), u14, u15, c16, c17, c18, c19, c20, c21, c22, c23, c24, c25, c26, c27, c28, c29, c30, c31, c32, c33, c34, c35, c36, c37, c38, c39, c40, c41, c42, c43, c44, c45, c46, c47, c48, c49, c50, c51, c52, c53, c54, c55, c56, c57, c58, c59, c60, c61, c62, c63, c64, c65, c66, c67, c68, c69, u70, u71, u72, u73, u74, u75, u76, u77, u78, u79, u80, u81, u82, u83, u84, u85, u86, u87, u88, u89, u90, u91, u92, u93, u94, u95, u96, u97, u98, u99, u100, u101, u102, u103, u104, u105, u106, u107, u108, u109, u110, u111, u112, u113, u114, u115, u116, u117, u118, u119, u120, u121, u122, u123, u124, u125, u126, u127, u128, u129, u130, u131, u132, u133, u134, u135, u136, u137, u138, u139, u140, u141, u142, u143, u144, u145, u146, u147, u148, u149, u150, u151, u152, u153, u154, u155, u156, u157, u158, u159, u160, u161, u162, u163, u164, u165, u166, u167, u168, u169, u170, u171, u172, u173, u174, u175, u176, u177, u178, u179, u180, u181, u182, u183, u184, u185, u186, u187, u188, u189, u190, u191, u192, u193, u194, u195, u196, u197, u198, u199, u200, u201, u202, u203, u204, u205, u206, u207, u208, u209, u210, u211, u212, u213, u214, u215, u216, u217, u218, u219, u220, u221, u222, u223, u224, u225, u226, u227, u228, u229, u230, u231, u232, u233, u234, u235, u236, u237, u238, u239, u240, u241, u242, u243, u244, u245, u246, u247, u248, u249, u250, u251, u252, u253, u254, u255, u256, u257, u258, u259, c260], []⟩ wr := by
  conv => arg 2; whnf
  have HT := Lib.hid hT
  have HS := Lib.hid hS
  have hcc := hT.cks.at hlt
  obtain ⟨g', o', k', he, hg, hc0, hc1, hat'⟩ := hcc
  have hk : k' = (t, d) := Option.some.inj (hat'.symm.trans hat)
  subst hk
  injection he with he
  injection he with he1 he2
  subst he1 he2
  have c0 := hS.rds.2.2.2.cell hc0 (by simp)
  have c1 := hS.rds.2.2.2.cell hc1 (by simp)
  dsimp only at c0 c1
  have k0 : (0 : Int) ≤ (i : Int) := by omega
  have k1 : (i : Int) < (n : Int) := by omega
  have n63 := hT.n63
  have hRS := hS.rds.alloc (.cells #[.string (strL t), .string (strL d)] 30)
  have hOW := hS.own.but ((But.refl [] wr).alloc (.cells #[.string (strL t), .string (strL d)] 30))
  have hI3 := Is.fresh wr 30 #[.string (strL t), .string (strL d)]
  have hds : (strL d).size = d.length := strL_size d
  obtain ⟨m, hm⟩ : ∃ m, m = d.length := ⟨_, rfl⟩
  rw [← hm] at hds
  have HM := Lib.hid hm
  have HAT := Lib.hid hat
  have HDA := Lib.hid (drop_at hat)
  clear hT hS hg hc0 hc1 hat' hat hm hlt
  have HRSw := Lib.hid hRS
  have HOWw := Lib.hid hOW
  have HI3w := Lib.hid hI3
  clear hRS hOW hI3
  go_upto_region 19 with (fail)
  have hRS := HRSw.out
  have hOW := HOWw.out
  have hI3 := HI3w.out
  clear HRSw HOWw HI3w
  obtain ⟨w3, hw3⟩ : ∃ x, x = wr.alloc (.cells #[.string (strL t), .string (strL d)] 30) := ⟨_, rfl⟩
  obtain ⟨b3, hb3⟩ : ∃ x, x = wr.heap.size := ⟨_, rfl⟩
  rw [← hw3] at hRS hOW hI3 ⊢
  rw [← hb3] at hI3 ⊢
  have HRS := Lib.hid hRS
  have HOW := Lib.hid hOW
  clear hw3 hb3 c0 c1
  have c0 : w3.cell? ⟨b3, 0, none⟩ = some (.string (strL t)) := hI3.cell 0
  have c1 : w3.cell? ⟨b3, 1, none⟩ = some (.string (strL d)) := hI3.cell 1
  have qtIEND := str_eq htIEND.out
  unfold tIEND at qtIEND
  have r0 : w3.cell? ⟨b0, 0, none⟩ = some (.int .i64 0) := hRS.1.cell 0
  have r1 : w3.cell? ⟨b0, 1, none⟩ = some (.int .i64 0) := hRS.1.cell 1
  have r2 : w3.cell? ⟨b0, 2, none⟩ = some (.int .i64 0) := hRS.1.cell 2
  have r3 : w3.cell? ⟨b0, 3, none⟩ = some (.int .i64 0) := hRS.1.cell 3
  have r4 : w3.cell? ⟨b0, 4, none⟩ = some (.int .i64 0) := hRS.1.cell 4
  have r5 : w3.cell? ⟨b0, 5, none⟩ = some (.string ⟨#[]⟩) := hRS.1.cell 5
  have r6 : w3.cell? ⟨b0, 6, none⟩ = some (.string ⟨#[]⟩) := hRS.1.cell 6
  have r7 : w3.cell? ⟨b0, 7, none⟩ = some (.bool false) := hRS.1.cell 7
  have f0 := hRS.1.free 0
  have f1 := hRS.1.free 1
  have f2 := hRS.1.free 2
  have f3 := hRS.1.free 3
  have f4 := hRS.1.free 4
  have f5 := hRS.1.free 5
  have f6 := hRS.1.free 6
  have f7 := hRS.1.free 7
  have n0 : w3.cell? ⟨b1, 0, none⟩ = some (.int .i64 0) := hRS.2.1.cell 0
  have n1 : w3.cell? ⟨b1, 1, none⟩ = some (.int .i64 0) := hRS.2.1.cell 1
  have n2 : w3.cell? ⟨b1, 2, none⟩ = some (.int .i64 0) := hRS.2.1.cell 2
  have n3 : w3.cell? ⟨b1, 3, none⟩ = some (.int .i64 0) := hRS.2.1.cell 3
  have n4 : w3.cell? ⟨b1, 4, none⟩ = some (.int .i64 0) := hRS.2.1.cell 4
  have n5 : w3.cell? ⟨b1, 5, none⟩ = some (.string ⟨#[]⟩) := hRS.2.1.cell 5
  have n6 : w3.cell? ⟨b1, 6, none⟩ = some (.string ⟨#[]⟩) := hRS.2.1.cell 6
  have n7 : w3.cell? ⟨b1, 7, none⟩ = some (.bool false) := hRS.2.1.cell 7
  have HQ := Lib.hid (zero_put hRS.1 hRS.2.2.2 (by rw [HT.out.e0]; exact Nat.le_refl _))
  have m0 : w3.cell? ⟨b2, 0, none⟩ = some (.int .i64 (a : Int)) := hRS.2.2.1.cell 0
  have m1 : w3.cell? ⟨b2, 1, none⟩ = some (.int .i64 (b : Int)) := hRS.2.2.1.cell 1
  have m2 : w3.cell? ⟨b2, 2, none⟩ = some (.int .i64 (x8 : Int)) := hRS.2.2.1.cell 2
  have m3 : w3.cell? ⟨b2, 3, none⟩ = some (.int .i64 (x9 : Int)) := hRS.2.2.1.cell 3
  have m4 : w3.cell? ⟨b2, 4, none⟩ = some (.int .i64 (x12 : Int)) := hRS.2.2.1.cell 4
  have m5 : w3.cell? ⟨b2, 5, none⟩ = some (.string (strL PP)) := hRS.2.2.1.cell 5
  have m6 : w3.cell? ⟨b2, 6, none⟩ = some (.string (strL TT)) := hRS.2.2.1.cell 6
  have m7 : w3.cell? ⟨b2, 7, none⟩ = some (.bool trans) := hRS.2.2.1.cell 7
  have dm : ((m : Int) != 0) = false := by simp; rw [HM.out]; exact hd0.out
  have w1i : IntKind.i64.wrap ((i : Int) + 1) = (i : Int) + 1 := IntWalk.i64_in _ (by omega)
  have dl : decide ((i : Int) + 1 < (n : Int)) = true := by simp; omega
  have HR := Lib.hid (show readT L = ([], hs0, 4) by
    have h := step_err (s' := ⟨pal, trans, true, gap, PP, TT, DD⟩) (e := 4) HDA.out HS.out.run (by unfold stepH; rw [if_neg htIHDR.out, if_neg htPLTE.out, if_neg htTRNS.out, if_neg htIDAT.out, if_pos htIEND.out, if_neg (by simpa using hd0.out), if_neg (by simp), if_pos hlast.out])
    rw [HTL.out, h, if_neg (show ¬ (4 : Int) = 0 by decide)])
  clear hRS hOW hI3
  go_wp2
  exact read_ret HQ.out.1 HQ.out.2 rfl rfl rfl HR.out

end
end Go.Proofs.Ytedffeimcccobaa
