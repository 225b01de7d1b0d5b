/- The loop of the document's Read, further cases. (Written by program: wip/gen/readloop.py.) -/
import Derived.Test.YtedffeimcccobaaHdG
import Derived.Test.YtedffeimcccobaaHdH
import Derived.Test.YtedffeimcccobaaHdI
import Derived.Test.YtedffeimcccobaaHdJ
import Derived.Test.YtedffeimcccobaaHdK
set_option maxRecDepth 1000000
set_option linter.unusedVariables false
namespace Go.Proofs.Ytedffeimcccobaa
set_option maxRecDepth 100000
open Go Go.RowKit
attribute [local irreducible] strL
section
variable {w wr : World} {g o n cap b0 b1 b2 a b x8 x9 x12 : Nat} {L : List Ck} {R : HS × Int} {Q0 : Exit → Act → World → Prop} {i : Nat} {s : HS} {dv : Value} {t d D0 : List UInt8}
variable {c1 c6 c8 c16 c17 c18 c19 c20 c21 c22 c23 c24 c25 c26 c27 c28 c29 c30 c31 c32 c33 c34 c35 c36 c37 c38 c39 c40 c41 c42 c43 c44 c45 c46 c47 c48 c49 c50 c51 c52 c53 c54 c55 c56 c57 c58 c59 c60 c61 c62 c63 c64 c65 c66 c67 c68 c69 c260 : Value}
variable {u3 u4 u14 u15 u70 u71 u72 u73 u74 u75 u76 u77 u78 u79 u80 u81 u82 u83 u84 u85 u86 u87 u88 u89 u90 u91 u92 u93 u94 u95 u96 u97 u98 u99 u100 u101 u102 u103 u104 u105 u106 u107 u108 u109 u110 u111 u112 u113 u114 u115 u116 u117 u118 u119 u120 u121 u122 u123 u124 u125 u126 u127 u128 u129 u130 u131 u132 u133 u134 u135 u136 u137 u138 u139 u140 u141 u142 u143 u144 u145 u146 u147 u148 u149 u150 u151 u152 u153 u154 u155 u156 u157 u158 u159 u160 u161 u162 u163 u164 u165 u166 u167 u168 u169 u170 u171 u172 u173 u174 u175 u176 u177 u178 u179 u180 u181 u182 u183 u184 u185 u186 u187 u188 u189 u190 u191 u192 u193 u194 u195 u196 u197 u198 u199 u200 u201 u202 u203 u204 u205 u206 u207 u208 u209 u210 u211 u212 u213 u214 u215 u216 u217 u218 u219 u220 u221 u222 u223 u224 u225 u226 u227 u228 u229 u230 u231 u232 u233 u234 u235 u236 u237 u238 u239 u240 u241 u242 u243 u244 u245 u246 u247 u248 u249 u250 u251 u252 u253 u254 u255 u256 u257 u258 u259 : Value}
variable {pal trans idat gap : Bool} {PP TT DD : List UInt8}

/-- What holds where the loop is left at its end. -/
def WXR (w : World) (g o n cap b0 b1 b2 : Nat) (R : HS × Int) (c1 c6 c8 c16 c17 c18 c19 c20 c21 c22 c23 c24 c25 c26 c27 c28 c29 c30 c31 c32 c33 c34 c35 c36 c37 c38 c39 c40 c41 c42 c43 c44 c45 c46 c47 c48 c49 c50 c51 c52 c53 c54 c55 c56 c57 c58 c59 c60 c61 c62 c63 c64 c65 c66 c67 c68 c69 c260 : Value) (act : Act) (w1 : World) : Prop :=
  ∃ (u3 u4 u14 u15 u70 u71 u72 u73 u74 u75 u76 u77 u78 u79 u80 u81 u82 u83 u84 u85 u86 u87 u88 u89 u90 u91 u92 u93 u94 u95 u96 u97 u98 u99 u100 u101 u102 u103 u104 u105 u106 u107 u108 u109 u110 u111 u112 u113 u114 u115 u116 u117 u118 u119 u120 u121 u122 u123 u124 u125 u126 u127 u128 u129 u130 u131 u132 u133 u134 u135 u136 u137 u138 u139 u140 u141 u142 u143 u144 u145 u146 u147 u148 u149 u150 u151 u152 u153 u154 u155 u156 u157 u158 u159 u160 u161 u162 u163 u164 u165 u166 u167 u168 u169 u170 u171 u172 u173 u174 u175 u176 u177 u178 u179 u180 u181 u182 u183 u184 u185 u186 u187 u188 u189 u190 u191 u192 u193 u194 u195 u196 u197 u198 u199 u200 u201 u202 u203 u204 u205 u206 u207 u208 u209 u210 u211 u212 u213 u214 u215 u216 u217 u218 u219 u220 u221 u222 u223 u224 u225 u226 u227 u228 u229 u230 u231 u232 u233 u234 u235 u236 u237 u238 u239 u240 u241 u242 u243 u244 u245 u246 u247 u248 u249 u250 u251 u252 u253 u254 u255 u256 u257 u258 u259 : Value) (i : Nat) (s : HS) (dv : Value) (cs : Array Value), RdS w b0 b1 b2 cs w1 ∧ R.2 = 3 ∧ act = ⟨#[.slice (some ⟨g, o, none⟩) n cap, c1, .pointer (some ⟨b0, 0, none⟩), u3, u4, .pointer (some ⟨b1, 0, none⟩), c6, .pointer (some ⟨b2, 0, none⟩), c8, dv, .bool s.pal, .bool s.idat, .bool s.gap, .int .i64 (i : Int), u14, u15, c16, c17, c18, c19, c20, c21, c22, c23, c24, c25, c26, c27, c28, c29, c30, c31, c32, c33, c34, c35, c36, c37, c38, c39, c40, c41, c42, c43, c44, c45, c46, c47, c48, c49, c50, c51, c52, c53, c54, c55, c56, c57, c58, c59, c60, c61, c62, c63, c64, c65, c66, c67, c68, c69, u70, u71, u72, u73, u74, u75, u76, u77, u78, u79, u80, u81, u82, u83, u84, u85, u86, u87, u88, u89, u90, u91, u92, u93, u94, u95, u96, u97, u98, u99, u100, u101, u102, u103, u104, u105, u106, u107, u108, u109, u110, u111, u112, u113, u114, u115, u116, u117, u118, u119, u120, u121, u122, u123, u124, u125, u126, u127, u128, u129, u130, u131, u132, u133, u134, u135, u136, u137, u138, u139, u140, u141, u142, u143, u144, u145, u146, u147, u148, u149, u150, u151, u152, u153, u154, u155, u156, u157, u158, u159, u160, u161, u162, u163, u164, u165, u166, u167, u168, u169, u170, u171, u172, u173, u174, u175, u176, u177, u178, u179, u180, u181, u182, u183, u184, u185, u186, u187, u188, u189, u190, u191, u192, u193, u194, u195, u196, u197, u198, u199, u200, u201, u202, u203, u204, u205, u206, u207, u208, u209, u210, u211, u212, u213, u214, u215, u216, u217, u218, u219, u220, u221, u222, u223, u224, u225, u226, u227, u228, u229, u230, u231, u232, u233, u234, u235, u236, u237, u238, u239, u240, u241, u242, u243, u244, u245, u246, u247, u248, u249, u250, u251, u252, u253, u254, u255, u256, u257, u258, u259, c260], []⟩

set_option maxHeartbeats 1000000 in
theorem rd_exit (hT : Stays w g o n b0 b1 b2 a b x8 x9 x12 L R) (hS : LoopS w b0 b1 b2 n a b x8 x9 x12 L R i s dv wr) (heq : Hid (i = n)) (hexit : ∀ act w1, WXR w g o n cap b0 b1 b2 R c1 c6 c8 c16 c17 c18 c19 c20 c21 c22 c23 c24 c25 c26 c27 c28 c29 c30 c31 c32 c33 c34 c35 c36 c37 c38 c39 c40 c41 c42 c43 c44 c45 c46 c47 c48 c49 c50 c51 c52 c53 c54 c55 c56 c57 c58 c59 c60 c61 c62 c63 c64 c65 c66 c67 c68 c69 c260 act w1 → Q0 (.exit 0) act w1) :
    Code.wp Try.prog bodyR (Exit.then (fun act w1 => WIR w g o n cap b0 b1 b2 a b x8 x9 x12 L R c1 c6 c8 c16 c17 c18 c19 c20 c21 c22 c23 c24 c25 c26 c27 c28 c29 c30 c31 c32 c33 c34 c35 c36 c37 c38 c39 c40 c41 c42 c43 c44 c45 c46 c47 c48 c49 c50 c51 c52 c53 c54 c55 c56 c57 c58 c59 c60 c61 c62 c63 c64 c65 c66 c67 c68 c69 c260 act w1 ∧ MuR n act w1 < MuR n ⟨#[.slice (some ⟨g, o, none⟩) n cap, c1, .pointer (some ⟨b0, 0, none⟩), u3, u4, .pointer (some ⟨b1, 0, none⟩), c6, .pointer (some ⟨b2, 0, none⟩), c8, dv, .bool s.pal, .bool s.idat, .bool s.gap, .int .i64 (i : Int), u14, u15, c16, c17, c18, c19, c20, c21, c22, c23, c24, c25, c26, c27, c28, c29, c30, c31, c32, c33, c34, c35, c36, c37, c38, c39, c40, c41, c42, c43, c44, c45, c46, c47, c48, c49, c50, c51, c52, c53, c54, c55, c56, c57, c58, c59, c60, c61, c62, c63, c64, c65, c66, c67, c68, c69, u70, u71, u72, u73, u74, u75, u76, u77, u78, u79, u80, u81, u82, u83, u84, u85, u86, u87, u88, u89, u90, u91, u92, u93, u94, u95, u96, u97, u98, u99, u100, u101, u102, u103, u104, u105, u106, u107, u108, u109, u110, u111, u112, u113, u114, u115, u116, u117, u118, u119, u120, u121, u122, u123, u124, u125, u126, u127, u128, u129, u130, u131, u132, u133, u134, u135, u136, u137, u138, u139, u140, u141, u142, u143, u144, u145, u146, u147, u148, u149, u150, u151, u152, u153, u154, u155, u156, u157, u158, u159, u160, u161, u162, u163, u164, u165, u166, u167, u168, u169, u170, u171, u172, u173, u174, u175, u176, u177, u178, u179, u180, u181, u182, u183, u184, u185, u186, u187, u188, u189, u190, u191, u192, u193, u194, u195, u196, u197, u198, u199, u200, u201, u202, u203, u204, u205, u206, u207, u208, u209, u210, u211, u212, u213, u214, u215, u216, u217, u218, u219, u220, u221, u222, u223, u224, u225, u226, u227, u228, u229, u230, u231, u232, u233, u234, u235, u236, u237, u238, u239, u240, u241, u242, u243, u244, u245, u246, u247, u248, u249, u250, u251, u252, u253, u254, u255, u256, u257, u258, u259, c260], []⟩ wr) Q0) ⟨#[.slice (some ⟨g, o, none⟩) n cap, c1, .pointer (some ⟨b0, 0, none⟩), u3, u4, .pointer (some ⟨b1, 0, none⟩), c6, .pointer (some ⟨b2, 0, none⟩), c8, dv, .bool s.pal, .bool s.idat, .bool s.gap, .int .i64 (i : Int), u14, u15, c16, c17, c18, c19, c20, c21, c22, c23, c24, c25, c26, c27, c28, c29, c30, c31, c32, c33, c34, c35, c36, c37, c38, c39, c40, c41, c42, c43, c44, c45, c46, c47, c48, c49, c50, c51, c52, c53, c54, c55, c56, c57, c58, c59, c60, c61, c62, c63, c64, c65, c66, c67, c68, c69, u70, u71, u72, u73, u74, u75, u76, u77, u78, u79, u80, u81, u82, u83, u84, u85, u86, u87, u88, u89, u90, u91, u92, u93, u94, u95, u96, u97, u98, u99, u100, u101, u102, u103, u104, u105, u106, u107, u108, u109, u110, u111, u112, u113, u114, u115, u116, u117, u118, u119, u120, u121, u122, u123, u124, u125, u126, u127, u128, u129, u130, u131, u132, u133, u134, u135, u136, u137, u138, u139, u140, u141, u142, u143, u144, u145, u146, u147, u148, u149, u150, u151, u152, u153, u154, u155, u156, u157, u158, u159, u160, u161, u162, u163, u164, u165, u166, u167, u168, u169, u170, u171, u172, u173, u174, u175, u176, u177, u178, u179, u180, u181, u182, u183, u184, u185, u186, u187, u188, u189, u190, u191, u192, u193, u194, u195, u196, u197, u198, u199, u200, u201, u202, u203, u204, u205, u206, u207, u208, u209, u210, u211, u212, u213, u214, u215, u216, u217, u218, u219, u220, u221, u222, u223, u224, u225, u226, u227, u228, u229, u230, u231, u232, u233, u234, u235, u236, u237, u238, u239, u240, u241, u242, u243, u244, u245, u246, u247, u248, u249, u250, u251, u252, u253, u254, u255, u256, u257, u258, u259, c260], []⟩ wr := by
  conv => arg 2; whnf
  have HT := Lib.hid hT
  have HS := Lib.hid hS
  have n63 := hT.n63
  have dl : decide ((i : Int) < (n : Int)) = false := by simp; have := heq.out; omega
  have dl2 : decide (i < n) = false := by simp; have := heq.out; omega
  have dl3 : ¬ i < n := by have := heq.out; omega
  have HR3 := Lib.hid (show R.2 = 3 by
    have h := hS.run
    rw [List.drop_eq_nil_of_le (by rw [hT.cks.1, heq.out]; exact Nat.le_refl _)] at h
    rw [← h]; rfl)
  clear hT hS
  go_wp2
  unfold WXR
  exact ⟨_, _, _, _, _, _, _, _, _, _, _, _, _, _, _, _, _, _, _, _, _, _, _, _, _, _, _, _, _, _, _, _, _, _, _, _, _, _, _, _, _, _, _, _, _, _, _, _, _, _, _, _, _, _, _, _, _, _, _, _, _, _, _, _, _, _, _, _, _, _, _, _, _, _, _, _, _, _, _, _, _, _, _, _, _, _, _, _, _, _, _, _, _, _, _, _, _, _, _, _, _, _, _, _, _, _, _, _, _, _, _, _, _, _, _, _, _, _, _, _, _, _, _, _, _, _, _, _, _, _, _, _, _, _, _, _, _, _, _, _, _, _, _, _, _, _, _, _, _, _, _, _, _, _, _, _, _, _, _, _, _, _, _, _, _, _, _, _, _, _, _, _, _, _, _, _, _, _, _, _, _, _, _, _, _, _, _, _, _, _, _, _, _, _, i, s, dv, _, HS.out.rds, HR3.out, rfl⟩

/-- One round, whatever the chunk. -/
theorem rd_chunk (hT : Stays w g o n b0 b1 b2 a b x8 x9 x12 L R) (hS : LoopS w b0 b1 b2 n a b x8 x9 x12 L R i ⟨pal, trans, idat, gap, PP, TT, DD⟩ dv wr) (hlt : i < n) (hat : L[i]? = some (t, d)) (HTL : Hid (readT L = if R.2 = 0 then (numsH D0, R) else ([], hs0, R.2))) (HNS : Hid (numsH D0 = [(a : Int), (b : Int), (x8 : Int), (x9 : Int), (x12 : Int)])) (hpan : ∀ (c : List PanicEntry) (a : Act) (d : Option Tmp) (v : Value) (w : World), Q0 (.panic c) (a.put d v) w → Q0 (.panic c) a w) (hret : ∀ act w1, bodyPost Try.prog Try.f18 (GotH w (readT L)) Exit.ret act w1 → Q0 .ret act w1) :
    Code.wp Try.prog bodyR (Exit.then (fun act w1 => WIR w g o n cap b0 b1 b2 a b x8 x9 x12 L R c1 c6 c8 c16 c17 c18 c19 c20 c21 c22 c23 c24 c25 c26 c27 c28 c29 c30 c31 c32 c33 c34 c35 c36 c37 c38 c39 c40 c41 c42 c43 c44 c45 c46 c47 c48 c49 c50 c51 c52 c53 c54 c55 c56 c57 c58 c59 c60 c61 c62 c63 c64 c65 c66 c67 c68 c69 c260 act w1 ∧ MuR n act w1 < MuR n ⟨#[.slice (some ⟨g, o, none⟩) n cap, c1, .pointer (some ⟨b0, 0, none⟩), u3, u4, .pointer (some ⟨b1, 0, none⟩), c6, .pointer (some ⟨b2, 0, none⟩), c8, dv, .bool pal, .bool idat, .bool gap, .int .i64 (i : Int), u14, u15, c16, c17, c18, c19, c20, c21, c22, c23, c24, c25, c26, c27, c28, c29, c30, c31, c32, c33, c34, c35, c36, c37, c38, c39, c40, c41, c42, c43, c44, c45, c46, c47, c48, c49, c50, c51, c52, c53, c54, c55, c56, c57, c58, c59, c60, c61, c62, c63, c64, c65, c66, c67, c68, c69, u70, u71, u72, u73, u74, u75, u76, u77, u78, u79, u80, u81, u82, u83, u84, u85, u86, u87, u88, u89, u90, u91, u92, u93, u94, u95, u96, u97, u98, u99, u100, u101, u102, u103, u104, u105, u106, u107, u108, u109, u110, u111, u112, u113, u114, u115, u116, u117, u118, u119, u120, u121, u122, u123, u124, u125, u126, u127, u128, u129, u130, u131, u132, u133, u134, u135, u136, u137, u138, u139, u140, u141, u142, u143, u144, u145, u146, u147, u148, u149, u150, u151, u152, u153, u154, u155, u156, u157, u158, u159, u160, u161, u162, u163, u164, u165, u166, u167, u168, u169, u170, u171, u172, u173, u174, u175, u176, u177, u178, u179, u180, u181, u182, u183, u184, u185, u186, u187, u188, u189, u190, u191, u192, u193, u194, u195, u196, u197, u198, u199, u200, u201, u202, u203, u204, u205, u206, u207, u208, u209, u210, u211, u212, u213, u214, u215, u216, u217, u218, u219, u220, u221, u222, u223, u224, u225, u226, u227, u228, u229, u230, u231, u232, u233, u234, u235, u236, u237, u238, u239, u240, u241, u242, u243, u244, u245, u246, u247, u248, u249, u250, u251, u252, u253, u254, u255, u256, u257, u258, u259, c260], []⟩ wr) Q0) ⟨#[.slice (some ⟨g, o, none⟩) n cap, c1, .pointer (some ⟨b0, 0, none⟩), u3, u4, .pointer (some ⟨b1, 0, none⟩), c6, .pointer (some ⟨b2, 0, none⟩), c8, dv, .bool pal, .bool idat, .bool gap, .int .i64 (i : Int), u14, u15, c16, c17, c18, c19, c20, c21, c22, c23, c24, c25, c26, c27, c28, c29, c30, c31, c32, c33, c34, c35, c36, c37, c38, c39, c40, c41, c42, c43, c44, c45, c46, c47, c48, c49, c50, c51, c52, c53, c54, c55, c56, c57, c58, c59, c60, c61, c62, c63, c64, c65, c66, c67, c68, c69, u70, u71, u72, u73, u74, u75, u76, u77, u78, u79, u80, u81, u82, u83, u84, u85, u86, u87, u88, u89, u90, u91, u92, u93, u94, u95, u96, u97, u98, u99, u100, u101, u102, u103, u104, u105, u106, u107, u108, u109, u110, u111, u112, u113, u114, u115, u116, u117, u118, u119, u120, u121, u122, u123, u124, u125, u126, u127, u128, u129, u130, u131, u132, u133, u134, u135, u136, u137, u138, u139, u140, u141, u142, u143, u144, u145, u146, u147, u148, u149, u150, u151, u152, u153, u154, u155, u156, u157, u158, u159, u160, u161, u162, u163, u164, u165, u166, u167, u168, u169, u170, u171, u172, u173, u174, u175, u176, u177, u178, u179, u180, u181, u182, u183, u184, u185, u186, u187, u188, u189, u190, u191, u192, u193, u194, u195, u196, u197, u198, u199, u200, u201, u202, u203, u204, u205, u206, u207, u208, u209, u210, u211, u212, u213, u214, u215, u216, u217, u218, u219, u220, u221, u222, u223, u224, u225, u226, u227, u228, u229, u230, u231, u232, u233, u234, u235, u236, u237, u238, u239, u240, u241, u242, u243, u244, u245, u246, u247, u248, u249, u250, u251, u252, u253, u254, u255, u256, u257, u258, u259, c260], []⟩ wr := by
  have hR := hT
  by_cases htIHDR : t = tIHDR
  · exact rd_ihdr hT hS hlt hat (Lib.hid htIHDR) HTL hret
  by_cases htPLTE : t = tPLTE
  · cases pal with
    | true => exact rd_plte_a1 hT hS hlt hat (Lib.hid htIHDR) (Lib.hid htPLTE) HTL hret
    | false =>
    cases trans with
    | true => exact rd_plte_a2 hT hS hlt hat (Lib.hid htIHDR) (Lib.hid htPLTE) HTL hret
    | false =>
    cases idat with
    | true => exact rd_plte_a3 hT hS hlt hat (Lib.hid htIHDR) (Lib.hid htPLTE) HTL hret
    | false =>
    by_cases h0 : x9 = 0
    · exact rd_plte_b1 hT hS hlt hat (Lib.hid htIHDR) (Lib.hid htPLTE) (Lib.hid h0) HTL hret
    by_cases h4 : x9 = 4
    · exact rd_plte_b2 hT hS hlt hat (Lib.hid htIHDR) (Lib.hid htPLTE) (Lib.hid h4) HTL hret
    by_cases hm1 : d.length % 3 ≠ 0
    · exact rd_plte_b3 hT hS hlt hat (Lib.hid htIHDR) (Lib.hid htPLTE) (Lib.hid ⟨h0, h4⟩) (Lib.hid hm1) HTL hret
    have hm : d.length % 3 = 0 := by omega
    by_cases hl : d.length < 3
    · exact rd_plte_b4 hT hS hlt hat (Lib.hid htIHDR) (Lib.hid htPLTE) (Lib.hid ⟨h0, h4⟩) (Lib.hid ⟨hm, hl⟩) HTL hret
    by_cases hg : 768 < d.length
    · exact rd_plte_b5 hT hS hlt hat (Lib.hid htIHDR) (Lib.hid htPLTE) (Lib.hid ⟨h0, h4⟩) (Lib.hid ⟨hm, by omega, hg⟩) HTL hret
    by_cases h3 : x9 = 3
    · by_cases e1 : x8 = 1
      · by_cases hq : 6 < d.length
        · exact rd_plte_b6_1 hT hS hlt hat (Lib.hid htIHDR) (Lib.hid htPLTE) (Lib.hid h3) (Lib.hid e1) (Lib.hid ⟨hm, by omega, by omega, hq⟩) HTL hret
        · exact rd_plte_c2_1 hT hS hlt hat (Lib.hid htIHDR) (Lib.hid htPLTE) (Lib.hid h3) (Lib.hid e1) (Lib.hid ⟨hm, by omega, by omega, by omega⟩) HTL
      by_cases e2 : x8 = 2
      · by_cases hq : 12 < d.length
        · exact rd_plte_b6_2 hT hS hlt hat (Lib.hid htIHDR) (Lib.hid htPLTE) (Lib.hid h3) (Lib.hid e2) (Lib.hid ⟨hm, by omega, by omega, hq⟩) HTL hret
        · exact rd_plte_c2_2 hT hS hlt hat (Lib.hid htIHDR) (Lib.hid htPLTE) (Lib.hid h3) (Lib.hid e2) (Lib.hid ⟨hm, by omega, by omega, by omega⟩) HTL
      by_cases e4 : x8 = 4
      · by_cases hq : 48 < d.length
        · exact rd_plte_b6_4 hT hS hlt hat (Lib.hid htIHDR) (Lib.hid htPLTE) (Lib.hid h3) (Lib.hid e4) (Lib.hid ⟨hm, by omega, by omega, hq⟩) HTL hret
        · exact rd_plte_c2_4 hT hS hlt hat (Lib.hid htIHDR) (Lib.hid htPLTE) (Lib.hid h3) (Lib.hid e4) (Lib.hid ⟨hm, by omega, by omega, by omega⟩) HTL
      have e8 : x8 = 8 := by have := hT.dep h3; omega
      exact rd_plte_c2_8 hT hS hlt hat (Lib.hid htIHDR) (Lib.hid htPLTE) (Lib.hid h3) (Lib.hid e8) (Lib.hid ⟨hm, by omega, by omega, by omega⟩) HTL
    · exact rd_plte_c1 hT hS hlt hat (Lib.hid htIHDR) (Lib.hid htPLTE) (Lib.hid ⟨h0, h4, h3⟩) (Lib.hid ⟨hm, by omega, by omega⟩) HTL
  by_cases htTRNS : t = tTRNS
  · cases trans with
    | true => exact rd_trns_a1 hT hS hlt hat (Lib.hid htIHDR) (Lib.hid htPLTE) (Lib.hid htTRNS) HTL hret
    | false =>
    cases idat with
    | true => exact rd_trns_a2 hT hS hlt hat (Lib.hid htIHDR) (Lib.hid htPLTE) (Lib.hid htTRNS) HTL hret
    | false =>
    by_cases h3 : x9 = 3
    · cases pal with
      | false => exact rd_trns_a3 hT hS hlt hat (Lib.hid htIHDR) (Lib.hid htPLTE) (Lib.hid htTRNS) (Lib.hid h3) HTL hret
      | true =>
      by_cases hq : PP.length / 3 < d.length
      · exact rd_trns_b5 hT hS hlt hat (Lib.hid htIHDR) (Lib.hid htPLTE) (Lib.hid htTRNS) (Lib.hid h3) (Lib.hid hq) HTL hret
      · exact rd_trns_c3 hT hS hlt hat (Lib.hid htIHDR) (Lib.hid htPLTE) (Lib.hid htTRNS) (Lib.hid h3) (Lib.hid (by omega)) HTL
    by_cases h4 : x9 = 4
    · exact rd_trns_b1 hT hS hlt hat (Lib.hid htIHDR) (Lib.hid htPLTE) (Lib.hid htTRNS) (Lib.hid h4) HTL hret
    by_cases h6 : x9 = 6
    · exact rd_trns_b2 hT hS hlt hat (Lib.hid htIHDR) (Lib.hid htPLTE) (Lib.hid htTRNS) (Lib.hid h6) HTL hret
    by_cases h0 : x9 = 0
    · by_cases hq : d.length = 2
      · exact rd_trns_c1 hT hS hlt hat (Lib.hid htIHDR) (Lib.hid htPLTE) (Lib.hid htTRNS) (Lib.hid h0) (Lib.hid hq) HTL
      · exact rd_trns_b3 hT hS hlt hat (Lib.hid htIHDR) (Lib.hid htPLTE) (Lib.hid htTRNS) (Lib.hid h0) (Lib.hid hq) HTL hret
    by_cases h2 : x9 = 2
    · by_cases hq : d.length = 6
      · exact rd_trns_c2 hT hS hlt hat (Lib.hid htIHDR) (Lib.hid htPLTE) (Lib.hid htTRNS) (Lib.hid h2) (Lib.hid hq) HTL
      · exact rd_trns_b4 hT hS hlt hat (Lib.hid htIHDR) (Lib.hid htPLTE) (Lib.hid htTRNS) (Lib.hid h2) (Lib.hid hq) HTL hret
    exact rd_trns_c4 hT hS hlt hat (Lib.hid htIHDR) (Lib.hid htPLTE) (Lib.hid htTRNS) (Lib.hid ⟨h0, h2, h3, h4, h6⟩) HTL
  by_cases htIDAT : t = tIDAT
  · by_cases h3 : x9 = 3
    · cases pal with
      | false => exact rd_idat_a1 hT hS hlt hat (Lib.hid htIHDR) (Lib.hid htPLTE) (Lib.hid htTRNS) (Lib.hid htIDAT) (Lib.hid h3) HTL hret
      | true =>
      cases gap with
      | true => exact rd_idat_a2 hT hS hlt hat (Lib.hid htIHDR) (Lib.hid htPLTE) (Lib.hid htTRNS) (Lib.hid htIDAT) (Lib.hid h3) HTL hret
      | false => exact rd_idat_b1 hT hS hlt hat (Lib.hid htIHDR) (Lib.hid htPLTE) (Lib.hid htTRNS) (Lib.hid htIDAT) (Lib.hid h3) HTL
    · cases gap with
      | true => exact rd_idat_a3 hT hS hlt hat (Lib.hid htIHDR) (Lib.hid htPLTE) (Lib.hid htTRNS) (Lib.hid htIDAT) (Lib.hid h3) HTL hret
      | false => exact rd_idat_b2 hT hS hlt hat (Lib.hid htIHDR) (Lib.hid htPLTE) (Lib.hid htTRNS) (Lib.hid htIDAT) (Lib.hid h3) HTL
  by_cases htIEND : t = tIEND
  · by_cases hd0 : d.length = 0
    · cases idat with
      | false => exact rd_iend_b hT hS hlt hat (Lib.hid htIHDR) (Lib.hid htPLTE) (Lib.hid htTRNS) (Lib.hid htIDAT) (Lib.hid htIEND) (Lib.hid hd0) HTL hret
      | true =>
      by_cases hmore : i + 1 < n
      · exact rd_iend_c hT hS hlt hat (Lib.hid htIHDR) (Lib.hid htPLTE) (Lib.hid htTRNS) (Lib.hid htIDAT) (Lib.hid htIEND) (Lib.hid hd0) hmore (Lib.hid (by have := hT.cks.1; rw [List.isEmpty_eq_false_iff]; intro e; have := congrArg List.length e; rw [List.length_drop] at this; simp at this; omega)) HTL hret
      · exact rd_iend_d hT hS hlt hat (Lib.hid htIHDR) (Lib.hid htPLTE) (Lib.hid htTRNS) (Lib.hid htIDAT) (Lib.hid htIEND) (Lib.hid hd0) (by omega) (Lib.hid (by have := hT.cks.1; rw [List.isEmpty_iff]; exact List.drop_eq_nil_of_le (by omega))) HNS hpan HTL hret
    · exact rd_iend_a hT hS hlt hat (Lib.hid htIHDR) (Lib.hid htPLTE) (Lib.hid htTRNS) (Lib.hid htIDAT) (Lib.hid htIEND) (Lib.hid hd0) HTL hret
  by_cases hcr : critT t = true
  · match t, hcr with
    | x :: t, hcr =>
    have hx := of_decide_eq_true hcr
    exact rd_other_a hT hS hlt hat (Lib.hid htIHDR) (Lib.hid htPLTE) (Lib.hid htTRNS) (Lib.hid htIDAT) (Lib.hid htIEND) x.toNat (Lib.hid ⟨by simp, rfl⟩) (Lib.hid hcr) hx.1 hx.2 HTL hret
  have hcf : critT t = false := by simpa using hcr
  by_cases h0 : t.length = 0
  · exact rd_other_b1 hT hS hlt hat (Lib.hid htIHDR) (Lib.hid htPLTE) (Lib.hid htTRNS) (Lib.hid htIDAT) (Lib.hid htIEND) (Lib.hid hcf) (Lib.hid h0) HTL
  · have hl0 : 0 < t.length := by omega
    have hnot : ¬ (65 ≤ (t.getD 0 0).toNat ∧ (t.getD 0 0).toNat ≤ 90) := by
      match t, hl0, hcf with
      | x :: t, _, h => exact of_decide_eq_false h
    by_cases h1 : 65 ≤ (t.getD 0 0).toNat
    · exact rd_other_b3 hT hS hlt hat (Lib.hid htIHDR) (Lib.hid htPLTE) (Lib.hid htTRNS) (Lib.hid htIDAT) (Lib.hid htIEND) _ (Lib.hid ⟨hl0, rfl⟩) (Lib.hid hcf) h1 (by omega) HTL
    · exact rd_other_b2 hT hS hlt hat (Lib.hid htIHDR) (Lib.hid htPLTE) (Lib.hid htTRNS) (Lib.hid htIDAT) (Lib.hid htIEND) _ (Lib.hid ⟨hl0, rfl⟩) (Lib.hid hcf) (by omega) HTL
theorem rd_round {act : Act} (hT : Stays w g o n b0 b1 b2 a b x8 x9 x12 L R) (HTL : Hid (readT L = if R.2 = 0 then (numsH D0, R) else ([], hs0, R.2))) (HNS : Hid (numsH D0 = [(a : Int), (b : Int), (x8 : Int), (x9 : Int), (x12 : Int)])) (hpan : ∀ (c : List PanicEntry) (a : Act) (d : Option Tmp) (v : Value) (w : World), Q0 (.panic c) (a.put d v) w → Q0 (.panic c) a w) (hret : ∀ act w1, bodyPost Try.prog Try.f18 (GotH w (readT L)) Exit.ret act w1 → Q0 .ret act w1)
    (hexit : ∀ act w1, WXR w g o n cap b0 b1 b2 R c1 c6 c8 c16 c17 c18 c19 c20 c21 c22 c23 c24 c25 c26 c27 c28 c29 c30 c31 c32 c33 c34 c35 c36 c37 c38 c39 c40 c41 c42 c43 c44 c45 c46 c47 c48 c49 c50 c51 c52 c53 c54 c55 c56 c57 c58 c59 c60 c61 c62 c63 c64 c65 c66 c67 c68 c69 c260 act w1 → Q0 (.exit 0) act w1) (hI : WIR w g o n cap b0 b1 b2 a b x8 x9 x12 L R c1 c6 c8 c16 c17 c18 c19 c20 c21 c22 c23 c24 c25 c26 c27 c28 c29 c30 c31 c32 c33 c34 c35 c36 c37 c38 c39 c40 c41 c42 c43 c44 c45 c46 c47 c48 c49 c50 c51 c52 c53 c54 c55 c56 c57 c58 c59 c60 c61 c62 c63 c64 c65 c66 c67 c68 c69 c260 act wr) :
    Code.wp Try.prog bodyR (Exit.then (fun act' w1 => WIR w g o n cap b0 b1 b2 a b x8 x9 x12 L R c1 c6 c8 c16 c17 c18 c19 c20 c21 c22 c23 c24 c25 c26 c27 c28 c29 c30 c31 c32 c33 c34 c35 c36 c37 c38 c39 c40 c41 c42 c43 c44 c45 c46 c47 c48 c49 c50 c51 c52 c53 c54 c55 c56 c57 c58 c59 c60 c61 c62 c63 c64 c65 c66 c67 c68 c69 c260 act' w1 ∧ MuR n act' w1 < MuR n act wr) Q0) act wr := by
  unfold WIR at hI
  cases hI with
  | intro u3 hI =>
  cases hI with
  | intro u4 hI =>
  cases hI with
  | intro u14 hI =>
  cases hI with
  | intro u15 hI =>
  cases hI with
  | intro u70 hI =>
  cases hI with
  | intro u71 hI =>
  cases hI with
  | intro u72 hI =>
  cases hI with
  | intro u73 hI =>
  cases hI with
  | intro u74 hI =>
  cases hI with
  | intro u75 hI =>
  cases hI with
  | intro u76 hI =>
  cases hI with
  | intro u77 hI =>
  cases hI with
  | intro u78 hI =>
  cases hI with
  | intro u79 hI =>
  cases hI with
  | intro u80 hI =>
  cases hI with
  | intro u81 hI =>
  cases hI with
  | intro u82 hI =>
  cases hI with
  | intro u83 hI =>
  cases hI with
  | intro u84 hI =>
  cases hI with
  | intro u85 hI =>
  cases hI with
  | intro u86 hI =>
  cases hI with
  | intro u87 hI =>
  cases hI with
  | intro u88 hI =>
  cases hI with
  | intro u89 hI =>
  cases hI with
  | intro u90 hI =>
  cases hI with
  | intro u91 hI =>
  cases hI with
  | intro u92 hI =>
  cases hI with
  | intro u93 hI =>
  cases hI with
  | intro u94 hI =>
  cases hI with
  | intro u95 hI =>
  cases hI with
  | intro u96 hI =>
  cases hI with
  | intro u97 hI =>
  cases hI with
  | intro u98 hI =>
  cases hI with
  | intro u99 hI =>
  cases hI with
  | intro u100 hI =>
  cases hI with
  | intro u101 hI =>
  cases hI with
  | intro u102 hI =>
  cases hI with
  | intro u103 hI =>
  cases hI with
  | intro u104 hI =>
  cases hI with
  | intro u105 hI =>
  cases hI with
  | intro u106 hI =>
  cases hI with
  | intro u107 hI =>
  cases hI with
  | intro u108 hI =>
  cases hI with
  | intro u109 hI =>
  cases hI with
  | intro u110 hI =>
  cases hI with
  | intro u111 hI =>
  cases hI with
  | intro u112 hI =>
  cases hI with
  | intro u113 hI =>
  cases hI with
  | intro u114 hI =>
  cases hI with
  | intro u115 hI =>
  cases hI with
  | intro u116 hI =>
  cases hI with
  | intro u117 hI =>
  cases hI with
  | intro u118 hI =>
  cases hI with
  | intro u119 hI =>
  cases hI with
  | intro u120 hI =>
  cases hI with
  | intro u121 hI =>
  cases hI with
  | intro u122 hI =>
  cases hI with
  | intro u123 hI =>
  cases hI with
  | intro u124 hI =>
  cases hI with
  | intro u125 hI =>
  cases hI with
  | intro u126 hI =>
  cases hI with
  | intro u127 hI =>
  cases hI with
  | intro u128 hI =>
  cases hI with
  | intro u129 hI =>
  cases hI with
  | intro u130 hI =>
  cases hI with
  | intro u131 hI =>
  cases hI with
  | intro u132 hI =>
  cases hI with
  | intro u133 hI =>
  cases hI with
  | intro u134 hI =>
  cases hI with
  | intro u135 hI =>
  cases hI with
  | intro u136 hI =>
  cases hI with
  | intro u137 hI =>
  cases hI with
  | intro u138 hI =>
  cases hI with
  | intro u139 hI =>
  cases hI with
  | intro u140 hI =>
  cases hI with
  | intro u141 hI =>
  cases hI with
  | intro u142 hI =>
  cases hI with
  | intro u143 hI =>
  cases hI with
  | intro u144 hI =>
  cases hI with
  | intro u145 hI =>
  cases hI with
  | intro u146 hI =>
  cases hI with
  | intro u147 hI =>
  cases hI with
  | intro u148 hI =>
  cases hI with
  | intro u149 hI =>
  cases hI with
  | intro u150 hI =>
  cases hI with
  | intro u151 hI =>
  cases hI with
  | intro u152 hI =>
  cases hI with
  | intro u153 hI =>
  cases hI with
  | intro u154 hI =>
  cases hI with
  | intro u155 hI =>
  cases hI with
  | intro u156 hI =>
  cases hI with
  | intro u157 hI =>
  cases hI with
  | intro u158 hI =>
  cases hI with
  | intro u159 hI =>
  cases hI with
  | intro u160 hI =>
  cases hI with
  | intro u161 hI =>
  cases hI with
  | intro u162 hI =>
  cases hI with
  | intro u163 hI =>
  cases hI with
  | intro u164 hI =>
  cases hI with
  | intro u165 hI =>
  cases hI with
  | intro u166 hI =>
  cases hI with
  | intro u167 hI =>
  cases hI with
  | intro u168 hI =>
  cases hI with
  | intro u169 hI =>
  cases hI with
  | intro u170 hI =>
  cases hI with
  | intro u171 hI =>
  cases hI with
  | intro u172 hI =>
  cases hI with
  | intro u173 hI =>
  cases hI with
  | intro u174 hI =>
  cases hI with
  | intro u175 hI =>
  cases hI with
  | intro u176 hI =>
  cases hI with
  | intro u177 hI =>
  cases hI with
  | intro u178 hI =>
  cases hI with
  | intro u179 hI =>
  cases hI with
  | intro u180 hI =>
  cases hI with
  | intro u181 hI =>
  cases hI with
  | intro u182 hI =>
  cases hI with
  | intro u183 hI =>
  cases hI with
  | intro u184 hI =>
  cases hI with
  | intro u185 hI =>
  cases hI with
  | intro u186 hI =>
  cases hI with
  | intro u187 hI =>
  cases hI with
  | intro u188 hI =>
  cases hI with
  | intro u189 hI =>
  cases hI with
  | intro u190 hI =>
  cases hI with
  | intro u191 hI =>
  cases hI with
  | intro u192 hI =>
  cases hI with
  | intro u193 hI =>
  cases hI with
  | intro u194 hI =>
  cases hI with
  | intro u195 hI =>
  cases hI with
  | intro u196 hI =>
  cases hI with
  | intro u197 hI =>
  cases hI with
  | intro u198 hI =>
  cases hI with
  | intro u199 hI =>
  cases hI with
  | intro u200 hI =>
  cases hI with
  | intro u201 hI =>
  cases hI with
  | intro u202 hI =>
  cases hI with
  | intro u203 hI =>
  cases hI with
  | intro u204 hI =>
  cases hI with
  | intro u205 hI =>
  cases hI with
  | intro u206 hI =>
  cases hI with
  | intro u207 hI =>
  cases hI with
  | intro u208 hI =>
  cases hI with
  | intro u209 hI =>
  cases hI with
  | intro u210 hI =>
  cases hI with
  | intro u211 hI =>
  cases hI with
  | intro u212 hI =>
  cases hI with
  | intro u213 hI =>
  cases hI with
  | intro u214 hI =>
  cases hI with
  | intro u215 hI =>
  cases hI with
  | intro u216 hI =>
  cases hI with
  | intro u217 hI =>
  cases hI with
  | intro u218 hI =>
  cases hI with
  | intro u219 hI =>
  cases hI with
  | intro u220 hI =>
  cases hI with
  | intro u221 hI =>
  cases hI with
  | intro u222 hI =>
  cases hI with
  | intro u223 hI =>
  cases hI with
  | intro u224 hI =>
  cases hI with
  | intro u225 hI =>
  cases hI with
  | intro u226 hI =>
  cases hI with
  | intro u227 hI =>
  cases hI with
  | intro u228 hI =>
  cases hI with
  | intro u229 hI =>
  cases hI with
  | intro u230 hI =>
  cases hI with
  | intro u231 hI =>
  cases hI with
  | intro u232 hI =>
  cases hI with
  | intro u233 hI =>
  cases hI with
  | intro u234 hI =>
  cases hI with
  | intro u235 hI =>
  cases hI with
  | intro u236 hI =>
  cases hI with
  | intro u237 hI =>
  cases hI with
  | intro u238 hI =>
  cases hI with
  | intro u239 hI =>
  cases hI with
  | intro u240 hI =>
  cases hI with
  | intro u241 hI =>
  cases hI with
  | intro u242 hI =>
  cases hI with
  | intro u243 hI =>
  cases hI with
  | intro u244 hI =>
  cases hI with
  | intro u245 hI =>
  cases hI with
  | intro u246 hI =>
  cases hI with
  | intro u247 hI =>
  cases hI with
  | intro u248 hI =>
  cases hI with
  | intro u249 hI =>
  cases hI with
  | intro u250 hI =>
  cases hI with
  | intro u251 hI =>
  cases hI with
  | intro u252 hI =>
  cases hI with
  | intro u253 hI =>
  cases hI with
  | intro u254 hI =>
  cases hI with
  | intro u255 hI =>
  cases hI with
  | intro u256 hI =>
  cases hI with
  | intro u257 hI =>
  cases hI with
  | intro u258 hI =>
  cases hI with
  | intro u259 hI =>
  cases hI with
  | intro i hI =>
  cases hI with
  | intro s hI =>
  cases hI with
  | intro dv hI =>
  have hS := hI.1
  have he := hI.2
  subst he
  by_cases hlt : i < n
  · have hlen : i < L.length := by rw [hT.cks.1]; exact hlt
    have hat : L[i]? = some (L[i].1, L[i].2) := List.getElem?_eq_getElem hlen
    exact rd_chunk (pal := s.pal) (trans := s.trans) (idat := s.idat) (gap := s.gap) (PP := s.P) (TT := s.T) (DD := s.D) hT hS hlt hat HTL HNS hpan hret
  · exact rd_exit hT hS (Lib.hid (by have := hS.hi; omega)) hexit

/-- The loop. -/
theorem rd_loop (hT : Stays w g o n b0 b1 b2 a b x8 x9 x12 L R) (HTL : Hid (readT L = if R.2 = 0 then (numsH D0, R) else ([], hs0, R.2))) (HNS : Hid (numsH D0 = [(a : Int), (b : Int), (x8 : Int), (x9 : Int), (x12 : Int)])) (hpan : ∀ (c : List PanicEntry) (a : Act) (d : Option Tmp) (v : Value) (w : World), Q0 (.panic c) (a.put d v) w → Q0 (.panic c) a w) (hret : ∀ act w1, bodyPost Try.prog Try.f18 (GotH w (readT L)) Exit.ret act w1 → Q0 .ret act w1)
    (hexit : ∀ act w1, WXR w g o n cap b0 b1 b2 R c1 c6 c8 c16 c17 c18 c19 c20 c21 c22 c23 c24 c25 c26 c27 c28 c29 c30 c31 c32 c33 c34 c35 c36 c37 c38 c39 c40 c41 c42 c43 c44 c45 c46 c47 c48 c49 c50 c51 c52 c53 c54 c55 c56 c57 c58 c59 c60 c61 c62 c63 c64 c65 c66 c67 c68 c69 c260 act w1 → Q0 (.exit 0) act w1) (hS : LoopS w b0 b1 b2 n a b x8 x9 x12 L R i s dv wr) :
    Code.wp Try.prog (Code.loop bodyR) Q0 ⟨#[.slice (some ⟨g, o, none⟩) n cap, c1, .pointer (some ⟨b0, 0, none⟩), u3, u4, .pointer (some ⟨b1, 0, none⟩), c6, .pointer (some ⟨b2, 0, none⟩), c8, dv, .bool s.pal, .bool s.idat, .bool s.gap, .int .i64 (i : Int), u14, u15, c16, c17, c18, c19, c20, c21, c22, c23, c24, c25, c26, c27, c28, c29, c30, c31, c32, c33, c34, c35, c36, c37, c38, c39, c40, c41, c42, c43, c44, c45, c46, c47, c48, c49, c50, c51, c52, c53, c54, c55, c56, c57, c58, c59, c60, c61, c62, c63, c64, c65, c66, c67, c68, c69, u70, u71, u72, u73, u74, u75, u76, u77, u78, u79, u80, u81, u82, u83, u84, u85, u86, u87, u88, u89, u90, u91, u92, u93, u94, u95, u96, u97, u98, u99, u100, u101, u102, u103, u104, u105, u106, u107, u108, u109, u110, u111, u112, u113, u114, u115, u116, u117, u118, u119, u120, u121, u122, u123, u124, u125, u126, u127, u128, u129, u130, u131, u132, u133, u134, u135, u136, u137, u138, u139, u140, u141, u142, u143, u144, u145, u146, u147, u148, u149, u150, u151, u152, u153, u154, u155, u156, u157, u158, u159, u160, u161, u162, u163, u164, u165, u166, u167, u168, u169, u170, u171, u172, u173, u174, u175, u176, u177, u178, u179, u180, u181, u182, u183, u184, u185, u186, u187, u188, u189, u190, u191, u192, u193, u194, u195, u196, u197, u198, u199, u200, u201, u202, u203, u204, u205, u206, u207, u208, u209, u210, u211, u212, u213, u214, u215, u216, u217, u218, u219, u220, u221, u222, u223, u224, u225, u226, u227, u228, u229, u230, u231, u232, u233, u234, u235, u236, u237, u238, u239, u240, u241, u242, u243, u244, u245, u246, u247, u248, u249, u250, u251, u252, u253, u254, u255, u256, u257, u258, u259, c260], []⟩ wr := by
  refine wp_loop (WIR w g o n cap b0 b1 b2 a b x8 x9 x12 L R c1 c6 c8 c16 c17 c18 c19 c20 c21 c22 c23 c24 c25 c26 c27 c28 c29 c30 c31 c32 c33 c34 c35 c36 c37 c38 c39 c40 c41 c42 c43 c44 c45 c46 c47 c48 c49 c50 c51 c52 c53 c54 c55 c56 c57 c58 c59 c60 c61 c62 c63 c64 c65 c66 c67 c68 c69 c260) (MuR n) ?_ (fun act w1 hI => rd_round hT HTL HNS hpan hret hexit hI)
  unfold WIR
  exact ⟨_, _, _, _, _, _, _, _, _, _, _, _, _, _, _, _, _, _, _, _, _, _, _, _, _, _, _, _, _, _, _, _, _, _, _, _, _, _, _, _, _, _, _, _, _, _, _, _, _, _, _, _, _, _, _, _, _, _, _, _, _, _, _, _, _, _, _, _, _, _, _, _, _, _, _, _, _, _, _, _, _, _, _, _, _, _, _, _, _, _, _, _, _, _, _, _, _, _, _, _, _, _, _, _, _, _, _, _, _, _, _, _, _, _, _, _, _, _, _, _, _, _, _, _, _, _, _, _, _, _, _, _, _, _, _, _, _, _, _, _, _, _, _, _, _, _, _, _, _, _, _, _, _, _, _, _, _, _, _, _, _, _, _, _, _, _, _, _, _, _, _, _, _, _, _, _, _, _, _, _, _, _, _, _, _, _, _, _, _, _, _, _, _, _, i, s, dv, hS, rfl⟩

/-- The end of the loop, laid open. -/
theorem wxr_open {act : Act} {C : Act → World → Prop} (hX : WXR w g o n cap b0 b1 b2 R c1 c6 c8 c16 c17 c18 c19 c20 c21 c22 c23 c24 c25 c26 c27 c28 c29 c30 c31 c32 c33 c34 c35 c36 c37 c38 c39 c40 c41 c42 c43 c44 c45 c46 c47 c48 c49 c50 c51 c52 c53 c54 c55 c56 c57 c58 c59 c60 c61 c62 c63 c64 c65 c66 c67 c68 c69 c260 act wr)
    (k : ∀ (u3 u4 u14 u15 u70 u71 u72 u73 u74 u75 u76 u77 u78 u79 u80 u81 u82 u83 u84 u85 u86 u87 u88 u89 u90 u91 u92 u93 u94 u95 u96 u97 u98 u99 u100 u101 u102 u103 u104 u105 u106 u107 u108 u109 u110 u111 u112 u113 u114 u115 u116 u117 u118 u119 u120 u121 u122 u123 u124 u125 u126 u127 u128 u129 u130 u131 u132 u133 u134 u135 u136 u137 u138 u139 u140 u141 u142 u143 u144 u145 u146 u147 u148 u149 u150 u151 u152 u153 u154 u155 u156 u157 u158 u159 u160 u161 u162 u163 u164 u165 u166 u167 u168 u169 u170 u171 u172 u173 u174 u175 u176 u177 u178 u179 u180 u181 u182 u183 u184 u185 u186 u187 u188 u189 u190 u191 u192 u193 u194 u195 u196 u197 u198 u199 u200 u201 u202 u203 u204 u205 u206 u207 u208 u209 u210 u211 u212 u213 u214 u215 u216 u217 u218 u219 u220 u221 u222 u223 u224 u225 u226 u227 u228 u229 u230 u231 u232 u233 u234 u235 u236 u237 u238 u239 u240 u241 u242 u243 u244 u245 u246 u247 u248 u249 u250 u251 u252 u253 u254 u255 u256 u257 u258 u259 : Value) (i : Nat) (s : HS) (dv : Value) (cs : Array Value), RdS w b0 b1 b2 cs wr → R.2 = 3 → C ⟨#[.slice (some ⟨g, o, none⟩) n cap, c1, .pointer (some ⟨b0, 0, none⟩), u3, u4, .pointer (some ⟨b1, 0, none⟩), c6, .pointer (some ⟨b2, 0, none⟩), c8, dv, .bool s.pal, .bool s.idat, .bool s.gap, .int .i64 (i : Int), u14, u15, c16, c17, c18, c19, c20, c21, c22, c23, c24, c25, c26, c27, c28, c29, c30, c31, c32, c33, c34, c35, c36, c37, c38, c39, c40, c41, c42, c43, c44, c45, c46, c47, c48, c49, c50, c51, c52, c53, c54, c55, c56, c57, c58, c59, c60, c61, c62, c63, c64, c65, c66, c67, c68, c69, u70, u71, u72, u73, u74, u75, u76, u77, u78, u79, u80, u81, u82, u83, u84, u85, u86, u87, u88, u89, u90, u91, u92, u93, u94, u95, u96, u97, u98, u99, u100, u101, u102, u103, u104, u105, u106, u107, u108, u109, u110, u111, u112, u113, u114, u115, u116, u117, u118, u119, u120, u121, u122, u123, u124, u125, u126, u127, u128, u129, u130, u131, u132, u133, u134, u135, u136, u137, u138, u139, u140, u141, u142, u143, u144, u145, u146, u147, u148, u149, u150, u151, u152, u153, u154, u155, u156, u157, u158, u159, u160, u161, u162, u163, u164, u165, u166, u167, u168, u169, u170, u171, u172, u173, u174, u175, u176, u177, u178, u179, u180, u181, u182, u183, u184, u185, u186, u187, u188, u189, u190, u191, u192, u193, u194, u195, u196, u197, u198, u199, u200, u201, u202, u203, u204, u205, u206, u207, u208, u209, u210, u211, u212, u213, u214, u215, u216, u217, u218, u219, u220, u221, u222, u223, u224, u225, u226, u227, u228, u229, u230, u231, u232, u233, u234, u235, u236, u237, u238, u239, u240, u241, u242, u243, u244, u245, u246, u247, u248, u249, u250, u251, u252, u253, u254, u255, u256, u257, u258, u259, c260], []⟩ wr) : C act wr := by
  unfold WXR at hX
  cases hX with
  | intro u3 hX =>
  cases hX with
  | intro u4 hX =>
  cases hX with
  | intro u14 hX =>
  cases hX with
  | intro u15 hX =>
  cases hX with
  | intro u70 hX =>
  cases hX with
  | intro u71 hX =>
  cases hX with
  | intro u72 hX =>
  cases hX with
  | intro u73 hX =>
  cases hX with
  | intro u74 hX =>
  cases hX with
  | intro u75 hX =>
  cases hX with
  | intro u76 hX =>
  cases hX with
  | intro u77 hX =>
  cases hX with
  | intro u78 hX =>
  cases hX with
  | intro u79 hX =>
  cases hX with
  | intro u80 hX =>
  cases hX with
  | intro u81 hX =>
  cases hX with
  | intro u82 hX =>
  cases hX with
  | intro u83 hX =>
  cases hX with
  | intro u84 hX =>
  cases hX with
  | intro u85 hX =>
  cases hX with
  | intro u86 hX =>
  cases hX with
  | intro u87 hX =>
  cases hX with
  | intro u88 hX =>
  cases hX with
  | intro u89 hX =>
  cases hX with
  | intro u90 hX =>
  cases hX with
  | intro u91 hX =>
  cases hX with
  | intro u92 hX =>
  cases hX with
  | intro u93 hX =>
  cases hX with
  | intro u94 hX =>
  cases hX with
  | intro u95 hX =>
  cases hX with
  | intro u96 hX =>
  cases hX with
  | intro u97 hX =>
  cases hX with
  | intro u98 hX =>
  cases hX with
  | intro u99 hX =>
  cases hX with
  | intro u100 hX =>
  cases hX with
  | intro u101 hX =>
  cases hX with
  | intro u102 hX =>
  cases hX with
  | intro u103 hX =>
  cases hX with
  | intro u104 hX =>
  cases hX with
  | intro u105 hX =>
  cases hX with
  | intro u106 hX =>
  cases hX with
  | intro u107 hX =>
  cases hX with
  | intro u108 hX =>
  cases hX with
  | intro u109 hX =>
  cases hX with
  | intro u110 hX =>
  cases hX with
  | intro u111 hX =>
  cases hX with
  | intro u112 hX =>
  cases hX with
  | intro u113 hX =>
  cases hX with
  | intro u114 hX =>
  cases hX with
  | intro u115 hX =>
  cases hX with
  | intro u116 hX =>
  cases hX with
  | intro u117 hX =>
  cases hX with
  | intro u118 hX =>
  cases hX with
  | intro u119 hX =>
  cases hX with
  | intro u120 hX =>
  cases hX with
  | intro u121 hX =>
  cases hX with
  | intro u122 hX =>
  cases hX with
  | intro u123 hX =>
  cases hX with
  | intro u124 hX =>
  cases hX with
  | intro u125 hX =>
  cases hX with
  | intro u126 hX =>
  cases hX with
  | intro u127 hX =>
  cases hX with
  | intro u128 hX =>
  cases hX with
  | intro u129 hX =>
  cases hX with
  | intro u130 hX =>
  cases hX with
  | intro u131 hX =>
  cases hX with
  | intro u132 hX =>
  cases hX with
  | intro u133 hX =>
  cases hX with
  | intro u134 hX =>
  cases hX with
  | intro u135 hX =>
  cases hX with
  | intro u136 hX =>
  cases hX with
  | intro u137 hX =>
  cases hX with
  | intro u138 hX =>
  cases hX with
  | intro u139 hX =>
  cases hX with
  | intro u140 hX =>
  cases hX with
  | intro u141 hX =>
  cases hX with
  | intro u142 hX =>
  cases hX with
  | intro u143 hX =>
  cases hX with
  | intro u144 hX =>
  cases hX with
  | intro u145 hX =>
  cases hX with
  | intro u146 hX =>
  cases hX with
  | intro u147 hX =>
  cases hX with
  | intro u148 hX =>
  cases hX with
  | intro u149 hX =>
  cases hX with
  | intro u150 hX =>
  cases hX with
  | intro u151 hX =>
  cases hX with
  | intro u152 hX =>
  cases hX with
  | intro u153 hX =>
  cases hX with
  | intro u154 hX =>
  cases hX with
  | intro u155 hX =>
  cases hX with
  | intro u156 hX =>
  cases hX with
  | intro u157 hX =>
  cases hX with
  | intro u158 hX =>
  cases hX with
  | intro u159 hX =>
  cases hX with
  | intro u160 hX =>
  cases hX with
  | intro u161 hX =>
  cases hX with
  | intro u162 hX =>
  cases hX with
  | intro u163 hX =>
  cases hX with
  | intro u164 hX =>
  cases hX with
  | intro u165 hX =>
  cases hX with
  | intro u166 hX =>
  cases hX with
  | intro u167 hX =>
  cases hX with
  | intro u168 hX =>
  cases hX with
  | intro u169 hX =>
  cases hX with
  | intro u170 hX =>
  cases hX with
  | intro u171 hX =>
  cases hX with
  | intro u172 hX =>
  cases hX with
  | intro u173 hX =>
  cases hX with
  | intro u174 hX =>
  cases hX with
  | intro u175 hX =>
  cases hX with
  | intro u176 hX =>
  cases hX with
  | intro u177 hX =>
  cases hX with
  | intro u178 hX =>
  cases hX with
  | intro u179 hX =>
  cases hX with
  | intro u180 hX =>
  cases hX with
  | intro u181 hX =>
  cases hX with
  | intro u182 hX =>
  cases hX with
  | intro u183 hX =>
  cases hX with
  | intro u184 hX =>
  cases hX with
  | intro u185 hX =>
  cases hX with
  | intro u186 hX =>
  cases hX with
  | intro u187 hX =>
  cases hX with
  | intro u188 hX =>
  cases hX with
  | intro u189 hX =>
  cases hX with
  | intro u190 hX =>
  cases hX with
  | intro u191 hX =>
  cases hX with
  | intro u192 hX =>
  cases hX with
  | intro u193 hX =>
  cases hX with
  | intro u194 hX =>
  cases hX with
  | intro u195 hX =>
  cases hX with
  | intro u196 hX =>
  cases hX with
  | intro u197 hX =>
  cases hX with
  | intro u198 hX =>
  cases hX with
  | intro u199 hX =>
  cases hX with
  | intro u200 hX =>
  cases hX with
  | intro u201 hX =>
  cases hX with
  | intro u202 hX =>
  cases hX with
  | intro u203 hX =>
  cases hX with
  | intro u204 hX =>
  cases hX with
  | intro u205 hX =>
  cases hX with
  | intro u206 hX =>
  cases hX with
  | intro u207 hX =>
  cases hX with
  | intro u208 hX =>
  cases hX with
  | intro u209 hX =>
  cases hX with
  | intro u210 hX =>
  cases hX with
  | intro u211 hX =>
  cases hX with
  | intro u212 hX =>
  cases hX with
  | intro u213 hX =>
  cases hX with
  | intro u214 hX =>
  cases hX with
  | intro u215 hX =>
  cases hX with
  | intro u216 hX =>
  cases hX with
  | intro u217 hX =>
  cases hX with
  | intro u218 hX =>
  cases hX with
  | intro u219 hX =>
  cases hX with
  | intro u220 hX =>
  cases hX with
  | intro u221 hX =>
  cases hX with
  | intro u222 hX =>
  cases hX with
  | intro u223 hX =>
  cases hX with
  | intro u224 hX =>
  cases hX with
  | intro u225 hX =>
  cases hX with
  | intro u226 hX =>
  cases hX with
  | intro u227 hX =>
  cases hX with
  | intro u228 hX =>
  cases hX with
  | intro u229 hX =>
  cases hX with
  | intro u230 hX =>
  cases hX with
  | intro u231 hX =>
  cases hX with
  | intro u232 hX =>
  cases hX with
  | intro u233 hX =>
  cases hX with
  | intro u234 hX =>
  cases hX with
  | intro u235 hX =>
  cases hX with
  | intro u236 hX =>
  cases hX with
  | intro u237 hX =>
  cases hX with
  | intro u238 hX =>
  cases hX with
  | intro u239 hX =>
  cases hX with
  | intro u240 hX =>
  cases hX with
  | intro u241 hX =>
  cases hX with
  | intro u242 hX =>
  cases hX with
  | intro u243 hX =>
  cases hX with
  | intro u244 hX =>
  cases hX with
  | intro u245 hX =>
  cases hX with
  | intro u246 hX =>
  cases hX with
  | intro u247 hX =>
  cases hX with
  | intro u248 hX =>
  cases hX with
  | intro u249 hX =>
  cases hX with
  | intro u250 hX =>
  cases hX with
  | intro u251 hX =>
  cases hX with
  | intro u252 hX =>
  cases hX with
  | intro u253 hX =>
  cases hX with
  | intro u254 hX =>
  cases hX with
  | intro u255 hX =>
  cases hX with
  | intro u256 hX =>
  cases hX with
  | intro u257 hX =>
  cases hX with
  | intro u258 hX =>
  cases hX with
  | intro u259 hX =>
  cases hX with
  | intro i hX =>
  cases hX with
  | intro s hX =>
  cases hX with
  | intro dv hX =>
  cases hX with
  | intro cs hX =>
  have he := hX.2.2
  subst he
  exact k u3 u4 u14 u15 u70 u71 u72 u73 u74 u75 u76 u77 u78 u79 u80 u81 u82 u83 u84 u85 u86 u87 u88 u89 u90 u91 u92 u93 u94 u95 u96 u97 u98 u99 u100 u101 u102 u103 u104 u105 u106 u107 u108 u109 u110 u111 u112 u113 u114 u115 u116 u117 u118 u119 u120 u121 u122 u123 u124 u125 u126 u127 u128 u129 u130 u131 u132 u133 u134 u135 u136 u137 u138 u139 u140 u141 u142 u143 u144 u145 u146 u147 u148 u149 u150 u151 u152 u153 u154 u155 u156 u157 u158 u159 u160 u161 u162 u163 u164 u165 u166 u167 u168 u169 u170 u171 u172 u173 u174 u175 u176 u177 u178 u179 u180 u181 u182 u183 u184 u185 u186 u187 u188 u189 u190 u191 u192 u193 u194 u195 u196 u197 u198 u199 u200 u201 u202 u203 u204 u205 u206 u207 u208 u209 u210 u211 u212 u213 u214 u215 u216 u217 u218 u219 u220 u221 u222 u223 u224 u225 u226 u227 u228 u229 u230 u231 u232 u233 u234 u235 u236 u237 u238 u239 u240 u241 u242 u243 u244 u245 u246 u247 u248 u249 u250 u251 u252 u253 u254 u255 u256 u257 u258 u259 i s dv cs hX.1 hX.2.1

end
end Go.Proofs.Ytedffeimcccobaa
