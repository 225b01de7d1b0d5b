/- The document's hash: the loop of a block's rounds. -/
import Derived.Test.YtgemmidkfeebfaaDoorHaM
import Derived.BigQuiet
set_option maxRecDepth 1000000
set_option linter.unusedVariables false
namespace Go.Proofs.YtgemmidkfeebfaaDoor
set_option maxRecDepth 100000
open Go Go.RowKit
theorem i64_andN (a b : Nat) (ha : a < 9223372036854775808) (hb : b < 9223372036854775808) : bits .and .i64 (a : Int) (b : Int) = ((a &&& b : Nat) : Int) := by
  have hx : a &&& b < 2 ^ 63 := Nat.lt_of_le_of_lt Nat.and_le_left (by omega)
  show IntKind.i64.wrap ((BitVec.ofInt 64 (a : Int) &&& BitVec.ofInt 64 (b : Int)).toNat : Int) = _
  rw [BitVec.toNat_and, ofInt_i64 a ha, ofInt_i64 b hb]
  exact wraps_i64 _ (by omega) (by omega)
theorem shaX_sum {a b c d e f g h K X m2 c3 : Nat} (hm : m2 = rotT e 6 ^^^ rotT e 11 ^^^ rotT e 25) (hc : c3 = (e &&& f) ^^^ ((4294967295 - e) &&& g)) : shaX [a, b, c, d, e, f, g, h] K X = (h + m2 + c3 + K + X) % 4294967296 := by
  show (h + (rotT e 6 ^^^ rotT e 11 ^^^ rotT e 25) + ((e &&& f) ^^^ ((4294967295 - e) &&& g)) + K + X) % 4294967296 = _
  rw [← hm, ← hc]
theorem VI.of8 {w : World} {gv : Nat} {t : TypeId} {a b c d e f g h : Nat} (hI : Is w gv t #[.int .i64 a, .int .i64 b, .int .i64 c, .int .i64 d, .int .i64 e, .int .i64 f, .int .i64 g, .int .i64 h]) : VI w gv [a, b, c, d, e, f, g, h] := by
  intro i hi
  rw [hI.cell]
  match i, hi with
  | 0, _ => rfl
  | 1, _ => rfl
  | 2, _ => rfl
  | 3, _ => rfl
  | 4, _ => rfl
  | 5, _ => rfl
  | 6, _ => rfl
  | 7, _ => rfl
attribute [local irreducible] rowZ rotT kSha roundsS roundS shaX shaY
set_option maxHeartbeats 8000000 in
theorem eround_loop {wr : World} {gk g6 gv0 cv0 : Nat} {h0 X : List Nat} {Q0 : Exit → Act → World → Prop} {c0 c1 c2 c3 c5 c7 c8 c9 c10 c17 c18 c19 c20 c21 c22 c23 c24 c25 c26 c27 c28 c29 c30 c31 c32 c33 c34 c35 c36 c37 c38 c39 c40 c41 c42 c43 c44 c45 c46 c47 c48 c49 c50 c51 c52 c53 c54 c55 c56 c57 c58 c59 c60 c61 c62 c63 c64 c65 c66 c67 c68 c69 c70 c71 c72 c73 c74 c75 c76 c77 c78 c79 c80 c81 c82 c83 c84 c85 c86 c87 c88 c89 c90 c91 c92 c93 c94 c95 c96 c97 c98 c99 c100 c101 c102 c103 c104 c105 c106 c107 c108 c109 c110 c111 c112 c113 c114 c115 c116 c117 c222 c223 c224 c225 c226 c227 c228 c229 c230 c231 c232 c233 c234 c235 c236 c237 c238 c239 c240 c241 c242 c243 c244 c245 c246 c247 c248 c249 c250 c251 c252 c253 c254 c255 c256 c257 c258 c259 c260 c261 c262 c263 c264 c265 c266 c267 c268 c269 c270 c271 c272 u13 u14 u15 u16 u118 u119 u120 u121 u122 u123 u124 u125 u126 u127 u128 u129 u130 u131 u132 u133 u134 u135 u136 u137 u138 u139 u140 u141 u142 u143 u144 u145 u146 u147 u148 u149 u150 u151 u152 u153 u154 u155 u156 u157 u158 u159 u160 u161 u162 u163 u164 u165 u166 u167 u168 u169 u170 u171 u172 u173 u174 u175 u176 u177 u178 u179 u180 u181 u182 u183 u184 u185 u186 u187 u188 u189 u190 u191 u192 u193 u194 u195 u196 u197 u198 u199 u200 u201 u202 u203 u204 u205 u206 u207 u208 u209 u210 u211 u212 u213 u214 u215 u216 u217 u218 u219 u220 u221 : Value} (hIk : Is wr gk 3 (rowZ kSha 64)) (hIx : Is wr g6 3 (rowZ X 64)) (hXl : X.length = 64) (hXs : Small X) (hl : h0.length = 8) (hs : Small h0) (hV : VI wr gv0 h0) (hpan : ∀ (c : List PanicEntry) (a : Act) (d : Option Tmp) (v : Value) (w : World), Q0 (.panic c) (a.put d v) w → Q0 (.panic c) a w)
    (hK : ∀ (v13 v14 v15 v16 v118 v119 v120 v121 v122 v123 v124 v125 v126 v127 v128 v129 v130 v131 v132 v133 v134 v135 v136 v137 v138 v139 v140 v141 v142 v143 v144 v145 v146 v147 v148 v149 v150 v151 v152 v153 v154 v155 v156 v157 v158 v159 v160 v161 v162 v163 v164 v165 v166 v167 v168 v169 v170 v171 v172 v173 v174 v175 v176 v177 v178 v179 v180 v181 v182 v183 v184 v185 v186 v187 v188 v189 v190 v191 v192 v193 v194 v195 v196 v197 v198 v199 v200 v201 v202 v203 v204 v205 v206 v207 v208 v209 v210 v211 v212 v213 v214 v215 v216 v217 v218 v219 v220 v221 : Value) w1 gv cv, VI w1 gv (roundsS X h0 64) → (gv = gv0 ∨ wr.heap.size ≤ gv) → But [] wr w1 → Q0 (.exit 6) ⟨(c0 :: c1 :: c2 :: c3 :: .slice (some ⟨gk, 0, none⟩) 64 64 :: c5 :: .slice (some ⟨g6, 0, none⟩) 64 64 :: c7 :: c8 :: c9 :: c10 :: .slice (some ⟨gv, 0, none⟩) 8 cv :: .int .i64 64 :: v13 :: v14 :: v15 :: v16 :: c17 :: c18 :: c19 :: c20 :: c21 :: c22 :: c23 :: c24 :: c25 :: c26 :: c27 :: c28 :: c29 :: c30 :: c31 :: c32 :: c33 :: c34 :: c35 :: c36 :: c37 :: c38 :: c39 :: c40 :: c41 :: c42 :: c43 :: c44 :: c45 :: c46 :: c47 :: c48 :: c49 :: c50 :: c51 :: c52 :: c53 :: c54 :: c55 :: c56 :: c57 :: c58 :: c59 :: c60 :: c61 :: c62 :: c63 :: c64 :: c65 :: c66 :: c67 :: c68 :: c69 :: c70 :: c71 :: c72 :: c73 :: c74 :: c75 :: c76 :: c77 :: c78 :: c79 :: c80 :: c81 :: c82 :: c83 :: c84 :: c85 :: c86 :: c87 :: c88 :: c89 :: c90 :: c91 :: c92 :: c93 :: c94 :: c95 :: c96 :: c97 :: c98 :: c99 :: c100 :: c101 :: c102 :: c103 :: c104 :: c105 :: c106 :: c107 :: c108 :: c109 :: c110 :: c111 :: c112 :: c113 :: c114 :: c115 :: c116 :: c117 :: v118 :: v119 :: v120 :: v121 :: v122 :: v123 :: v124 :: v125 :: v126 :: v127 :: v128 :: v129 :: v130 :: v131 :: v132 :: v133 :: v134 :: v135 :: v136 :: v137 :: v138 :: v139 :: v140 :: v141 :: v142 :: v143 :: v144 :: v145 :: v146 :: v147 :: v148 :: v149 :: v150 :: v151 :: v152 :: v153 :: v154 :: v155 :: v156 :: v157 :: v158 :: v159 :: v160 :: v161 :: v162 :: v163 :: v164 :: v165 :: v166 :: v167 :: v168 :: v169 :: v170 :: v171 :: v172 :: v173 :: v174 :: v175 :: v176 :: v177 :: v178 :: v179 :: v180 :: v181 :: v182 :: v183 :: v184 :: v185 :: v186 :: v187 :: v188 :: v189 :: v190 :: v191 :: v192 :: v193 :: v194 :: v195 :: v196 :: v197 :: v198 :: v199 :: v200 :: v201 :: v202 :: v203 :: v204 :: v205 :: v206 :: v207 :: v208 :: v209 :: v210 :: v211 :: v212 :: v213 :: v214 :: v215 :: v216 :: v217 :: v218 :: v219 :: v220 :: v221 :: c222 :: c223 :: c224 :: c225 :: c226 :: c227 :: c228 :: c229 :: c230 :: c231 :: c232 :: c233 :: c234 :: c235 :: c236 :: c237 :: c238 :: c239 :: c240 :: c241 :: c242 :: c243 :: c244 :: c245 :: c246 :: c247 :: c248 :: c249 :: c250 :: c251 :: c252 :: c253 :: c254 :: c255 :: c256 :: c257 :: c258 :: c259 :: c260 :: c261 :: c262 :: c263 :: c264 :: c265 :: c266 :: c267 :: c268 :: c269 :: c270 :: c271 :: c272 :: []).toArray, []⟩ w1) :
    Code.wp Tryd.prog (Code.loop (eInner 2)) Q0 ⟨(c0 :: c1 :: c2 :: c3 :: .slice (some ⟨gk, 0, none⟩) 64 64 :: c5 :: .slice (some ⟨g6, 0, none⟩) 64 64 :: c7 :: c8 :: c9 :: c10 :: .slice (some ⟨gv0, 0, none⟩) 8 cv0 :: .int .i64 0 :: u13 :: u14 :: u15 :: u16 :: c17 :: c18 :: c19 :: c20 :: c21 :: c22 :: c23 :: c24 :: c25 :: c26 :: c27 :: c28 :: c29 :: c30 :: c31 :: c32 :: c33 :: c34 :: c35 :: c36 :: c37 :: c38 :: c39 :: c40 :: c41 :: c42 :: c43 :: c44 :: c45 :: c46 :: c47 :: c48 :: c49 :: c50 :: c51 :: c52 :: c53 :: c54 :: c55 :: c56 :: c57 :: c58 :: c59 :: c60 :: c61 :: c62 :: c63 :: c64 :: c65 :: c66 :: c67 :: c68 :: c69 :: c70 :: c71 :: c72 :: c73 :: c74 :: c75 :: c76 :: c77 :: c78 :: c79 :: c80 :: c81 :: c82 :: c83 :: c84 :: c85 :: c86 :: c87 :: c88 :: c89 :: c90 :: c91 :: c92 :: c93 :: c94 :: c95 :: c96 :: c97 :: c98 :: c99 :: c100 :: c101 :: c102 :: c103 :: c104 :: c105 :: c106 :: c107 :: c108 :: c109 :: c110 :: c111 :: c112 :: c113 :: c114 :: c115 :: c116 :: c117 :: u118 :: u119 :: u120 :: u121 :: u122 :: u123 :: u124 :: u125 :: u126 :: u127 :: u128 :: u129 :: u130 :: u131 :: u132 :: u133 :: u134 :: u135 :: u136 :: u137 :: u138 :: u139 :: u140 :: u141 :: u142 :: u143 :: u144 :: u145 :: u146 :: u147 :: u148 :: u149 :: u150 :: u151 :: u152 :: u153 :: u154 :: u155 :: u156 :: u157 :: u158 :: u159 :: u160 :: u161 :: u162 :: u163 :: u164 :: u165 :: u166 :: u167 :: u168 :: u169 :: u170 :: u171 :: u172 :: u173 :: u174 :: u175 :: u176 :: u177 :: u178 :: u179 :: u180 :: u181 :: u182 :: u183 :: u184 :: u185 :: u186 :: u187 :: u188 :: u189 :: u190 :: u191 :: u192 :: u193 :: u194 :: u195 :: u196 :: u197 :: u198 :: u199 :: u200 :: u201 :: u202 :: u203 :: u204 :: u205 :: u206 :: u207 :: u208 :: u209 :: u210 :: u211 :: u212 :: u213 :: u214 :: u215 :: u216 :: u217 :: u218 :: u219 :: u220 :: u221 :: c222 :: c223 :: c224 :: c225 :: c226 :: c227 :: c228 :: c229 :: c230 :: c231 :: c232 :: c233 :: c234 :: c235 :: c236 :: c237 :: c238 :: c239 :: c240 :: c241 :: c242 :: c243 :: c244 :: c245 :: c246 :: c247 :: c248 :: c249 :: c250 :: c251 :: c252 :: c253 :: c254 :: c255 :: c256 :: c257 :: c258 :: c259 :: c260 :: c261 :: c262 :: c263 :: c264 :: c265 :: c266 :: c267 :: c268 :: c269 :: c270 :: c271 :: c272 :: []).toArray, []⟩ wr := by
  have HPN := Lib.hid hpan
  have HK := Lib.hid hK
  have HIK := Lib.hid hIk
  have HIX := Lib.hid hIx
  have HXL := Lib.hid hXl
  have HXS := Lib.hid hXs
  have HHS := Lib.hid hs
  have HHL := Lib.hid hl
  have HV0 : Hid (VI wr gv0 (roundsS X h0 0)) := Lib.hid (by unfold roundsS; exact hV)
  have HB0 : Hid (But [] wr wr) := Lib.hid (But.refl _ _)
  obtain ⟨wz, hwz⟩ : ∃ W, W = wr := ⟨wr, rfl⟩
  have HWZ := Lib.hid hwz
  conv => arg 2; arg 1; whnf
  clear hpan hK hIk hIx hXl hXs hs hl hV hwz
  go_loopw [11, 12] (fun vv kv wx => ∃ k gv cv : Nat, k ≤ 64 ∧ kv = .int .i64 k ∧ vv = .slice (some ⟨gv, 0, none⟩) 8 cv ∧ Hid (VI wx gv (roundsS X h0 k)) ∧ (gv = gv0 ∨ Hid (wz.heap.size ≤ gv)) ∧ Hid (But [] wz wx)) (fun _ kv _ => 64 - (intOf kv).toNat)
  case atStart => exact ⟨0, gv0, cv0, Nat.zero_le _, rfl, rfl, HV0, .inl rfl, by rw [HWZ.out]; exact HB0⟩
  case round =>
    clear HV0 HB0
    obtain ⟨k, gv, cv, hk, rfl, rfl, HV, hgv, HB⟩ := hrel
    by_cases hlt : k < 64
    · obtain ⟨a, b, c, d, e, f, g, h, hR⟩ := list8 (roundsS_length (X := X) HHL.out k)
      obtain ⟨l_a, l_b, l_c, l_d, l_e, l_f, l_g, l_h⟩ : a < 4294967296 ∧ b < 4294967296 ∧ c < 4294967296 ∧ d < 4294967296 ∧ e < 4294967296 ∧ f < 4294967296 ∧ g < 4294967296 ∧ h < 4294967296 := small8 (by rw [← hR]; exact small_rounds X HHS.out k)
      have HR := Lib.hid hR
      rw [hR] at HV
      obtain ⟨K, hK⟩ : ∃ z, z = kSha.getD k 0 := ⟨_, rfl⟩
      obtain ⟨X0, hX0⟩ : ∃ z, z = X.getD k 0 := ⟨_, rfl⟩
      have l_K : K < 4294967296 := by rw [hK]; exact small_kSha k
      have l_X0 : X0 < 4294967296 := by rw [hX0]; exact HXS.out k
      have hBx : But [] wz wr := HB.out
      have cK : wr.cell? ⟨gk, k, none⟩ = some (.int .i64 (K : Nat)) := by
        rw [(HIK.out.but (by rw [← HWZ.out]; exact hBx) (by simp)).cell, rowZ_get (by rw [kSha_length]; exact hlt), hK]
      have cX : wr.cell? ⟨g6, k, none⟩ = some (.int .i64 (X0 : Nat)) := by
        rw [(HIX.out.but (by rw [← HWZ.out]; exact hBx) (by simp)).cell, rowZ_get (by rw [HXL.out]; exact hlt), hX0]
      have p0 := HV.out 0 (by decide)
      have p1 := HV.out 1 (by decide)
      have p2 := HV.out 2 (by decide)
      have p4 := HV.out 4 (by decide)
      have p5 := HV.out 5 (by decide)
      have p6 := HV.out 6 (by decide)
      have p7 := HV.out 7 (by decide)
      have H_r6 : Hid (∀ W, Calls Tryd.prog 17 #[.int .i64 (e : Int), .int .i64 6] W fun er w' => er = .returned (.int .i64 ((rotT e 6 : Nat) : Int)) ∧ ∃ q, w' = W.drewN q) := Lib.hid fun W => eturned_any W (n := 6) l_e (by decide) (by decide)
      obtain ⟨r6, h_r6⟩ : ∃ z, z = rotT e 6 := ⟨_, rfl⟩
      have l_r6 : r6 < 4294967296 := by rw [h_r6]; exact rotT_lt _ _
      rw [← h_r6] at H_r6
      have H_r11 : Hid (∀ W, Calls Tryd.prog 17 #[.int .i64 (e : Int), .int .i64 11] W fun er w' => er = .returned (.int .i64 ((rotT e 11 : Nat) : Int)) ∧ ∃ q, w' = W.drewN q) := Lib.hid fun W => eturned_any W (n := 11) l_e (by decide) (by decide)
      obtain ⟨r11, h_r11⟩ : ∃ z, z = rotT e 11 := ⟨_, rfl⟩
      have l_r11 : r11 < 4294967296 := by rw [h_r11]; exact rotT_lt _ _
      rw [← h_r11] at H_r11
      have H_r25 : Hid (∀ W, Calls Tryd.prog 17 #[.int .i64 (e : Int), .int .i64 25] W fun er w' => er = .returned (.int .i64 ((rotT e 25 : Nat) : Int)) ∧ ∃ q, w' = W.drewN q) := Lib.hid fun W => eturned_any W (n := 25) l_e (by decide) (by decide)
      obtain ⟨r25, h_r25⟩ : ∃ z, z = rotT e 25 := ⟨_, rfl⟩
      have l_r25 : r25 < 4294967296 := by rw [h_r25]; exact rotT_lt _ _
      rw [← h_r25] at H_r25
      obtain ⟨m1, h_m1⟩ : ∃ z, z = r6 ^^^ r11 := ⟨_, rfl⟩
      have l_m1 : m1 < 4294967296 := by rw [h_m1]; exact Nat.xor_lt_two_pow (n := 32) l_r6 l_r11
      have f_m1 : bits .xor .i64 (r6 : Int) (r11 : Int) = (m1 : Int) := by rw [i64_xor _ _ (by omega) (by omega), h_m1]
      obtain ⟨m2, h_m2⟩ : ∃ z, z = m1 ^^^ r25 := ⟨_, rfl⟩
      have l_m2 : m2 < 4294967296 := by rw [h_m2]; exact Nat.xor_lt_two_pow (n := 32) l_m1 l_r25
      have f_m2 : bits .xor .i64 (m1 : Int) (r25 : Int) = (m2 : Int) := by rw [i64_xor _ _ (by omega) (by omega), h_m2]
      obtain ⟨c1, h_c1⟩ : ∃ z, z = e &&& f := ⟨_, rfl⟩
      have l_c1 : c1 < 4294967296 := by rw [h_c1]; exact Nat.lt_of_le_of_lt Nat.and_le_left l_e
      have f_c1 : bits .and .i64 (e : Int) (f : Int) = (c1 : Int) := by rw [i64_andN _ _ (by omega) (by omega), h_c1]
      obtain ⟨ne, h_ne⟩ : ∃ z, z = 4294967295 - e := ⟨_, rfl⟩
      have l_ne : ne < 4294967296 := by omega
      have f_ne : (4294967295 : Int) - (e : Int) = (ne : Int) := by omega
      have v_ne := wrapI_in (show ne < 1000000000000000 by omega)
      obtain ⟨c2, h_c2⟩ : ∃ z, z = ne &&& g := ⟨_, rfl⟩
      have l_c2 : c2 < 4294967296 := by rw [h_c2]; exact Nat.lt_of_le_of_lt Nat.and_le_left l_ne
      have f_c2 : bits .and .i64 (ne : Int) (g : Int) = (c2 : Int) := by rw [i64_andN _ _ (by omega) (by omega), h_c2]
      obtain ⟨c3, h_c3⟩ : ∃ z, z = c1 ^^^ c2 := ⟨_, rfl⟩
      have l_c3 : c3 < 4294967296 := by rw [h_c3]; exact Nat.xor_lt_two_pow (n := 32) l_c1 l_c2
      have f_c3 : bits .xor .i64 (c1 : Int) (c2 : Int) = (c3 : Int) := by rw [i64_xor _ _ (by omega) (by omega), h_c3]
      obtain ⟨q1, h_q1⟩ : ∃ z, z = h + m2 := ⟨_, rfl⟩
      have f_q1 : (h : Int) + (m2 : Int) = (q1 : Int) := by omega
      have v_q1 := wrapI_in (show q1 < 1000000000000000 by omega)
      obtain ⟨q2, h_q2⟩ : ∃ z, z = q1 + c3 := ⟨_, rfl⟩
      have f_q2 : (q1 : Int) + (c3 : Int) = (q2 : Int) := by omega
      have v_q2 := wrapI_in (show q2 < 1000000000000000 by omega)
      obtain ⟨q3, h_q3⟩ : ∃ z, z = q2 + K := ⟨_, rfl⟩
      have f_q3 : (q2 : Int) + (K : Int) = (q3 : Int) := by omega
      have v_q3 := wrapI_in (show q3 < 1000000000000000 by omega)
      obtain ⟨q4, h_q4⟩ : ∃ z, z = q3 + X0 := ⟨_, rfl⟩
      have f_q4 : (q3 : Int) + (X0 : Int) = (q4 : Int) := by omega
      have v_q4 := wrapI_in (show q4 < 1000000000000000 by omega)
      obtain ⟨u, h_u⟩ : ∃ z, z = q4 % 4294967296 := ⟨_, rfl⟩
      have l_u : u < 4294967296 := by rw [h_u]; exact Nat.mod_lt _ (by decide)
      have f_u : (q4 : Int) % 4294967296 = (u : Int) := by omega
      have t_u : (q4 : Int).tmod 4294967296 = (u : Int) := by rw [Int.tmod_eq_emod_of_nonneg (by omega)]; omega
      have v_u := wrapI_in (show u < 1000000000000000 by omega)
      have H_r2 : Hid (∀ W, Calls Tryd.prog 17 #[.int .i64 (a : Int), .int .i64 2] W fun er w' => er = .returned (.int .i64 ((rotT a 2 : Nat) : Int)) ∧ ∃ q, w' = W.drewN q) := Lib.hid fun W => eturned_any W (n := 2) l_a (by decide) (by decide)
      obtain ⟨r2, h_r2⟩ : ∃ z, z = rotT a 2 := ⟨_, rfl⟩
      have l_r2 : r2 < 4294967296 := by rw [h_r2]; exact rotT_lt _ _
      rw [← h_r2] at H_r2
      have H_r13 : Hid (∀ W, Calls Tryd.prog 17 #[.int .i64 (a : Int), .int .i64 13] W fun er w' => er = .returned (.int .i64 ((rotT a 13 : Nat) : Int)) ∧ ∃ q, w' = W.drewN q) := Lib.hid fun W => eturned_any W (n := 13) l_a (by decide) (by decide)
      obtain ⟨r13, h_r13⟩ : ∃ z, z = rotT a 13 := ⟨_, rfl⟩
      have l_r13 : r13 < 4294967296 := by rw [h_r13]; exact rotT_lt _ _
      rw [← h_r13] at H_r13
      have H_r22 : Hid (∀ W, Calls Tryd.prog 17 #[.int .i64 (a : Int), .int .i64 22] W fun er w' => er = .returned (.int .i64 ((rotT a 22 : Nat) : Int)) ∧ ∃ q, w' = W.drewN q) := Lib.hid fun W => eturned_any W (n := 22) l_a (by decide) (by decide)
      obtain ⟨r22, h_r22⟩ : ∃ z, z = rotT a 22 := ⟨_, rfl⟩
      have l_r22 : r22 < 4294967296 := by rw [h_r22]; exact rotT_lt _ _
      rw [← h_r22] at H_r22
      obtain ⟨n1, h_n1⟩ : ∃ z, z = r2 ^^^ r13 := ⟨_, rfl⟩
      have l_n1 : n1 < 4294967296 := by rw [h_n1]; exact Nat.xor_lt_two_pow (n := 32) l_r2 l_r13
      have f_n1 : bits .xor .i64 (r2 : Int) (r13 : Int) = (n1 : Int) := by rw [i64_xor _ _ (by omega) (by omega), h_n1]
      obtain ⟨n2, h_n2⟩ : ∃ z, z = n1 ^^^ r22 := ⟨_, rfl⟩
      have l_n2 : n2 < 4294967296 := by rw [h_n2]; exact Nat.xor_lt_two_pow (n := 32) l_n1 l_r22
      have f_n2 : bits .xor .i64 (n1 : Int) (r22 : Int) = (n2 : Int) := by rw [i64_xor _ _ (by omega) (by omega), h_n2]
      obtain ⟨d1, h_d1⟩ : ∃ z, z = a &&& b := ⟨_, rfl⟩
      have l_d1 : d1 < 4294967296 := by rw [h_d1]; exact Nat.lt_of_le_of_lt Nat.and_le_left l_a
      have f_d1 : bits .and .i64 (a : Int) (b : Int) = (d1 : Int) := by rw [i64_andN _ _ (by omega) (by omega), h_d1]
      obtain ⟨d2, h_d2⟩ : ∃ z, z = a &&& c := ⟨_, rfl⟩
      have l_d2 : d2 < 4294967296 := by rw [h_d2]; exact Nat.lt_of_le_of_lt Nat.and_le_left l_a
      have f_d2 : bits .and .i64 (a : Int) (c : Int) = (d2 : Int) := by rw [i64_andN _ _ (by omega) (by omega), h_d2]
      obtain ⟨d3, h_d3⟩ : ∃ z, z = d1 ^^^ d2 := ⟨_, rfl⟩
      have l_d3 : d3 < 4294967296 := by rw [h_d3]; exact Nat.xor_lt_two_pow (n := 32) l_d1 l_d2
      have f_d3 : bits .xor .i64 (d1 : Int) (d2 : Int) = (d3 : Int) := by rw [i64_xor _ _ (by omega) (by omega), h_d3]
      obtain ⟨d4, h_d4⟩ : ∃ z, z = b &&& c := ⟨_, rfl⟩
      have l_d4 : d4 < 4294967296 := by rw [h_d4]; exact Nat.lt_of_le_of_lt Nat.and_le_left l_b
      have f_d4 : bits .and .i64 (b : Int) (c : Int) = (d4 : Int) := by rw [i64_andN _ _ (by omega) (by omega), h_d4]
      obtain ⟨d5, h_d5⟩ : ∃ z, z = d3 ^^^ d4 := ⟨_, rfl⟩
      have l_d5 : d5 < 4294967296 := by rw [h_d5]; exact Nat.xor_lt_two_pow (n := 32) l_d3 l_d4
      have f_d5 : bits .xor .i64 (d3 : Int) (d4 : Int) = (d5 : Int) := by rw [i64_xor _ _ (by omega) (by omega), h_d5]
      obtain ⟨yy, h_yy⟩ : ∃ z, z = n2 + d5 := ⟨_, rfl⟩
      have f_yy : (n2 : Int) + (d5 : Int) = (yy : Int) := by omega
      have v_yy := wrapI_in (show yy < 1000000000000000 by omega)
      obtain ⟨y, h_y⟩ : ∃ z, z = yy % 4294967296 := ⟨_, rfl⟩
      have l_y : y < 4294967296 := by rw [h_y]; exact Nat.mod_lt _ (by decide)
      have f_y : (yy : Int) % 4294967296 = (y : Int) := by omega
      have t_y : (yy : Int).tmod 4294967296 = (y : Int) := by rw [Int.tmod_eq_emod_of_nonneg (by omega)]; omega
      have v_y := wrapI_in (show y < 1000000000000000 by omega)
      obtain ⟨nas, h_nas⟩ : ∃ z, z = u + y := ⟨_, rfl⟩
      have f_nas : (u : Int) + (y : Int) = (nas : Int) := by omega
      have v_nas := wrapI_in (show nas < 1000000000000000 by omega)
      obtain ⟨na, h_na⟩ : ∃ z, z = nas % 4294967296 := ⟨_, rfl⟩
      have l_na : na < 4294967296 := by rw [h_na]; exact Nat.mod_lt _ (by decide)
      have f_na : (nas : Int) % 4294967296 = (na : Int) := by omega
      have t_na : (nas : Int).tmod 4294967296 = (na : Int) := by rw [Int.tmod_eq_emod_of_nonneg (by omega)]; omega
      have v_na := wrapI_in (show na < 1000000000000000 by omega)
      obtain ⟨nds, h_nds⟩ : ∃ z, z = d + u := ⟨_, rfl⟩
      have f_nds : (d : Int) + (u : Int) = (nds : Int) := by omega
      have v_nds := wrapI_in (show nds < 1000000000000000 by omega)
      obtain ⟨nd, h_nd⟩ : ∃ z, z = nds % 4294967296 := ⟨_, rfl⟩
      have l_nd : nd < 4294967296 := by rw [h_nd]; exact Nat.mod_lt _ (by decide)
      have f_nd : (nds : Int) % 4294967296 = (nd : Int) := by omega
      have t_nd : (nds : Int).tmod 4294967296 = (nd : Int) := by rw [Int.tmod_eq_emod_of_nonneg (by omega)]; omega
      have v_nd := wrapI_in (show nd < 1000000000000000 by omega)
      have HNX : Hid (roundsS X h0 (k + 1) = [na, a, b, c, nd, e, f, g]) := Lib.hid (by
        have e1 : shaX [a, b, c, d, e, f, g, h] K X0 = u := by
          rw [shaX_sum (m2 := m2) (c3 := c3) (by rw [h_m2, h_m1, h_r6, h_r11, h_r25]) (by rw [h_c3, h_c1, h_c2, h_ne])]
          rw [h_u, h_q4, h_q3, h_q2, h_q1]
        have e2 : shaY [a, b, c, d, e, f, g, h] = y := by
          rw [shaY_of (n2 := n2) (d5 := d5) (by rw [h_n2, h_n1, h_r2, h_r13, h_r22]) (by rw [h_d5, h_d3, h_d1, h_d2, h_d4]), h_y, h_yy]
        rw [roundsS_succ, HR.out, ← hK, ← hX0, roundS_of, e1, e2, h_na, h_nas, h_nd, h_nds])
      have k0 : (0 : Int) ≤ (k : Int) := by omega
      have k64 : (k : Int) < 64 := by omega
      have HLT := Lib.hid hlt
      clear hR hK hX0 hBx hlt h_r6 h_r11 h_r25 h_m1 h_m2 h_c1 h_ne h_c2 h_c3 h_q1 h_q2 h_q3 h_q4 h_u h_r2 h_r13 h_r22 h_n1 h_n2 h_d1 h_d2 h_d3 h_d4 h_d5 h_yy h_y h_nas h_na h_nds h_nd
      clear l_a l_b l_c l_d l_e l_f l_g l_h l_K l_X0 l_r6 l_r11 l_r25 l_m1 l_m2 l_c1 l_ne l_c2 l_c3 l_u l_r2 l_r13 l_r22 l_n1 l_n2 l_d1 l_d2 l_d3 l_d4 l_d5 l_y l_na l_nd
      go_upto_region 22 with (fail)
      go_quiet ((go_at_call 17; with_reducible first | exact Calls.quiet_of (H_r6.out _) | exact Calls.quiet_of (H_r11.out _) | exact Calls.quiet_of (H_r25.out _)))
      have hW1B := (But.refl [] wr).drewN nq
      have p0 := (HV.out.but hW1B (by simp)) 0 (by decide)
      have p1 := (HV.out.but hW1B (by simp)) 1 (by decide)
      have p2 := (HV.out.but hW1B (by simp)) 2 (by decide)
      have HV1 := Lib.hid (HV.out.but hW1B (by simp))
      have HB1 := Lib.hid (HB.out.trans hW1B)
      obtain ⟨W1, hW1⟩ : ∃ W, W = wr.drewN nq := ⟨_, rfl⟩
      rw [← hW1] at p0 p1 p2 HV1 HB1 ⊢
      clear hW1 hW1B cK cX p4 p5 p6 p7 HV HB H_r6 H_r11 H_r25
      go_upto_region 23 with (fail)
      go_quiet ((go_at_call 17; with_reducible first | exact Calls.quiet_of (H_r2.out _) | exact Calls.quiet_of (H_r13.out _) | exact Calls.quiet_of (H_r22.out _)))
      have hW2B := (But.refl [] W1).drewN nq
      have HCV : Hid (∀ W, But [] (W1.drewN nq) W → ∀ i, i < 8 → W.cell? ⟨gv, i, none⟩ = some (.int .i64 ([a, b, c, d, e, f, g, h].getD i 0 : Nat))) := Lib.hid fun W hW i hi => ((HV1.out.but hW2B (by simp)).but hW (by simp)) i hi
      have HBW := Lib.hid (HB1.out.trans hW2B)
      obtain ⟨W2, hW2⟩ : ∃ W, W = W1.drewN nq := ⟨_, rfl⟩
      rw [← hW2] at HCV HBW ⊢
      clear hW2 hW2B p0 p1 p2 HV1 HB1 H_r2 H_r13 H_r22
      go_upto_region 24 with (fail)
      refine wp_region_m (S := fun v => But [] W2 v) (R := fun v v' => But [] v v') (fun w => But.refl [] w) (by kernel_rfl) (But.refl [] W2).drew ?_
      refine rdk 0 (.int .i64 (u : Int)) ?_ (hQ := fun _ _ _ h => HPN.out _ _ _ _ _ h)
      refine rdk 1 (.int .i64 (y : Int)) ?_ (hQ := fun _ _ _ h => HPN.out _ _ _ _ _ h)
      refine rdk 2 (.int .i64 (nas : Int)) ?_ (hQ := fun _ _ _ h => HPN.out _ _ _ _ _ h)
      refine rdk 3 (.int .i64 (na : Int)) ?_ (hQ := fun _ _ _ h => HPN.out _ _ _ _ _ h)
      refine rdk 4 (.slice (some ⟨gv, 0, none⟩) 8 cv) ?_ (hQ := fun _ _ _ h => HPN.out _ _ _ _ _ h)
      refine rdk 5 (.pointer (some ⟨gv, 0, none⟩)) ?_ (hQ := fun _ _ _ h => HPN.out _ _ _ _ _ h)
      refine rdq 6 (.int .i64 (a : Int)) ?_ ?_ (hQ := fun _ _ _ h => HPN.out _ _ _ _ _ h)
      · intro W hS
        have cc := HCV.out W hS 0 (by decide)
        go_simp
      refine rdk 7 (.slice (some ⟨gv, 0, none⟩) 8 cv) ?_ (hQ := fun _ _ _ h => HPN.out _ _ _ _ _ h)
      refine rdk 8 (.pointer (some ⟨gv, 1, none⟩)) ?_ (hQ := fun _ _ _ h => HPN.out _ _ _ _ _ h)
      refine rdq 9 (.int .i64 (b : Int)) ?_ ?_ (hQ := fun _ _ _ h => HPN.out _ _ _ _ _ h)
      · intro W hS
        have cc := HCV.out W hS 1 (by decide)
        go_simp
      refine rdk 10 (.slice (some ⟨gv, 0, none⟩) 8 cv) ?_ (hQ := fun _ _ _ h => HPN.out _ _ _ _ _ h)
      refine rdk 11 (.pointer (some ⟨gv, 2, none⟩)) ?_ (hQ := fun _ _ _ h => HPN.out _ _ _ _ _ h)
      refine rdq 12 (.int .i64 (c : Int)) ?_ ?_ (hQ := fun _ _ _ h => HPN.out _ _ _ _ _ h)
      · intro W hS
        have cc := HCV.out W hS 2 (by decide)
        go_simp
      refine rdk 13 (.slice (some ⟨gv, 0, none⟩) 8 cv) ?_ (hQ := fun _ _ _ h => HPN.out _ _ _ _ _ h)
      refine rdk 14 (.pointer (some ⟨gv, 3, none⟩)) ?_ (hQ := fun _ _ _ h => HPN.out _ _ _ _ _ h)
      refine rdq 15 (.int .i64 (d : Int)) ?_ ?_ (hQ := fun _ _ _ h => HPN.out _ _ _ _ _ h)
      · intro W hS
        have cc := HCV.out W hS 3 (by decide)
        go_simp
      refine rdk 16 (.int .i64 (u : Int)) ?_ (hQ := fun _ _ _ h => HPN.out _ _ _ _ _ h)
      refine rdk 17 (.int .i64 (nds : Int)) ?_ (hQ := fun _ _ _ h => HPN.out _ _ _ _ _ h)
      refine rdk 18 (.int .i64 (nd : Int)) ?_ (hQ := fun _ _ _ h => HPN.out _ _ _ _ _ h)
      refine rdk 19 (.slice (some ⟨gv, 0, none⟩) 8 cv) ?_ (hQ := fun _ _ _ h => HPN.out _ _ _ _ _ h)
      refine rdk 20 (.pointer (some ⟨gv, 4, none⟩)) ?_ (hQ := fun _ _ _ h => HPN.out _ _ _ _ _ h)
      refine rdq 21 (.int .i64 (e : Int)) ?_ ?_ (hQ := fun _ _ _ h => HPN.out _ _ _ _ _ h)
      · intro W hS
        have cc := HCV.out W hS 4 (by decide)
        go_simp
      refine rdk 22 (.slice (some ⟨gv, 0, none⟩) 8 cv) ?_ (hQ := fun _ _ _ h => HPN.out _ _ _ _ _ h)
      refine rdk 23 (.pointer (some ⟨gv, 5, none⟩)) ?_ (hQ := fun _ _ _ h => HPN.out _ _ _ _ _ h)
      refine rdq 24 (.int .i64 (f : Int)) ?_ ?_ (hQ := fun _ _ _ h => HPN.out _ _ _ _ _ h)
      · intro W hS
        have cc := HCV.out W hS 5 (by decide)
        go_simp
      refine rdk 25 (.slice (some ⟨gv, 0, none⟩) 8 cv) ?_ (hQ := fun _ _ _ h => HPN.out _ _ _ _ _ h)
      refine rdk 26 (.pointer (some ⟨gv, 6, none⟩)) ?_ (hQ := fun _ _ _ h => HPN.out _ _ _ _ _ h)
      refine rdq 27 (.int .i64 (g : Int)) ?_ ?_ (hQ := fun _ _ _ h => HPN.out _ _ _ _ _ h)
      · intro W hS
        have cc := HCV.out W hS 6 (by decide)
        go_simp
      refine wpM_one (i := 28) rfl (by kernel_rfl) fun w1 hR1 hS1 K' hK' => ?_
      go_simp
      refine hK' _ _ ⟨hS1.alloc _, ?_⟩
      clear hK' K'
      have hI1 := Is.fresh w1 3 #[.int .i64 (na : Int), .int .i64 (a : Int), .int .i64 (b : Int), .int .i64 (c : Int), .int .i64 (nd : Int), .int .i64 (e : Int), .int .i64 (f : Int), .int .i64 (g : Int)]
      have hB1 := hS1.alloc (.cells #[.int .i64 (na : Int), .int .i64 (a : Int), .int .i64 (b : Int), .int .i64 (c : Int), .int .i64 (nd : Int), .int .i64 (e : Int), .int .i64 (f : Int), .int .i64 (g : Int)] 3)
      obtain ⟨gn, hgn⟩ : ∃ g, g = w1.heap.size := ⟨_, rfl⟩
      rw [← hgn] at hI1 ⊢
      have hgl : wz.heap.size ≤ gn := by rw [hgn]; exact Nat.le_trans HBW.out.size hS1.size
      obtain ⟨W3, hW3⟩ : ∃ W, W = w1.alloc (.cells #[.int .i64 (na : Int), .int .i64 (a : Int), .int .i64 (b : Int), .int .i64 (c : Int), .int .i64 (nd : Int), .int .i64 (e : Int), .int .i64 (f : Int), .int .i64 (g : Int)] 3) := ⟨_, rfl⟩
      rw [← hW3] at hI1 hB1 ⊢
      clear hgn hW3 hR1 hS1
      refine rdk 29 (.slice (some ⟨gn, 0, none⟩) 8 8) ?_ (hQ := fun _ _ _ h => HPN.out _ _ _ _ _ h)
      refine ⟨by kernel_rfl, fun W4 hR4 hS4 => ?_⟩
      have HV4 : Hid (VI W4 gn (roundsS X h0 (k + 1))) := Lib.hid (by rw [HNX.out]; exact VI.of8 (hI1.but hR4 (by simp)))
      have HB4 : Hid (But [] wz W4) := Lib.hid (HBW.out.trans hS4)
      have HGL := Lib.hid hgl
      clear hR4 hS4 hI1 hB1 hgl HBW HCV
      go_simp
      go_wp2
      go_roundw
      case rel => exact ⟨k + 1, gn, 8, by have := HLT.out; omega, by go_num, rfl, HV4, .inr HGL, HB4⟩
      case measure => simp [intOf] <;> omega
    · have h8 : k = 64 := by omega
      rw [h8] at HV
      have k64 : ¬ (k : Int) < 64 := by omega
      subst h8
      clear hlt hk
      go_wp2_with fail
      exact HK.out _ _ _ _ _ _ _ _ _ _ _ _ _ _ _ _ _ _ _ _ _ _ _ _ _ _ _ _ _ _ _ _ _ _ _ _ _ _ _ _ _ _ _ _ _ _ _ _ _ _ _ _ _ _ _ _ _ _ _ _ _ _ _ _ _ _ _ _ _ _ _ _ _ _ _ _ _ _ _ _ _ _ _ _ _ _ _ _ _ _ _ _ _ _ _ _ _ _ _ _ _ _ _ _ _ _ _ _ _ _ _ HV.out (by rcases hgv with h | h; exact .inl h; exact .inr (by rw [← HWZ.out]; exact h.out)) (by rw [← HWZ.out]; exact HB.out)
end Go.Proofs.YtgemmidkfeebfaaDoor
