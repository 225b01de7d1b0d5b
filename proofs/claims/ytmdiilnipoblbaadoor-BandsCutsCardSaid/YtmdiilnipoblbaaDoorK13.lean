/- Several texts in one: HaP, HaQ, HaR (what BandsCuts, BandsJoins, BandsManifest reach of them). -/
import Derived.Test.YtmdiilnipoblbaaDoorK01
import Derived.Test.YtmdiilnipoblbaaDoorK02
import Derived.Test.YtmdiilnipoblbaaDoorK03
import Derived.Test.YtmdiilnipoblbaaDoorK04
import Derived.Test.YtmdiilnipoblbaaDoorK11
import Derived.Test.YtmdiilnipoblbaaDoorK12
import Derived.ArgAppend
import Derived.Below
import Derived.BigQuiet
import Derived.BigRegion
import Derived.Deep.AppendLies
import Derived.Deep.Cut
import Derived.Deep.CutBlock
import Derived.Deep.CutRange
import Derived.Deep.DeepCutAuto
import Derived.Deep.Draws
import Derived.Deep.LoopGhost
import Derived.Deep.QuietTactic
import Derived.Deep.RegionLaw
import Derived.Deep.RegionWith
import Derived.Deep.Slices
import Derived.Handy
import Derived.Laws.BitsAllLaws
import Derived.Laws.BitsLemmas
import Derived.Laws.BytesArg
import Derived.Laws.Cells
import Derived.Laws.Externs
import Derived.Laws.IdiomStrings
import Derived.Laws.MakeOwn
import Derived.Laws.OwnMore
import Derived.Laws.Rows
import Derived.Laws.StructEq
import Derived.Laws.Tables
import Derived.Lib.AppendStr
import Derived.Lib.Hide
import Derived.Lib.UnsafeStr
import Derived.Maps.AppendAt
import Derived.OpenShut
import Derived.OrdersHeld
import Derived.OrdersIn
import Derived.Outline
import Derived.OwnWalk
import Derived.OwnWalkIn
import Derived.ProofKit
import Derived.RangeFuncCalls
import Derived.RegionTactic
import Derived.Shelf.LaysM
import Derived.Shelf.Small.Wraps
import Derived.Shelf.Strconv.Clone
import Derived.Shelf.Strings.Builder1
import Derived.Shelf.Strings.BuilderF
import Derived.Shelf.Strings.Prefix
import Derived.Shelf.Strings.Repeat
import Derived.TacticsInMore
import Derived.Test.YtmdiilnipoblbaaDoorChecked
import Derived.WalkKit
set_option maxRecDepth 100000
set_option linter.unusedVariables false
set_option maxRecDepth 1000000
set_option linter.unusedVariables false
namespace Go.Proofs.YtmdiilnipoblbaaDoor
set_option maxRecDepth 100000
open Go Go.RowKit
theorem i64_andN (a b : Nat) (ha : a < 9223372036854775808) (hb : b < 9223372036854775808) : bits .and .i64 (a : Int) (b : Int) = ((a &&& b : Nat) : Int) := by
  have hx : a &&& b < 2 ^ 63 := Nat.lt_of_le_of_lt Nat.and_le_left (by omega)
  show IntKind.i64.wrap ((BitVec.ofInt 64 (a : Int) &&& BitVec.ofInt 64 (b : Int)).toNat : Int) = _
  rw [BitVec.toNat_and, ofInt_i64 a ha, ofInt_i64 b hb]
  exact wraps_i64 _ (by omega) (by omega)
theorem shaX_sum {a b c d e f g h K X m2 c3 : Nat} (hm : m2 = rotT e 6 ^^^ rotT e 11 ^^^ rotT e 25) (hc : c3 = (e &&& f) ^^^ ((4294967295 - e) &&& g)) : shaX [a, b, c, d, e, f, g, h] K X = (h + m2 + c3 + K + X) % 4294967296 := by
  show (h + (rotT e 6 ^^^ rotT e 11 ^^^ rotT e 25) + ((e &&& f) ^^^ ((4294967295 - e) &&& g)) + K + X) % 4294967296 = _
  rw [← hm, ← hc]
theorem VI.of8 {w : World} {gv : Nat} {t : TypeId} {a b c d e f g h : Nat} (hI : Is w gv t #[.int .i64 a, .int .i64 b, .int .i64 c, .int .i64 d, .int .i64 e, .int .i64 f, .int .i64 g, .int .i64 h]) : VI w gv [a, b, c, d, e, f, g, h] := by
  intro i hi
  rw [hI.cell]
  match i, hi with
  | 0, _ => rfl
  | 1, _ => rfl
  | 2, _ => rfl
  | 3, _ => rfl
  | 4, _ => rfl
  | 5, _ => rfl
  | 6, _ => rfl
  | 7, _ => rfl
attribute [local irreducible] rowZ rotT kSha roundsS roundS shaX shaY
set_option maxHeartbeats 8000000 in
theorem eround_loop {wr : World} {gk g6 gv0 cv0 : Nat} {h0 X : List Nat} {Q0 : Exit → Act → World → Prop} {c0 c1 c2 c3 c5 c7 c8 c9 c10 c17 c18 c19 c20 c21 c22 c23 c24 c25 c26 c27 c28 c29 c30 c31 c32 c33 c34 c35 c36 c37 c38 c39 c40 c41 c42 c43 c44 c45 c46 c47 c48 c49 c50 c51 c52 c53 c54 c55 c56 c57 c58 c59 c60 c61 c62 c63 c64 c65 c66 c67 c68 c69 c70 c71 c72 c73 c74 c75 c76 c77 c78 c79 c80 c81 c82 c83 c84 c85 c86 c87 c88 c89 c90 c91 c92 c93 c94 c95 c96 c97 c98 c99 c100 c101 c102 c103 c104 c105 c106 c107 c108 c109 c110 c111 c112 c113 c114 c115 c116 c117 c222 c223 c224 c225 c226 c227 c228 c229 c230 c231 c232 c233 c234 c235 c236 c237 c238 c239 c240 c241 c242 c243 c244 c245 c246 c247 c248 c249 c250 c251 c252 c253 c254 c255 c256 c257 c258 c259 c260 c261 c262 c263 c264 c265 c266 c267 c268 c269 c270 c271 c272 u13 u14 u15 u16 u118 u119 u120 u121 u122 u123 u124 u125 u126 u127 u128 u129 u130 u131 u132 u133 u134 u135 u136 u137 u138 u139 u140 u141 u142 u143 u144 u145 u146 u147 u148 u149 u150 u151 u152 u153 u154 u155 u156 u157 u158 u159 u160 u161 u162 u163 u164 u165 u166 u167 u168 u169 u170 u171 u172 u173 u174 u175 u176 u177 u178 u179 u180 u181 u182 u183 u184 u185 u186 u187 u188 u189 u190 u191 u192 u193 u194 u195 u196 u197 u198 u199 u200 u201 u202 u203 u204 u205 u206 u207 u208 u209 u210 u211 u212 u213 u214 u215 u216 u217 u218 u219 u220 u221 : Value} (hIk : Is wr gk 3 (rowZ kSha 64)) (hIx : Is wr g6 3 (rowZ X 64)) (hXl : X.length = 64) (hXs : Small X) (hl : h0.length = 8) (hs : Small h0) (hV : VI wr gv0 h0) (hpan : ∀ (c : List PanicEntry) (a : Act) (d : Option Tmp) (v : Value) (w : World), Q0 (.panic c) (a.put d v) w → Q0 (.panic c) a w)
    (hK : ∀ (v13 v14 v15 v16 v118 v119 v120 v121 v122 v123 v124 v125 v126 v127 v128 v129 v130 v131 v132 v133 v134 v135 v136 v137 v138 v139 v140 v141 v142 v143 v144 v145 v146 v147 v148 v149 v150 v151 v152 v153 v154 v155 v156 v157 v158 v159 v160 v161 v162 v163 v164 v165 v166 v167 v168 v169 v170 v171 v172 v173 v174 v175 v176 v177 v178 v179 v180 v181 v182 v183 v184 v185 v186 v187 v188 v189 v190 v191 v192 v193 v194 v195 v196 v197 v198 v199 v200 v201 v202 v203 v204 v205 v206 v207 v208 v209 v210 v211 v212 v213 v214 v215 v216 v217 v218 v219 v220 v221 : Value) w1 gv cv, VI w1 gv (roundsS X h0 64) → (gv = gv0 ∨ wr.heap.size ≤ gv) → But [] wr w1 → Q0 (.exit 6) ⟨(c0 :: c1 :: c2 :: c3 :: .slice (some ⟨gk, 0, none⟩) 64 64 :: c5 :: .slice (some ⟨g6, 0, none⟩) 64 64 :: c7 :: c8 :: c9 :: c10 :: .slice (some ⟨gv, 0, none⟩) 8 cv :: .int .i64 64 :: v13 :: v14 :: v15 :: v16 :: c17 :: c18 :: c19 :: c20 :: c21 :: c22 :: c23 :: c24 :: c25 :: c26 :: c27 :: c28 :: c29 :: c30 :: c31 :: c32 :: c33 :: c34 :: c35 :: c36 :: c37 :: c38 :: c39 :: c40 :: c41 :: c42 :: c43 :: c44 :: c45 :: c46 :: c47 :: c48 :: c49 :: c50 :: c51 :: c52 :: c53 :: c54 :: c55 :: c56 :: c57 :: c58 :: c59 :: c60 :: c61 :: c62 :: c63 :: c64 :: c65 :: c66 :: c67 :: c68 :: c69 :: c70 :: c71 :: c72 :: c73 :: c74 :: c75 :: c76 :: c77 :: c78 :: c79 :: c80 :: c81 :: c82 :: c83 :: c84 :: c85 :: c86 :: c87 :: c88 :: c89 :: c90 :: c91 :: c92 :: c93 :: c94 :: c95 :: c96 :: c97 :: c98 :: c99 :: c100 :: c101 :: c102 :: c103 :: c104 :: c105 :: c106 :: c107 :: c108 :: c109 :: c110 :: c111 :: c112 :: c113 :: c114 :: c115 :: c116 :: c117 :: v118 :: v119 :: v120 :: v121 :: v122 :: v123 :: v124 :: v125 :: v126 :: v127 :: v128 :: v129 :: v130 :: v131 :: v132 :: v133 :: v134 :: v135 :: v136 :: v137 :: v138 :: v139 :: v140 :: v141 :: v142 :: v143 :: v144 :: v145 :: v146 :: v147 :: v148 :: v149 :: v150 :: v151 :: v152 :: v153 :: v154 :: v155 :: v156 :: v157 :: v158 :: v159 :: v160 :: v161 :: v162 :: v163 :: v164 :: v165 :: v166 :: v167 :: v168 :: v169 :: v170 :: v171 :: v172 :: v173 :: v174 :: v175 :: v176 :: v177 :: v178 :: v179 :: v180 :: v181 :: v182 :: v183 :: v184 :: v185 :: v186 :: v187 :: v188 :: v189 :: v190 :: v191 :: v192 :: v193 :: v194 :: v195 :: v196 :: v197 :: v198 :: v199 :: v200 :: v201 :: v202 :: v203 :: v204 :: v205 :: v206 :: v207 :: v208 :: v209 :: v210 :: v211 :: v212 :: v213 :: v214 :: v215 :: v216 :: v217 :: v218 :: v219 :: v220 :: v221 :: c222 :: c223 :: c224 :: c225 :: c226 :: c227 :: c228 :: c229 :: c230 :: c231 :: c232 :: c233 :: c234 :: c235 :: c236 :: c237 :: c238 :: c239 :: c240 :: c241 :: c242 :: c243 :: c244 :: c245 :: c246 :: c247 :: c248 :: c249 :: c250 :: c251 :: c252 :: c253 :: c254 :: c255 :: c256 :: c257 :: c258 :: c259 :: c260 :: c261 :: c262 :: c263 :: c264 :: c265 :: c266 :: c267 :: c268 :: c269 :: c270 :: c271 :: c272 :: []).toArray, []⟩ w1) :
    Code.wp Tryd.prog (Code.loop (eInner 2)) Q0 ⟨(c0 :: c1 :: c2 :: c3 :: .slice (some ⟨gk, 0, none⟩) 64 64 :: c5 :: .slice (some ⟨g6, 0, none⟩) 64 64 :: c7 :: c8 :: c9 :: c10 :: .slice (some ⟨gv0, 0, none⟩) 8 cv0 :: .int .i64 0 :: u13 :: u14 :: u15 :: u16 :: c17 :: c18 :: c19 :: c20 :: c21 :: c22 :: c23 :: c24 :: c25 :: c26 :: c27 :: c28 :: c29 :: c30 :: c31 :: c32 :: c33 :: c34 :: c35 :: c36 :: c37 :: c38 :: c39 :: c40 :: c41 :: c42 :: c43 :: c44 :: c45 :: c46 :: c47 :: c48 :: c49 :: c50 :: c51 :: c52 :: c53 :: c54 :: c55 :: c56 :: c57 :: c58 :: c59 :: c60 :: c61 :: c62 :: c63 :: c64 :: c65 :: c66 :: c67 :: c68 :: c69 :: c70 :: c71 :: c72 :: c73 :: c74 :: c75 :: c76 :: c77 :: c78 :: c79 :: c80 :: c81 :: c82 :: c83 :: c84 :: c85 :: c86 :: c87 :: c88 :: c89 :: c90 :: c91 :: c92 :: c93 :: c94 :: c95 :: c96 :: c97 :: c98 :: c99 :: c100 :: c101 :: c102 :: c103 :: c104 :: c105 :: c106 :: c107 :: c108 :: c109 :: c110 :: c111 :: c112 :: c113 :: c114 :: c115 :: c116 :: c117 :: u118 :: u119 :: u120 :: u121 :: u122 :: u123 :: u124 :: u125 :: u126 :: u127 :: u128 :: u129 :: u130 :: u131 :: u132 :: u133 :: u134 :: u135 :: u136 :: u137 :: u138 :: u139 :: u140 :: u141 :: u142 :: u143 :: u144 :: u145 :: u146 :: u147 :: u148 :: u149 :: u150 :: u151 :: u152 :: u153 :: u154 :: u155 :: u156 :: u157 :: u158 :: u159 :: u160 :: u161 :: u162 :: u163 :: u164 :: u165 :: u166 :: u167 :: u168 :: u169 :: u170 :: u171 :: u172 :: u173 :: u174 :: u175 :: u176 :: u177 :: u178 :: u179 :: u180 :: u181 :: u182 :: u183 :: u184 :: u185 :: u186 :: u187 :: u188 :: u189 :: u190 :: u191 :: u192 :: u193 :: u194 :: u195 :: u196 :: u197 :: u198 :: u199 :: u200 :: u201 :: u202 :: u203 :: u204 :: u205 :: u206 :: u207 :: u208 :: u209 :: u210 :: u211 :: u212 :: u213 :: u214 :: u215 :: u216 :: u217 :: u218 :: u219 :: u220 :: u221 :: c222 :: c223 :: c224 :: c225 :: c226 :: c227 :: c228 :: c229 :: c230 :: c231 :: c232 :: c233 :: c234 :: c235 :: c236 :: c237 :: c238 :: c239 :: c240 :: c241 :: c242 :: c243 :: c244 :: c245 :: c246 :: c247 :: c248 :: c249 :: c250 :: c251 :: c252 :: c253 :: c254 :: c255 :: c256 :: c257 :: c258 :: c259 :: c260 :: c261 :: c262 :: c263 :: c264 :: c265 :: c266 :: c267 :: c268 :: c269 :: c270 :: c271 :: c272 :: []).toArray, []⟩ wr := by
  have HPN := Lib.hid hpan
  have HK := Lib.hid hK
  have HIK := Lib.hid hIk
  have HIX := Lib.hid hIx
  have HXL := Lib.hid hXl
  have HXS := Lib.hid hXs
  have HHS := Lib.hid hs
  have HHL := Lib.hid hl
  have HV0 : Hid (VI wr gv0 (roundsS X h0 0)) := Lib.hid (by unfold roundsS; exact hV)
  have HB0 : Hid (But [] wr wr) := Lib.hid (But.refl _ _)
  obtain ⟨wz, hwz⟩ : ∃ W, W = wr := ⟨wr, rfl⟩
  have HWZ := Lib.hid hwz
  conv => arg 2; arg 1; whnf
  clear hpan hK hIk hIx hXl hXs hs hl hV hwz
  go_loopw [11, 12] (fun vv kv wx => ∃ k gv cv : Nat, k ≤ 64 ∧ kv = .int .i64 k ∧ vv = .slice (some ⟨gv, 0, none⟩) 8 cv ∧ Hid (VI wx gv (roundsS X h0 k)) ∧ (gv = gv0 ∨ Hid (wz.heap.size ≤ gv)) ∧ Hid (But [] wz wx)) (fun _ kv _ => 64 - (intOf kv).toNat)
  case atStart => exact ⟨0, gv0, cv0, Nat.zero_le _, rfl, rfl, HV0, .inl rfl, by rw [HWZ.out]; exact HB0⟩
  case round =>
    clear HV0 HB0
    obtain ⟨k, gv, cv, hk, rfl, rfl, HV, hgv, HB⟩ := hrel
    by_cases hlt : k < 64
    · obtain ⟨a, b, c, d, e, f, g, h, hR⟩ := list8 (roundsS_length (X := X) HHL.out k)
      obtain ⟨l_a, l_b, l_c, l_d, l_e, l_f, l_g, l_h⟩ : a < 4294967296 ∧ b < 4294967296 ∧ c < 4294967296 ∧ d < 4294967296 ∧ e < 4294967296 ∧ f < 4294967296 ∧ g < 4294967296 ∧ h < 4294967296 := small8 (by rw [← hR]; exact small_rounds X HHS.out k)
      have HR := Lib.hid hR
      rw [hR] at HV
      obtain ⟨K, hK⟩ : ∃ z, z = kSha.getD k 0 := ⟨_, rfl⟩
      obtain ⟨X0, hX0⟩ : ∃ z, z = X.getD k 0 := ⟨_, rfl⟩
      have l_K : K < 4294967296 := by rw [hK]; exact small_kSha k
      have l_X0 : X0 < 4294967296 := by rw [hX0]; exact HXS.out k
      have hBx : But [] wz wr := HB.out
      have cK : wr.cell? ⟨gk, k, none⟩ = some (.int .i64 (K : Nat)) := by
        rw [(HIK.out.but (by rw [← HWZ.out]; exact hBx) (by simp)).cell, rowZ_get (by rw [kSha_length]; exact hlt), hK]
      have cX : wr.cell? ⟨g6, k, none⟩ = some (.int .i64 (X0 : Nat)) := by
        rw [(HIX.out.but (by rw [← HWZ.out]; exact hBx) (by simp)).cell, rowZ_get (by rw [HXL.out]; exact hlt), hX0]
      have p0 := HV.out 0 (by decide)
      have p1 := HV.out 1 (by decide)
      have p2 := HV.out 2 (by decide)
      have p4 := HV.out 4 (by decide)
      have p5 := HV.out 5 (by decide)
      have p6 := HV.out 6 (by decide)
      have p7 := HV.out 7 (by decide)
      have H_r6 : Hid (∀ W, Calls Tryd.prog 47 #[.int .i64 (e : Int), .int .i64 6] W fun er w' => er = .returned (.int .i64 ((rotT e 6 : Nat) : Int)) ∧ ∃ q, w' = W.drewN q) := Lib.hid fun W => eturned_any W (n := 6) l_e (by decide) (by decide)
      obtain ⟨r6, h_r6⟩ : ∃ z, z = rotT e 6 := ⟨_, rfl⟩
      have l_r6 : r6 < 4294967296 := by rw [h_r6]; exact rotT_lt _ _
      rw [← h_r6] at H_r6
      have H_r11 : Hid (∀ W, Calls Tryd.prog 47 #[.int .i64 (e : Int), .int .i64 11] W fun er w' => er = .returned (.int .i64 ((rotT e 11 : Nat) : Int)) ∧ ∃ q, w' = W.drewN q) := Lib.hid fun W => eturned_any W (n := 11) l_e (by decide) (by decide)
      obtain ⟨r11, h_r11⟩ : ∃ z, z = rotT e 11 := ⟨_, rfl⟩
      have l_r11 : r11 < 4294967296 := by rw [h_r11]; exact rotT_lt _ _
      rw [← h_r11] at H_r11
      have H_r25 : Hid (∀ W, Calls Tryd.prog 47 #[.int .i64 (e : Int), .int .i64 25] W fun er w' => er = .returned (.int .i64 ((rotT e 25 : Nat) : Int)) ∧ ∃ q, w' = W.drewN q) := Lib.hid fun W => eturned_any W (n := 25) l_e (by decide) (by decide)
      obtain ⟨r25, h_r25⟩ : ∃ z, z = rotT e 25 := ⟨_, rfl⟩
      have l_r25 : r25 < 4294967296 := by rw [h_r25]; exact rotT_lt _ _
      rw [← h_r25] at H_r25
      obtain ⟨m1, h_m1⟩ : ∃ z, z = r6 ^^^ r11 := ⟨_, rfl⟩
      have l_m1 : m1 < 4294967296 := by rw [h_m1]; exact Nat.xor_lt_two_pow (n := 32) l_r6 l_r11
      have f_m1 : bits .xor .i64 (r6 : Int) (r11 : Int) = (m1 : Int) := by rw [i64_xor _ _ (by omega) (by omega), h_m1]
      obtain ⟨m2, h_m2⟩ : ∃ z, z = m1 ^^^ r25 := ⟨_, rfl⟩
      have l_m2 : m2 < 4294967296 := by rw [h_m2]; exact Nat.xor_lt_two_pow (n := 32) l_m1 l_r25
      have f_m2 : bits .xor .i64 (m1 : Int) (r25 : Int) = (m2 : Int) := by rw [i64_xor _ _ (by omega) (by omega), h_m2]
      obtain ⟨c1, h_c1⟩ : ∃ z, z = e &&& f := ⟨_, rfl⟩
      have l_c1 : c1 < 4294967296 := by rw [h_c1]; exact Nat.lt_of_le_of_lt Nat.and_le_left l_e
      have f_c1 : bits .and .i64 (e : Int) (f : Int) = (c1 : Int) := by rw [i64_andN _ _ (by omega) (by omega), h_c1]
      obtain ⟨ne, h_ne⟩ : ∃ z, z = 4294967295 - e := ⟨_, rfl⟩
      have l_ne : ne < 4294967296 := by omega
      have f_ne : (4294967295 : Int) - (e : Int) = (ne : Int) := by omega
      have v_ne := wrapI_in (show ne < 1000000000000000 by omega)
      obtain ⟨c2, h_c2⟩ : ∃ z, z = ne &&& g := ⟨_, rfl⟩
      have l_c2 : c2 < 4294967296 := by rw [h_c2]; exact Nat.lt_of_le_of_lt Nat.and_le_left l_ne
      have f_c2 : bits .and .i64 (ne : Int) (g : Int) = (c2 : Int) := by rw [i64_andN _ _ (by omega) (by omega), h_c2]
      obtain ⟨c3, h_c3⟩ : ∃ z, z = c1 ^^^ c2 := ⟨_, rfl⟩
      have l_c3 : c3 < 4294967296 := by rw [h_c3]; exact Nat.xor_lt_two_pow (n := 32) l_c1 l_c2
      have f_c3 : bits .xor .i64 (c1 : Int) (c2 : Int) = (c3 : Int) := by rw [i64_xor _ _ (by omega) (by omega), h_c3]
      obtain ⟨q1, h_q1⟩ : ∃ z, z = h + m2 := ⟨_, rfl⟩
      have f_q1 : (h : Int) + (m2 : Int) = (q1 : Int) := by omega
      have v_q1 := wrapI_in (show q1 < 1000000000000000 by omega)
      obtain ⟨q2, h_q2⟩ : ∃ z, z = q1 + c3 := ⟨_, rfl⟩
      have f_q2 : (q1 : Int) + (c3 : Int) = (q2 : Int) := by omega
      have v_q2 := wrapI_in (show q2 < 1000000000000000 by omega)
      obtain ⟨q3, h_q3⟩ : ∃ z, z = q2 + K := ⟨_, rfl⟩
      have f_q3 : (q2 : Int) + (K : Int) = (q3 : Int) := by omega
      have v_q3 := wrapI_in (show q3 < 1000000000000000 by omega)
      obtain ⟨q4, h_q4⟩ : ∃ z, z = q3 + X0 := ⟨_, rfl⟩
      have f_q4 : (q3 : Int) + (X0 : Int) = (q4 : Int) := by omega
      have v_q4 := wrapI_in (show q4 < 1000000000000000 by omega)
      obtain ⟨u, h_u⟩ : ∃ z, z = q4 % 4294967296 := ⟨_, rfl⟩
      have l_u : u < 4294967296 := by rw [h_u]; exact Nat.mod_lt _ (by decide)
      have f_u : (q4 : Int) % 4294967296 = (u : Int) := by omega
      have t_u : (q4 : Int).tmod 4294967296 = (u : Int) := by rw [Int.tmod_eq_emod_of_nonneg (by omega)]; omega
      have v_u := wrapI_in (show u < 1000000000000000 by omega)
      have H_r2 : Hid (∀ W, Calls Tryd.prog 47 #[.int .i64 (a : Int), .int .i64 2] W fun er w' => er = .returned (.int .i64 ((rotT a 2 : Nat) : Int)) ∧ ∃ q, w' = W.drewN q) := Lib.hid fun W => eturned_any W (n := 2) l_a (by decide) (by decide)
      obtain ⟨r2, h_r2⟩ : ∃ z, z = rotT a 2 := ⟨_, rfl⟩
      have l_r2 : r2 < 4294967296 := by rw [h_r2]; exact rotT_lt _ _
      rw [← h_r2] at H_r2
      have H_r13 : Hid (∀ W, Calls Tryd.prog 47 #[.int .i64 (a : Int), .int .i64 13] W fun er w' => er = .returned (.int .i64 ((rotT a 13 : Nat) : Int)) ∧ ∃ q, w' = W.drewN q) := Lib.hid fun W => eturned_any W (n := 13) l_a (by decide) (by decide)
      obtain ⟨r13, h_r13⟩ : ∃ z, z = rotT a 13 := ⟨_, rfl⟩
      have l_r13 : r13 < 4294967296 := by rw [h_r13]; exact rotT_lt _ _
      rw [← h_r13] at H_r13
      have H_r22 : Hid (∀ W, Calls Tryd.prog 47 #[.int .i64 (a : Int), .int .i64 22] W fun er w' => er = .returned (.int .i64 ((rotT a 22 : Nat) : Int)) ∧ ∃ q, w' = W.drewN q) := Lib.hid fun W => eturned_any W (n := 22) l_a (by decide) (by decide)
      obtain ⟨r22, h_r22⟩ : ∃ z, z = rotT a 22 := ⟨_, rfl⟩
      have l_r22 : r22 < 4294967296 := by rw [h_r22]; exact rotT_lt _ _
      rw [← h_r22] at H_r22
      obtain ⟨n1, h_n1⟩ : ∃ z, z = r2 ^^^ r13 := ⟨_, rfl⟩
      have l_n1 : n1 < 4294967296 := by rw [h_n1]; exact Nat.xor_lt_two_pow (n := 32) l_r2 l_r13
      have f_n1 : bits .xor .i64 (r2 : Int) (r13 : Int) = (n1 : Int) := by rw [i64_xor _ _ (by omega) (by omega), h_n1]
      obtain ⟨n2, h_n2⟩ : ∃ z, z = n1 ^^^ r22 := ⟨_, rfl⟩
      have l_n2 : n2 < 4294967296 := by rw [h_n2]; exact Nat.xor_lt_two_pow (n := 32) l_n1 l_r22
      have f_n2 : bits .xor .i64 (n1 : Int) (r22 : Int) = (n2 : Int) := by rw [i64_xor _ _ (by omega) (by omega), h_n2]
      obtain ⟨d1, h_d1⟩ : ∃ z, z = a &&& b := ⟨_, rfl⟩
      have l_d1 : d1 < 4294967296 := by rw [h_d1]; exact Nat.lt_of_le_of_lt Nat.and_le_left l_a
      have f_d1 : bits .and .i64 (a : Int) (b : Int) = (d1 : Int) := by rw [i64_andN _ _ (by omega) (by omega), h_d1]
      obtain ⟨d2, h_d2⟩ : ∃ z, z = a &&& c := ⟨_, rfl⟩
      have l_d2 : d2 < 4294967296 := by rw [h_d2]; exact Nat.lt_of_le_of_lt Nat.and_le_left l_a
      have f_d2 : bits .and .i64 (a : Int) (c : Int) = (d2 : Int) := by rw [i64_andN _ _ (by omega) (by omega), h_d2]
      obtain ⟨d3, h_d3⟩ : ∃ z, z = d1 ^^^ d2 := ⟨_, rfl⟩
      have l_d3 : d3 < 4294967296 := by rw [h_d3]; exact Nat.xor_lt_two_pow (n := 32) l_d1 l_d2
      have f_d3 : bits .xor .i64 (d1 : Int) (d2 : Int) = (d3 : Int) := by rw [i64_xor _ _ (by omega) (by omega), h_d3]
      obtain ⟨d4, h_d4⟩ : ∃ z, z = b &&& c := ⟨_, rfl⟩
      have l_d4 : d4 < 4294967296 := by rw [h_d4]; exact Nat.lt_of_le_of_lt Nat.and_le_left l_b
      have f_d4 : bits .and .i64 (b : Int) (c : Int) = (d4 : Int) := by rw [i64_andN _ _ (by omega) (by omega), h_d4]
      obtain ⟨d5, h_d5⟩ : ∃ z, z = d3 ^^^ d4 := ⟨_, rfl⟩
      have l_d5 : d5 < 4294967296 := by rw [h_d5]; exact Nat.xor_lt_two_pow (n := 32) l_d3 l_d4
      have f_d5 : bits .xor .i64 (d3 : Int) (d4 : Int) = (d5 : Int) := by rw [i64_xor _ _ (by omega) (by omega), h_d5]
      obtain ⟨yy, h_yy⟩ : ∃ z, z = n2 + d5 := ⟨_, rfl⟩
      have f_yy : (n2 : Int) + (d5 : Int) = (yy : Int) := by omega
      have v_yy := wrapI_in (show yy < 1000000000000000 by omega)
      obtain ⟨y, h_y⟩ : ∃ z, z = yy % 4294967296 := ⟨_, rfl⟩
      have l_y : y < 4294967296 := by rw [h_y]; exact Nat.mod_lt _ (by decide)
      have f_y : (yy : Int) % 4294967296 = (y : Int) := by omega
      have t_y : (yy : Int).tmod 4294967296 = (y : Int) := by rw [Int.tmod_eq_emod_of_nonneg (by omega)]; omega
      have v_y := wrapI_in (show y < 1000000000000000 by omega)
      obtain ⟨nas, h_nas⟩ : ∃ z, z = u + y := ⟨_, rfl⟩
      have f_nas : (u : Int) + (y : Int) = (nas : Int) := by omega
      have v_nas := wrapI_in (show nas < 1000000000000000 by omega)
      obtain ⟨na, h_na⟩ : ∃ z, z = nas % 4294967296 := ⟨_, rfl⟩
      have l_na : na < 4294967296 := by rw [h_na]; exact Nat.mod_lt _ (by decide)
      have f_na : (nas : Int) % 4294967296 = (na : Int) := by omega
      have t_na : (nas : Int).tmod 4294967296 = (na : Int) := by rw [Int.tmod_eq_emod_of_nonneg (by omega)]; omega
      have v_na := wrapI_in (show na < 1000000000000000 by omega)
      obtain ⟨nds, h_nds⟩ : ∃ z, z = d + u := ⟨_, rfl⟩
      have f_nds : (d : Int) + (u : Int) = (nds : Int) := by omega
      have v_nds := wrapI_in (show nds < 1000000000000000 by omega)
      obtain ⟨nd, h_nd⟩ : ∃ z, z = nds % 4294967296 := ⟨_, rfl⟩
      have l_nd : nd < 4294967296 := by rw [h_nd]; exact Nat.mod_lt _ (by decide)
      have f_nd : (nds : Int) % 4294967296 = (nd : Int) := by omega
      have t_nd : (nds : Int).tmod 4294967296 = (nd : Int) := by rw [Int.tmod_eq_emod_of_nonneg (by omega)]; omega
      have v_nd := wrapI_in (show nd < 1000000000000000 by omega)
      have HNX : Hid (roundsS X h0 (k + 1) = [na, a, b, c, nd, e, f, g]) := Lib.hid (by
        have e1 : shaX [a, b, c, d, e, f, g, h] K X0 = u := by
          rw [shaX_sum (m2 := m2) (c3 := c3) (by rw [h_m2, h_m1, h_r6, h_r11, h_r25]) (by rw [h_c3, h_c1, h_c2, h_ne])]
          rw [h_u, h_q4, h_q3, h_q2, h_q1]
        have e2 : shaY [a, b, c, d, e, f, g, h] = y := by
          rw [shaY_of (n2 := n2) (d5 := d5) (by rw [h_n2, h_n1, h_r2, h_r13, h_r22]) (by rw [h_d5, h_d3, h_d1, h_d2, h_d4]), h_y, h_yy]
        rw [roundsS_succ, HR.out, ← hK, ← hX0, roundS_of, e1, e2, h_na, h_nas, h_nd, h_nds])
      have k0 : (0 : Int) ≤ (k : Int) := by omega
      have k64 : (k : Int) < 64 := by omega
      have HLT := Lib.hid hlt
      clear hR hK hX0 hBx hlt h_r6 h_r11 h_r25 h_m1 h_m2 h_c1 h_ne h_c2 h_c3 h_q1 h_q2 h_q3 h_q4 h_u h_r2 h_r13 h_r22 h_n1 h_n2 h_d1 h_d2 h_d3 h_d4 h_d5 h_yy h_y h_nas h_na h_nds h_nd
      clear l_a l_b l_c l_d l_e l_f l_g l_h l_K l_X0 l_r6 l_r11 l_r25 l_m1 l_m2 l_c1 l_ne l_c2 l_c3 l_u l_r2 l_r13 l_r22 l_n1 l_n2 l_d1 l_d2 l_d3 l_d4 l_d5 l_y l_na l_nd
      go_upto_region 22 with (fail)
      go_quiet ((go_at_call 47; with_reducible first | exact Calls.quiet_of (H_r6.out _) | exact Calls.quiet_of (H_r11.out _) | exact Calls.quiet_of (H_r25.out _)))
      have hW1B := (But.refl [] wr).drewN nq
      have p0 := (HV.out.but hW1B (by simp)) 0 (by decide)
      have p1 := (HV.out.but hW1B (by simp)) 1 (by decide)
      have p2 := (HV.out.but hW1B (by simp)) 2 (by decide)
      have HV1 := Lib.hid (HV.out.but hW1B (by simp))
      have HB1 := Lib.hid (HB.out.trans hW1B)
      obtain ⟨W1, hW1⟩ : ∃ W, W = wr.drewN nq := ⟨_, rfl⟩
      rw [← hW1] at p0 p1 p2 HV1 HB1 ⊢
      clear hW1 hW1B cK cX p4 p5 p6 p7 HV HB H_r6 H_r11 H_r25
      go_upto_region 23 with (fail)
      go_quiet ((go_at_call 47; with_reducible first | exact Calls.quiet_of (H_r2.out _) | exact Calls.quiet_of (H_r13.out _) | exact Calls.quiet_of (H_r22.out _)))
      have hW2B := (But.refl [] W1).drewN nq
      have HCV : Hid (∀ W, But [] (W1.drewN nq) W → ∀ i, i < 8 → W.cell? ⟨gv, i, none⟩ = some (.int .i64 ([a, b, c, d, e, f, g, h].getD i 0 : Nat))) := Lib.hid fun W hW i hi => ((HV1.out.but hW2B (by simp)).but hW (by simp)) i hi
      have HBW := Lib.hid (HB1.out.trans hW2B)
      obtain ⟨W2, hW2⟩ : ∃ W, W = W1.drewN nq := ⟨_, rfl⟩
      rw [← hW2] at HCV HBW ⊢
      clear hW2 hW2B p0 p1 p2 HV1 HB1 H_r2 H_r13 H_r22
      go_upto_region 24 with (fail)
      refine wp_region_m (S := fun v => But [] W2 v) (R := fun v v' => But [] v v') (fun w => But.refl [] w) (by kernel_rfl) (But.refl [] W2).drew ?_
      refine rdk 0 (.int .i64 (u : Int)) ?_ (hQ := fun _ _ _ h => HPN.out _ _ _ _ _ h)
      refine rdk 1 (.int .i64 (y : Int)) ?_ (hQ := fun _ _ _ h => HPN.out _ _ _ _ _ h)
      refine rdk 2 (.int .i64 (nas : Int)) ?_ (hQ := fun _ _ _ h => HPN.out _ _ _ _ _ h)
      refine rdk 3 (.int .i64 (na : Int)) ?_ (hQ := fun _ _ _ h => HPN.out _ _ _ _ _ h)
      refine rdk 4 (.slice (some ⟨gv, 0, none⟩) 8 cv) ?_ (hQ := fun _ _ _ h => HPN.out _ _ _ _ _ h)
      refine rdk 5 (.pointer (some ⟨gv, 0, none⟩)) ?_ (hQ := fun _ _ _ h => HPN.out _ _ _ _ _ h)
      refine rdq 6 (.int .i64 (a : Int)) ?_ ?_ (hQ := fun _ _ _ h => HPN.out _ _ _ _ _ h)
      · intro W hS
        have cc := HCV.out W hS 0 (by decide)
        go_simp
      refine rdk 7 (.slice (some ⟨gv, 0, none⟩) 8 cv) ?_ (hQ := fun _ _ _ h => HPN.out _ _ _ _ _ h)
      refine rdk 8 (.pointer (some ⟨gv, 1, none⟩)) ?_ (hQ := fun _ _ _ h => HPN.out _ _ _ _ _ h)
      refine rdq 9 (.int .i64 (b : Int)) ?_ ?_ (hQ := fun _ _ _ h => HPN.out _ _ _ _ _ h)
      · intro W hS
        have cc := HCV.out W hS 1 (by decide)
        go_simp
      refine rdk 10 (.slice (some ⟨gv, 0, none⟩) 8 cv) ?_ (hQ := fun _ _ _ h => HPN.out _ _ _ _ _ h)
      refine rdk 11 (.pointer (some ⟨gv, 2, none⟩)) ?_ (hQ := fun _ _ _ h => HPN.out _ _ _ _ _ h)
      refine rdq 12 (.int .i64 (c : Int)) ?_ ?_ (hQ := fun _ _ _ h => HPN.out _ _ _ _ _ h)
      · intro W hS
        have cc := HCV.out W hS 2 (by decide)
        go_simp
      refine rdk 13 (.slice (some ⟨gv, 0, none⟩) 8 cv) ?_ (hQ := fun _ _ _ h => HPN.out _ _ _ _ _ h)
      refine rdk 14 (.pointer (some ⟨gv, 3, none⟩)) ?_ (hQ := fun _ _ _ h => HPN.out _ _ _ _ _ h)
      refine rdq 15 (.int .i64 (d : Int)) ?_ ?_ (hQ := fun _ _ _ h => HPN.out _ _ _ _ _ h)
      · intro W hS
        have cc := HCV.out W hS 3 (by decide)
        go_simp
      refine rdk 16 (.int .i64 (u : Int)) ?_ (hQ := fun _ _ _ h => HPN.out _ _ _ _ _ h)
      refine rdk 17 (.int .i64 (nds : Int)) ?_ (hQ := fun _ _ _ h => HPN.out _ _ _ _ _ h)
      refine rdk 18 (.int .i64 (nd : Int)) ?_ (hQ := fun _ _ _ h => HPN.out _ _ _ _ _ h)
      refine rdk 19 (.slice (some ⟨gv, 0, none⟩) 8 cv) ?_ (hQ := fun _ _ _ h => HPN.out _ _ _ _ _ h)
      refine rdk 20 (.pointer (some ⟨gv, 4, none⟩)) ?_ (hQ := fun _ _ _ h => HPN.out _ _ _ _ _ h)
      refine rdq 21 (.int .i64 (e : Int)) ?_ ?_ (hQ := fun _ _ _ h => HPN.out _ _ _ _ _ h)
      · intro W hS
        have cc := HCV.out W hS 4 (by decide)
        go_simp
      refine rdk 22 (.slice (some ⟨gv, 0, none⟩) 8 cv) ?_ (hQ := fun _ _ _ h => HPN.out _ _ _ _ _ h)
      refine rdk 23 (.pointer (some ⟨gv, 5, none⟩)) ?_ (hQ := fun _ _ _ h => HPN.out _ _ _ _ _ h)
      refine rdq 24 (.int .i64 (f : Int)) ?_ ?_ (hQ := fun _ _ _ h => HPN.out _ _ _ _ _ h)
      · intro W hS
        have cc := HCV.out W hS 5 (by decide)
        go_simp
      refine rdk 25 (.slice (some ⟨gv, 0, none⟩) 8 cv) ?_ (hQ := fun _ _ _ h => HPN.out _ _ _ _ _ h)
      refine rdk 26 (.pointer (some ⟨gv, 6, none⟩)) ?_ (hQ := fun _ _ _ h => HPN.out _ _ _ _ _ h)
      refine rdq 27 (.int .i64 (g : Int)) ?_ ?_ (hQ := fun _ _ _ h => HPN.out _ _ _ _ _ h)
      · intro W hS
        have cc := HCV.out W hS 6 (by decide)
        go_simp
      refine wpM_one (i := 28) rfl (by kernel_rfl) fun w1 hR1 hS1 K' hK' => ?_
      go_simp
      refine hK' _ _ ⟨hS1.alloc _, ?_⟩
      clear hK' K'
      have hI1 := Is.fresh w1 3 #[.int .i64 (na : Int), .int .i64 (a : Int), .int .i64 (b : Int), .int .i64 (c : Int), .int .i64 (nd : Int), .int .i64 (e : Int), .int .i64 (f : Int), .int .i64 (g : Int)]
      have hB1 := hS1.alloc (.cells #[.int .i64 (na : Int), .int .i64 (a : Int), .int .i64 (b : Int), .int .i64 (c : Int), .int .i64 (nd : Int), .int .i64 (e : Int), .int .i64 (f : Int), .int .i64 (g : Int)] 3)
      obtain ⟨gn, hgn⟩ : ∃ g, g = w1.heap.size := ⟨_, rfl⟩
      rw [← hgn] at hI1 ⊢
      have hgl : wz.heap.size ≤ gn := by rw [hgn]; exact Nat.le_trans HBW.out.size hS1.size
      obtain ⟨W3, hW3⟩ : ∃ W, W = w1.alloc (.cells #[.int .i64 (na : Int), .int .i64 (a : Int), .int .i64 (b : Int), .int .i64 (c : Int), .int .i64 (nd : Int), .int .i64 (e : Int), .int .i64 (f : Int), .int .i64 (g : Int)] 3) := ⟨_, rfl⟩
      rw [← hW3] at hI1 hB1 ⊢
      clear hgn hW3 hR1 hS1
      refine rdk 29 (.slice (some ⟨gn, 0, none⟩) 8 8) ?_ (hQ := fun _ _ _ h => HPN.out _ _ _ _ _ h)
      refine ⟨by kernel_rfl, fun W4 hR4 hS4 => ?_⟩
      have HV4 : Hid (VI W4 gn (roundsS X h0 (k + 1))) := Lib.hid (by rw [HNX.out]; exact VI.of8 (hI1.but hR4 (by simp)))
      have HB4 : Hid (But [] wz W4) := Lib.hid (HBW.out.trans hS4)
      have HGL := Lib.hid hgl
      clear hR4 hS4 hI1 hB1 hgl HBW HCV
      go_simp
      go_wp2
      go_roundw
      case rel => exact ⟨k + 1, gn, 8, by have := HLT.out; omega, by go_num, rfl, HV4, .inr HGL, HB4⟩
      case measure => simp [intOf] <;> omega
    · have h8 : k = 64 := by omega
      rw [h8] at HV
      have k64 : ¬ (k : Int) < 64 := by omega
      subst h8
      clear hlt hk
      go_wp2_with fail
      exact HK.out _ _ _ _ _ _ _ _ _ _ _ _ _ _ _ _ _ _ _ _ _ _ _ _ _ _ _ _ _ _ _ _ _ _ _ _ _ _ _ _ _ _ _ _ _ _ _ _ _ _ _ _ _ _ _ _ _ _ _ _ _ _ _ _ _ _ _ _ _ _ _ _ _ _ _ _ _ _ _ _ _ _ _ _ _ _ _ _ _ _ _ _ _ _ _ _ _ _ _ _ _ _ _ _ _ _ _ _ _ _ _ HV.out (by rcases hgv with h | h; exact .inl h; exact .inr (by rw [← HWZ.out]; exact h.out)) (by rw [← HWZ.out]; exact HB.out)
end Go.Proofs.YtmdiilnipoblbaaDoor
set_option maxRecDepth 1000000
set_option linter.unusedVariables false
namespace Go.Proofs.YtmdiilnipoblbaaDoor
set_option maxRecDepth 100000
open Go Go.RowKit
theorem four_cells {x a b c d : Nat} (h1 : a = x / 16777216 % 256) (h2 : b = x / 65536 % 256) (h3 : c = x / 256 % 256) (h4 : d = x % 256) : (cellsF (fourL x)).toArray = #[.int .u8 a, .int .u8 b, .int .u8 c, .int .u8 d] := by
  have a1 := UInt8.toNat_ofNat' (n := x / 16777216)
  have a2 := UInt8.toNat_ofNat' (n := x / 65536)
  have a3 := UInt8.toNat_ofNat' (n := x / 256)
  have a4 := UInt8.toNat_ofNat' (n := x)
  unfold fourL cellsF
  simp only [List.map_cons, List.map_nil, a1, a2, a3, a4]
  rw [h1, h2, h3, h4]
attribute [local irreducible] rowZ outK outS
set_option maxHeartbeats 8000000 in
theorem eout_loop {wr : World} {g3 : Nat} {hs : List Nat} {Q0 : Exit → Act → World → Prop} {c0 c1 c2 c4 c5 c6 c7 c8 c9 c10 c11 c12 c13 c14 c15 c16 c17 c20 c21 c22 c23 c24 c25 c26 c27 c28 c29 c30 c31 c32 c33 c34 c35 c36 c37 c38 c39 c40 c41 c42 c43 c44 c45 c46 c47 c48 c49 c50 c51 c52 c53 c54 c55 c56 c57 c58 c59 c60 c61 c62 c63 c64 c65 c66 c67 c68 c69 c70 c71 c72 c73 c74 c75 c76 c77 c78 c79 c80 c81 c82 c83 c84 c85 c86 c87 c88 c89 c90 c91 c92 c93 c94 c95 c96 c97 c98 c99 c100 c101 c102 c103 c104 c105 c106 c107 c108 c109 c110 c111 c112 c113 c114 c115 c116 c117 c118 c119 c120 c121 c122 c123 c124 c125 c126 c127 c128 c129 c130 c131 c132 c133 c134 c135 c136 c137 c138 c139 c140 c141 c142 c143 c144 c145 c146 c147 c148 c149 c150 c151 c152 c153 c154 c155 c156 c157 c158 c159 c160 c161 c162 c163 c164 c165 c166 c167 c168 c169 c170 c171 c172 c173 c174 c175 c176 c177 c178 c179 c180 c181 c182 c183 c184 c185 c186 c187 c188 c189 c190 c191 c192 c193 c194 c195 c196 c197 c198 c199 c200 c201 c202 c203 c204 c205 c206 c207 c208 c209 c210 c211 c212 c213 c214 c215 c216 c217 c218 c219 c220 c221 c222 c223 c224 c225 c226 c227 c228 c229 c230 c231 c232 c233 c234 c235 c236 c237 c238 c239 c240 c271 c272 u241 u242 u243 u244 u245 u246 u247 u248 u249 u250 u251 u252 u253 u254 u255 u256 u257 u258 u259 u260 u261 u262 u263 u264 u265 u266 u267 u268 u269 u270 : Value} (hH : Is wr g3 3 (rowZ hs 8)) (hl : hs.length = 8) (hs' : Small hs) (hpan : ∀ (c : List PanicEntry) (a : Act) (d : Option Tmp) (v : Value) (w : World), Q0 (.panic c) (a.put d v) w → Q0 (.panic c) a w)
    (hK : ∀ (v241 v242 v243 v244 v245 v246 v247 v248 v249 v250 v251 v252 v253 v254 v255 v256 v257 v258 v259 v260 v261 v262 v263 v264 v265 v266 v267 v268 v269 v270 : Value) OA ol oc w1, OwnF w1 wr.heap.size (.slice OA ol oc) (outS hs) → But [] wr w1 → Q0 (.exit 10) ⟨(c0 :: c1 :: c2 :: .slice (some ⟨g3, 0, none⟩) 8 8 :: c4 :: c5 :: c6 :: c7 :: c8 :: c9 :: c10 :: c11 :: c12 :: c13 :: c14 :: c15 :: c16 :: c17 :: .slice OA ol oc :: .int .i64 8 :: c20 :: c21 :: c22 :: c23 :: c24 :: c25 :: c26 :: c27 :: c28 :: c29 :: c30 :: c31 :: c32 :: c33 :: c34 :: c35 :: c36 :: c37 :: c38 :: c39 :: c40 :: c41 :: c42 :: c43 :: c44 :: c45 :: c46 :: c47 :: c48 :: c49 :: c50 :: c51 :: c52 :: c53 :: c54 :: c55 :: c56 :: c57 :: c58 :: c59 :: c60 :: c61 :: c62 :: c63 :: c64 :: c65 :: c66 :: c67 :: c68 :: c69 :: c70 :: c71 :: c72 :: c73 :: c74 :: c75 :: c76 :: c77 :: c78 :: c79 :: c80 :: c81 :: c82 :: c83 :: c84 :: c85 :: c86 :: c87 :: c88 :: c89 :: c90 :: c91 :: c92 :: c93 :: c94 :: c95 :: c96 :: c97 :: c98 :: c99 :: c100 :: c101 :: c102 :: c103 :: c104 :: c105 :: c106 :: c107 :: c108 :: c109 :: c110 :: c111 :: c112 :: c113 :: c114 :: c115 :: c116 :: c117 :: c118 :: c119 :: c120 :: c121 :: c122 :: c123 :: c124 :: c125 :: c126 :: c127 :: c128 :: c129 :: c130 :: c131 :: c132 :: c133 :: c134 :: c135 :: c136 :: c137 :: c138 :: c139 :: c140 :: c141 :: c142 :: c143 :: c144 :: c145 :: c146 :: c147 :: c148 :: c149 :: c150 :: c151 :: c152 :: c153 :: c154 :: c155 :: c156 :: c157 :: c158 :: c159 :: c160 :: c161 :: c162 :: c163 :: c164 :: c165 :: c166 :: c167 :: c168 :: c169 :: c170 :: c171 :: c172 :: c173 :: c174 :: c175 :: c176 :: c177 :: c178 :: c179 :: c180 :: c181 :: c182 :: c183 :: c184 :: c185 :: c186 :: c187 :: c188 :: c189 :: c190 :: c191 :: c192 :: c193 :: c194 :: c195 :: c196 :: c197 :: c198 :: c199 :: c200 :: c201 :: c202 :: c203 :: c204 :: c205 :: c206 :: c207 :: c208 :: c209 :: c210 :: c211 :: c212 :: c213 :: c214 :: c215 :: c216 :: c217 :: c218 :: c219 :: c220 :: c221 :: c222 :: c223 :: c224 :: c225 :: c226 :: c227 :: c228 :: c229 :: c230 :: c231 :: c232 :: c233 :: c234 :: c235 :: c236 :: c237 :: c238 :: c239 :: c240 :: v241 :: v242 :: v243 :: v244 :: v245 :: v246 :: v247 :: v248 :: v249 :: v250 :: v251 :: v252 :: v253 :: v254 :: v255 :: v256 :: v257 :: v258 :: v259 :: v260 :: v261 :: v262 :: v263 :: v264 :: v265 :: v266 :: v267 :: v268 :: v269 :: v270 :: c271 :: c272 :: []).toArray, []⟩ w1) :
    Code.wp Tryd.prog (Code.loop (eOuter 1)) Q0 ⟨(c0 :: c1 :: c2 :: .slice (some ⟨g3, 0, none⟩) 8 8 :: c4 :: c5 :: c6 :: c7 :: c8 :: c9 :: c10 :: c11 :: c12 :: c13 :: c14 :: c15 :: c16 :: c17 :: .slice none 0 0 :: .int .i64 0 :: c20 :: c21 :: c22 :: c23 :: c24 :: c25 :: c26 :: c27 :: c28 :: c29 :: c30 :: c31 :: c32 :: c33 :: c34 :: c35 :: c36 :: c37 :: c38 :: c39 :: c40 :: c41 :: c42 :: c43 :: c44 :: c45 :: c46 :: c47 :: c48 :: c49 :: c50 :: c51 :: c52 :: c53 :: c54 :: c55 :: c56 :: c57 :: c58 :: c59 :: c60 :: c61 :: c62 :: c63 :: c64 :: c65 :: c66 :: c67 :: c68 :: c69 :: c70 :: c71 :: c72 :: c73 :: c74 :: c75 :: c76 :: c77 :: c78 :: c79 :: c80 :: c81 :: c82 :: c83 :: c84 :: c85 :: c86 :: c87 :: c88 :: c89 :: c90 :: c91 :: c92 :: c93 :: c94 :: c95 :: c96 :: c97 :: c98 :: c99 :: c100 :: c101 :: c102 :: c103 :: c104 :: c105 :: c106 :: c107 :: c108 :: c109 :: c110 :: c111 :: c112 :: c113 :: c114 :: c115 :: c116 :: c117 :: c118 :: c119 :: c120 :: c121 :: c122 :: c123 :: c124 :: c125 :: c126 :: c127 :: c128 :: c129 :: c130 :: c131 :: c132 :: c133 :: c134 :: c135 :: c136 :: c137 :: c138 :: c139 :: c140 :: c141 :: c142 :: c143 :: c144 :: c145 :: c146 :: c147 :: c148 :: c149 :: c150 :: c151 :: c152 :: c153 :: c154 :: c155 :: c156 :: c157 :: c158 :: c159 :: c160 :: c161 :: c162 :: c163 :: c164 :: c165 :: c166 :: c167 :: c168 :: c169 :: c170 :: c171 :: c172 :: c173 :: c174 :: c175 :: c176 :: c177 :: c178 :: c179 :: c180 :: c181 :: c182 :: c183 :: c184 :: c185 :: c186 :: c187 :: c188 :: c189 :: c190 :: c191 :: c192 :: c193 :: c194 :: c195 :: c196 :: c197 :: c198 :: c199 :: c200 :: c201 :: c202 :: c203 :: c204 :: c205 :: c206 :: c207 :: c208 :: c209 :: c210 :: c211 :: c212 :: c213 :: c214 :: c215 :: c216 :: c217 :: c218 :: c219 :: c220 :: c221 :: c222 :: c223 :: c224 :: c225 :: c226 :: c227 :: c228 :: c229 :: c230 :: c231 :: c232 :: c233 :: c234 :: c235 :: c236 :: c237 :: c238 :: c239 :: c240 :: u241 :: u242 :: u243 :: u244 :: u245 :: u246 :: u247 :: u248 :: u249 :: u250 :: u251 :: u252 :: u253 :: u254 :: u255 :: u256 :: u257 :: u258 :: u259 :: u260 :: u261 :: u262 :: u263 :: u264 :: u265 :: u266 :: u267 :: u268 :: u269 :: u270 :: c271 :: c272 :: []).toArray, []⟩ wr := by
  have HPN := Lib.hid hpan
  have HK := Lib.hid hK
  have HH := Lib.hid hH
  have HL := Lib.hid hl
  have HS := Lib.hid hs'
  have HO0 : Hid (OwnF wr wr.heap.size (.slice none 0 0) (outK hs 0)) := Lib.hid (by unfold outK; exact OwnF.nil _ _)
  have HB0 : Hid (But [] wr wr) := Lib.hid (But.refl _ _)
  obtain ⟨wz, hwz⟩ : ∃ W, W = wr := ⟨wr, rfl⟩
  have HWZ := Lib.hid hwz
  rw [← hwz] at HO0 HB0 HH
  conv => arg 2; arg 1; whnf
  clear hpan hK hH hl hs'
  go_loopw [18, 19] (fun ov kv wx => ∃ (k : Nat) (OA : Option Addr) (ol oc : Nat), k ≤ 8 ∧ kv = .int .i64 k ∧ ov = .slice OA ol oc ∧ Hid (ol = 4 * k) ∧ Hid (OwnF wx wz.heap.size (.slice OA ol oc) (outK hs k)) ∧ Hid (But [] wz wx)) (fun _ kv _ => 8 - (intOf kv).toNat)
  case atStart => exact ⟨0, none, 0, 0, Nat.zero_le _, rfl, rfl, Lib.hid rfl, by rw [← hwz]; exact HO0, by rw [← hwz]; exact HB0⟩
  case round =>
    clear HO0 HB0 hwz
    obtain ⟨k, OA, ol, oc, hk, rfl, rfl, HOE, HO, HB⟩ := hrel
    by_cases hlt : k < 8
    · obtain ⟨x, hx⟩ : ∃ x, x = hs.getD k 0 := ⟨_, rfl⟩
      have hxl : x < 4294967296 := by rw [hx]; exact HS.out k
      have HC : Hid (∀ W, But [] wz W → W.cell? ⟨g3, k, none⟩ = some (.int .i64 (x : Nat))) := Lib.hid fun W hW => by
        rw [(HH.out.but hW (by simp)).cell, rowZ_get (by rw [HL.out]; exact hlt), ← hx]
      obtain ⟨qa, h_qa⟩ : ∃ z, z = x / 16777216 := ⟨_, rfl⟩
      obtain ⟨qb, h_qb⟩ : ∃ z, z = x / 65536 := ⟨_, rfl⟩
      obtain ⟨qc, h_qc⟩ : ∃ z, z = x / 256 := ⟨_, rfl⟩
      obtain ⟨a, h_a⟩ : ∃ z, z = x / 16777216 % 256 := ⟨_, rfl⟩
      obtain ⟨b, h_b⟩ : ∃ z, z = x / 65536 % 256 := ⟨_, rfl⟩
      obtain ⟨c, h_c⟩ : ∃ z, z = x / 256 % 256 := ⟨_, rfl⟩
      obtain ⟨d, h_d⟩ : ∃ z, z = x % 256 := ⟨_, rfl⟩
      have f1 : (x : Int) / 16777216 = (qa : Int) := by omega
      have f2 : (x : Int) / 65536 = (qb : Int) := by omega
      have f3 : (x : Int) / 256 = (qc : Int) := by omega
      have u1 : IntKind.u8.wrap (qa : Int) = (a : Int) := by rw [IntKind.wrap_u8]; omega
      have u2 : IntKind.u8.wrap (qb : Int) = (b : Int) := by rw [IntKind.wrap_u8]; omega
      have u3 : IntKind.u8.wrap (qc : Int) = (c : Int) := by rw [IntKind.wrap_u8]; omega
      have u4 : IntKind.u8.wrap (x : Int) = (d : Int) := by rw [IntKind.wrap_u8]; omega
      have v1 := wrapI_in (show qa < 1000000000000000 by omega)
      have v2 := wrapI_in (show qb < 1000000000000000 by omega)
      have v3 := wrapI_in (show qc < 1000000000000000 by omega)
      have HFC : Hid ((cellsF (fourL x)).toArray = #[.int .u8 a, .int .u8 b, .int .u8 c, .int .u8 d]) := Lib.hid (four_cells h_a h_b h_c h_d)
      have HN : Hid (outK hs k ++ fourL x = outK hs (k + 1)) := Lib.hid (by rw [outK_next, hx])
      have HOL : Hid ((outK hs k).length = ol) := Lib.hid (by rw [outK_length, HOE.out])
      have HOL2 : Hid (ol + 4 = 4 * (k + 1)) := Lib.hid (by have := HOE.out; omega)
      have hol : ol ≤ 32 := by have := HOE.out; omega
      have b0 : (0 : Int) ≤ (k : Int) := by omega
      have b1 : (k : Int) < 8 := by omega
      have HLT := Lib.hid hlt
      clear hx hxl h_qa h_qb h_qc h_a h_b h_c h_d hlt
      go_upto_region 34 with (fail)
      refine wp_region_m (S := fun v => But [] wz v) (R := fun v v' => But [] v v') (fun w => But.refl [] w) (by kernel_rfl) HB.out.drew ?_
      refine rdk 0 (.slice OA ol oc) ?_ (hQ := fun _ _ _ h => HPN.out _ _ _ _ _ h)
      refine rdk 1 (.slice (some ⟨g3, 0, none⟩) 8 8) ?_ (hQ := fun _ _ _ h => HPN.out _ _ _ _ _ h)
      refine rdk 2 (.int .i64 (k : Int)) ?_ (hQ := fun _ _ _ h => HPN.out _ _ _ _ _ h)
      refine rdk 3 (.pointer (some ⟨g3, k, none⟩)) ?_ (hQ := fun _ _ _ h => HPN.out _ _ _ _ _ h)
      refine rdq 4 (.int .i64 (x : Int)) ?_ ?_ (hQ := fun _ _ _ h => HPN.out _ _ _ _ _ h)
      · intro W hS
        have cc := HC.out W hS
        go_simp
      refine rdk 5 (.int .i64 (qa : Int)) ?_ (hQ := fun _ _ _ h => HPN.out _ _ _ _ _ h)
      refine rdk 6 (.int .u8 (a : Int)) ?_ (hQ := fun _ _ _ h => HPN.out _ _ _ _ _ h)
      refine rdk 7 (.slice (some ⟨g3, 0, none⟩) 8 8) ?_ (hQ := fun _ _ _ h => HPN.out _ _ _ _ _ h)
      refine rdk 8 (.int .i64 (k : Int)) ?_ (hQ := fun _ _ _ h => HPN.out _ _ _ _ _ h)
      refine rdk 9 (.pointer (some ⟨g3, k, none⟩)) ?_ (hQ := fun _ _ _ h => HPN.out _ _ _ _ _ h)
      refine rdq 10 (.int .i64 (x : Int)) ?_ ?_ (hQ := fun _ _ _ h => HPN.out _ _ _ _ _ h)
      · intro W hS
        have cc := HC.out W hS
        go_simp
      refine rdk 11 (.int .i64 (qb : Int)) ?_ (hQ := fun _ _ _ h => HPN.out _ _ _ _ _ h)
      refine rdk 12 (.int .u8 (b : Int)) ?_ (hQ := fun _ _ _ h => HPN.out _ _ _ _ _ h)
      refine rdk 13 (.slice (some ⟨g3, 0, none⟩) 8 8) ?_ (hQ := fun _ _ _ h => HPN.out _ _ _ _ _ h)
      refine rdk 14 (.int .i64 (k : Int)) ?_ (hQ := fun _ _ _ h => HPN.out _ _ _ _ _ h)
      refine rdk 15 (.pointer (some ⟨g3, k, none⟩)) ?_ (hQ := fun _ _ _ h => HPN.out _ _ _ _ _ h)
      refine rdq 16 (.int .i64 (x : Int)) ?_ ?_ (hQ := fun _ _ _ h => HPN.out _ _ _ _ _ h)
      · intro W hS
        have cc := HC.out W hS
        go_simp
      refine rdk 17 (.int .i64 (qc : Int)) ?_ (hQ := fun _ _ _ h => HPN.out _ _ _ _ _ h)
      refine rdk 18 (.int .u8 (c : Int)) ?_ (hQ := fun _ _ _ h => HPN.out _ _ _ _ _ h)
      refine rdk 19 (.slice (some ⟨g3, 0, none⟩) 8 8) ?_ (hQ := fun _ _ _ h => HPN.out _ _ _ _ _ h)
      refine rdk 20 (.int .i64 (k : Int)) ?_ (hQ := fun _ _ _ h => HPN.out _ _ _ _ _ h)
      refine rdk 21 (.pointer (some ⟨g3, k, none⟩)) ?_ (hQ := fun _ _ _ h => HPN.out _ _ _ _ _ h)
      refine rdq 22 (.int .i64 (x : Int)) ?_ ?_ (hQ := fun _ _ _ h => HPN.out _ _ _ _ _ h)
      · intro W hS
        have cc := HC.out W hS
        go_simp
      refine rdk 23 (.int .u8 (d : Int)) ?_ (hQ := fun _ _ _ h => HPN.out _ _ _ _ _ h)
      refine wpM_one (i := 24) rfl (by kernel_rfl) fun w1 hR1 hS1 K' hK' => ?_
      go_simp
      refine hK' _ _ ⟨hS1.alloc _, ?_⟩
      clear hK' K'
      have hI1 : Is (w1.alloc (.cells #[.int .u8 (a : Int), .int .u8 (b : Int), .int .u8 (c : Int), .int .u8 (d : Int)] 5)) w1.heap.size 5 (cellsF (fourL x)).toArray := by rw [HFC.out]; exact Is.fresh _ _ _
      have hO1 := HO.out.but (((But.refl [] wr).drew.trans hR1).alloc (.cells #[.int .u8 (a : Int), .int .u8 (b : Int), .int .u8 (c : Int), .int .u8 (d : Int)] 5))
      refine wpM_one (i := 25) rfl (by kernel_rfl) fun w2 hR2 hS2 K' hK' => ?_
      refine step_append_h (w0 := wz) w2 rfl _ _ rfl (.slice OA ol oc) ol (outK hs k) (by rfl) HOL.out (hO1.but hR2) hS2 (fourL x) (m := 4) (fourL_length _) (by rfl) (hI1.but hR2 (by simp)) (by decide) (by omega) ?_
      intro A2 c2 w3 HO3 HB3
      refine hK' _ _ ⟨HB3.out, ?_⟩
      clear hK' K'
      refine rdk 26 (.slice A2 (ol + 4) c2) ?_ (hQ := fun _ _ _ h => HPN.out _ _ _ _ _ h)
      refine ⟨by kernel_rfl, fun w4 hR4 hS4 => ?_⟩
      rw [HN.out] at HO3
      have HO4 := Lib.hid (HO3.out.but hR4)
      have HB4 := Lib.hid hS4
      clear hR1 hS1 hR2 hS2 hR4 hS4 HO3 HB3 hO1 hI1 HO HB HC
      go_simp
      go_wp2
      go_roundw
      case rel => exact ⟨k + 1, A2, ol + 4, c2, by have := HLT.out; omega, by go_num, rfl, HOL2, HO4, HB4⟩
      case measure => simp [intOf] <;> omega
    · have h8 : k = 8 := by omega
      rw [h8] at HO HOE
      have hol : ol = 32 := HOE.out
      have HO2 : Hid (OwnF wr wz.heap.size (.slice OA ol oc) (outS hs)) := Lib.hid (by rw [← outK_all]; exact HO.out)
      subst h8
      clear hlt hk HO HOE hol
      go_wp2_with fail
      exact HK.out _ _ _ _ _ _ _ _ _ _ _ _ _ _ _ _ _ _ _ _ _ _ _ _ _ _ _ _ _ _ _ _ _ _ (by rw [← HWZ.out]; exact HO2.out) (by rw [← HWZ.out]; exact HB.out)
end Go.Proofs.YtmdiilnipoblbaaDoor
set_option maxRecDepth 1000000
set_option linter.unusedVariables false
namespace Go.Proofs.YtmdiilnipoblbaaDoor
set_option maxRecDepth 100000
open Go Go.RowKit
theorem VI.own {w : World} {base : Nat} {v : Value} {hs : List Nat} (hl : hs.length = 8) (h : w.ownsRow base 3 1 v 8 (nCells hs)) : ∃ gv cv, v = .slice (some ⟨gv, 0, none⟩) 8 cv ∧ base ≤ gv ∧ VI w gv hs := by
  obtain ⟨g, cap, e, h1, h2⟩ := h.form (by omega)
  refine ⟨g, cap, e, (World.ownsRow.lt h g (by rw [e]; rfl)).1, fun i hi => ?_⟩
  subst e
  have hc := World.ownsRow.cells h (g := g) rfl i (.int .i64 (hs.getD i 0 : Nat)) (by
    unfold nCells
    rw [List.getElem?_map, List.getElem?_eq_getElem (by omega), List.getD_eq_getElem?_getD, List.getElem?_eq_getElem (by omega)]
    rfl)
  have e2 : (⟨g, 0, none⟩ : Addr).add i = ⟨g, i, none⟩ := by unfold Addr.add; split <;> simp_all
  rw [e2] at hc
  exact hc
theorem news_row {w : World} {g : Nat} {hs : List Nat} (hl : hs.length = 8) (h : Is w g 3 (rowZ hs 8)) : ∀ (j : Nat) u, (nCells hs)[j]? = some u → w.cell? ((⟨g, 0, none⟩ : Addr).add j) = some u := by
  intro j u hj
  have e2 : (⟨g, 0, none⟩ : Addr).add j = ⟨g, j, none⟩ := by unfold Addr.add; split <;> simp_all
  rw [e2, h.cell]
  unfold rowZ
  rw [hl, Nat.sub_self, List.replicate_zero, List.append_nil, List.getElem?_toArray]
  exact hj
theorem SB.of {w : World} {g n : Nat} {S : List UInt8} (h : ByteRow w (some ⟨g, 0, none⟩) n S) : SB w g 0 n S := by
  refine ⟨h.1, fun i hi => ?_⟩
  obtain ⟨g2, o2, e, hc⟩ := h.2 (by omega)
  injection e with e
  injection e with e1 e2
  subst e1 e2
  have hi2 : i < S.length := by rw [h.1]; exact hi
  rw [hc i hi2, getD_lt hi2]
theorem But.overF {w w1 w2 : World} {g : Nat} (h : But [] w w1) (k : But [g] w1 w2) (hg : w.heap.size ≤ g) : But [] w w2 :=
  ⟨k.os.trans h.os, k.tape.trans h.tape, k.output.trans h.output, Nat.le_trans h.size k.size, fun b hb _ => (k.block b (Nat.lt_of_lt_of_le hb h.size) (by simp; omega)).trans (h.block b hb (by simp))⟩
theorem sizeOf_byteH (w : World) : (Go.sizeOf 5).run Tryd.prog w = .ok 1 w := by kernel_rfl
theorem slice_fromH (W : World) (g o n c : Nat) (hn : 64 ≤ n) (hc : n ≤ c) :
    ∃ o', (Instr.slice 48 (.slice (some ⟨g, o, none⟩) n c) (some (.int .i64 64)) none none).run Tryd.prog W = .ok (.slice (some ⟨g, o', none⟩) (n - 64) (c - 64)) W ∧ (64 < n → o' = o + 64) := by
  have ht : Tryd.prog.underlying 48 = some (.slice 5) := Tryd.underlying48
  have ht' : Tryd.prog.underlying 48 = some (.slice (Tryd.prog.elem 48)) := by simp [Program.elem, ht]
  have he : Tryd.prog.elem 48 = 5 := by simp [Program.elem, ht]
  rw [run_slice_l W _ _ _ _ ht' .i64 _ (by omega) (by omega), he, sizeOf_byteH]
  by_cases h0 : c = 64
  · refine ⟨o, ?_, fun h => by omega⟩
    simp [Result.andThen, sliced, h0]
  · refine ⟨o + 64, ?_, fun _ => rfl⟩
    simp [Result.andThen, sliced, Addr.add, h0]
theorem hSha_rowZ : rowZ hSha 8 = #[.int .i64 1779033703, .int .i64 3144134277, .int .i64 1013904242, .int .i64 2773480762, .int .i64 1359893119, .int .i64 2600822924, .int .i64 528734635, .int .i64 1541459225] := rfl
theorem nCells_one (L : List Nat) : ∀ u ∈ nCells L, u.oneCell' = true := by
  intro u hu
  unfold nCells at hu
  obtain ⟨y, _, rfl⟩ := List.mem_map.1 hu
  rfl
attribute [local irreducible] rowZ kSha hSha blocksS outS roundsS extWd wordsB addS fillT
set_option maxHeartbeats 8000000 in
theorem esum_any (w : World) (s : ByteArray) (hs : s.size ≤ 100000000) :
    Calls Tryd.prog 30 #[.string s] w fun e w' => e = .returned (.string (strL (shaT s.data.toList))) ∧ But [] w w' := by
  obtain ⟨i0, hi0, hz0, hz1, hz2⟩ := info_parts info_intN
  obtain ⟨g3, hg3⟩ : ∃ g, g = w.heap.size := ⟨_, rfl⟩
  obtain ⟨w0, hw0⟩ : ∃ W, W = w.alloc (.cells #[.int .i64 1779033703, .int .i64 3144134277, .int .i64 1013904242, .int .i64 2773480762, .int .i64 1359893119, .int .i64 2600822924, .int .i64 528734635, .int .i64 1541459225] 3) := ⟨_, rfl⟩
  have HI0 : Hid (Is w0 g3 3 (rowZ hSha 8)) := Lib.hid (by rw [hw0, hg3, hSha_rowZ]; exact Is.fresh _ _ _)
  have HB0 : Hid (But [] w w0) := Lib.hid (by rw [hw0]; exact (But.refl [] w).alloc _)
  have HL3 : Hid (w.heap.size ≤ g3) := Lib.hid (by omega)
  have HC := Lib.hid (econst_any w0)
  have HF := Lib.hid fun W => efilled_any W s hs
  obtain ⟨l, hl⟩ : ∃ l, l = s.data.toList := ⟨_, rfl⟩
  rw [← hl] at HF ⊢
  have hfl := fillT_length l
  have HFL : Hid ((fillT l).length % 64 = 0 ∧ (fillT l).length ≤ 100000200) := Lib.hid (by
    have h1 : l.length = s.size := by rw [hl, Array.length_toList]; rfl
    have h2 := padN_lt l.length
    omega)
  obtain ⟨R, hR⟩ : ∃ R, R = blocksS ((fillT l).length / 64) (fillT l) hSha := ⟨_, rfl⟩
  have HR0 := Lib.hid hR
  have HRT : Hid (shaT l = outS R) := Lib.hid (by rw [hR]; rfl)
  rw [HRT.out]
  obtain ⟨FL, hFL⟩ : ∃ F, F = fillT l := ⟨_, rfl⟩
  obtain ⟨nF, hnF⟩ : ∃ n, n = FL.length := ⟨_, rfl⟩
  rw [← hFL, ← hnF] at HFL HR0
  simp only [← hFL, ← hnF] at HF
  clear hl hfl hR hFL hnF hs
  go_enter Tryd.func30, Tryd.ntmps30
  go_wp2_with fail
  rw [← hw0, ← hg3]
  clear hw0 hg3
  refine HC.out.mono ?_
  rintro e w1 ⟨gk, rfl, hIk, hBk⟩
  have HIK := Lib.hid hIk
  have HI1 := Lib.hid (HI0.out.but hBk (by simp))
  have HB1 := Lib.hid (HB0.out.trans hBk)
  have HKN : Hid (gk ≠ g3) := Lib.hid (fun e => by
    have a1 := hIk
    rw [e] at a1
    have := congrArg Array.size (Obj.cells.inj (Option.some.inj (a1.symm.trans HI1.out))).1
    rw [rowZ_size (by rw [kSha_length]; decide), rowZ_size (by rw [hSha_length]; decide)] at this
    omega)
  clear hIk hBk HI0 HB0 HC
  go_wp2_with fail
  refine (HF.out w1).mono ?_
  rintro e w2 ⟨gf, cf, rfl, hgf, hgf2, hcf, hrow, hBf⟩
  have HGN : Hid (gf ≠ g3) := Lib.hid (by have := HI1.out.lt; omega)
  have HI2 := Lib.hid (HI1.out.but hBf (by simp))
  have HIK2 := Lib.hid (HIK.out.but hBf (by simp))
  have HB2 := Lib.hid (HB1.out.trans hBf)
  have HS2 := Lib.hid (SB.of hrow)
  clear hgf hgf2 hrow hBf HI1 HIK HB1 HF
  go_wp2_with fail
  go_loopw [5] (fun sv wx => ∃ (S : List UInt8) (h : List Nat) (o n c : Nat), sv = .slice (some ⟨gf, o, none⟩) n c ∧ n ≤ c ∧ n ≤ 100000200 ∧ Hid (n % 64 = 0) ∧ Hid (R = blocksS (n / 64) S h) ∧ Hid (h.length = 8) ∧ Hid (Small h) ∧ Hid (SB wx gf o n S) ∧ Hid (Is wx g3 3 (rowZ h 8)) ∧ Hid (Is wx gk 3 (rowZ kSha 64)) ∧ Hid (But [] w wx)) (fun sv _ => lenV sv)
  case atStart => exact ⟨FL, hSha, 0, nF, cf, rfl, hcf, HFL.out.2, Lib.hid HFL.out.1, HR0, Lib.hid hSha_length, Lib.hid small_hSha, HS2, HI2, HIK2, HB2⟩
  case round =>
    clear HR0 HS2 HI2 HIK2 HB2 HFL
    obtain ⟨S, h, o, n, c, rfl, hnc, hn2, HNM, HR, HH, HHS, HSB, HI, HIK, HB⟩ := hrel
    by_cases hz : n = 0
    · have HRh : Hid (R = h) := Lib.hid (by rw [HR.out, hz]; unfold blocksS; rfl)
      have hz0i : ¬ (0 : Int) < (n : Int) := by omega
      clear HR HNM HSB HIK hn2 hnc
      go_wp2_with fail
      refine eout_loop HI.out HH.out HHS.out (fun _ _ d _ _ hp => by cases d <;> exact hp) ?_
      intro z241 z242 z243 z244 z245 z246 z247 z248 z249 z250 z251 z252 z253 z254 z255 z256 z257 z258 z259 z260 z261 z262 z263 z264 z265 z266 z267 z268 z269 z270 OA ol oc w5 hO5 hB5
      have HT := hO5.text
      have HB5 := Lib.hid (HB.out.trans hB5)
      clear hB5 hO5 HI HH HHS
      go_wp2
      go_ret
      exact ⟨by rw [HRh.out]; rfl, HB5.out⟩
    · have h64 : 64 ≤ n := by have := HNM.out; omega
      have hpz : (0 : Int) < (n : Int) := by omega
      have hmk : ∀ W, (Instr.makeSlice 70 (.int .i64 64) (.int .i64 64)).run Tryd.prog W = .ok (.slice (some ⟨W.heap.size, 0, none⟩) 64 64) (zeroZ W 64) := fun W => run_zeroZ W (n := 64) (by decide)
      have HZN := Lib.hid hz
      have HGF := Lib.hid (HSB.out.lt (by omega))
      have HG3 := Lib.hid HI.out.lt
      have HGK := Lib.hid HIK.out.lt
      obtain ⟨g6, hg6⟩ : ∃ g, g = wr.heap.size := ⟨_, rfl⟩
      have hI6 : Is (zeroZ wr 64) g6 3 (rowZ [] 64) := by rw [hg6]; exact Is.fresh _ _ _
      have hB6 : But [] wr (zeroZ wr 64) := (But.refl [] wr).alloc _
      obtain ⟨W1, hW1⟩ : ∃ W, W = zeroZ wr 64 := ⟨_, rfl⟩
      rw [← hW1] at hI6 hB6
      have HS6 := Lib.hid (HSB.out.but hB6 (by simp))
      have HI63 := Lib.hid (HI.out.but hB6 (by simp))
      have HK6 := Lib.hid (HIK.out.but hB6 (by simp))
      have HB6 := Lib.hid hB6
      have HI6 := Lib.hid hI6
      have HNF : Hid (gf ≠ g6) := Lib.hid (by have := HGF.out; omega)
      have HN3 : Hid (g3 ≠ g6) := Lib.hid (by have := HG3.out; omega)
      have HNK : Hid (gk ≠ g6) := Lib.hid (by have := HGK.out; omega)
      have HG6 := Lib.hid hg6
      clear hz hI6 hB6 HSB HI HIK
      go_wp2_with fail
      rw [← hW1, ← hg6]
      clear hW1 hg6 hmk
      refine eword_loop HI6.out HS6.out h64 (by omega) HNF.out (fun _ _ d _ _ hp => by cases d <;> exact hp) ?_
      intro z28 z29 z30 z31 z32 z33 z34 z35 z36 z37 z38 z39 z40 z41 z42 z43 z44 z45 z46 z47 z48 z49 z50 z51 z52 z53 z54 z55 z56 z57 z58 z59 z60 z61 z62 z63 z64 z65 z66 z67 w3 hI3 hB3
      have HB3 := Lib.hid (But.overF HB6.out hB3 (by rw [HG6.out]; exact Nat.le_refl _))
      have HI33 := Lib.hid (HI63.out.but hB3 (by simpa using HN3.out))
      have HK3 := Lib.hid (HK6.out.but hB3 (by simpa using HNK.out))
      have HS3 := Lib.hid (HS6.out.but hB3 (by simpa using HNF.out))
      have HI3 := Lib.hid hI3
      clear hI3 hB3 HI6 HS6 HI63 HK6
      go_wp2_with fail
      refine eext_loop HI3.out (fun _ _ d _ _ hp => by cases d <;> exact hp) ?_
      intro z9 z10 z68 z69 z70 z71 z72 z73 z74 z75 z76 z77 z78 z79 z80 z81 z82 z83 z84 z85 z86 z87 z88 z89 z90 z91 z92 z93 z94 z95 z96 z97 z98 z99 z100 z101 z102 z103 z104 z105 z106 z107 z108 z109 z110 z111 z112 z113 z114 w4 hI4 hB4
      have HB4 := Lib.hid (But.overF HB3.out hB4 (by rw [HG6.out]; exact Nat.le_refl _))
      have HI43 := Lib.hid (HI33.out.but hB4 (by simpa using HN3.out))
      have HK4 := Lib.hid (HK3.out.but hB4 (by simpa using HNK.out))
      have HS4 := Lib.hid (HS3.out.but hB4 (by simpa using HNF.out))
      obtain ⟨X, hX⟩ : ∃ X, X = extWd 48 (wordsB (S.take 64)) := ⟨_, rfl⟩
      have HXL : Hid (X.length = 64) := Lib.hid (by rw [hX, extWd_length, wordsB_length])
      have HXS : Hid (Small X) := Lib.hid (by rw [hX]; exact small_ext 48 (small_words _))
      have HX := Lib.hid hX
      rw [← hX] at hI4
      have HI4 := Lib.hid hI4
      clear hI4 hB4 hX HI3 HI33 HK3 HS3
      go_wp2_with (at_builtin; refine wpList_append_grows _ rfl _ _ 70 rfl 3 i0 _ 1 8 Tryd.underlying70 hi0 hz0 hz1 hz2 rfl (by decide) (some ⟨w4.heap.size, 0, none⟩) 0 0 [] rfl (by simp) rfl (by simp) ⟨g3, 0, none⟩ 8 8 (nCells h) rfl (by rw [nCells_length, HH.out]) (news_row HH.out (HI43.out.alloc _)) (nCells_one h) (by decide) (by unfold maxLen; omega) (by omega) ?_; intro v5 w5 hown hgrow)
      obtain ⟨gv, cv, rfl, hgv, hV⟩ := VI.own HH.out (by simpa using hown)
      have hB5 : But [] w4 w5 := ((But.refl [] w4).alloc _).grown hgrow (by simp)
      have HB5 := Lib.hid (HB4.out.trans hB5)
      have HI53 := Lib.hid (HI43.out.but hB5 (by simp))
      have HK5 := Lib.hid (HK4.out.but hB5 (by simp))
      have HS5 := Lib.hid (HS4.out.but hB5 (by simp))
      have HI5 := Lib.hid (HI4.out.but hB5 (by simp))
      have HV5 := Lib.hid hV
      have HGV : Hid (gv ≠ g3) := Lib.hid (by
        have h1 := HI43.out.lt
        have h2 : w4.heap.size ≤ gv := Nat.le_trans (by simp) hgv
        omega)
      clear hown hgrow hgv hV hB5 HI43 HK4 HS4 HI4
      go_wp2_with fail
      refine eround_loop HK5.out HI5.out HXL.out HXS.out HH.out HHS.out HV5.out (fun _ _ d _ _ hp => by cases d <;> exact hp) ?_
      intro z13 z14 z15 z16 z118 z119 z120 z121 z122 z123 z124 z125 z126 z127 z128 z129 z130 z131 z132 z133 z134 z135 z136 z137 z138 z139 z140 z141 z142 z143 z144 z145 z146 z147 z148 z149 z150 z151 z152 z153 z154 z155 z156 z157 z158 z159 z160 z161 z162 z163 z164 z165 z166 z167 z168 z169 z170 z171 z172 z173 z174 z175 z176 z177 z178 z179 z180 z181 z182 z183 z184 z185 z186 z187 z188 z189 z190 z191 z192 z193 z194 z195 z196 z197 z198 z199 z200 z201 z202 z203 z204 z205 z206 z207 z208 z209 z210 z211 z212 z213 z214 z215 z216 z217 z218 z219 z220 z221 w6 gv6 cv6 hV6 hgv6 hB6
      have HB6b := Lib.hid (HB5.out.trans hB6)
      have HI63 := Lib.hid (HI53.out.but hB6 (by simp))
      have HK6b := Lib.hid (HK5.out.but hB6 (by simp))
      have HS6b := Lib.hid (HS5.out.but hB6 (by simp))
      have HV6 := Lib.hid hV6
      have HGV6 : Hid (gv6 ≠ g3) := Lib.hid (by
        rcases hgv6 with e | e
        · rw [e]; exact HGV.out
        · have := HI53.out.lt; omega)
      have HVS : Hid (Small (roundsS X h 64)) := Lib.hid (small_rounds X HHS.out 64)
      clear hV6 hgv6 hB6 HI53 HK5 HS5 HI5 HV5
      go_wp2_with fail
      refine eadd_loop HI63.out HV6.out HH.out HVS.out HHS.out HGV6.out (fun _ _ d _ _ hp => by cases d <;> exact hp) ?_
      intro z222 z223 z224 z225 z226 z227 z228 z229 z230 z231 z232 z233 z234 z235 z236 z237 z238 w7 hI7 hB7
      have HB7 := Lib.hid (But.overF (HB.out.trans HB6b.out) hB7 HL3.out)
      have HK7 := Lib.hid (HK6b.out.but hB7 (by simpa using HKN.out))
      have hS7 := HS6b.out.but hB7 (by simpa using HGN.out)
      obtain ⟨o', hsl, ho'⟩ := slice_fromH w7 gf o n c h64 hnc
      have HS7 : Hid (SB w7 gf o' (n - 64) (S.drop 64)) := Lib.hid (by
        by_cases e : 64 < n
        · rw [ho' e]; exact hS7.cut h64
        · exact ⟨by rw [List.length_drop, hS7.1], fun i hi => by omega⟩)
      have HI7 := Lib.hid hI7
      have HRN : Hid (R = blocksS ((n - 64) / 64) (S.drop 64) (addS h (roundsS X h 64))) := Lib.hid (by
        rw [HR.out, show n / 64 = (n - 64) / 64 + 1 by omega]
        show blocksS ((n - 64) / 64 + 1) S h = _
        rw [HX.out, ← blockS_of, blocksS])
      have HNM2 : Hid ((n - 64) % 64 = 0) := Lib.hid (by have := HNM.out; omega)
      have hm : n - 64 ≤ c - 64 ∧ n - 64 ≤ 100000200 := by omega
      have hmes : n - 64 < n := by omega
      have HM := Lib.hid hm
      have HMES := Lib.hid hmes
      clear hI7 hB7 hS7 ho' HI63 HV6 HK6b HS6b HB6b HR HNM hm hmes
      go_wp2
      go_roundw
      case rel => exact ⟨S.drop 64, addS h (roundsS X h 64), o', n - 64, c - 64, rfl, HM.out.1, HM.out.2, HNM2, HRN, Lib.hid (addS_length _ _), Lib.hid (small_add _ _), HS7, HI7, HK7, HB7⟩
      case measure => exact HMES.out
end Go.Proofs.YtmdiilnipoblbaaDoor
