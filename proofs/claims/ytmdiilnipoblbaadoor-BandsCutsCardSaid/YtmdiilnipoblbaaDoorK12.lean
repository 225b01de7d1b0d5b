/- Several texts in one: HaO, HaM (what BandsCuts, BandsJoins, BandsManifest reach of them). -/
import Derived.Test.YtmdiilnipoblbaaDoorK01
import Derived.Test.YtmdiilnipoblbaaDoorK02
import Derived.Test.YtmdiilnipoblbaaDoorK03
import Derived.Test.YtmdiilnipoblbaaDoorK04
import Derived.Test.YtmdiilnipoblbaaDoorK11
import Derived.ArgAppend
import Derived.Below
import Derived.BigQuiet
import Derived.BigRegion
import Derived.Deep.AppendLies
import Derived.Deep.Cut
import Derived.Deep.CutBlock
import Derived.Deep.CutRange
import Derived.Deep.DeepCutAuto
import Derived.Deep.Draws
import Derived.Deep.LoopGhost
import Derived.Deep.QuietTactic
import Derived.Deep.RegionLaw
import Derived.Deep.RegionWith
import Derived.Deep.Slices
import Derived.Handy
import Derived.Laws.BitsAllLaws
import Derived.Laws.BitsLemmas
import Derived.Laws.BytesArg
import Derived.Laws.Cells
import Derived.Laws.Externs
import Derived.Laws.IdiomStrings
import Derived.Laws.MakeOwn
import Derived.Laws.OwnMore
import Derived.Laws.Rows
import Derived.Laws.StructEq
import Derived.Laws.Tables
import Derived.Lib.AppendStr
import Derived.Lib.Hide
import Derived.Lib.UnsafeStr
import Derived.Maps.AppendAt
import Derived.OpenShut
import Derived.OrdersHeld
import Derived.OrdersIn
import Derived.Outline
import Derived.OwnWalk
import Derived.OwnWalkIn
import Derived.ProofKit
import Derived.RangeFuncCalls
import Derived.RegionTactic
import Derived.Shelf.LaysM
import Derived.Shelf.Small.Wraps
import Derived.Shelf.Strconv.Clone
import Derived.Shelf.Strings.Builder1
import Derived.Shelf.Strings.BuilderF
import Derived.Shelf.Strings.Prefix
import Derived.Shelf.Strings.Repeat
import Derived.TacticsInMore
import Derived.Test.YtmdiilnipoblbaaDoorChecked
import Derived.WalkKit
set_option maxRecDepth 100000
set_option linter.unusedVariables false
set_option maxRecDepth 1000000
set_option linter.unusedVariables false
namespace Go.Proofs.YtmdiilnipoblbaaDoor
set_option maxRecDepth 100000
open Go Go.RowKit
theorem nextWd_sum {w : List Nat} {k x y p q s0 s1 : Nat} (hk : w.length = k) (hx : w.getD (k - 15) 0 = x) (hy : w.getD (k - 2) 0 = y) (hp : w.getD (k - 16) 0 = p) (hq : w.getD (k - 7) 0 = q)
    (h0 : s0 = rotT x 7 ^^^ rotT x 18 ^^^ x / 8) (h1 : s1 = rotT y 17 ^^^ rotT y 19 ^^^ y / 1024) : nextWd w = (p + s0 + q + s1) % 4294967296 := by
  unfold nextWd
  rw [hk, hx, hy, hp, hq, Nat.shiftRight_eq_div_pow, Nat.shiftRight_eq_div_pow, show 2 ^ 3 = 8 from rfl, show 2 ^ 10 = 1024 from rfl, ← h0, ← h1]
attribute [local irreducible] rowZ wordsB extWd nextWd rotT
set_option maxHeartbeats 4000000 in
theorem eext_loop {wr : World} {g6 : Nat} {b : List UInt8} {Q0 : Exit → Act → World → Prop} {c0 c1 c2 c3 c4 c5 c7 c11 c12 c13 c14 c15 c16 c17 c18 c19 c20 c21 c22 c23 c24 c25 c26 c27 c28 c29 c30 c31 c32 c33 c34 c35 c36 c37 c38 c39 c40 c41 c42 c43 c44 c45 c46 c47 c48 c49 c50 c51 c52 c53 c54 c55 c56 c57 c58 c59 c60 c61 c62 c63 c64 c65 c66 c67 c115 c116 c117 c118 c119 c120 c121 c122 c123 c124 c125 c126 c127 c128 c129 c130 c131 c132 c133 c134 c135 c136 c137 c138 c139 c140 c141 c142 c143 c144 c145 c146 c147 c148 c149 c150 c151 c152 c153 c154 c155 c156 c157 c158 c159 c160 c161 c162 c163 c164 c165 c166 c167 c168 c169 c170 c171 c172 c173 c174 c175 c176 c177 c178 c179 c180 c181 c182 c183 c184 c185 c186 c187 c188 c189 c190 c191 c192 c193 c194 c195 c196 c197 c198 c199 c200 c201 c202 c203 c204 c205 c206 c207 c208 c209 c210 c211 c212 c213 c214 c215 c216 c217 c218 c219 c220 c221 c222 c223 c224 c225 c226 c227 c228 c229 c230 c231 c232 c233 c234 c235 c236 c237 c238 c239 c240 c241 c242 c243 c244 c245 c246 c247 c248 c249 c250 c251 c252 c253 c254 c255 c256 c257 c258 c259 c260 c261 c262 c263 c264 c265 c266 c267 c268 c269 c270 c271 c272 u9 u10 u68 u69 u70 u71 u72 u73 u74 u75 u76 u77 u78 u79 u80 u81 u82 u83 u84 u85 u86 u87 u88 u89 u90 u91 u92 u93 u94 u95 u96 u97 u98 u99 u100 u101 u102 u103 u104 u105 u106 u107 u108 u109 u110 u111 u112 u113 u114 : Value} (hI : Is wr g6 3 (rowZ (wordsB b) 64)) (hpan : ∀ (c : List PanicEntry) (a : Act) (d : Option Tmp) (v : Value) (w : World), Q0 (.panic c) (a.put d v) w → Q0 (.panic c) a w)
    (hK : ∀ (v9 v10 v68 v69 v70 v71 v72 v73 v74 v75 v76 v77 v78 v79 v80 v81 v82 v83 v84 v85 v86 v87 v88 v89 v90 v91 v92 v93 v94 v95 v96 v97 v98 v99 v100 v101 v102 v103 v104 v105 v106 v107 v108 v109 v110 v111 v112 v113 v114 : Value) w1, Is w1 g6 3 (rowZ (extWd 48 (wordsB b)) 64) → But [g6] wr w1 → Q0 (.exit 4) ⟨(c0 :: c1 :: c2 :: c3 :: c4 :: c5 :: .slice (some ⟨g6, 0, none⟩) 64 64 :: c7 :: .int .i64 64 :: v9 :: v10 :: c11 :: c12 :: c13 :: c14 :: c15 :: c16 :: c17 :: c18 :: c19 :: c20 :: c21 :: c22 :: c23 :: c24 :: c25 :: c26 :: c27 :: c28 :: c29 :: c30 :: c31 :: c32 :: c33 :: c34 :: c35 :: c36 :: c37 :: c38 :: c39 :: c40 :: c41 :: c42 :: c43 :: c44 :: c45 :: c46 :: c47 :: c48 :: c49 :: c50 :: c51 :: c52 :: c53 :: c54 :: c55 :: c56 :: c57 :: c58 :: c59 :: c60 :: c61 :: c62 :: c63 :: c64 :: c65 :: c66 :: c67 :: v68 :: v69 :: v70 :: v71 :: v72 :: v73 :: v74 :: v75 :: v76 :: v77 :: v78 :: v79 :: v80 :: v81 :: v82 :: v83 :: v84 :: v85 :: v86 :: v87 :: v88 :: v89 :: v90 :: v91 :: v92 :: v93 :: v94 :: v95 :: v96 :: v97 :: v98 :: v99 :: v100 :: v101 :: v102 :: v103 :: v104 :: v105 :: v106 :: v107 :: v108 :: v109 :: v110 :: v111 :: v112 :: v113 :: v114 :: c115 :: c116 :: c117 :: c118 :: c119 :: c120 :: c121 :: c122 :: c123 :: c124 :: c125 :: c126 :: c127 :: c128 :: c129 :: c130 :: c131 :: c132 :: c133 :: c134 :: c135 :: c136 :: c137 :: c138 :: c139 :: c140 :: c141 :: c142 :: c143 :: c144 :: c145 :: c146 :: c147 :: c148 :: c149 :: c150 :: c151 :: c152 :: c153 :: c154 :: c155 :: c156 :: c157 :: c158 :: c159 :: c160 :: c161 :: c162 :: c163 :: c164 :: c165 :: c166 :: c167 :: c168 :: c169 :: c170 :: c171 :: c172 :: c173 :: c174 :: c175 :: c176 :: c177 :: c178 :: c179 :: c180 :: c181 :: c182 :: c183 :: c184 :: c185 :: c186 :: c187 :: c188 :: c189 :: c190 :: c191 :: c192 :: c193 :: c194 :: c195 :: c196 :: c197 :: c198 :: c199 :: c200 :: c201 :: c202 :: c203 :: c204 :: c205 :: c206 :: c207 :: c208 :: c209 :: c210 :: c211 :: c212 :: c213 :: c214 :: c215 :: c216 :: c217 :: c218 :: c219 :: c220 :: c221 :: c222 :: c223 :: c224 :: c225 :: c226 :: c227 :: c228 :: c229 :: c230 :: c231 :: c232 :: c233 :: c234 :: c235 :: c236 :: c237 :: c238 :: c239 :: c240 :: c241 :: c242 :: c243 :: c244 :: c245 :: c246 :: c247 :: c248 :: c249 :: c250 :: c251 :: c252 :: c253 :: c254 :: c255 :: c256 :: c257 :: c258 :: c259 :: c260 :: c261 :: c262 :: c263 :: c264 :: c265 :: c266 :: c267 :: c268 :: c269 :: c270 :: c271 :: c272 :: []).toArray, []⟩ w1) :
    Code.wp Tryd.prog (Code.loop (eInner 1)) Q0 ⟨(c0 :: c1 :: c2 :: c3 :: c4 :: c5 :: .slice (some ⟨g6, 0, none⟩) 64 64 :: c7 :: .int .i64 16 :: u9 :: u10 :: c11 :: c12 :: c13 :: c14 :: c15 :: c16 :: c17 :: c18 :: c19 :: c20 :: c21 :: c22 :: c23 :: c24 :: c25 :: c26 :: c27 :: c28 :: c29 :: c30 :: c31 :: c32 :: c33 :: c34 :: c35 :: c36 :: c37 :: c38 :: c39 :: c40 :: c41 :: c42 :: c43 :: c44 :: c45 :: c46 :: c47 :: c48 :: c49 :: c50 :: c51 :: c52 :: c53 :: c54 :: c55 :: c56 :: c57 :: c58 :: c59 :: c60 :: c61 :: c62 :: c63 :: c64 :: c65 :: c66 :: c67 :: u68 :: u69 :: u70 :: u71 :: u72 :: u73 :: u74 :: u75 :: u76 :: u77 :: u78 :: u79 :: u80 :: u81 :: u82 :: u83 :: u84 :: u85 :: u86 :: u87 :: u88 :: u89 :: u90 :: u91 :: u92 :: u93 :: u94 :: u95 :: u96 :: u97 :: u98 :: u99 :: u100 :: u101 :: u102 :: u103 :: u104 :: u105 :: u106 :: u107 :: u108 :: u109 :: u110 :: u111 :: u112 :: u113 :: u114 :: c115 :: c116 :: c117 :: c118 :: c119 :: c120 :: c121 :: c122 :: c123 :: c124 :: c125 :: c126 :: c127 :: c128 :: c129 :: c130 :: c131 :: c132 :: c133 :: c134 :: c135 :: c136 :: c137 :: c138 :: c139 :: c140 :: c141 :: c142 :: c143 :: c144 :: c145 :: c146 :: c147 :: c148 :: c149 :: c150 :: c151 :: c152 :: c153 :: c154 :: c155 :: c156 :: c157 :: c158 :: c159 :: c160 :: c161 :: c162 :: c163 :: c164 :: c165 :: c166 :: c167 :: c168 :: c169 :: c170 :: c171 :: c172 :: c173 :: c174 :: c175 :: c176 :: c177 :: c178 :: c179 :: c180 :: c181 :: c182 :: c183 :: c184 :: c185 :: c186 :: c187 :: c188 :: c189 :: c190 :: c191 :: c192 :: c193 :: c194 :: c195 :: c196 :: c197 :: c198 :: c199 :: c200 :: c201 :: c202 :: c203 :: c204 :: c205 :: c206 :: c207 :: c208 :: c209 :: c210 :: c211 :: c212 :: c213 :: c214 :: c215 :: c216 :: c217 :: c218 :: c219 :: c220 :: c221 :: c222 :: c223 :: c224 :: c225 :: c226 :: c227 :: c228 :: c229 :: c230 :: c231 :: c232 :: c233 :: c234 :: c235 :: c236 :: c237 :: c238 :: c239 :: c240 :: c241 :: c242 :: c243 :: c244 :: c245 :: c246 :: c247 :: c248 :: c249 :: c250 :: c251 :: c252 :: c253 :: c254 :: c255 :: c256 :: c257 :: c258 :: c259 :: c260 :: c261 :: c262 :: c263 :: c264 :: c265 :: c266 :: c267 :: c268 :: c269 :: c270 :: c271 :: c272 :: []).toArray, []⟩ wr := by
  have HPN := Lib.hid hpan
  have HI0 : Hid (Is wr g6 3 (rowZ (extWd 0 (wordsB b)) 64)) := Lib.hid (by unfold extWd; exact hI)
  have HK := Lib.hid hK
  have HB0 : Hid (But [g6] wr wr) := Lib.hid (But.refl _ _)
  have HWL := Lib.hid (wordsB_length b)
  obtain ⟨wz, hwz⟩ : ∃ W, W = wr := ⟨wr, rfl⟩
  have HWZ := Lib.hid hwz
  conv => arg 2; arg 1; whnf
  clear hpan hI hK hwz
  go_loopw [8] (fun tv wx => ∃ k t : Nat, k ≤ 48 ∧ Hid (t = k + 16) ∧ t ≤ 64 ∧ tv = .int .i64 t ∧ Hid (Is wx g6 3 (rowZ (extWd k (wordsB b)) 64)) ∧ Hid (But [g6] wz wx)) (fun tv _ => 64 - (intOf tv).toNat)
  case atStart => exact ⟨0, 16, Nat.zero_le _, Lib.hid rfl, by decide, rfl, HI0, by rw [HWZ.out]; exact HB0⟩
  case round =>
    clear HI0 HB0
    obtain ⟨k, t, hk, HT, ht, rfl, HI, HB⟩ := hrel
    by_cases hlt : k < 48
    · obtain ⟨X, hX⟩ : ∃ X, X = extWd k (wordsB b) := ⟨_, rfl⟩
      have hXl : X.length = t := by rw [hX, extWd_length, HWL.out, HT.out]; omega
      have HXS : Hid (Small X) := Lib.hid (by rw [hX]; exact small_ext k (small_words b))
      have ht16 : 16 ≤ t := by have := HT.out; omega
      have ht64 : t < 64 := by have := HT.out; omega
      rw [← hX] at HI
      obtain ⟨i15, hi15⟩ : ∃ i, i = t - 15 := ⟨_, rfl⟩
      have e15 : (t : Int) - 15 = (i15 : Int) := by omega
      have w15 := wrapI_in (show i15 < 1000000000000000 by omega)
      have z15 : (0 : Int) ≤ (i15 : Int) := by omega
      have y15 : (i15 : Int) < 64 := by omega
      obtain ⟨i2, hi2⟩ : ∃ i, i = t - 2 := ⟨_, rfl⟩
      have e2 : (t : Int) - 2 = (i2 : Int) := by omega
      have w2 := wrapI_in (show i2 < 1000000000000000 by omega)
      have z2 : (0 : Int) ≤ (i2 : Int) := by omega
      have y2 : (i2 : Int) < 64 := by omega
      obtain ⟨i16, hi16⟩ : ∃ i, i = t - 16 := ⟨_, rfl⟩
      have e16 : (t : Int) - 16 = (i16 : Int) := by omega
      have w16 := wrapI_in (show i16 < 1000000000000000 by omega)
      have z16 : (0 : Int) ≤ (i16 : Int) := by omega
      have y16 : (i16 : Int) < 64 := by omega
      obtain ⟨i7, hi7⟩ : ∃ i, i = t - 7 := ⟨_, rfl⟩
      have e7 : (t : Int) - 7 = (i7 : Int) := by omega
      have w7 := wrapI_in (show i7 < 1000000000000000 by omega)
      have z7 : (0 : Int) ≤ (i7 : Int) := by omega
      have y7 : (i7 : Int) < 64 := by omega
      obtain ⟨x, h_x⟩ : ∃ z, z = X.getD i15 0 := ⟨_, rfl⟩
      have l_x : x < 4294967296 := by rw [h_x]; exact HXS.out _
      have HC_x : Hid (∀ W, But [] wr W → W.cell? ⟨g6, i15, none⟩ = some (.int .i64 (x : Nat))) := Lib.hid fun W hW => by rw [(HI.out.but hW (by simp)).cell, rowZ_get (by omega), ← h_x]
      obtain ⟨y, h_y⟩ : ∃ z, z = X.getD i2 0 := ⟨_, rfl⟩
      have l_y : y < 4294967296 := by rw [h_y]; exact HXS.out _
      have HC_y : Hid (∀ W, But [] wr W → W.cell? ⟨g6, i2, none⟩ = some (.int .i64 (y : Nat))) := Lib.hid fun W hW => by rw [(HI.out.but hW (by simp)).cell, rowZ_get (by omega), ← h_y]
      obtain ⟨p, h_p⟩ : ∃ z, z = X.getD i16 0 := ⟨_, rfl⟩
      have l_p : p < 4294967296 := by rw [h_p]; exact HXS.out _
      have HC_p : Hid (∀ W, But [] wr W → W.cell? ⟨g6, i16, none⟩ = some (.int .i64 (p : Nat))) := Lib.hid fun W hW => by rw [(HI.out.but hW (by simp)).cell, rowZ_get (by omega), ← h_p]
      obtain ⟨q, h_q⟩ : ∃ z, z = X.getD i7 0 := ⟨_, rfl⟩
      have l_q : q < 4294967296 := by rw [h_q]; exact HXS.out _
      have HC_q : Hid (∀ W, But [] wr W → W.cell? ⟨g6, i7, none⟩ = some (.int .i64 (q : Nat))) := Lib.hid fun W hW => by rw [(HI.out.but hW (by simp)).cell, rowZ_get (by omega), ← h_q]
      have H_r7 : Hid (∀ W, Calls Tryd.prog 47 #[.int .i64 (x : Int), .int .i64 7] W fun er w' => er = .returned (.int .i64 ((rotT x 7 : Nat) : Int)) ∧ ∃ q, w' = W.drewN q) := Lib.hid fun W => eturned_any W (n := 7) l_x (by decide) (by decide)
      obtain ⟨r7, h_r7⟩ : ∃ z, z = rotT x 7 := ⟨_, rfl⟩
      have l_r7 : r7 < 4294967296 := by rw [h_r7]; exact rotT_lt _ _
      rw [← h_r7] at H_r7
      have H_r18 : Hid (∀ W, Calls Tryd.prog 47 #[.int .i64 (x : Int), .int .i64 18] W fun er w' => er = .returned (.int .i64 ((rotT x 18 : Nat) : Int)) ∧ ∃ q, w' = W.drewN q) := Lib.hid fun W => eturned_any W (n := 18) l_x (by decide) (by decide)
      obtain ⟨r18, h_r18⟩ : ∃ z, z = rotT x 18 := ⟨_, rfl⟩
      have l_r18 : r18 < 4294967296 := by rw [h_r18]; exact rotT_lt _ _
      rw [← h_r18] at H_r18
      have H_r17 : Hid (∀ W, Calls Tryd.prog 47 #[.int .i64 (y : Int), .int .i64 17] W fun er w' => er = .returned (.int .i64 ((rotT y 17 : Nat) : Int)) ∧ ∃ q, w' = W.drewN q) := Lib.hid fun W => eturned_any W (n := 17) l_y (by decide) (by decide)
      obtain ⟨r17, h_r17⟩ : ∃ z, z = rotT y 17 := ⟨_, rfl⟩
      have l_r17 : r17 < 4294967296 := by rw [h_r17]; exact rotT_lt _ _
      rw [← h_r17] at H_r17
      have H_r19 : Hid (∀ W, Calls Tryd.prog 47 #[.int .i64 (y : Int), .int .i64 19] W fun er w' => er = .returned (.int .i64 ((rotT y 19 : Nat) : Int)) ∧ ∃ q, w' = W.drewN q) := Lib.hid fun W => eturned_any W (n := 19) l_y (by decide) (by decide)
      obtain ⟨r19, h_r19⟩ : ∃ z, z = rotT y 19 := ⟨_, rfl⟩
      have l_r19 : r19 < 4294967296 := by rw [h_r19]; exact rotT_lt _ _
      rw [← h_r19] at H_r19
      obtain ⟨x3, h_x3⟩ : ∃ z, z = x / 8 := ⟨_, rfl⟩
      have l_x3 : x3 < 4294967296 := by omega
      have g_x3 : (x : Int) / 8 = (x3 : Int) := by omega
      obtain ⟨y10, h_y10⟩ : ∃ z, z = y / 1024 := ⟨_, rfl⟩
      have l_y10 : y10 < 4294967296 := by omega
      have g_y10 : (y : Int) / 1024 = (y10 : Int) := by omega
      obtain ⟨m0, h_m0⟩ : ∃ z, z = r7 ^^^ r18 := ⟨_, rfl⟩
      have l_m0 : m0 < 4294967296 := by rw [h_m0]; exact Nat.xor_lt_two_pow (n := 32) l_r7 l_r18
      have f_m0 : bits .xor .i64 (r7 : Int) (r18 : Int) = (m0 : Int) := by rw [i64_xor _ _ (by omega) (by omega), h_m0]
      obtain ⟨s0, h_s0⟩ : ∃ z, z = m0 ^^^ x3 := ⟨_, rfl⟩
      have l_s0 : s0 < 4294967296 := by rw [h_s0]; exact Nat.xor_lt_two_pow (n := 32) l_m0 l_x3
      have f_s0 : bits .xor .i64 (m0 : Int) (x3 : Int) = (s0 : Int) := by rw [i64_xor _ _ (by omega) (by omega), h_s0]
      obtain ⟨m1, h_m1⟩ : ∃ z, z = r17 ^^^ r19 := ⟨_, rfl⟩
      have l_m1 : m1 < 4294967296 := by rw [h_m1]; exact Nat.xor_lt_two_pow (n := 32) l_r17 l_r19
      have f_m1 : bits .xor .i64 (r17 : Int) (r19 : Int) = (m1 : Int) := by rw [i64_xor _ _ (by omega) (by omega), h_m1]
      obtain ⟨s1, h_s1⟩ : ∃ z, z = m1 ^^^ y10 := ⟨_, rfl⟩
      have l_s1 : s1 < 4294967296 := by rw [h_s1]; exact Nat.xor_lt_two_pow (n := 32) l_m1 l_y10
      have f_s1 : bits .xor .i64 (m1 : Int) (y10 : Int) = (s1 : Int) := by rw [i64_xor _ _ (by omega) (by omega), h_s1]
      obtain ⟨a1, h_a1⟩ : ∃ z, z = p + s0 := ⟨_, rfl⟩
      have f_a1 : (p : Int) + (s0 : Int) = (a1 : Int) := by omega
      have v_a1 := wrapI_in (show a1 < 1000000000000000 by omega)
      obtain ⟨a2, h_a2⟩ : ∃ z, z = a1 + q := ⟨_, rfl⟩
      have f_a2 : (a1 : Int) + (q : Int) = (a2 : Int) := by omega
      have v_a2 := wrapI_in (show a2 < 1000000000000000 by omega)
      obtain ⟨a3, h_a3⟩ : ∃ z, z = a2 + s1 := ⟨_, rfl⟩
      have f_a3 : (a2 : Int) + (s1 : Int) = (a3 : Int) := by omega
      have v_a3 := wrapI_in (show a3 < 1000000000000000 by omega)
      obtain ⟨v, h_v⟩ : ∃ z, z = a3 % 4294967296 := ⟨_, rfl⟩
      have f_v : (a3 : Int) % 4294967296 = (v : Int) := by omega
      have f_vt : (a3 : Int).tmod 4294967296 = (v : Int) := by rw [Int.tmod_eq_emod_of_nonneg (by omega)]; omega
      have v_v := wrapI_in (show v < 1000000000000000 by omega)
      have v_x3 := wrapI_in (show x3 < 1000000000000000 by omega)
      have v_y10 := wrapI_in (show y10 < 1000000000000000 by omega)
      have HN : Hid (X ++ [v] = extWd (k + 1) (wordsB b)) := Lib.hid (by
        rw [extWd_succ, ← hX, nextWd_sum (x := x) (y := y) (p := p) (q := q) (s0 := s0) (s1 := s1) hXl (by rw [h_x, hi15]) (by rw [h_y, hi2]) (by rw [h_p, hi16]) (by rw [h_q, hi7]) (by rw [h_s0, h_m0, h_r7, h_r18, h_x3]) (by rw [h_s1, h_m1, h_r17, h_r19, h_y10]), h_v, h_a3, h_a2, h_a1])
      obtain ⟨cx, hcx⟩ := rowZ_some (L := X) (n := 64) (i := t) (by omega) (by omega)
      have HCX := Lib.hid hcx
      have HPUT : Hid ((rowZ X 64).setIfInBounds t (.int .i64 (v : Nat)) = rowZ (extWd (k + 1) (wordsB b)) 64) := Lib.hid (by
        have e := rowZ_put (L := X) (n := 64) v (by omega)
        rw [hXl] at e
        rw [e, HN.out])
      have b0 : (0 : Int) ≤ (t : Int) := by omega
      have b1 : (t : Int) < 64 := by omega
      have HT2 : Hid (t + 1 = k + 1 + 16) := Lib.hid (by have := HT.out; omega)
      have cx0 := HC_x.out wr (But.refl _ _)
      have cy0 := HC_y.out wr (But.refl _ _)
      have HW0 : Hid (But [] wr wr) := Lib.hid (But.refl _ _)
      have HLT := Lib.hid hlt
      clear hX hXl hcx h_x h_y h_p h_q h_r7 h_r18 h_r17 h_r19 h_x3 h_y10 h_m0 h_s0 h_m1 h_s1 h_a1 h_a2 h_a3 h_v hi15 hi2 hi16 hi7
      clear hlt l_x l_y l_p l_q l_r7 l_r18 l_r17 l_r19 l_x3 l_y10 l_m0 l_s0 l_m1 l_s1
      go_upto_region 15 with (fail)
      clear cx0 cy0
      refine wp_region_z (z := 33) (S := fun v => But [] wr v) (R := fun v v' => But [] v v') (fun w => But.refl [] w) (by kernel_rfl) (But.refl [] wr).drew ?_
      refine rzk 0 (.slice (some ⟨g6, 0, none⟩) 64 64) ?_ (hQ := fun _ _ _ h => HPN.out _ _ _ _ _ h)
      refine rzk 1 (.int .i64 (t : Int)) ?_ (hQ := fun _ _ _ h => HPN.out _ _ _ _ _ h)
      refine rzk 2 (.slice (some ⟨g6, 0, none⟩) 64 64) ?_ (hQ := fun _ _ _ h => HPN.out _ _ _ _ _ h)
      refine rzk 3 (.int .i64 (t : Int)) ?_ (hQ := fun _ _ _ h => HPN.out _ _ _ _ _ h)
      refine rzk 4 (.int .i64 (i16 : Int)) ?_ (hQ := fun _ _ _ h => HPN.out _ _ _ _ _ h)
      refine rzk 5 (.pointer (some ⟨g6, i16, none⟩)) ?_ (hQ := fun _ _ _ h => HPN.out _ _ _ _ _ h)
      refine rzq 6 (.int .i64 (p : Int)) ?_ ?_ (hQ := fun _ _ _ h => HPN.out _ _ _ _ _ h)
      · intro W hS
        have cc := HC_p.out W (HW0.out.trans hS)
        go_simp
      refine rzk 7 (.int .i64 (x : Int)) ?_ (hQ := fun _ _ _ h => HPN.out _ _ _ _ _ h)
      refine wpZ_take (fun w => But.refl [] w) (fun x y z h k => h.trans k) (i := 8) (v := .int .i64 (r7 : Int)) rfl (by kernel_rfl) (by decide) (by kernel_rfl) (by kernel_rfl) (by kernel_rfl) (fun _ _ _ h => HPN.out _ _ _ _ _ h) (.inl ⟨?_, fun W hS => .inr ⟨_, _, ?_, (H_r7.out W).mono ?_⟩⟩) ?_
      · go_simp
      · go_simp
      · rintro e wy ⟨rfl, nq, rfl⟩; exact ⟨rfl, hS.drewN nq, (But.refl [] _).drewN nq⟩
      refine rzk 9 (.int .i64 (x : Int)) ?_ (hQ := fun _ _ _ h => HPN.out _ _ _ _ _ h)
      refine wpZ_take (fun w => But.refl [] w) (fun x y z h k => h.trans k) (i := 10) (v := .int .i64 (r18 : Int)) rfl (by kernel_rfl) (by decide) (by kernel_rfl) (by kernel_rfl) (by kernel_rfl) (fun _ _ _ h => HPN.out _ _ _ _ _ h) (.inl ⟨?_, fun W hS => .inr ⟨_, _, ?_, (H_r18.out W).mono ?_⟩⟩) ?_
      · go_simp
      · go_simp
      · rintro e wy ⟨rfl, nq, rfl⟩; exact ⟨rfl, hS.drewN nq, (But.refl [] _).drewN nq⟩
      refine rzk 11 (.int .i64 (m0 : Int)) ?_ (hQ := fun _ _ _ h => HPN.out _ _ _ _ _ h)
      refine rzk 12 (.int .i64 (x : Int)) ?_ (hQ := fun _ _ _ h => HPN.out _ _ _ _ _ h)
      refine rzk 13 (.int .i64 (x3 : Int)) ?_ (hQ := fun _ _ _ h => HPN.out _ _ _ _ _ h)
      refine rzk 14 (.int .i64 (s0 : Int)) ?_ (hQ := fun _ _ _ h => HPN.out _ _ _ _ _ h)
      refine rzk 15 (.int .i64 (a1 : Int)) ?_ (hQ := fun _ _ _ h => HPN.out _ _ _ _ _ h)
      refine rzk 16 (.slice (some ⟨g6, 0, none⟩) 64 64) ?_ (hQ := fun _ _ _ h => HPN.out _ _ _ _ _ h)
      refine rzk 17 (.int .i64 (t : Int)) ?_ (hQ := fun _ _ _ h => HPN.out _ _ _ _ _ h)
      refine rzk 18 (.int .i64 (i7 : Int)) ?_ (hQ := fun _ _ _ h => HPN.out _ _ _ _ _ h)
      refine rzk 19 (.pointer (some ⟨g6, i7, none⟩)) ?_ (hQ := fun _ _ _ h => HPN.out _ _ _ _ _ h)
      refine rzq 20 (.int .i64 (q : Int)) ?_ ?_ (hQ := fun _ _ _ h => HPN.out _ _ _ _ _ h)
      · intro W hS
        have cc := HC_q.out W (HW0.out.trans hS)
        go_simp
      refine rzk 21 (.int .i64 (a2 : Int)) ?_ (hQ := fun _ _ _ h => HPN.out _ _ _ _ _ h)
      refine rzk 22 (.int .i64 (y : Int)) ?_ (hQ := fun _ _ _ h => HPN.out _ _ _ _ _ h)
      refine wpZ_take (fun w => But.refl [] w) (fun x y z h k => h.trans k) (i := 23) (v := .int .i64 (r17 : Int)) rfl (by kernel_rfl) (by decide) (by kernel_rfl) (by kernel_rfl) (by kernel_rfl) (fun _ _ _ h => HPN.out _ _ _ _ _ h) (.inl ⟨?_, fun W hS => .inr ⟨_, _, ?_, (H_r17.out W).mono ?_⟩⟩) ?_
      · go_simp
      · go_simp
      · rintro e wy ⟨rfl, nq, rfl⟩; exact ⟨rfl, hS.drewN nq, (But.refl [] _).drewN nq⟩
      refine rzk 24 (.int .i64 (y : Int)) ?_ (hQ := fun _ _ _ h => HPN.out _ _ _ _ _ h)
      refine wpZ_take (fun w => But.refl [] w) (fun x y z h k => h.trans k) (i := 25) (v := .int .i64 (r19 : Int)) rfl (by kernel_rfl) (by decide) (by kernel_rfl) (by kernel_rfl) (by kernel_rfl) (fun _ _ _ h => HPN.out _ _ _ _ _ h) (.inl ⟨?_, fun W hS => .inr ⟨_, _, ?_, (H_r19.out W).mono ?_⟩⟩) ?_
      · go_simp
      · go_simp
      · rintro e wy ⟨rfl, nq, rfl⟩; exact ⟨rfl, hS.drewN nq, (But.refl [] _).drewN nq⟩
      refine rzk 26 (.int .i64 (m1 : Int)) ?_ (hQ := fun _ _ _ h => HPN.out _ _ _ _ _ h)
      refine rzk 27 (.int .i64 (y : Int)) ?_ (hQ := fun _ _ _ h => HPN.out _ _ _ _ _ h)
      refine rzk 28 (.int .i64 (y10 : Int)) ?_ (hQ := fun _ _ _ h => HPN.out _ _ _ _ _ h)
      refine rzk 29 (.int .i64 (s1 : Int)) ?_ (hQ := fun _ _ _ h => HPN.out _ _ _ _ _ h)
      refine rzk 30 (.int .i64 (a3 : Int)) ?_ (hQ := fun _ _ _ h => HPN.out _ _ _ _ _ h)
      refine rzk 31 (.int .i64 (v : Int)) ?_ (hQ := fun _ _ _ h => HPN.out _ _ _ _ _ h)
      refine rzk 32 (.pointer (some ⟨g6, t, none⟩)) ?_ (hQ := fun _ _ _ h => HPN.out _ _ _ _ _ h)
      refine wpZ_last rfl (by kernel_rfl) (by kernel_rfl) fun w1 hR1 hS1 K' hK' => ?_
      have hI1 := HI.out.but hS1 (by simp)
      have cc := hI1.cell t
      rw [HCX.out] at cc
      have cf := hI1.free t
      have HI2 : Hid (Is (w1.setCell ⟨g6, t, none⟩ (.int .i64 (v : Nat))) g6 3 (rowZ (extWd (k + 1) (wordsB b)) 64)) := Lib.hid (by
        have e := hI1.put t (.int .i64 (v : Nat))
        rw [HPUT.out] at e
        exact e)
      have HB2 : Hid (But [g6] wz (w1.setCell ⟨g6, t, none⟩ (.int .i64 (v : Nat)))) := Lib.hid ((HB.out.trans (hS1.more (by simp))).setCell (.inl (by simp)) _)
      clear hR1 hS1 hI1
      go_simp
      refine hK' _ _ ?_
      clear hK' K' cc cf HI HB HC_x HC_y HC_p HC_q HPUT HCX H_r7 H_r18 H_r17 H_r19
      go_simp
      go_wp2
      go_roundw
      case rel => exact ⟨k + 1, t + 1, by have := HLT.out; omega, HT2, by omega, by go_num, HI2, HB2⟩
      case measure => simp [intOf] <;> omega
    · have h8 : k = 48 := by omega
      have h64 : t = 64 := by have := HT.out; omega
      have HI2 : Hid (Is wr g6 3 (rowZ (extWd 48 (wordsB b)) 64)) := Lib.hid (by
        have e := HI.out
        rw [h8] at e
        exact e)
      subst h64
      clear HI hlt hk h8 ht HT
      go_wp2_with fail
      exact HK.out _ _ _ _ _ _ _ _ _ _ _ _ _ _ _ _ _ _ _ _ _ _ _ _ _ _ _ _ _ _ _ _ _ _ _ _ _ _ _ _ _ _ _ _ _ _ _ _ _ _ HI2.out (by rw [← HWZ.out]; exact HB.out)
end Go.Proofs.YtmdiilnipoblbaaDoor
set_option maxRecDepth 1000000
set_option linter.unusedVariables false
namespace Go.Proofs.YtmdiilnipoblbaaDoor
set_option maxRecDepth 100000
open Go Go.RowKit
attribute [local irreducible] rowZ midS addS
set_option maxHeartbeats 2000000 in
theorem eadd_loop {wr : World} {g3 gv cv : Nat} {hs V : List Nat} {Q0 : Exit → Act → World → Prop} {c0 c1 c2 c4 c5 c6 c7 c8 c9 c10 c12 c13 c14 c15 c16 c18 c19 c20 c21 c22 c23 c24 c25 c26 c27 c28 c29 c30 c31 c32 c33 c34 c35 c36 c37 c38 c39 c40 c41 c42 c43 c44 c45 c46 c47 c48 c49 c50 c51 c52 c53 c54 c55 c56 c57 c58 c59 c60 c61 c62 c63 c64 c65 c66 c67 c68 c69 c70 c71 c72 c73 c74 c75 c76 c77 c78 c79 c80 c81 c82 c83 c84 c85 c86 c87 c88 c89 c90 c91 c92 c93 c94 c95 c96 c97 c98 c99 c100 c101 c102 c103 c104 c105 c106 c107 c108 c109 c110 c111 c112 c113 c114 c115 c116 c117 c118 c119 c120 c121 c122 c123 c124 c125 c126 c127 c128 c129 c130 c131 c132 c133 c134 c135 c136 c137 c138 c139 c140 c141 c142 c143 c144 c145 c146 c147 c148 c149 c150 c151 c152 c153 c154 c155 c156 c157 c158 c159 c160 c161 c162 c163 c164 c165 c166 c167 c168 c169 c170 c171 c172 c173 c174 c175 c176 c177 c178 c179 c180 c181 c182 c183 c184 c185 c186 c187 c188 c189 c190 c191 c192 c193 c194 c195 c196 c197 c198 c199 c200 c201 c202 c203 c204 c205 c206 c207 c208 c209 c210 c211 c212 c213 c214 c215 c216 c217 c218 c219 c220 c221 c239 c240 c241 c242 c243 c244 c245 c246 c247 c248 c249 c250 c251 c252 c253 c254 c255 c256 c257 c258 c259 c260 c261 c262 c263 c264 c265 c266 c267 c268 c269 c270 c271 c272 u222 u223 u224 u225 u226 u227 u228 u229 u230 u231 u232 u233 u234 u235 u236 u237 u238 : Value} (hH : Is wr g3 3 (rowZ hs 8)) (hV : VI wr gv V) (hl : hs.length = 8) (hVs : Small V) (hHs : Small hs) (hne : gv ≠ g3) (hpan : ∀ (c : List PanicEntry) (a : Act) (d : Option Tmp) (v : Value) (w : World), Q0 (.panic c) (a.put d v) w → Q0 (.panic c) a w)
    (hK : ∀ (v222 v223 v224 v225 v226 v227 v228 v229 v230 v231 v232 v233 v234 v235 v236 v237 v238 : Value) w1, Is w1 g3 3 (rowZ (addS hs V) 8) → But [g3] wr w1 → Q0 (.exit 8) ⟨(c0 :: c1 :: c2 :: .slice (some ⟨g3, 0, none⟩) 8 8 :: c4 :: c5 :: c6 :: c7 :: c8 :: c9 :: c10 :: .slice (some ⟨gv, 0, none⟩) 8 cv :: c12 :: c13 :: c14 :: c15 :: c16 :: .int .i64 8 :: c18 :: c19 :: c20 :: c21 :: c22 :: c23 :: c24 :: c25 :: c26 :: c27 :: c28 :: c29 :: c30 :: c31 :: c32 :: c33 :: c34 :: c35 :: c36 :: c37 :: c38 :: c39 :: c40 :: c41 :: c42 :: c43 :: c44 :: c45 :: c46 :: c47 :: c48 :: c49 :: c50 :: c51 :: c52 :: c53 :: c54 :: c55 :: c56 :: c57 :: c58 :: c59 :: c60 :: c61 :: c62 :: c63 :: c64 :: c65 :: c66 :: c67 :: c68 :: c69 :: c70 :: c71 :: c72 :: c73 :: c74 :: c75 :: c76 :: c77 :: c78 :: c79 :: c80 :: c81 :: c82 :: c83 :: c84 :: c85 :: c86 :: c87 :: c88 :: c89 :: c90 :: c91 :: c92 :: c93 :: c94 :: c95 :: c96 :: c97 :: c98 :: c99 :: c100 :: c101 :: c102 :: c103 :: c104 :: c105 :: c106 :: c107 :: c108 :: c109 :: c110 :: c111 :: c112 :: c113 :: c114 :: c115 :: c116 :: c117 :: c118 :: c119 :: c120 :: c121 :: c122 :: c123 :: c124 :: c125 :: c126 :: c127 :: c128 :: c129 :: c130 :: c131 :: c132 :: c133 :: c134 :: c135 :: c136 :: c137 :: c138 :: c139 :: c140 :: c141 :: c142 :: c143 :: c144 :: c145 :: c146 :: c147 :: c148 :: c149 :: c150 :: c151 :: c152 :: c153 :: c154 :: c155 :: c156 :: c157 :: c158 :: c159 :: c160 :: c161 :: c162 :: c163 :: c164 :: c165 :: c166 :: c167 :: c168 :: c169 :: c170 :: c171 :: c172 :: c173 :: c174 :: c175 :: c176 :: c177 :: c178 :: c179 :: c180 :: c181 :: c182 :: c183 :: c184 :: c185 :: c186 :: c187 :: c188 :: c189 :: c190 :: c191 :: c192 :: c193 :: c194 :: c195 :: c196 :: c197 :: c198 :: c199 :: c200 :: c201 :: c202 :: c203 :: c204 :: c205 :: c206 :: c207 :: c208 :: c209 :: c210 :: c211 :: c212 :: c213 :: c214 :: c215 :: c216 :: c217 :: c218 :: c219 :: c220 :: c221 :: v222 :: v223 :: v224 :: v225 :: v226 :: v227 :: v228 :: v229 :: v230 :: v231 :: v232 :: v233 :: v234 :: v235 :: v236 :: v237 :: v238 :: c239 :: c240 :: c241 :: c242 :: c243 :: c244 :: c245 :: c246 :: c247 :: c248 :: c249 :: c250 :: c251 :: c252 :: c253 :: c254 :: c255 :: c256 :: c257 :: c258 :: c259 :: c260 :: c261 :: c262 :: c263 :: c264 :: c265 :: c266 :: c267 :: c268 :: c269 :: c270 :: c271 :: c272 :: []).toArray, []⟩ w1) :
    Code.wp Tryd.prog (Code.loop (eInner 3)) Q0 ⟨(c0 :: c1 :: c2 :: .slice (some ⟨g3, 0, none⟩) 8 8 :: c4 :: c5 :: c6 :: c7 :: c8 :: c9 :: c10 :: .slice (some ⟨gv, 0, none⟩) 8 cv :: c12 :: c13 :: c14 :: c15 :: c16 :: .int .i64 0 :: c18 :: c19 :: c20 :: c21 :: c22 :: c23 :: c24 :: c25 :: c26 :: c27 :: c28 :: c29 :: c30 :: c31 :: c32 :: c33 :: c34 :: c35 :: c36 :: c37 :: c38 :: c39 :: c40 :: c41 :: c42 :: c43 :: c44 :: c45 :: c46 :: c47 :: c48 :: c49 :: c50 :: c51 :: c52 :: c53 :: c54 :: c55 :: c56 :: c57 :: c58 :: c59 :: c60 :: c61 :: c62 :: c63 :: c64 :: c65 :: c66 :: c67 :: c68 :: c69 :: c70 :: c71 :: c72 :: c73 :: c74 :: c75 :: c76 :: c77 :: c78 :: c79 :: c80 :: c81 :: c82 :: c83 :: c84 :: c85 :: c86 :: c87 :: c88 :: c89 :: c90 :: c91 :: c92 :: c93 :: c94 :: c95 :: c96 :: c97 :: c98 :: c99 :: c100 :: c101 :: c102 :: c103 :: c104 :: c105 :: c106 :: c107 :: c108 :: c109 :: c110 :: c111 :: c112 :: c113 :: c114 :: c115 :: c116 :: c117 :: c118 :: c119 :: c120 :: c121 :: c122 :: c123 :: c124 :: c125 :: c126 :: c127 :: c128 :: c129 :: c130 :: c131 :: c132 :: c133 :: c134 :: c135 :: c136 :: c137 :: c138 :: c139 :: c140 :: c141 :: c142 :: c143 :: c144 :: c145 :: c146 :: c147 :: c148 :: c149 :: c150 :: c151 :: c152 :: c153 :: c154 :: c155 :: c156 :: c157 :: c158 :: c159 :: c160 :: c161 :: c162 :: c163 :: c164 :: c165 :: c166 :: c167 :: c168 :: c169 :: c170 :: c171 :: c172 :: c173 :: c174 :: c175 :: c176 :: c177 :: c178 :: c179 :: c180 :: c181 :: c182 :: c183 :: c184 :: c185 :: c186 :: c187 :: c188 :: c189 :: c190 :: c191 :: c192 :: c193 :: c194 :: c195 :: c196 :: c197 :: c198 :: c199 :: c200 :: c201 :: c202 :: c203 :: c204 :: c205 :: c206 :: c207 :: c208 :: c209 :: c210 :: c211 :: c212 :: c213 :: c214 :: c215 :: c216 :: c217 :: c218 :: c219 :: c220 :: c221 :: u222 :: u223 :: u224 :: u225 :: u226 :: u227 :: u228 :: u229 :: u230 :: u231 :: u232 :: u233 :: u234 :: u235 :: u236 :: u237 :: u238 :: c239 :: c240 :: c241 :: c242 :: c243 :: c244 :: c245 :: c246 :: c247 :: c248 :: c249 :: c250 :: c251 :: c252 :: c253 :: c254 :: c255 :: c256 :: c257 :: c258 :: c259 :: c260 :: c261 :: c262 :: c263 :: c264 :: c265 :: c266 :: c267 :: c268 :: c269 :: c270 :: c271 :: c272 :: []).toArray, []⟩ wr := by
  have HPN := Lib.hid hpan
  have HH := Lib.hid hH
  have HV := Lib.hid hV
  have HL := Lib.hid hl
  have HVS := Lib.hid hVs
  have HHS := Lib.hid hHs
  have HNE := Lib.hid hne
  have HH0 : Hid (Is wr g3 3 (rowZ (midS hs V 0) 8)) := Lib.hid (by rw [midS_zero hl]; exact hH)
  have HK := Lib.hid hK
  have HB0 : Hid (But [g3] wr wr) := Lib.hid (But.refl _ _)
  obtain ⟨wz, hwz⟩ : ∃ W, W = wr := ⟨wr, rfl⟩
  have HWZ := Lib.hid hwz
  conv => arg 2; arg 1; whnf
  clear hpan hH hV hl hVs hHs hne hK hwz
  go_loopw [17] (fun kv wx => ∃ k : Nat, k ≤ 8 ∧ kv = .int .i64 k ∧ Hid (Is wx g3 3 (rowZ (midS hs V k) 8)) ∧ Hid (But [g3] wz wx)) (fun kv _ => 8 - (intOf kv).toNat)
  case atStart => exact ⟨0, Nat.zero_le _, rfl, HH0, by rw [HWZ.out]; exact HB0⟩
  case round =>
    clear HH0 HB0
    obtain ⟨k, hk, rfl, HI, HB⟩ := hrel
    by_cases hlt : k < 8
    · obtain ⟨n, hn⟩ : ∃ n, n = V.getD k 0 := ⟨_, rfl⟩
      obtain ⟨x, hx⟩ : ∃ n, n = hs.getD k 0 := ⟨_, rfl⟩
      have hnl : n < 4294967296 := by rw [hn]; exact HVS.out k
      have hxl : x < 4294967296 := by rw [hx]; exact HHS.out k
      have HC0 : Hid (∀ W, But [] wr W → W.cell? ⟨g3, k, none⟩ = some (.int .i64 (x : Nat))) := Lib.hid fun W hW => by
        rw [(HI.out.but hW (by simp)).cell, rowZ_get (by rw [midS_length]; exact hlt), midS_at hlt, if_neg (Nat.lt_irrefl k), ← hx]
      have HCV : Hid (∀ W, But [] wr W → W.cell? ⟨gv, k, none⟩ = some (.int .i64 (n : Nat))) := Lib.hid fun W hW => by
        rw [hn]
        exact ((HV.out.but (by rw [← HWZ.out]; exact HB.out) (by simpa using HNE.out)).but hW (by simp)) k hlt
      obtain ⟨s, hs2⟩ : ∃ z, z = x + n := ⟨_, rfl⟩
      obtain ⟨y, hy⟩ : ∃ z, z = s % 4294967296 := ⟨_, rfl⟩
      have f1 : (x : Int) + (n : Int) = (s : Int) := by omega
      have f2 : (s : Int) % 4294967296 = (y : Int) := by omega
      have f3 : (s : Int).tmod 4294967296 = (y : Int) := by rw [Int.tmod_eq_emod_of_nonneg (by omega)]; omega
      have v1 := wrapI_in (show s < 1000000000000000 by omega)
      have v2 := wrapI_in (show y < 1000000000000000 by omega)
      have HPUT : Hid ((rowZ (midS hs V k) 8).setIfInBounds k (.int .i64 (y : Nat)) = rowZ (midS hs V (k + 1)) 8) := Lib.hid (by
        rw [rowZ_set y (midS_length hs V k), ← midS_next hlt, hy, hs2, hx, hn])
      clear hn hx hs2 hy hnl hxl
      have b0 : (0 : Int) ≤ (k : Int) := by omega
      have b1 : (k : Int) < 8 := by omega
      go_upto_region 28 with (fail)
      refine wp_region_z (z := 13) (S := fun v => But [] wr v) (R := fun v v' => But [] v v') (fun w => But.refl [] w) (by kernel_rfl) (But.refl [] wr).drew ?_
      refine rzk 0 (.slice (some ⟨g3, 0, none⟩) 8 8) ?_ (hQ := fun _ _ _ h => HPN.out _ _ _ _ _ h)
      refine rzk 1 (.int .i64 (k : Int)) ?_ (hQ := fun _ _ _ h => HPN.out _ _ _ _ _ h)
      refine rzk 2 (.slice (some ⟨g3, 0, none⟩) 8 8) ?_ (hQ := fun _ _ _ h => HPN.out _ _ _ _ _ h)
      refine rzk 3 (.int .i64 (k : Int)) ?_ (hQ := fun _ _ _ h => HPN.out _ _ _ _ _ h)
      refine rzk 4 (.pointer (some ⟨g3, k, none⟩)) ?_ (hQ := fun _ _ _ h => HPN.out _ _ _ _ _ h)
      refine rzq 5 (.int .i64 (x : Int)) ?_ ?_ (hQ := fun _ _ _ h => HPN.out _ _ _ _ _ h)
      · intro W hS
        have cc := HC0.out W hS
        go_simp
      refine rzk 6 (.slice (some ⟨gv, 0, none⟩) 8 cv) ?_ (hQ := fun _ _ _ h => HPN.out _ _ _ _ _ h)
      refine rzk 7 (.int .i64 (k : Int)) ?_ (hQ := fun _ _ _ h => HPN.out _ _ _ _ _ h)
      refine rzk 8 (.pointer (some ⟨gv, k, none⟩)) ?_ (hQ := fun _ _ _ h => HPN.out _ _ _ _ _ h)
      refine rzq 9 (.int .i64 (n : Int)) ?_ ?_ (hQ := fun _ _ _ h => HPN.out _ _ _ _ _ h)
      · intro W hS
        have cc := HCV.out W hS
        go_simp
      refine rzk 10 (.int .i64 (s : Int)) ?_ (hQ := fun _ _ _ h => HPN.out _ _ _ _ _ h)
      refine rzk 11 (.int .i64 (y : Int)) ?_ (hQ := fun _ _ _ h => HPN.out _ _ _ _ _ h)
      refine rzk 12 (.pointer (some ⟨g3, k, none⟩)) ?_ (hQ := fun _ _ _ h => HPN.out _ _ _ _ _ h)
      refine wpZ_last rfl (by kernel_rfl) (by kernel_rfl) fun w1 hR1 hS1 K' hK' => ?_
      have hI1 := HI.out.but hS1 (by simp)
      have cc := HC0.out w1 hS1
      have cf := hI1.free k
      have HI2 : Hid (Is (w1.setCell ⟨g3, k, none⟩ (.int .i64 (y : Nat))) g3 3 (rowZ (midS hs V (k + 1)) 8)) := Lib.hid (by
        have e := hI1.put k (.int .i64 (y : Nat))
        rw [HPUT.out] at e
        exact e)
      have HB2 : Hid (But [g3] wz (w1.setCell ⟨g3, k, none⟩ (.int .i64 (y : Nat)))) := Lib.hid ((HB.out.trans (hS1.more (by simp))).setCell (.inl (by simp)) _)
      clear hR1 hS1 hI1
      go_simp
      refine hK' _ _ ?_
      clear hK' K' cc cf HI HB HC0 HCV HPUT
      go_simp
      go_wp2
      go_roundw
      case rel => exact ⟨k + 1, by omega, by go_num, HI2, HB2⟩
      case measure => simp [intOf] <;> omega
    · have h8 : k = 8 := by omega
      have HI2 : Hid (Is wr g3 3 (rowZ (addS hs V) 8)) := Lib.hid (by
        have e := HI.out
        rw [h8, midS_all] at e
        exact e)
      subst h8
      clear HI hlt hk
      go_wp2_with fail
      exact HK.out _ _ _ _ _ _ _ _ _ _ _ _ _ _ _ _ _ _ HI2.out (by rw [← HWZ.out]; exact HB.out)
end Go.Proofs.YtmdiilnipoblbaaDoor
