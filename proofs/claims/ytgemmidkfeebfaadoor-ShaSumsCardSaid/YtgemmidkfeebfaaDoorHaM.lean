/- The document's hash: the loop that adds a block's words. -/
import Derived.Test.YtgemmidkfeebfaaDoorHaL
set_option maxRecDepth 1000000
set_option linter.unusedVariables false
namespace Go.Proofs.YtgemmidkfeebfaaDoor
set_option maxRecDepth 100000
open Go Go.RowKit
/-- Eight words in memory. -/
def VI (w : World) (g : Nat) (V : List Nat) : Prop := ∀ i, i < 8 → w.cell? ⟨g, i, none⟩ = some (.int .i64 (V.getD i 0 : Nat))
theorem VI.but {w w' : World} {g : Nat} {V : List Nat} {T : List Nat} (h : VI w g V) (hw : But T w w') (hg : g ∉ T) : VI w' g V := fun i hi => hw.cell (h i hi) hg
attribute [local irreducible] rowZ midS addS
set_option maxHeartbeats 2000000 in
theorem eadd_loop {wr : World} {g3 gv cv : Nat} {hs V : List Nat} {Q0 : Exit → Act → World → Prop} {c0 c1 c2 c4 c5 c6 c7 c8 c9 c10 c12 c13 c14 c15 c16 c18 c19 c20 c21 c22 c23 c24 c25 c26 c27 c28 c29 c30 c31 c32 c33 c34 c35 c36 c37 c38 c39 c40 c41 c42 c43 c44 c45 c46 c47 c48 c49 c50 c51 c52 c53 c54 c55 c56 c57 c58 c59 c60 c61 c62 c63 c64 c65 c66 c67 c68 c69 c70 c71 c72 c73 c74 c75 c76 c77 c78 c79 c80 c81 c82 c83 c84 c85 c86 c87 c88 c89 c90 c91 c92 c93 c94 c95 c96 c97 c98 c99 c100 c101 c102 c103 c104 c105 c106 c107 c108 c109 c110 c111 c112 c113 c114 c115 c116 c117 c118 c119 c120 c121 c122 c123 c124 c125 c126 c127 c128 c129 c130 c131 c132 c133 c134 c135 c136 c137 c138 c139 c140 c141 c142 c143 c144 c145 c146 c147 c148 c149 c150 c151 c152 c153 c154 c155 c156 c157 c158 c159 c160 c161 c162 c163 c164 c165 c166 c167 c168 c169 c170 c171 c172 c173 c174 c175 c176 c177 c178 c179 c180 c181 c182 c183 c184 c185 c186 c187 c188 c189 c190 c191 c192 c193 c194 c195 c196 c197 c198 c199 c200 c201 c202 c203 c204 c205 c206 c207 c208 c209 c210 c211 c212 c213 c214 c215 c216 c217 c218 c219 c220 c221 c239 c240 c241 c242 c243 c244 c245 c246 c247 c248 c249 c250 c251 c252 c253 c254 c255 c256 c257 c258 c259 c260 c261 c262 c263 c264 c265 c266 c267 c268 c269 c270 c271 c272 u222 u223 u224 u225 u226 u227 u228 u229 u230 u231 u232 u233 u234 u235 u236 u237 u238 : Value} (hH : Is wr g3 3 (rowZ hs 8)) (hV : VI wr gv V) (hl : hs.length = 8) (hVs : Small V) (hHs : Small hs) (hne : gv ≠ g3) (hpan : ∀ (c : List PanicEntry) (a : Act) (d : Option Tmp) (v : Value) (w : World), Q0 (.panic c) (a.put d v) w → Q0 (.panic c) a w)
    (hK : ∀ (v222 v223 v224 v225 v226 v227 v228 v229 v230 v231 v232 v233 v234 v235 v236 v237 v238 : Value) w1, Is w1 g3 3 (rowZ (addS hs V) 8) → But [g3] wr w1 → Q0 (.exit 8) ⟨(c0 :: c1 :: c2 :: .slice (some ⟨g3, 0, none⟩) 8 8 :: c4 :: c5 :: c6 :: c7 :: c8 :: c9 :: c10 :: .slice (some ⟨gv, 0, none⟩) 8 cv :: c12 :: c13 :: c14 :: c15 :: c16 :: .int .i64 8 :: c18 :: c19 :: c20 :: c21 :: c22 :: c23 :: c24 :: c25 :: c26 :: c27 :: c28 :: c29 :: c30 :: c31 :: c32 :: c33 :: c34 :: c35 :: c36 :: c37 :: c38 :: c39 :: c40 :: c41 :: c42 :: c43 :: c44 :: c45 :: c46 :: c47 :: c48 :: c49 :: c50 :: c51 :: c52 :: c53 :: c54 :: c55 :: c56 :: c57 :: c58 :: c59 :: c60 :: c61 :: c62 :: c63 :: c64 :: c65 :: c66 :: c67 :: c68 :: c69 :: c70 :: c71 :: c72 :: c73 :: c74 :: c75 :: c76 :: c77 :: c78 :: c79 :: c80 :: c81 :: c82 :: c83 :: c84 :: c85 :: c86 :: c87 :: c88 :: c89 :: c90 :: c91 :: c92 :: c93 :: c94 :: c95 :: c96 :: c97 :: c98 :: c99 :: c100 :: c101 :: c102 :: c103 :: c104 :: c105 :: c106 :: c107 :: c108 :: c109 :: c110 :: c111 :: c112 :: c113 :: c114 :: c115 :: c116 :: c117 :: c118 :: c119 :: c120 :: c121 :: c122 :: c123 :: c124 :: c125 :: c126 :: c127 :: c128 :: c129 :: c130 :: c131 :: c132 :: c133 :: c134 :: c135 :: c136 :: c137 :: c138 :: c139 :: c140 :: c141 :: c142 :: c143 :: c144 :: c145 :: c146 :: c147 :: c148 :: c149 :: c150 :: c151 :: c152 :: c153 :: c154 :: c155 :: c156 :: c157 :: c158 :: c159 :: c160 :: c161 :: c162 :: c163 :: c164 :: c165 :: c166 :: c167 :: c168 :: c169 :: c170 :: c171 :: c172 :: c173 :: c174 :: c175 :: c176 :: c177 :: c178 :: c179 :: c180 :: c181 :: c182 :: c183 :: c184 :: c185 :: c186 :: c187 :: c188 :: c189 :: c190 :: c191 :: c192 :: c193 :: c194 :: c195 :: c196 :: c197 :: c198 :: c199 :: c200 :: c201 :: c202 :: c203 :: c204 :: c205 :: c206 :: c207 :: c208 :: c209 :: c210 :: c211 :: c212 :: c213 :: c214 :: c215 :: c216 :: c217 :: c218 :: c219 :: c220 :: c221 :: v222 :: v223 :: v224 :: v225 :: v226 :: v227 :: v228 :: v229 :: v230 :: v231 :: v232 :: v233 :: v234 :: v235 :: v236 :: v237 :: v238 :: c239 :: c240 :: c241 :: c242 :: c243 :: c244 :: c245 :: c246 :: c247 :: c248 :: c249 :: c250 :: c251 :: c252 :: c253 :: c254 :: c255 :: c256 :: c257 :: c258 :: c259 :: c260 :: c261 :: c262 :: c263 :: c264 :: c265 :: c266 :: c267 :: c268 :: c269 :: c270 :: c271 :: c272 :: []).toArray, []⟩ w1) :
    Code.wp Tryd.prog (Code.loop (eInner 3)) Q0 ⟨(c0 :: c1 :: c2 :: .slice (some ⟨g3, 0, none⟩) 8 8 :: c4 :: c5 :: c6 :: c7 :: c8 :: c9 :: c10 :: .slice (some ⟨gv, 0, none⟩) 8 cv :: c12 :: c13 :: c14 :: c15 :: c16 :: .int .i64 0 :: c18 :: c19 :: c20 :: c21 :: c22 :: c23 :: c24 :: c25 :: c26 :: c27 :: c28 :: c29 :: c30 :: c31 :: c32 :: c33 :: c34 :: c35 :: c36 :: c37 :: c38 :: c39 :: c40 :: c41 :: c42 :: c43 :: c44 :: c45 :: c46 :: c47 :: c48 :: c49 :: c50 :: c51 :: c52 :: c53 :: c54 :: c55 :: c56 :: c57 :: c58 :: c59 :: c60 :: c61 :: c62 :: c63 :: c64 :: c65 :: c66 :: c67 :: c68 :: c69 :: c70 :: c71 :: c72 :: c73 :: c74 :: c75 :: c76 :: c77 :: c78 :: c79 :: c80 :: c81 :: c82 :: c83 :: c84 :: c85 :: c86 :: c87 :: c88 :: c89 :: c90 :: c91 :: c92 :: c93 :: c94 :: c95 :: c96 :: c97 :: c98 :: c99 :: c100 :: c101 :: c102 :: c103 :: c104 :: c105 :: c106 :: c107 :: c108 :: c109 :: c110 :: c111 :: c112 :: c113 :: c114 :: c115 :: c116 :: c117 :: c118 :: c119 :: c120 :: c121 :: c122 :: c123 :: c124 :: c125 :: c126 :: c127 :: c128 :: c129 :: c130 :: c131 :: c132 :: c133 :: c134 :: c135 :: c136 :: c137 :: c138 :: c139 :: c140 :: c141 :: c142 :: c143 :: c144 :: c145 :: c146 :: c147 :: c148 :: c149 :: c150 :: c151 :: c152 :: c153 :: c154 :: c155 :: c156 :: c157 :: c158 :: c159 :: c160 :: c161 :: c162 :: c163 :: c164 :: c165 :: c166 :: c167 :: c168 :: c169 :: c170 :: c171 :: c172 :: c173 :: c174 :: c175 :: c176 :: c177 :: c178 :: c179 :: c180 :: c181 :: c182 :: c183 :: c184 :: c185 :: c186 :: c187 :: c188 :: c189 :: c190 :: c191 :: c192 :: c193 :: c194 :: c195 :: c196 :: c197 :: c198 :: c199 :: c200 :: c201 :: c202 :: c203 :: c204 :: c205 :: c206 :: c207 :: c208 :: c209 :: c210 :: c211 :: c212 :: c213 :: c214 :: c215 :: c216 :: c217 :: c218 :: c219 :: c220 :: c221 :: u222 :: u223 :: u224 :: u225 :: u226 :: u227 :: u228 :: u229 :: u230 :: u231 :: u232 :: u233 :: u234 :: u235 :: u236 :: u237 :: u238 :: c239 :: c240 :: c241 :: c242 :: c243 :: c244 :: c245 :: c246 :: c247 :: c248 :: c249 :: c250 :: c251 :: c252 :: c253 :: c254 :: c255 :: c256 :: c257 :: c258 :: c259 :: c260 :: c261 :: c262 :: c263 :: c264 :: c265 :: c266 :: c267 :: c268 :: c269 :: c270 :: c271 :: c272 :: []).toArray, []⟩ wr := by
  have HPN := Lib.hid hpan
  have HH := Lib.hid hH
  have HV := Lib.hid hV
  have HL := Lib.hid hl
  have HVS := Lib.hid hVs
  have HHS := Lib.hid hHs
  have HNE := Lib.hid hne
  have HH0 : Hid (Is wr g3 3 (rowZ (midS hs V 0) 8)) := Lib.hid (by rw [midS_zero hl]; exact hH)
  have HK := Lib.hid hK
  have HB0 : Hid (But [g3] wr wr) := Lib.hid (But.refl _ _)
  obtain ⟨wz, hwz⟩ : ∃ W, W = wr := ⟨wr, rfl⟩
  have HWZ := Lib.hid hwz
  conv => arg 2; arg 1; whnf
  clear hpan hH hV hl hVs hHs hne hK hwz
  go_loopw [17] (fun kv wx => ∃ k : Nat, k ≤ 8 ∧ kv = .int .i64 k ∧ Hid (Is wx g3 3 (rowZ (midS hs V k) 8)) ∧ Hid (But [g3] wz wx)) (fun kv _ => 8 - (intOf kv).toNat)
  case atStart => exact ⟨0, Nat.zero_le _, rfl, HH0, by rw [HWZ.out]; exact HB0⟩
  case round =>
    clear HH0 HB0
    obtain ⟨k, hk, rfl, HI, HB⟩ := hrel
    by_cases hlt : k < 8
    · obtain ⟨n, hn⟩ : ∃ n, n = V.getD k 0 := ⟨_, rfl⟩
      obtain ⟨x, hx⟩ : ∃ n, n = hs.getD k 0 := ⟨_, rfl⟩
      have hnl : n < 4294967296 := by rw [hn]; exact HVS.out k
      have hxl : x < 4294967296 := by rw [hx]; exact HHS.out k
      have HC0 : Hid (∀ W, But [] wr W → W.cell? ⟨g3, k, none⟩ = some (.int .i64 (x : Nat))) := Lib.hid fun W hW => by
        rw [(HI.out.but hW (by simp)).cell, rowZ_get (by rw [midS_length]; exact hlt), midS_at hlt, if_neg (Nat.lt_irrefl k), ← hx]
      have HCV : Hid (∀ W, But [] wr W → W.cell? ⟨gv, k, none⟩ = some (.int .i64 (n : Nat))) := Lib.hid fun W hW => by
        rw [hn]
        exact ((HV.out.but (by rw [← HWZ.out]; exact HB.out) (by simpa using HNE.out)).but hW (by simp)) k hlt
      obtain ⟨s, hs2⟩ : ∃ z, z = x + n := ⟨_, rfl⟩
      obtain ⟨y, hy⟩ : ∃ z, z = s % 4294967296 := ⟨_, rfl⟩
      have f1 : (x : Int) + (n : Int) = (s : Int) := by omega
      have f2 : (s : Int) % 4294967296 = (y : Int) := by omega
      have f3 : (s : Int).tmod 4294967296 = (y : Int) := by rw [Int.tmod_eq_emod_of_nonneg (by omega)]; omega
      have v1 := wrapI_in (show s < 1000000000000000 by omega)
      have v2 := wrapI_in (show y < 1000000000000000 by omega)
      have HPUT : Hid ((rowZ (midS hs V k) 8).setIfInBounds k (.int .i64 (y : Nat)) = rowZ (midS hs V (k + 1)) 8) := Lib.hid (by
        rw [rowZ_set y (midS_length hs V k), ← midS_next hlt, hy, hs2, hx, hn])
      clear hn hx hs2 hy hnl hxl
      have b0 : (0 : Int) ≤ (k : Int) := by omega
      have b1 : (k : Int) < 8 := by omega
      go_upto_region 28 with (fail)
      refine wp_region_z (z := 13) (S := fun v => But [] wr v) (R := fun v v' => But [] v v') (fun w => But.refl [] w) (by kernel_rfl) (But.refl [] wr).drew ?_
      refine rzk 0 (.slice (some ⟨g3, 0, none⟩) 8 8) ?_ (hQ := fun _ _ _ h => HPN.out _ _ _ _ _ h)
      refine rzk 1 (.int .i64 (k : Int)) ?_ (hQ := fun _ _ _ h => HPN.out _ _ _ _ _ h)
      refine rzk 2 (.slice (some ⟨g3, 0, none⟩) 8 8) ?_ (hQ := fun _ _ _ h => HPN.out _ _ _ _ _ h)
      refine rzk 3 (.int .i64 (k : Int)) ?_ (hQ := fun _ _ _ h => HPN.out _ _ _ _ _ h)
      refine rzk 4 (.pointer (some ⟨g3, k, none⟩)) ?_ (hQ := fun _ _ _ h => HPN.out _ _ _ _ _ h)
      refine rzq 5 (.int .i64 (x : Int)) ?_ ?_ (hQ := fun _ _ _ h => HPN.out _ _ _ _ _ h)
      · intro W hS
        have cc := HC0.out W hS
        go_simp
      refine rzk 6 (.slice (some ⟨gv, 0, none⟩) 8 cv) ?_ (hQ := fun _ _ _ h => HPN.out _ _ _ _ _ h)
      refine rzk 7 (.int .i64 (k : Int)) ?_ (hQ := fun _ _ _ h => HPN.out _ _ _ _ _ h)
      refine rzk 8 (.pointer (some ⟨gv, k, none⟩)) ?_ (hQ := fun _ _ _ h => HPN.out _ _ _ _ _ h)
      refine rzq 9 (.int .i64 (n : Int)) ?_ ?_ (hQ := fun _ _ _ h => HPN.out _ _ _ _ _ h)
      · intro W hS
        have cc := HCV.out W hS
        go_simp
      refine rzk 10 (.int .i64 (s : Int)) ?_ (hQ := fun _ _ _ h => HPN.out _ _ _ _ _ h)
      refine rzk 11 (.int .i64 (y : Int)) ?_ (hQ := fun _ _ _ h => HPN.out _ _ _ _ _ h)
      refine rzk 12 (.pointer (some ⟨g3, k, none⟩)) ?_ (hQ := fun _ _ _ h => HPN.out _ _ _ _ _ h)
      refine wpZ_last rfl (by kernel_rfl) (by kernel_rfl) fun w1 hR1 hS1 K' hK' => ?_
      have hI1 := HI.out.but hS1 (by simp)
      have cc := HC0.out w1 hS1
      have cf := hI1.free k
      have HI2 : Hid (Is (w1.setCell ⟨g3, k, none⟩ (.int .i64 (y : Nat))) g3 3 (rowZ (midS hs V (k + 1)) 8)) := Lib.hid (by
        have e := hI1.put k (.int .i64 (y : Nat))
        rw [HPUT.out] at e
        exact e)
      have HB2 : Hid (But [g3] wz (w1.setCell ⟨g3, k, none⟩ (.int .i64 (y : Nat)))) := Lib.hid ((HB.out.trans (hS1.more (by simp))).setCell (.inl (by simp)) _)
      clear hR1 hS1 hI1
      go_simp
      refine hK' _ _ ?_
      clear hK' K' cc cf HI HB HC0 HCV HPUT
      go_simp
      go_wp2
      go_roundw
      case rel => exact ⟨k + 1, by omega, by go_num, HI2, HB2⟩
      case measure => simp [intOf] <;> omega
    · have h8 : k = 8 := by omega
      have HI2 : Hid (Is wr g3 3 (rowZ (addS hs V) 8)) := Lib.hid (by
        have e := HI.out
        rw [h8, midS_all] at e
        exact e)
      subst h8
      clear HI hlt hk
      go_wp2_with fail
      exact HK.out _ _ _ _ _ _ _ _ _ _ _ _ _ _ _ _ _ _ HI2.out (by rw [← HWZ.out]; exact HB.out)
end Go.Proofs.YtgemmidkfeebfaaDoor
