/- The document's hash: the loop that reads a block's words. -/
import Derived.Test.YtgemmidkfeebfaaDoorHaL
set_option maxRecDepth 1000000
set_option linter.unusedVariables false
namespace Go.Proofs.YtgemmidkfeebfaaDoor
set_option maxRecDepth 100000
open Go Go.RowKit
theorem four_ofH {l : List UInt8} {i : Nat} (h : i + 4 ≤ l.length) : (l.drop i).take 4 = [l.getD i 0, l.getD (i + 1) 0, l.getD (i + 2) 0, l.getD (i + 3) 0] := by
  apply List.ext_getElem?
  intro j
  by_cases hj : j < 4
  · rw [List.getElem?_take_of_lt hj, List.getElem?_drop]
    have e : ∀ q, q < l.length → l[q]? = some (l.getD q 0) := fun q hq => by rw [List.getD_eq_getElem?_getD, List.getElem?_eq_getElem hq]; rfl
    rw [e (i + j) (by omega)]
    match j, hj with
    | 0, _ => rfl
    | 1, _ => rfl
    | 2, _ => rfl
    | 3, _ => rfl
  · rw [List.getElem?_eq_none (by rw [List.length_take]; omega), List.getElem?_eq_none (by show 4 ≤ j; omega)]
theorem getD_takeH {l : List UInt8} {i n : Nat} (h : i < n) : (l.take n).getD i 0 = l.getD i 0 := by
  rw [List.getD_eq_getElem?_getD, List.getElem?_take_of_lt h, ← List.getD_eq_getElem?_getD]
theorem word_of {S : List UInt8} {k : Nat} (hk : k < 16) (hS : 64 ≤ S.length) : ofL (((S.take 64).drop (4 * k)).take 4) = (S.getD (4 * k) 0).toNat * 16777216 + (S.getD (4 * k + 1) 0).toNat * 65536 + (S.getD (4 * k + 2) 0).toNat * 256 + (S.getD (4 * k + 3) 0).toNat := by
  rw [four_ofH (by rw [List.length_take]; omega), getD_takeH (by omega), getD_takeH (by omega), getD_takeH (by omega), getD_takeH (by omega)]
  show 256 * (256 * (256 * (256 * 0 + _) + _) + _) + _ = _
  omega
theorem or_numI (x y i : Nat) (hi : i ≤ 62) (hx : x % 2 ^ i = 0) (hx1 : x < 9223372036854775808) (hy : y < 2 ^ i) : Go.bits .or .i64 (x : Int) (y : Int) = ((x + y : Nat) : Int) := by
  have hp : 2 ^ i ≤ 2 ^ 62 := Nat.pow_le_pow_right (by decide) hi
  rw [i64_or _ _ hx1 (by omega), nat_join i x y hx hy]
attribute [local irreducible] rowZ wordsB
set_option maxHeartbeats 4000000 in
theorem eword_loop {wr : World} {gf o n c g6 : Nat} {S : List UInt8} {Q0 : Exit → Act → World → Prop} {c0 c1 c2 c3 c4 c8 c9 c10 c11 c12 c13 c14 c15 c16 c17 c18 c19 c20 c21 c22 c23 c24 c25 c26 c27 c68 c69 c70 c71 c72 c73 c74 c75 c76 c77 c78 c79 c80 c81 c82 c83 c84 c85 c86 c87 c88 c89 c90 c91 c92 c93 c94 c95 c96 c97 c98 c99 c100 c101 c102 c103 c104 c105 c106 c107 c108 c109 c110 c111 c112 c113 c114 c115 c116 c117 c118 c119 c120 c121 c122 c123 c124 c125 c126 c127 c128 c129 c130 c131 c132 c133 c134 c135 c136 c137 c138 c139 c140 c141 c142 c143 c144 c145 c146 c147 c148 c149 c150 c151 c152 c153 c154 c155 c156 c157 c158 c159 c160 c161 c162 c163 c164 c165 c166 c167 c168 c169 c170 c171 c172 c173 c174 c175 c176 c177 c178 c179 c180 c181 c182 c183 c184 c185 c186 c187 c188 c189 c190 c191 c192 c193 c194 c195 c196 c197 c198 c199 c200 c201 c202 c203 c204 c205 c206 c207 c208 c209 c210 c211 c212 c213 c214 c215 c216 c217 c218 c219 c220 c221 c222 c223 c224 c225 c226 c227 c228 c229 c230 c231 c232 c233 c234 c235 c236 c237 c238 c239 c240 c241 c242 c243 c244 c245 c246 c247 c248 c249 c250 c251 c252 c253 c254 c255 c256 c257 c258 c259 c260 c261 c262 c263 c264 c265 c266 c267 c268 c269 c270 c271 c272 u28 u29 u30 u31 u32 u33 u34 u35 u36 u37 u38 u39 u40 u41 u42 u43 u44 u45 u46 u47 u48 u49 u50 u51 u52 u53 u54 u55 u56 u57 u58 u59 u60 u61 u62 u63 u64 u65 u66 u67 : Value} (hI : Is wr g6 3 (rowZ [] 64)) (hS : SB wr gf o n S) (hn : 64 ≤ n) (hn2 : n ≤ 200000000) (hne : gf ≠ g6) (hpan : ∀ (c : List PanicEntry) (a : Act) (d : Option Tmp) (v : Value) (w : World), Q0 (.panic c) (a.put d v) w → Q0 (.panic c) a w)
    (hK : ∀ (v28 v29 v30 v31 v32 v33 v34 v35 v36 v37 v38 v39 v40 v41 v42 v43 v44 v45 v46 v47 v48 v49 v50 v51 v52 v53 v54 v55 v56 v57 v58 v59 v60 v61 v62 v63 v64 v65 v66 v67 : Value) w1, Is w1 g6 3 (rowZ (wordsB (S.take 64)) 64) → But [g6] wr w1 → Q0 (.exit 2) ⟨(c0 :: c1 :: c2 :: c3 :: c4 :: .slice (some ⟨gf, o, none⟩) n c :: .slice (some ⟨g6, 0, none⟩) 64 64 :: .int .i64 16 :: c8 :: c9 :: c10 :: c11 :: c12 :: c13 :: c14 :: c15 :: c16 :: c17 :: c18 :: c19 :: c20 :: c21 :: c22 :: c23 :: c24 :: c25 :: c26 :: c27 :: v28 :: v29 :: v30 :: v31 :: v32 :: v33 :: v34 :: v35 :: v36 :: v37 :: v38 :: v39 :: v40 :: v41 :: v42 :: v43 :: v44 :: v45 :: v46 :: v47 :: v48 :: v49 :: v50 :: v51 :: v52 :: v53 :: v54 :: v55 :: v56 :: v57 :: v58 :: v59 :: v60 :: v61 :: v62 :: v63 :: v64 :: v65 :: v66 :: v67 :: c68 :: c69 :: c70 :: c71 :: c72 :: c73 :: c74 :: c75 :: c76 :: c77 :: c78 :: c79 :: c80 :: c81 :: c82 :: c83 :: c84 :: c85 :: c86 :: c87 :: c88 :: c89 :: c90 :: c91 :: c92 :: c93 :: c94 :: c95 :: c96 :: c97 :: c98 :: c99 :: c100 :: c101 :: c102 :: c103 :: c104 :: c105 :: c106 :: c107 :: c108 :: c109 :: c110 :: c111 :: c112 :: c113 :: c114 :: c115 :: c116 :: c117 :: c118 :: c119 :: c120 :: c121 :: c122 :: c123 :: c124 :: c125 :: c126 :: c127 :: c128 :: c129 :: c130 :: c131 :: c132 :: c133 :: c134 :: c135 :: c136 :: c137 :: c138 :: c139 :: c140 :: c141 :: c142 :: c143 :: c144 :: c145 :: c146 :: c147 :: c148 :: c149 :: c150 :: c151 :: c152 :: c153 :: c154 :: c155 :: c156 :: c157 :: c158 :: c159 :: c160 :: c161 :: c162 :: c163 :: c164 :: c165 :: c166 :: c167 :: c168 :: c169 :: c170 :: c171 :: c172 :: c173 :: c174 :: c175 :: c176 :: c177 :: c178 :: c179 :: c180 :: c181 :: c182 :: c183 :: c184 :: c185 :: c186 :: c187 :: c188 :: c189 :: c190 :: c191 :: c192 :: c193 :: c194 :: c195 :: c196 :: c197 :: c198 :: c199 :: c200 :: c201 :: c202 :: c203 :: c204 :: c205 :: c206 :: c207 :: c208 :: c209 :: c210 :: c211 :: c212 :: c213 :: c214 :: c215 :: c216 :: c217 :: c218 :: c219 :: c220 :: c221 :: c222 :: c223 :: c224 :: c225 :: c226 :: c227 :: c228 :: c229 :: c230 :: c231 :: c232 :: c233 :: c234 :: c235 :: c236 :: c237 :: c238 :: c239 :: c240 :: c241 :: c242 :: c243 :: c244 :: c245 :: c246 :: c247 :: c248 :: c249 :: c250 :: c251 :: c252 :: c253 :: c254 :: c255 :: c256 :: c257 :: c258 :: c259 :: c260 :: c261 :: c262 :: c263 :: c264 :: c265 :: c266 :: c267 :: c268 :: c269 :: c270 :: c271 :: c272 :: []).toArray, []⟩ w1) :
    Code.wp Tryd.prog (Code.loop (eInner 0)) Q0 ⟨(c0 :: c1 :: c2 :: c3 :: c4 :: .slice (some ⟨gf, o, none⟩) n c :: .slice (some ⟨g6, 0, none⟩) 64 64 :: .int .i64 0 :: c8 :: c9 :: c10 :: c11 :: c12 :: c13 :: c14 :: c15 :: c16 :: c17 :: c18 :: c19 :: c20 :: c21 :: c22 :: c23 :: c24 :: c25 :: c26 :: c27 :: u28 :: u29 :: u30 :: u31 :: u32 :: u33 :: u34 :: u35 :: u36 :: u37 :: u38 :: u39 :: u40 :: u41 :: u42 :: u43 :: u44 :: u45 :: u46 :: u47 :: u48 :: u49 :: u50 :: u51 :: u52 :: u53 :: u54 :: u55 :: u56 :: u57 :: u58 :: u59 :: u60 :: u61 :: u62 :: u63 :: u64 :: u65 :: u66 :: u67 :: c68 :: c69 :: c70 :: c71 :: c72 :: c73 :: c74 :: c75 :: c76 :: c77 :: c78 :: c79 :: c80 :: c81 :: c82 :: c83 :: c84 :: c85 :: c86 :: c87 :: c88 :: c89 :: c90 :: c91 :: c92 :: c93 :: c94 :: c95 :: c96 :: c97 :: c98 :: c99 :: c100 :: c101 :: c102 :: c103 :: c104 :: c105 :: c106 :: c107 :: c108 :: c109 :: c110 :: c111 :: c112 :: c113 :: c114 :: c115 :: c116 :: c117 :: c118 :: c119 :: c120 :: c121 :: c122 :: c123 :: c124 :: c125 :: c126 :: c127 :: c128 :: c129 :: c130 :: c131 :: c132 :: c133 :: c134 :: c135 :: c136 :: c137 :: c138 :: c139 :: c140 :: c141 :: c142 :: c143 :: c144 :: c145 :: c146 :: c147 :: c148 :: c149 :: c150 :: c151 :: c152 :: c153 :: c154 :: c155 :: c156 :: c157 :: c158 :: c159 :: c160 :: c161 :: c162 :: c163 :: c164 :: c165 :: c166 :: c167 :: c168 :: c169 :: c170 :: c171 :: c172 :: c173 :: c174 :: c175 :: c176 :: c177 :: c178 :: c179 :: c180 :: c181 :: c182 :: c183 :: c184 :: c185 :: c186 :: c187 :: c188 :: c189 :: c190 :: c191 :: c192 :: c193 :: c194 :: c195 :: c196 :: c197 :: c198 :: c199 :: c200 :: c201 :: c202 :: c203 :: c204 :: c205 :: c206 :: c207 :: c208 :: c209 :: c210 :: c211 :: c212 :: c213 :: c214 :: c215 :: c216 :: c217 :: c218 :: c219 :: c220 :: c221 :: c222 :: c223 :: c224 :: c225 :: c226 :: c227 :: c228 :: c229 :: c230 :: c231 :: c232 :: c233 :: c234 :: c235 :: c236 :: c237 :: c238 :: c239 :: c240 :: c241 :: c242 :: c243 :: c244 :: c245 :: c246 :: c247 :: c248 :: c249 :: c250 :: c251 :: c252 :: c253 :: c254 :: c255 :: c256 :: c257 :: c258 :: c259 :: c260 :: c261 :: c262 :: c263 :: c264 :: c265 :: c266 :: c267 :: c268 :: c269 :: c270 :: c271 :: c272 :: []).toArray, []⟩ wr := by
  have HPN := Lib.hid hpan
  have HI0 : Hid (Is wr g6 3 (rowZ ((wordsB (S.take 64)).take 0) 64)) := Lib.hid hI
  have HS := Lib.hid hS
  have HNE := Lib.hid hne
  have HK := Lib.hid hK
  have HB0 : Hid (But [g6] wr wr) := Lib.hid (But.refl _ _)
  have hSl := hS.1
  have HWL := Lib.hid (wordsB_length (S.take 64))
  have HWO : Hid (∀ k, k < 16 → (wordsB (S.take 64)).take (k + 1) = (wordsB (S.take 64)).take k ++ [(S.getD (4 * k) 0).toNat * 16777216 + (S.getD (4 * k + 1) 0).toNat * 65536 + (S.getD (4 * k + 2) 0).toNat * 256 + (S.getD (4 * k + 3) 0).toNat]) := Lib.hid fun k hk => by
    rw [wordsB_next _ hk, word_of hk (by omega)]
  obtain ⟨X, hX⟩ : ∃ X, X = wordsB (S.take 64) := ⟨_, rfl⟩
  rw [← hX] at HI0 HWL HWO
  have HX := Lib.hid hX
  obtain ⟨wz, hwz⟩ : ∃ W, W = wr := ⟨wr, rfl⟩
  have HWZ := Lib.hid hwz
  conv => arg 2; arg 1; whnf
  clear hpan hI hS hne hK hwz hX hSl
  go_loopw [7] (fun kv wx => ∃ k : Nat, k ≤ 16 ∧ kv = .int .i64 k ∧ Hid (Is wx g6 3 (rowZ (X.take k) 64)) ∧ Hid (But [g6] wz wx)) (fun kv _ => 16 - (intOf kv).toNat)
  case atStart => exact ⟨0, Nat.zero_le _, rfl, HI0, by rw [HWZ.out]; exact HB0⟩
  case round =>
    clear HI0 HB0
    obtain ⟨k, hk, rfl, HI, HB⟩ := hrel
    by_cases hlt : k < 16
    · obtain ⟨p0, hp0⟩ : ∃ p, p = 4 * k := ⟨_, rfl⟩
      obtain ⟨p1, hp1⟩ : ∃ p, p = p0 + 1 := ⟨_, rfl⟩
      obtain ⟨p2, hp2⟩ : ∃ p, p = p0 + 2 := ⟨_, rfl⟩
      obtain ⟨p3, hp3⟩ : ∃ p, p = p0 + 3 := ⟨_, rfl⟩
      have e0 : (4 : Int) * (k : Int) = (p0 : Int) := by omega
      have e1 : (p0 : Int) + 1 = (p1 : Int) := by omega
      have e2 : (p0 : Int) + 2 = (p2 : Int) := by omega
      have e3 : (p0 : Int) + 3 = (p3 : Int) := by omega
      obtain ⟨b0, hb0⟩ : ∃ b, b = (S.getD p0 0).toNat := ⟨_, rfl⟩
      have lb0 : b0 < 256 := by rw [hb0]; exact UInt8.toNat_lt _
      have HC0 : Hid (∀ W, But [] wr W → W.cell? ⟨gf, o + p0, none⟩ = some (.int .u8 (b0 : Nat))) := Lib.hid fun W hW => by
        rw [hb0]
        exact ((HS.out.but (by rw [← HWZ.out]; exact HB.out) (by simpa using HNE.out)).but hW (by simp)).2 p0 (by omega)
      have i0 : (p0 : Int) < (n : Int) := by omega
      have j0 : (0 : Int) ≤ (p0 : Int) := by omega
      have wp0 := wrapI_in (show p0 < 1000000000000000 by omega)
      have wb0 := wrapI_in (show b0 < 1000000000000000 by omega)
      obtain ⟨b1, hb1⟩ : ∃ b, b = (S.getD p1 0).toNat := ⟨_, rfl⟩
      have lb1 : b1 < 256 := by rw [hb1]; exact UInt8.toNat_lt _
      have HC1 : Hid (∀ W, But [] wr W → W.cell? ⟨gf, o + p1, none⟩ = some (.int .u8 (b1 : Nat))) := Lib.hid fun W hW => by
        rw [hb1]
        exact ((HS.out.but (by rw [← HWZ.out]; exact HB.out) (by simpa using HNE.out)).but hW (by simp)).2 p1 (by omega)
      have i1 : (p1 : Int) < (n : Int) := by omega
      have j1 : (0 : Int) ≤ (p1 : Int) := by omega
      have wp1 := wrapI_in (show p1 < 1000000000000000 by omega)
      have wb1 := wrapI_in (show b1 < 1000000000000000 by omega)
      obtain ⟨b2, hb2⟩ : ∃ b, b = (S.getD p2 0).toNat := ⟨_, rfl⟩
      have lb2 : b2 < 256 := by rw [hb2]; exact UInt8.toNat_lt _
      have HC2 : Hid (∀ W, But [] wr W → W.cell? ⟨gf, o + p2, none⟩ = some (.int .u8 (b2 : Nat))) := Lib.hid fun W hW => by
        rw [hb2]
        exact ((HS.out.but (by rw [← HWZ.out]; exact HB.out) (by simpa using HNE.out)).but hW (by simp)).2 p2 (by omega)
      have i2 : (p2 : Int) < (n : Int) := by omega
      have j2 : (0 : Int) ≤ (p2 : Int) := by omega
      have wp2 := wrapI_in (show p2 < 1000000000000000 by omega)
      have wb2 := wrapI_in (show b2 < 1000000000000000 by omega)
      obtain ⟨b3, hb3⟩ : ∃ b, b = (S.getD p3 0).toNat := ⟨_, rfl⟩
      have lb3 : b3 < 256 := by rw [hb3]; exact UInt8.toNat_lt _
      have HC3 : Hid (∀ W, But [] wr W → W.cell? ⟨gf, o + p3, none⟩ = some (.int .u8 (b3 : Nat))) := Lib.hid fun W hW => by
        rw [hb3]
        exact ((HS.out.but (by rw [← HWZ.out]; exact HB.out) (by simpa using HNE.out)).but hW (by simp)).2 p3 (by omega)
      have i3 : (p3 : Int) < (n : Int) := by omega
      have j3 : (0 : Int) ≤ (p3 : Int) := by omega
      have wp3 := wrapI_in (show p3 < 1000000000000000 by omega)
      have wb3 := wrapI_in (show b3 < 1000000000000000 by omega)
      obtain ⟨s0, hs0⟩ : ∃ z, z = b0 * 16777216 := ⟨_, rfl⟩
      obtain ⟨s1, hs1⟩ : ∃ z, z = b1 * 65536 := ⟨_, rfl⟩
      obtain ⟨s2, hs2⟩ : ∃ z, z = b2 * 256 := ⟨_, rfl⟩
      obtain ⟨r1, hr1⟩ : ∃ z, z = s0 + s1 := ⟨_, rfl⟩
      obtain ⟨r2, hr2⟩ : ∃ z, z = r1 + s2 := ⟨_, rfl⟩
      obtain ⟨y, hy⟩ : ∃ z, z = r2 + b3 := ⟨_, rfl⟩
      have f0 : (b0 : Int) * 16777216 = (s0 : Int) := by omega
      have f1 : (b1 : Int) * 65536 = (s1 : Int) := by omega
      have f2 : (b2 : Int) * 256 = (s2 : Int) := by omega
      have v0 := wrapI_in (show s0 < 1000000000000000 by omega)
      have v1 := wrapI_in (show s1 < 1000000000000000 by omega)
      have v2 := wrapI_in (show s2 < 1000000000000000 by omega)
      have o1 : bits .or .i64 (s0 : Int) (s1 : Int) = (r1 : Int) := by rw [hr1]; exact or_numI s0 s1 24 (by decide) (by omega) (by omega) (by omega)
      have o2 : bits .or .i64 (r1 : Int) (s2 : Int) = (r2 : Int) := by rw [hr2]; exact or_numI r1 s2 16 (by decide) (by omega) (by omega) (by omega)
      have o3 : bits .or .i64 (r2 : Int) (b3 : Int) = (y : Int) := by rw [hy]; exact or_numI r2 b3 8 (by decide) (by omega) (by omega) (by omega)
      have HTL : Hid ((X.take k).length = k) := Lib.hid (by rw [List.length_take, HWL.out]; omega)
      have HN : Hid (X.take k ++ [y] = X.take (k + 1)) := Lib.hid (by
        rw [HWO.out k hlt, hy, hr2, hr1, hs0, hs1, hs2, hb0, hb1, hb2, hb3, hp1, hp2, hp3, hp0])
      obtain ⟨cx, hcx⟩ := rowZ_some (L := X.take k) (n := 64) (i := k) (by rw [HTL.out]; omega) (by omega)
      have HCX := Lib.hid hcx
      have HPUT : Hid ((rowZ (X.take k) 64).setIfInBounds k (.int .i64 (y : Nat)) = rowZ (X.take (k + 1)) 64) := Lib.hid (by
        have e := rowZ_put (L := X.take k) (n := 64) y (by rw [HTL.out]; omega)
        rw [HTL.out] at e
        rw [e, HN.out])
      have bk0 : (0 : Int) ≤ (k : Int) := by omega
      have bk1 : (k : Int) < 64 := by omega
      have bk2 : (k : Int) < 16 := by omega
      clear hp0 hp1 hp2 hp3 hb0 hb1 hb2 hb3 hs0 hs1 hs2 hr1 hr2 hy hcx lb0 lb1 lb2 lb3
      go_upto_region 9 with (fail)
      refine wp_region_z (z := 36) (S := fun v => But [] wr v) (R := fun v v' => But [] v v') (fun w => But.refl [] w) (by kernel_rfl) (But.refl [] wr).drew ?_
      refine rzk 0 (.slice (some ⟨g6, 0, none⟩) 64 64) ?_ (hQ := fun _ _ _ h => HPN.out _ _ _ _ _ h)
      refine rzk 1 (.int .i64 (k : Int)) ?_ (hQ := fun _ _ _ h => HPN.out _ _ _ _ _ h)
      refine rzk 2 (.slice (some ⟨gf, o, none⟩) n c) ?_ (hQ := fun _ _ _ h => HPN.out _ _ _ _ _ h)
      refine rzk 3 (.int .i64 (k : Int)) ?_ (hQ := fun _ _ _ h => HPN.out _ _ _ _ _ h)
      refine rzk 4 (.int .i64 (p0 : Int)) ?_ (hQ := fun _ _ _ h => HPN.out _ _ _ _ _ h)
      refine rzk 5 (.pointer (some ⟨gf, o + p0, none⟩)) ?_ (hQ := fun _ _ _ h => HPN.out _ _ _ _ _ h)
      refine rzq 6 (.int .u8 (b0 : Int)) ?_ ?_ (hQ := fun _ _ _ h => HPN.out _ _ _ _ _ h)
      · intro W hS
        have cc := HC0.out W hS
        go_simp
      refine rzk 7 (.int .i64 (b0 : Int)) ?_ (hQ := fun _ _ _ h => HPN.out _ _ _ _ _ h)
      refine rzk 8 (.int .i64 (s0 : Int)) ?_ (hQ := fun _ _ _ h => HPN.out _ _ _ _ _ h)
      refine rzk 9 (.slice (some ⟨gf, o, none⟩) n c) ?_ (hQ := fun _ _ _ h => HPN.out _ _ _ _ _ h)
      refine rzk 10 (.int .i64 (k : Int)) ?_ (hQ := fun _ _ _ h => HPN.out _ _ _ _ _ h)
      refine rzk 11 (.int .i64 (p0 : Int)) ?_ (hQ := fun _ _ _ h => HPN.out _ _ _ _ _ h)
      refine rzk 12 (.int .i64 (p1 : Int)) ?_ (hQ := fun _ _ _ h => HPN.out _ _ _ _ _ h)
      refine rzk 13 (.pointer (some ⟨gf, o + p1, none⟩)) ?_ (hQ := fun _ _ _ h => HPN.out _ _ _ _ _ h)
      refine rzq 14 (.int .u8 (b1 : Int)) ?_ ?_ (hQ := fun _ _ _ h => HPN.out _ _ _ _ _ h)
      · intro W hS
        have cc := HC1.out W hS
        go_simp
      refine rzk 15 (.int .i64 (b1 : Int)) ?_ (hQ := fun _ _ _ h => HPN.out _ _ _ _ _ h)
      refine rzk 16 (.int .i64 (s1 : Int)) ?_ (hQ := fun _ _ _ h => HPN.out _ _ _ _ _ h)
      refine rzk 17 (.int .i64 (r1 : Int)) ?_ (hQ := fun _ _ _ h => HPN.out _ _ _ _ _ h)
      refine rzk 18 (.slice (some ⟨gf, o, none⟩) n c) ?_ (hQ := fun _ _ _ h => HPN.out _ _ _ _ _ h)
      refine rzk 19 (.int .i64 (k : Int)) ?_ (hQ := fun _ _ _ h => HPN.out _ _ _ _ _ h)
      refine rzk 20 (.int .i64 (p0 : Int)) ?_ (hQ := fun _ _ _ h => HPN.out _ _ _ _ _ h)
      refine rzk 21 (.int .i64 (p2 : Int)) ?_ (hQ := fun _ _ _ h => HPN.out _ _ _ _ _ h)
      refine rzk 22 (.pointer (some ⟨gf, o + p2, none⟩)) ?_ (hQ := fun _ _ _ h => HPN.out _ _ _ _ _ h)
      refine rzq 23 (.int .u8 (b2 : Int)) ?_ ?_ (hQ := fun _ _ _ h => HPN.out _ _ _ _ _ h)
      · intro W hS
        have cc := HC2.out W hS
        go_simp
      refine rzk 24 (.int .i64 (b2 : Int)) ?_ (hQ := fun _ _ _ h => HPN.out _ _ _ _ _ h)
      refine rzk 25 (.int .i64 (s2 : Int)) ?_ (hQ := fun _ _ _ h => HPN.out _ _ _ _ _ h)
      refine rzk 26 (.int .i64 (r2 : Int)) ?_ (hQ := fun _ _ _ h => HPN.out _ _ _ _ _ h)
      refine rzk 27 (.slice (some ⟨gf, o, none⟩) n c) ?_ (hQ := fun _ _ _ h => HPN.out _ _ _ _ _ h)
      refine rzk 28 (.int .i64 (k : Int)) ?_ (hQ := fun _ _ _ h => HPN.out _ _ _ _ _ h)
      refine rzk 29 (.int .i64 (p0 : Int)) ?_ (hQ := fun _ _ _ h => HPN.out _ _ _ _ _ h)
      refine rzk 30 (.int .i64 (p3 : Int)) ?_ (hQ := fun _ _ _ h => HPN.out _ _ _ _ _ h)
      refine rzk 31 (.pointer (some ⟨gf, o + p3, none⟩)) ?_ (hQ := fun _ _ _ h => HPN.out _ _ _ _ _ h)
      refine rzq 32 (.int .u8 (b3 : Int)) ?_ ?_ (hQ := fun _ _ _ h => HPN.out _ _ _ _ _ h)
      · intro W hS
        have cc := HC3.out W hS
        go_simp
      refine rzk 33 (.int .i64 (b3 : Int)) ?_ (hQ := fun _ _ _ h => HPN.out _ _ _ _ _ h)
      refine rzk 34 (.int .i64 (y : Int)) ?_ (hQ := fun _ _ _ h => HPN.out _ _ _ _ _ h)
      refine rzk 35 (.pointer (some ⟨g6, k, none⟩)) ?_ (hQ := fun _ _ _ h => HPN.out _ _ _ _ _ h)
      refine wpZ_last rfl (by kernel_rfl) (by kernel_rfl) fun w1 hR1 hS1 K' hK' => ?_
      have hI1 := HI.out.but hS1 (by simp)
      have cc := hI1.cell k
      rw [HCX.out] at cc
      have cf := hI1.free k
      have HI2 : Hid (Is (w1.setCell ⟨g6, k, none⟩ (.int .i64 (y : Nat))) g6 3 (rowZ (X.take (k + 1)) 64)) := Lib.hid (by
        have e := hI1.put k (.int .i64 (y : Nat))
        rw [HPUT.out] at e
        exact e)
      have HB2 : Hid (But [g6] wz (w1.setCell ⟨g6, k, none⟩ (.int .i64 (y : Nat)))) := Lib.hid ((HB.out.trans (hS1.more (by simp))).setCell (.inl (by simp)) _)
      clear hR1 hS1 hI1
      go_simp
      refine hK' _ _ ?_
      clear hK' K' cc cf HI HB HC0 HC1 HC2 HC3 HPUT HCX
      go_simp
      go_wp2
      go_roundw
      case rel => exact ⟨k + 1, by omega, by go_num, HI2, HB2⟩
      case measure => simp [intOf] <;> omega
    · have h8 : k = 16 := by omega
      have HI2 : Hid (Is wr g6 3 (rowZ (wordsB (S.take 64)) 64)) := Lib.hid (by
        have e := HI.out
        rw [h8, List.take_of_length_le (by rw [HWL.out]; exact Nat.le_refl _), HX.out] at e
        exact e)
      subst h8
      clear HI hlt hk
      go_wp2_with fail
      exact HK.out _ _ _ _ _ _ _ _ _ _ _ _ _ _ _ _ _ _ _ _ _ _ _ _ _ _ _ _ _ _ _ _ _ _ _ _ _ _ _ _ _ HI2.out (by rw [← HWZ.out]; exact HB.out)
end Go.Proofs.YtgemmidkfeebfaaDoor
