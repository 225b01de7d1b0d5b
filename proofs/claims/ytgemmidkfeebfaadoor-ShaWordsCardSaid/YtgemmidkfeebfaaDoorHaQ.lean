/- The document's hash: the loop that lays it. -/
import Derived.Test.YtgemmidkfeebfaaDoorHaL
set_option maxRecDepth 1000000
set_option linter.unusedVariables false
namespace Go.Proofs.YtgemmidkfeebfaaDoor
set_option maxRecDepth 100000
open Go Go.RowKit
theorem four_cells {x a b c d : Nat} (h1 : a = x / 16777216 % 256) (h2 : b = x / 65536 % 256) (h3 : c = x / 256 % 256) (h4 : d = x % 256) : (cellsF (fourL x)).toArray = #[.int .u8 a, .int .u8 b, .int .u8 c, .int .u8 d] := by
  have a1 := UInt8.toNat_ofNat' (n := x / 16777216)
  have a2 := UInt8.toNat_ofNat' (n := x / 65536)
  have a3 := UInt8.toNat_ofNat' (n := x / 256)
  have a4 := UInt8.toNat_ofNat' (n := x)
  unfold fourL cellsF
  simp only [List.map_cons, List.map_nil, a1, a2, a3, a4]
  rw [h1, h2, h3, h4]
attribute [local irreducible] rowZ outK outS
set_option maxHeartbeats 8000000 in
theorem eout_loop {wr : World} {g3 : Nat} {hs : List Nat} {Q0 : Exit → Act → World → Prop} {c0 c1 c2 c4 c5 c6 c7 c8 c9 c10 c11 c12 c13 c14 c15 c16 c17 c20 c21 c22 c23 c24 c25 c26 c27 c28 c29 c30 c31 c32 c33 c34 c35 c36 c37 c38 c39 c40 c41 c42 c43 c44 c45 c46 c47 c48 c49 c50 c51 c52 c53 c54 c55 c56 c57 c58 c59 c60 c61 c62 c63 c64 c65 c66 c67 c68 c69 c70 c71 c72 c73 c74 c75 c76 c77 c78 c79 c80 c81 c82 c83 c84 c85 c86 c87 c88 c89 c90 c91 c92 c93 c94 c95 c96 c97 c98 c99 c100 c101 c102 c103 c104 c105 c106 c107 c108 c109 c110 c111 c112 c113 c114 c115 c116 c117 c118 c119 c120 c121 c122 c123 c124 c125 c126 c127 c128 c129 c130 c131 c132 c133 c134 c135 c136 c137 c138 c139 c140 c141 c142 c143 c144 c145 c146 c147 c148 c149 c150 c151 c152 c153 c154 c155 c156 c157 c158 c159 c160 c161 c162 c163 c164 c165 c166 c167 c168 c169 c170 c171 c172 c173 c174 c175 c176 c177 c178 c179 c180 c181 c182 c183 c184 c185 c186 c187 c188 c189 c190 c191 c192 c193 c194 c195 c196 c197 c198 c199 c200 c201 c202 c203 c204 c205 c206 c207 c208 c209 c210 c211 c212 c213 c214 c215 c216 c217 c218 c219 c220 c221 c222 c223 c224 c225 c226 c227 c228 c229 c230 c231 c232 c233 c234 c235 c236 c237 c238 c239 c240 c271 c272 u241 u242 u243 u244 u245 u246 u247 u248 u249 u250 u251 u252 u253 u254 u255 u256 u257 u258 u259 u260 u261 u262 u263 u264 u265 u266 u267 u268 u269 u270 : Value} (hH : Is wr g3 3 (rowZ hs 8)) (hl : hs.length = 8) (hs' : Small hs) (hpan : ∀ (c : List PanicEntry) (a : Act) (d : Option Tmp) (v : Value) (w : World), Q0 (.panic c) (a.put d v) w → Q0 (.panic c) a w)
    (hK : ∀ (v241 v242 v243 v244 v245 v246 v247 v248 v249 v250 v251 v252 v253 v254 v255 v256 v257 v258 v259 v260 v261 v262 v263 v264 v265 v266 v267 v268 v269 v270 : Value) OA ol oc w1, OwnF w1 wr.heap.size (.slice OA ol oc) (outS hs) → But [] wr w1 → Q0 (.exit 10) ⟨(c0 :: c1 :: c2 :: .slice (some ⟨g3, 0, none⟩) 8 8 :: c4 :: c5 :: c6 :: c7 :: c8 :: c9 :: c10 :: c11 :: c12 :: c13 :: c14 :: c15 :: c16 :: c17 :: .slice OA ol oc :: .int .i64 8 :: c20 :: c21 :: c22 :: c23 :: c24 :: c25 :: c26 :: c27 :: c28 :: c29 :: c30 :: c31 :: c32 :: c33 :: c34 :: c35 :: c36 :: c37 :: c38 :: c39 :: c40 :: c41 :: c42 :: c43 :: c44 :: c45 :: c46 :: c47 :: c48 :: c49 :: c50 :: c51 :: c52 :: c53 :: c54 :: c55 :: c56 :: c57 :: c58 :: c59 :: c60 :: c61 :: c62 :: c63 :: c64 :: c65 :: c66 :: c67 :: c68 :: c69 :: c70 :: c71 :: c72 :: c73 :: c74 :: c75 :: c76 :: c77 :: c78 :: c79 :: c80 :: c81 :: c82 :: c83 :: c84 :: c85 :: c86 :: c87 :: c88 :: c89 :: c90 :: c91 :: c92 :: c93 :: c94 :: c95 :: c96 :: c97 :: c98 :: c99 :: c100 :: c101 :: c102 :: c103 :: c104 :: c105 :: c106 :: c107 :: c108 :: c109 :: c110 :: c111 :: c112 :: c113 :: c114 :: c115 :: c116 :: c117 :: c118 :: c119 :: c120 :: c121 :: c122 :: c123 :: c124 :: c125 :: c126 :: c127 :: c128 :: c129 :: c130 :: c131 :: c132 :: c133 :: c134 :: c135 :: c136 :: c137 :: c138 :: c139 :: c140 :: c141 :: c142 :: c143 :: c144 :: c145 :: c146 :: c147 :: c148 :: c149 :: c150 :: c151 :: c152 :: c153 :: c154 :: c155 :: c156 :: c157 :: c158 :: c159 :: c160 :: c161 :: c162 :: c163 :: c164 :: c165 :: c166 :: c167 :: c168 :: c169 :: c170 :: c171 :: c172 :: c173 :: c174 :: c175 :: c176 :: c177 :: c178 :: c179 :: c180 :: c181 :: c182 :: c183 :: c184 :: c185 :: c186 :: c187 :: c188 :: c189 :: c190 :: c191 :: c192 :: c193 :: c194 :: c195 :: c196 :: c197 :: c198 :: c199 :: c200 :: c201 :: c202 :: c203 :: c204 :: c205 :: c206 :: c207 :: c208 :: c209 :: c210 :: c211 :: c212 :: c213 :: c214 :: c215 :: c216 :: c217 :: c218 :: c219 :: c220 :: c221 :: c222 :: c223 :: c224 :: c225 :: c226 :: c227 :: c228 :: c229 :: c230 :: c231 :: c232 :: c233 :: c234 :: c235 :: c236 :: c237 :: c238 :: c239 :: c240 :: v241 :: v242 :: v243 :: v244 :: v245 :: v246 :: v247 :: v248 :: v249 :: v250 :: v251 :: v252 :: v253 :: v254 :: v255 :: v256 :: v257 :: v258 :: v259 :: v260 :: v261 :: v262 :: v263 :: v264 :: v265 :: v266 :: v267 :: v268 :: v269 :: v270 :: c271 :: c272 :: []).toArray, []⟩ w1) :
    Code.wp Tryd.prog (Code.loop (eOuter 1)) Q0 ⟨(c0 :: c1 :: c2 :: .slice (some ⟨g3, 0, none⟩) 8 8 :: c4 :: c5 :: c6 :: c7 :: c8 :: c9 :: c10 :: c11 :: c12 :: c13 :: c14 :: c15 :: c16 :: c17 :: .slice none 0 0 :: .int .i64 0 :: c20 :: c21 :: c22 :: c23 :: c24 :: c25 :: c26 :: c27 :: c28 :: c29 :: c30 :: c31 :: c32 :: c33 :: c34 :: c35 :: c36 :: c37 :: c38 :: c39 :: c40 :: c41 :: c42 :: c43 :: c44 :: c45 :: c46 :: c47 :: c48 :: c49 :: c50 :: c51 :: c52 :: c53 :: c54 :: c55 :: c56 :: c57 :: c58 :: c59 :: c60 :: c61 :: c62 :: c63 :: c64 :: c65 :: c66 :: c67 :: c68 :: c69 :: c70 :: c71 :: c72 :: c73 :: c74 :: c75 :: c76 :: c77 :: c78 :: c79 :: c80 :: c81 :: c82 :: c83 :: c84 :: c85 :: c86 :: c87 :: c88 :: c89 :: c90 :: c91 :: c92 :: c93 :: c94 :: c95 :: c96 :: c97 :: c98 :: c99 :: c100 :: c101 :: c102 :: c103 :: c104 :: c105 :: c106 :: c107 :: c108 :: c109 :: c110 :: c111 :: c112 :: c113 :: c114 :: c115 :: c116 :: c117 :: c118 :: c119 :: c120 :: c121 :: c122 :: c123 :: c124 :: c125 :: c126 :: c127 :: c128 :: c129 :: c130 :: c131 :: c132 :: c133 :: c134 :: c135 :: c136 :: c137 :: c138 :: c139 :: c140 :: c141 :: c142 :: c143 :: c144 :: c145 :: c146 :: c147 :: c148 :: c149 :: c150 :: c151 :: c152 :: c153 :: c154 :: c155 :: c156 :: c157 :: c158 :: c159 :: c160 :: c161 :: c162 :: c163 :: c164 :: c165 :: c166 :: c167 :: c168 :: c169 :: c170 :: c171 :: c172 :: c173 :: c174 :: c175 :: c176 :: c177 :: c178 :: c179 :: c180 :: c181 :: c182 :: c183 :: c184 :: c185 :: c186 :: c187 :: c188 :: c189 :: c190 :: c191 :: c192 :: c193 :: c194 :: c195 :: c196 :: c197 :: c198 :: c199 :: c200 :: c201 :: c202 :: c203 :: c204 :: c205 :: c206 :: c207 :: c208 :: c209 :: c210 :: c211 :: c212 :: c213 :: c214 :: c215 :: c216 :: c217 :: c218 :: c219 :: c220 :: c221 :: c222 :: c223 :: c224 :: c225 :: c226 :: c227 :: c228 :: c229 :: c230 :: c231 :: c232 :: c233 :: c234 :: c235 :: c236 :: c237 :: c238 :: c239 :: c240 :: u241 :: u242 :: u243 :: u244 :: u245 :: u246 :: u247 :: u248 :: u249 :: u250 :: u251 :: u252 :: u253 :: u254 :: u255 :: u256 :: u257 :: u258 :: u259 :: u260 :: u261 :: u262 :: u263 :: u264 :: u265 :: u266 :: u267 :: u268 :: u269 :: u270 :: c271 :: c272 :: []).toArray, []⟩ wr := by
  have HPN := Lib.hid hpan
  have HK := Lib.hid hK
  have HH := Lib.hid hH
  have HL := Lib.hid hl
  have HS := Lib.hid hs'
  have HO0 : Hid (OwnF wr wr.heap.size (.slice none 0 0) (outK hs 0)) := Lib.hid (by unfold outK; exact OwnF.nil _ _)
  have HB0 : Hid (But [] wr wr) := Lib.hid (But.refl _ _)
  obtain ⟨wz, hwz⟩ : ∃ W, W = wr := ⟨wr, rfl⟩
  have HWZ := Lib.hid hwz
  rw [← hwz] at HO0 HB0 HH
  conv => arg 2; arg 1; whnf
  clear hpan hK hH hl hs'
  go_loopw [18, 19] (fun ov kv wx => ∃ (k : Nat) (OA : Option Addr) (ol oc : Nat), k ≤ 8 ∧ kv = .int .i64 k ∧ ov = .slice OA ol oc ∧ Hid (ol = 4 * k) ∧ Hid (OwnF wx wz.heap.size (.slice OA ol oc) (outK hs k)) ∧ Hid (But [] wz wx)) (fun _ kv _ => 8 - (intOf kv).toNat)
  case atStart => exact ⟨0, none, 0, 0, Nat.zero_le _, rfl, rfl, Lib.hid rfl, by rw [← hwz]; exact HO0, by rw [← hwz]; exact HB0⟩
  case round =>
    clear HO0 HB0 hwz
    obtain ⟨k, OA, ol, oc, hk, rfl, rfl, HOE, HO, HB⟩ := hrel
    by_cases hlt : k < 8
    · obtain ⟨x, hx⟩ : ∃ x, x = hs.getD k 0 := ⟨_, rfl⟩
      have hxl : x < 4294967296 := by rw [hx]; exact HS.out k
      have HC : Hid (∀ W, But [] wz W → W.cell? ⟨g3, k, none⟩ = some (.int .i64 (x : Nat))) := Lib.hid fun W hW => by
        rw [(HH.out.but hW (by simp)).cell, rowZ_get (by rw [HL.out]; exact hlt), ← hx]
      obtain ⟨qa, h_qa⟩ : ∃ z, z = x / 16777216 := ⟨_, rfl⟩
      obtain ⟨qb, h_qb⟩ : ∃ z, z = x / 65536 := ⟨_, rfl⟩
      obtain ⟨qc, h_qc⟩ : ∃ z, z = x / 256 := ⟨_, rfl⟩
      obtain ⟨a, h_a⟩ : ∃ z, z = x / 16777216 % 256 := ⟨_, rfl⟩
      obtain ⟨b, h_b⟩ : ∃ z, z = x / 65536 % 256 := ⟨_, rfl⟩
      obtain ⟨c, h_c⟩ : ∃ z, z = x / 256 % 256 := ⟨_, rfl⟩
      obtain ⟨d, h_d⟩ : ∃ z, z = x % 256 := ⟨_, rfl⟩
      have f1 : (x : Int) / 16777216 = (qa : Int) := by omega
      have f2 : (x : Int) / 65536 = (qb : Int) := by omega
      have f3 : (x : Int) / 256 = (qc : Int) := by omega
      have u1 : IntKind.u8.wrap (qa : Int) = (a : Int) := by rw [IntKind.wrap_u8]; omega
      have u2 : IntKind.u8.wrap (qb : Int) = (b : Int) := by rw [IntKind.wrap_u8]; omega
      have u3 : IntKind.u8.wrap (qc : Int) = (c : Int) := by rw [IntKind.wrap_u8]; omega
      have u4 : IntKind.u8.wrap (x : Int) = (d : Int) := by rw [IntKind.wrap_u8]; omega
      have v1 := wrapI_in (show qa < 1000000000000000 by omega)
      have v2 := wrapI_in (show qb < 1000000000000000 by omega)
      have v3 := wrapI_in (show qc < 1000000000000000 by omega)
      have HFC : Hid ((cellsF (fourL x)).toArray = #[.int .u8 a, .int .u8 b, .int .u8 c, .int .u8 d]) := Lib.hid (four_cells h_a h_b h_c h_d)
      have HN : Hid (outK hs k ++ fourL x = outK hs (k + 1)) := Lib.hid (by rw [outK_next, hx])
      have HOL : Hid ((outK hs k).length = ol) := Lib.hid (by rw [outK_length, HOE.out])
      have HOL2 : Hid (ol + 4 = 4 * (k + 1)) := Lib.hid (by have := HOE.out; omega)
      have hol : ol ≤ 32 := by have := HOE.out; omega
      have b0 : (0 : Int) ≤ (k : Int) := by omega
      have b1 : (k : Int) < 8 := by omega
      have HLT := Lib.hid hlt
      clear hx hxl h_qa h_qb h_qc h_a h_b h_c h_d hlt
      go_upto_region 34 with (fail)
      refine wp_region_m (S := fun v => But [] wz v) (R := fun v v' => But [] v v') (fun w => But.refl [] w) (by kernel_rfl) HB.out.drew ?_
      refine rdk 0 (.slice OA ol oc) ?_ (hQ := fun _ _ _ h => HPN.out _ _ _ _ _ h)
      refine rdk 1 (.slice (some ⟨g3, 0, none⟩) 8 8) ?_ (hQ := fun _ _ _ h => HPN.out _ _ _ _ _ h)
      refine rdk 2 (.int .i64 (k : Int)) ?_ (hQ := fun _ _ _ h => HPN.out _ _ _ _ _ h)
      refine rdk 3 (.pointer (some ⟨g3, k, none⟩)) ?_ (hQ := fun _ _ _ h => HPN.out _ _ _ _ _ h)
      refine rdq 4 (.int .i64 (x : Int)) ?_ ?_ (hQ := fun _ _ _ h => HPN.out _ _ _ _ _ h)
      · intro W hS
        have cc := HC.out W hS
        go_simp
      refine rdk 5 (.int .i64 (qa : Int)) ?_ (hQ := fun _ _ _ h => HPN.out _ _ _ _ _ h)
      refine rdk 6 (.int .u8 (a : Int)) ?_ (hQ := fun _ _ _ h => HPN.out _ _ _ _ _ h)
      refine rdk 7 (.slice (some ⟨g3, 0, none⟩) 8 8) ?_ (hQ := fun _ _ _ h => HPN.out _ _ _ _ _ h)
      refine rdk 8 (.int .i64 (k : Int)) ?_ (hQ := fun _ _ _ h => HPN.out _ _ _ _ _ h)
      refine rdk 9 (.pointer (some ⟨g3, k, none⟩)) ?_ (hQ := fun _ _ _ h => HPN.out _ _ _ _ _ h)
      refine rdq 10 (.int .i64 (x : Int)) ?_ ?_ (hQ := fun _ _ _ h => HPN.out _ _ _ _ _ h)
      · intro W hS
        have cc := HC.out W hS
        go_simp
      refine rdk 11 (.int .i64 (qb : Int)) ?_ (hQ := fun _ _ _ h => HPN.out _ _ _ _ _ h)
      refine rdk 12 (.int .u8 (b : Int)) ?_ (hQ := fun _ _ _ h => HPN.out _ _ _ _ _ h)
      refine rdk 13 (.slice (some ⟨g3, 0, none⟩) 8 8) ?_ (hQ := fun _ _ _ h => HPN.out _ _ _ _ _ h)
      refine rdk 14 (.int .i64 (k : Int)) ?_ (hQ := fun _ _ _ h => HPN.out _ _ _ _ _ h)
      refine rdk 15 (.pointer (some ⟨g3, k, none⟩)) ?_ (hQ := fun _ _ _ h => HPN.out _ _ _ _ _ h)
      refine rdq 16 (.int .i64 (x : Int)) ?_ ?_ (hQ := fun _ _ _ h => HPN.out _ _ _ _ _ h)
      · intro W hS
        have cc := HC.out W hS
        go_simp
      refine rdk 17 (.int .i64 (qc : Int)) ?_ (hQ := fun _ _ _ h => HPN.out _ _ _ _ _ h)
      refine rdk 18 (.int .u8 (c : Int)) ?_ (hQ := fun _ _ _ h => HPN.out _ _ _ _ _ h)
      refine rdk 19 (.slice (some ⟨g3, 0, none⟩) 8 8) ?_ (hQ := fun _ _ _ h => HPN.out _ _ _ _ _ h)
      refine rdk 20 (.int .i64 (k : Int)) ?_ (hQ := fun _ _ _ h => HPN.out _ _ _ _ _ h)
      refine rdk 21 (.pointer (some ⟨g3, k, none⟩)) ?_ (hQ := fun _ _ _ h => HPN.out _ _ _ _ _ h)
      refine rdq 22 (.int .i64 (x : Int)) ?_ ?_ (hQ := fun _ _ _ h => HPN.out _ _ _ _ _ h)
      · intro W hS
        have cc := HC.out W hS
        go_simp
      refine rdk 23 (.int .u8 (d : Int)) ?_ (hQ := fun _ _ _ h => HPN.out _ _ _ _ _ h)
      refine wpM_one (i := 24) rfl (by kernel_rfl) fun w1 hR1 hS1 K' hK' => ?_
      go_simp
      refine hK' _ _ ⟨hS1.alloc _, ?_⟩
      clear hK' K'
      have hI1 : Is (w1.alloc (.cells #[.int .u8 (a : Int), .int .u8 (b : Int), .int .u8 (c : Int), .int .u8 (d : Int)] 5)) w1.heap.size 5 (cellsF (fourL x)).toArray := by rw [HFC.out]; exact Is.fresh _ _ _
      have hO1 := HO.out.but (((But.refl [] wr).drew.trans hR1).alloc (.cells #[.int .u8 (a : Int), .int .u8 (b : Int), .int .u8 (c : Int), .int .u8 (d : Int)] 5))
      refine wpM_one (i := 25) rfl (by kernel_rfl) fun w2 hR2 hS2 K' hK' => ?_
      refine step_append_h (w0 := wz) w2 rfl _ _ rfl (.slice OA ol oc) ol (outK hs k) (by rfl) HOL.out (hO1.but hR2) hS2 (fourL x) (m := 4) (fourL_length _) (by rfl) (hI1.but hR2 (by simp)) (by decide) (by omega) ?_
      intro A2 c2 w3 HO3 HB3
      refine hK' _ _ ⟨HB3.out, ?_⟩
      clear hK' K'
      refine rdk 26 (.slice A2 (ol + 4) c2) ?_ (hQ := fun _ _ _ h => HPN.out _ _ _ _ _ h)
      refine ⟨by kernel_rfl, fun w4 hR4 hS4 => ?_⟩
      rw [HN.out] at HO3
      have HO4 := Lib.hid (HO3.out.but hR4)
      have HB4 := Lib.hid hS4
      clear hR1 hS1 hR2 hS2 hR4 hS4 HO3 HB3 hO1 hI1 HO HB HC
      go_simp
      go_wp2
      go_roundw
      case rel => exact ⟨k + 1, A2, ol + 4, c2, by have := HLT.out; omega, by go_num, rfl, HOL2, HO4, HB4⟩
      case measure => simp [intOf] <;> omega
    · have h8 : k = 8 := by omega
      rw [h8] at HO HOE
      have hol : ol = 32 := HOE.out
      have HO2 : Hid (OwnF wr wz.heap.size (.slice OA ol oc) (outS hs)) := Lib.hid (by rw [← outK_all]; exact HO.out)
      subst h8
      clear hlt hk HO HOE hol
      go_wp2_with fail
      exact HK.out _ _ _ _ _ _ _ _ _ _ _ _ _ _ _ _ _ _ _ _ _ _ _ _ _ _ _ _ _ _ _ _ _ _ (by rw [← HWZ.out]; exact HO2.out) (by rw [← HWZ.out]; exact HB.out)
end Go.Proofs.YtgemmidkfeebfaaDoor
