/- The program's rounds of a block. -/
import Derived.Test.YtgemmidkfeebfaaDoorHaE
set_option maxRecDepth 100000
set_option linter.unusedVariables false
namespace Go.Proofs.YtgemmidkfeebfaaDoor
set_option maxRecDepth 100000
open Go Go.RowKit
/-- What the program's variable holds. -/
def GK (w : World) : Prop := (∀ i, i < 64 → w.cell? ⟨0, i, none⟩ = some (.int .u32 (kSha.getD i 0 : Nat))) ∧ 0 < w.heap.size
theorem GK.but {w w' : World} (h : GK w) (hB : But [] w w') : GK w' := ⟨fun i hi => hB.cell (h.1 i hi) (by simp), Nat.lt_of_lt_of_le h.2 hB.size⟩
theorem notN {e : Nat} (h : e < 4294967296) : 4294967295 ^^^ e = 4294967295 - e := by
  have h1 : (BitVec.allOnes 32 ^^^ BitVec.ofNat 32 e).toNat = 4294967295 ^^^ e := by
    rw [BitVec.toNat_xor, BitVec.toNat_allOnes, BitVec.toNat_ofNat, Nat.mod_eq_of_lt h]
  have h2 : (~~~ (BitVec.ofNat 32 e)).toNat = 4294967295 - e := by
    rw [BitVec.toNat_not, BitVec.toNat_ofNat, Nat.mod_eq_of_lt h]
  rw [← h1, BitVec.allOnes_xor, h2]
theorem notW {e : Nat} (h : e < 4294967296) : bits .xor .u32 IntKind.u32.max (e : Int) = ((4294967295 - e : Nat) : Int) := by
  have hm : IntKind.u32.max = ((4294967295 : Nat) : Int) := by decide
  rw [hm, u32_xor_nat _ _ (by omega) h, notN h]
theorem roundS_of {a b c d e f g h K X : Nat} : roundS [a, b, c, d, e, f, g, h] K X =
    [(shaX [a, b, c, d, e, f, g, h] K X + shaY [a, b, c, d, e, f, g, h]) % 4294967296, a, b, c, (d + shaX [a, b, c, d, e, f, g, h] K X) % 4294967296, e, f, g] := rfl
theorem shaX_of {a b c d e f g h K X m2 c3 : Nat} (hm : m2 = rotT e 6 ^^^ rotT e 11 ^^^ rotT e 25) (hc : c3 = (e &&& f) ^^^ ((4294967295 - e) &&& g)) : shaX [a, b, c, d, e, f, g, h] K X = ((((h + m2) % 4294967296 + c3) % 4294967296 + K) % 4294967296 + X) % 4294967296 := by
  show (h + (rotT e 6 ^^^ rotT e 11 ^^^ rotT e 25) + ((e &&& f) ^^^ ((4294967295 - e) &&& g)) + K + X) % 4294967296 = _
  rw [← hm, ← hc]
  omega
theorem shaY_of {a b c d e f g h n2 d5 : Nat} (hm : n2 = rotT a 2 ^^^ rotT a 13 ^^^ rotT a 22) (hc : d5 = (a &&& b) ^^^ (a &&& c) ^^^ (b &&& c)) : shaY [a, b, c, d, e, f, g, h] = (n2 + d5) % 4294967296 := by
  show ((rotT a 2 ^^^ rotT a 13 ^^^ rotT a 22) + ((a &&& b) ^^^ (a &&& c) ^^^ (b &&& c))) % 4294967296 = _
  rw [← hm, ← hc]
theorem list8 {v : List Nat} (h : v.length = 8) : ∃ a b c d e f g h, v = [a, b, c, d, e, f, g, h] := by
  match v, h with
  | [a, b, c, d, e, f, g, h], _ => exact ⟨a, b, c, d, e, f, g, h, rfl⟩
theorem small8 {a b c d e f g h : Nat} (hs : Small [a, b, c, d, e, f, g, h]) : a < 4294967296 ∧ b < 4294967296 ∧ c < 4294967296 ∧ d < 4294967296 ∧ e < 4294967296 ∧ f < 4294967296 ∧ g < 4294967296 ∧ h < 4294967296 := ⟨hs 0, hs 1, hs 2, hs 3, hs 4, hs 5, hs 6, hs 7⟩
theorem rowW8 (a b c d e f g h : Nat) : rowW [a, b, c, d, e, f, g, h] 8 = #[.int .u32 a, .int .u32 b, .int .u32 c, .int .u32 d, .int .u32 e, .int .u32 f, .int .u32 g, .int .u32 h] := rfl
theorem rowW08 : rowW [] 8 = #[.int .u32 0, .int .u32 0, .int .u32 0, .int .u32 0, .int .u32 0, .int .u32 0, .int .u32 0, .int .u32 0] := rfl
attribute [local irreducible] rowW rotT kSha roundsS roundS shaX shaY
set_option maxHeartbeats 4000000 in
theorem pmixed_any (w : World) {v X : List Nat} (hv : v.length = 8) (hs : Small v) (hX : X.length = 64) (hXs : Small X) (hG : GK w) :
    Calls Tryd.prog 18 #[.agg (rowW v 8), .agg (rowW X 64)] w fun e w' => e = .returned (.agg (rowW (roundsS X v 64) 8)) ∧ But [] w w' := by
  obtain ⟨a0, b0, c0, d0, e0, f0, g0, h0, rfl⟩ := list8 hv
  have HX := Lib.hid hX
  have HXS := Lib.hid hXs
  have HS0 := Lib.hid hs
  rw [rowW8]
  obtain ⟨w0, hw0⟩ : ∃ W, W = ((w.alloc (.cells #[.int .u32 a0, .int .u32 b0, .int .u32 c0, .int .u32 d0, .int .u32 e0, .int .u32 f0, .int .u32 g0, .int .u32 h0] 30)).alloc (.cells (rowW X 64) 40)).alloc (.cells #[.int .u32 0, .int .u32 0, .int .u32 0, .int .u32 0, .int .u32 0, .int .u32 0, .int .u32 0, .int .u32 0] 30) := ⟨_, rfl⟩
  obtain ⟨g2, hg2⟩ : ∃ g, g = w.heap.size := ⟨_, rfl⟩
  obtain ⟨g3, hg3⟩ : ∃ g, g = w.heap.size + 1 := ⟨_, rfl⟩
  obtain ⟨g4, hg4⟩ : ∃ g, g = w.heap.size + 1 + 1 := ⟨_, rfl⟩
  have HI2 : Hid (Is w0 g2 30 #[.int .u32 a0, .int .u32 b0, .int .u32 c0, .int .u32 d0, .int .u32 e0, .int .u32 f0, .int .u32 g0, .int .u32 h0]) := Lib.hid (by rw [hw0, hg2]; exact ((Is.fresh w _ _).alloc _).alloc _)
  have HI3 : Hid (Is w0 g3 40 (rowW X 64)) := Lib.hid (by
    have h := (Is.fresh (w.alloc (.cells #[.int .u32 a0, .int .u32 b0, .int .u32 c0, .int .u32 d0, .int .u32 e0, .int .u32 f0, .int .u32 g0, .int .u32 h0] 30)) 40 (rowW X 64)).alloc (.cells #[.int .u32 0, .int .u32 0, .int .u32 0, .int .u32 0, .int .u32 0, .int .u32 0, .int .u32 0, .int .u32 0] 30)
    rw [hw0, hg3]
    simpa using h)
  have HI4 : Hid (Is w0 g4 30 (rowW [] 8)) := Lib.hid (by
    rw [rowW08]
    have h := Is.fresh ((w.alloc (.cells #[.int .u32 a0, .int .u32 b0, .int .u32 c0, .int .u32 d0, .int .u32 e0, .int .u32 f0, .int .u32 g0, .int .u32 h0] 30)).alloc (.cells (rowW X 64) 40)) 30 #[.int .u32 0, .int .u32 0, .int .u32 0, .int .u32 0, .int .u32 0, .int .u32 0, .int .u32 0, .int .u32 0]
    rw [hw0, hg4]
    simpa using h)
  have HB0 : Hid (But [] w w0) := Lib.hid (by rw [hw0]; exact (((But.refl [] w).alloc _).alloc _).alloc _)
  have HG : Hid (GK w0) := Lib.hid (hG.but HB0.out)
  have HL4 : Hid (w.heap.size ≤ g4) := Lib.hid (by omega)
  have s0 := HI2.out.cell 0
  have s1 := HI2.out.cell 1
  have s2 := HI2.out.cell 2
  have s3 := HI2.out.cell 3
  have s4 := HI2.out.cell 4
  have s5 := HI2.out.cell 5
  have s6 := HI2.out.cell 6
  have s7 := HI2.out.cell 7
  clear hv hs hX hXs hG
  go_enter Tryd.func18, Tryd.ntmps18
  go_upto_region 1 with (fail)
  rw [← hw0, ← hg4, ← hg3, ← hg2]
  clear hw0 hg2 hg3 hg4
  go_quiet (fail)
  have HJ3 : Hid (Is (w0.drewN nq) g3 40 (rowW X 64)) := Lib.hid (HI3.out.drewN nq)
  have HJ4 : Hid (Is (w0.drewN nq) g4 30 (rowW [] 8)) := Lib.hid (HI4.out.drewN nq)
  have HB1 : Hid (But [] w (w0.drewN nq)) := Lib.hid (HB0.out.drewN nq)
  have HG1 : Hid (GK (w0.drewN nq)) := Lib.hid (HG.out.but ((But.refl [] w0).drewN nq))
  have HR0 : Hid (roundsS X [a0, b0, c0, d0, e0, f0, g0, h0] 0 = [a0, b0, c0, d0, e0, f0, g0, h0]) := Lib.hid (by unfold roundsS; rfl)
  clear s0 s1 s2 s3 s4 s5 s6 s7 HI2 HI3 HI4 HB0 HG
  obtain ⟨W1, hW1⟩ : ∃ W, W = w0.drewN nq := ⟨_, rfl⟩
  rw [← hW1] at HJ3 HJ4 HB1 HG1 ⊢
  clear hW1
  go_wp2_with fail
  go_loopw [5, 6, 7, 8, 9, 10, 11, 12, 13, 14, 15, 32] (fun va vb vc vd ve vf vg vh _ _ _ kv wr => ∃ k a b c d e f g h : Nat, k ≤ 64 ∧ kv = .int .i64 k ∧ va = .int .u32 a ∧ vb = .int .u32 b ∧ vc = .int .u32 c ∧ vd = .int .u32 d ∧ ve = .int .u32 e ∧ vf = .int .u32 f ∧ vg = .int .u32 g ∧ vh = .int .u32 h ∧ Hid (roundsS X [a0, b0, c0, d0, e0, f0, g0, h0] k = [a, b, c, d, e, f, g, h]) ∧ Hid (Is wr g3 40 (rowW X 64)) ∧ Hid (Is wr g4 30 (rowW [] 8)) ∧ Hid (But [] w wr) ∧ Hid (GK wr)) (fun _ _ _ _ _ _ _ _ _ _ _ kv _ => 64 - (intOf kv).toNat)
  case atStart => exact ⟨0, a0, b0, c0, d0, e0, f0, g0, h0, Nat.zero_le _, rfl, rfl, rfl, rfl, rfl, rfl, rfl, rfl, rfl, HR0, HJ3, HJ4, HB1, HG1⟩
  case round =>
    clear HJ3 HJ4 HB1 HG1 HR0
    obtain ⟨k, a, b, c, d, e, f, g, h, hk, rfl, rfl, rfl, rfl, rfl, rfl, rfl, rfl, rfl, HR, HI3, HI4, HB, HG⟩ := hrel
    by_cases hlt : k < 64
    · obtain ⟨l_a, l_b, l_c, l_d, l_e, l_f, l_g, l_h⟩ : a < 4294967296 ∧ b < 4294967296 ∧ c < 4294967296 ∧ d < 4294967296 ∧ e < 4294967296 ∧ f < 4294967296 ∧ g < 4294967296 ∧ h < 4294967296 := small8 (by rw [← HR.out]; exact small_rounds X HS0.out k)
      obtain ⟨K, hK⟩ : ∃ z, z = kSha.getD k 0 := ⟨_, rfl⟩
      obtain ⟨X0, hX0⟩ : ∃ z, z = X.getD k 0 := ⟨_, rfl⟩
      have l_K : K < 4294967296 := by rw [hK]; exact small_kSha k
      have l_X0 : X0 < 4294967296 := by rw [hX0]; exact HXS.out k
      have cK := HG.out.1 k hlt
      have cX := HI3.out.cell k
      rw [rowW_at (by rw [HX.out]; exact hlt), ← hX0] at cX
      rw [← hK] at cK
      have H_r6 : Hid (∀ W, Calls Tryd.prog 22 #[.int .u32 (e : Int), .int .i64 6] W fun er w' => er = .returned (.int .u32 ((rotT e 6 : Nat) : Int)) ∧ ∃ q, w' = W.drewN q) := Lib.hid fun W => protr_any W (n := 6) l_e (by decide)
      obtain ⟨r6, h_r6⟩ : ∃ z, z = rotT e 6 := ⟨_, rfl⟩
      have l_r6 : r6 < 4294967296 := by rw [h_r6]; exact rotT_lt _ _
      rw [← h_r6] at H_r6
      have H_r11 : Hid (∀ W, Calls Tryd.prog 22 #[.int .u32 (e : Int), .int .i64 11] W fun er w' => er = .returned (.int .u32 ((rotT e 11 : Nat) : Int)) ∧ ∃ q, w' = W.drewN q) := Lib.hid fun W => protr_any W (n := 11) l_e (by decide)
      obtain ⟨r11, h_r11⟩ : ∃ z, z = rotT e 11 := ⟨_, rfl⟩
      have l_r11 : r11 < 4294967296 := by rw [h_r11]; exact rotT_lt _ _
      rw [← h_r11] at H_r11
      have H_r25 : Hid (∀ W, Calls Tryd.prog 22 #[.int .u32 (e : Int), .int .i64 25] W fun er w' => er = .returned (.int .u32 ((rotT e 25 : Nat) : Int)) ∧ ∃ q, w' = W.drewN q) := Lib.hid fun W => protr_any W (n := 25) l_e (by decide)
      obtain ⟨r25, h_r25⟩ : ∃ z, z = rotT e 25 := ⟨_, rfl⟩
      have l_r25 : r25 < 4294967296 := by rw [h_r25]; exact rotT_lt _ _
      rw [← h_r25] at H_r25
      obtain ⟨m1, h_m1⟩ : ∃ z, z = r6 ^^^ r11 := ⟨_, rfl⟩
      have l_m1 : m1 < 4294967296 := by rw [h_m1]; exact Nat.xor_lt_two_pow (n := 32) l_r6 l_r11
      have f_m1 : bits .xor .u32 (r6 : Int) (r11 : Int) = (m1 : Int) := by rw [u32_xor_nat _ _ l_r6 l_r11, h_m1]
      obtain ⟨m2, h_m2⟩ : ∃ z, z = m1 ^^^ r25 := ⟨_, rfl⟩
      have l_m2 : m2 < 4294967296 := by rw [h_m2]; exact Nat.xor_lt_two_pow (n := 32) l_m1 l_r25
      have f_m2 : bits .xor .u32 (m1 : Int) (r25 : Int) = (m2 : Int) := by rw [u32_xor_nat _ _ l_m1 l_r25, h_m2]
      obtain ⟨c1, h_c1⟩ : ∃ z, z = e &&& f := ⟨_, rfl⟩
      have l_c1 : c1 < 4294967296 := by rw [h_c1]; exact Nat.lt_of_le_of_lt Nat.and_le_left l_e
      have f_c1 : bits .and .u32 (e : Int) (f : Int) = (c1 : Int) := by rw [u32_and_nat _ _ l_e l_f, h_c1]
      obtain ⟨ne, h_ne⟩ : ∃ z, z = 4294967295 - e := ⟨_, rfl⟩
      have l_ne : ne < 4294967296 := by omega
      have f_ne : bits .xor .u32 IntKind.u32.max (e : Int) = (ne : Int) := by rw [h_ne]; exact notW l_e
      obtain ⟨c2, h_c2⟩ : ∃ z, z = ne &&& g := ⟨_, rfl⟩
      have l_c2 : c2 < 4294967296 := by rw [h_c2]; exact Nat.lt_of_le_of_lt Nat.and_le_left l_ne
      have f_c2 : bits .and .u32 (ne : Int) (g : Int) = (c2 : Int) := by rw [u32_and_nat _ _ l_ne l_g, h_c2]
      obtain ⟨c3, h_c3⟩ : ∃ z, z = c1 ^^^ c2 := ⟨_, rfl⟩
      have l_c3 : c3 < 4294967296 := by rw [h_c3]; exact Nat.xor_lt_two_pow (n := 32) l_c1 l_c2
      have f_c3 : bits .xor .u32 (c1 : Int) (c2 : Int) = (c3 : Int) := by rw [u32_xor_nat _ _ l_c1 l_c2, h_c3]
      obtain ⟨q1s, h_q1s⟩ : ∃ z, z = h + m2 := ⟨_, rfl⟩
      obtain ⟨q1, h_q1⟩ : ∃ z, z = q1s % 4294967296 := ⟨_, rfl⟩
      have l_q1 : q1 < 4294967296 := by rw [h_q1]; exact Nat.mod_lt _ (by decide)
      have f_q1s : (h : Int) + (m2 : Int) = (q1s : Int) := by omega
      have f_q1 : IntKind.u32.wrap (q1s : Int) = (q1 : Int) := by rw [wrapW, h_q1]
      obtain ⟨q2s, h_q2s⟩ : ∃ z, z = q1 + c3 := ⟨_, rfl⟩
      obtain ⟨q2, h_q2⟩ : ∃ z, z = q2s % 4294967296 := ⟨_, rfl⟩
      have l_q2 : q2 < 4294967296 := by rw [h_q2]; exact Nat.mod_lt _ (by decide)
      have f_q2s : (q1 : Int) + (c3 : Int) = (q2s : Int) := by omega
      have f_q2 : IntKind.u32.wrap (q2s : Int) = (q2 : Int) := by rw [wrapW, h_q2]
      obtain ⟨q3s, h_q3s⟩ : ∃ z, z = q2 + K := ⟨_, rfl⟩
      obtain ⟨q3, h_q3⟩ : ∃ z, z = q3s % 4294967296 := ⟨_, rfl⟩
      have l_q3 : q3 < 4294967296 := by rw [h_q3]; exact Nat.mod_lt _ (by decide)
      have f_q3s : (q2 : Int) + (K : Int) = (q3s : Int) := by omega
      have f_q3 : IntKind.u32.wrap (q3s : Int) = (q3 : Int) := by rw [wrapW, h_q3]
      obtain ⟨us, h_us⟩ : ∃ z, z = q3 + X0 := ⟨_, rfl⟩
      obtain ⟨u, h_u⟩ : ∃ z, z = us % 4294967296 := ⟨_, rfl⟩
      have l_u : u < 4294967296 := by rw [h_u]; exact Nat.mod_lt _ (by decide)
      have f_us : (q3 : Int) + (X0 : Int) = (us : Int) := by omega
      have f_u : IntKind.u32.wrap (us : Int) = (u : Int) := by rw [wrapW, h_u]
      have H_r2 : Hid (∀ W, Calls Tryd.prog 22 #[.int .u32 (a : Int), .int .i64 2] W fun er w' => er = .returned (.int .u32 ((rotT a 2 : Nat) : Int)) ∧ ∃ q, w' = W.drewN q) := Lib.hid fun W => protr_any W (n := 2) l_a (by decide)
      obtain ⟨r2, h_r2⟩ : ∃ z, z = rotT a 2 := ⟨_, rfl⟩
      have l_r2 : r2 < 4294967296 := by rw [h_r2]; exact rotT_lt _ _
      rw [← h_r2] at H_r2
      have H_r13 : Hid (∀ W, Calls Tryd.prog 22 #[.int .u32 (a : Int), .int .i64 13] W fun er w' => er = .returned (.int .u32 ((rotT a 13 : Nat) : Int)) ∧ ∃ q, w' = W.drewN q) := Lib.hid fun W => protr_any W (n := 13) l_a (by decide)
      obtain ⟨r13, h_r13⟩ : ∃ z, z = rotT a 13 := ⟨_, rfl⟩
      have l_r13 : r13 < 4294967296 := by rw [h_r13]; exact rotT_lt _ _
      rw [← h_r13] at H_r13
      have H_r22 : Hid (∀ W, Calls Tryd.prog 22 #[.int .u32 (a : Int), .int .i64 22] W fun er w' => er = .returned (.int .u32 ((rotT a 22 : Nat) : Int)) ∧ ∃ q, w' = W.drewN q) := Lib.hid fun W => protr_any W (n := 22) l_a (by decide)
      obtain ⟨r22, h_r22⟩ : ∃ z, z = rotT a 22 := ⟨_, rfl⟩
      have l_r22 : r22 < 4294967296 := by rw [h_r22]; exact rotT_lt _ _
      rw [← h_r22] at H_r22
      obtain ⟨n1, h_n1⟩ : ∃ z, z = r2 ^^^ r13 := ⟨_, rfl⟩
      have l_n1 : n1 < 4294967296 := by rw [h_n1]; exact Nat.xor_lt_two_pow (n := 32) l_r2 l_r13
      have f_n1 : bits .xor .u32 (r2 : Int) (r13 : Int) = (n1 : Int) := by rw [u32_xor_nat _ _ l_r2 l_r13, h_n1]
      obtain ⟨n2, h_n2⟩ : ∃ z, z = n1 ^^^ r22 := ⟨_, rfl⟩
      have l_n2 : n2 < 4294967296 := by rw [h_n2]; exact Nat.xor_lt_two_pow (n := 32) l_n1 l_r22
      have f_n2 : bits .xor .u32 (n1 : Int) (r22 : Int) = (n2 : Int) := by rw [u32_xor_nat _ _ l_n1 l_r22, h_n2]
      obtain ⟨d1, h_d1⟩ : ∃ z, z = a &&& b := ⟨_, rfl⟩
      have l_d1 : d1 < 4294967296 := by rw [h_d1]; exact Nat.lt_of_le_of_lt Nat.and_le_left l_a
      have f_d1 : bits .and .u32 (a : Int) (b : Int) = (d1 : Int) := by rw [u32_and_nat _ _ l_a l_b, h_d1]
      obtain ⟨d2, h_d2⟩ : ∃ z, z = a &&& c := ⟨_, rfl⟩
      have l_d2 : d2 < 4294967296 := by rw [h_d2]; exact Nat.lt_of_le_of_lt Nat.and_le_left l_a
      have f_d2 : bits .and .u32 (a : Int) (c : Int) = (d2 : Int) := by rw [u32_and_nat _ _ l_a l_c, h_d2]
      obtain ⟨d3, h_d3⟩ : ∃ z, z = d1 ^^^ d2 := ⟨_, rfl⟩
      have l_d3 : d3 < 4294967296 := by rw [h_d3]; exact Nat.xor_lt_two_pow (n := 32) l_d1 l_d2
      have f_d3 : bits .xor .u32 (d1 : Int) (d2 : Int) = (d3 : Int) := by rw [u32_xor_nat _ _ l_d1 l_d2, h_d3]
      obtain ⟨d4, h_d4⟩ : ∃ z, z = b &&& c := ⟨_, rfl⟩
      have l_d4 : d4 < 4294967296 := by rw [h_d4]; exact Nat.lt_of_le_of_lt Nat.and_le_left l_b
      have f_d4 : bits .and .u32 (b : Int) (c : Int) = (d4 : Int) := by rw [u32_and_nat _ _ l_b l_c, h_d4]
      obtain ⟨d5, h_d5⟩ : ∃ z, z = d3 ^^^ d4 := ⟨_, rfl⟩
      have l_d5 : d5 < 4294967296 := by rw [h_d5]; exact Nat.xor_lt_two_pow (n := 32) l_d3 l_d4
      have f_d5 : bits .xor .u32 (d3 : Int) (d4 : Int) = (d5 : Int) := by rw [u32_xor_nat _ _ l_d3 l_d4, h_d5]
      obtain ⟨ys, h_ys⟩ : ∃ z, z = n2 + d5 := ⟨_, rfl⟩
      obtain ⟨y, h_y⟩ : ∃ z, z = ys % 4294967296 := ⟨_, rfl⟩
      have l_y : y < 4294967296 := by rw [h_y]; exact Nat.mod_lt _ (by decide)
      have f_ys : (n2 : Int) + (d5 : Int) = (ys : Int) := by omega
      have f_y : IntKind.u32.wrap (ys : Int) = (y : Int) := by rw [wrapW, h_y]
      obtain ⟨nas, h_nas⟩ : ∃ z, z = u + y := ⟨_, rfl⟩
      obtain ⟨na, h_na⟩ : ∃ z, z = nas % 4294967296 := ⟨_, rfl⟩
      have l_na : na < 4294967296 := by rw [h_na]; exact Nat.mod_lt _ (by decide)
      have f_nas : (u : Int) + (y : Int) = (nas : Int) := by omega
      have f_na : IntKind.u32.wrap (nas : Int) = (na : Int) := by rw [wrapW, h_na]
      obtain ⟨nds, h_nds⟩ : ∃ z, z = d + u := ⟨_, rfl⟩
      obtain ⟨nd, h_nd⟩ : ∃ z, z = nds % 4294967296 := ⟨_, rfl⟩
      have l_nd : nd < 4294967296 := by rw [h_nd]; exact Nat.mod_lt _ (by decide)
      have f_nds : (d : Int) + (u : Int) = (nds : Int) := by omega
      have f_nd : IntKind.u32.wrap (nds : Int) = (nd : Int) := by rw [wrapW, h_nd]
      have HNX : Hid (roundsS X [a0, b0, c0, d0, e0, f0, g0, h0] (k + 1) = [na, a, b, c, nd, e, f, g]) := Lib.hid (by
        have e1 : shaX [a, b, c, d, e, f, g, h] K X0 = u := by
          rw [shaX_of (m2 := m2) (c3 := c3) (by rw [h_m2, h_m1, h_r6, h_r11, h_r25]) (by rw [h_c3, h_c1, h_c2, h_ne])]
          rw [h_u, h_us, h_q3, h_q3s, h_q2, h_q2s, h_q1, h_q1s]
        have e2 : shaY [a, b, c, d, e, f, g, h] = y := by
          rw [shaY_of (n2 := n2) (d5 := d5) (by rw [h_n2, h_n1, h_r2, h_r13, h_r22]) (by rw [h_d5, h_d3, h_d1, h_d2, h_d4]), h_y, h_ys]
        rw [roundsS_succ, HR.out, ← hK, ← hX0, roundS_of, e1, e2, h_na, h_nas, h_nd, h_nds])
      have HNA : Hid ((((q2s : Int) + (K : Int) + (X0 : Int)) % 4294967296 + (y : Int)) % 4294967296 = (na : Int)) := Lib.hid (by omega)
      have HND : Hid (((d : Int) + ((q2s : Int) + (K : Int) + (X0 : Int)) % 4294967296) % 4294967296 = (nd : Int)) := Lib.hid (by omega)
      have k0 : (0 : Int) ≤ (k : Int) := by omega
      have k64 : (k : Int) < 64 := by omega
      clear HR hK hX0 h_r6 h_r11 h_r25 h_m1 h_m2 h_c1 h_ne h_c2 h_c3 h_q1s h_q1 h_q2s h_q2 h_q3s h_q3 h_us h_u h_r2 h_r13 h_r22 h_n1 h_n2 h_d1 h_d2 h_d3 h_d4 h_d5 h_ys h_y h_nas h_na h_nds h_nd
      clear l_a l_b l_c l_d l_e l_f l_g l_h l_K l_X0 l_r6 l_r11 l_r25 l_m1 l_m2 l_c1 l_ne l_c2 l_c3 l_q1 l_q2 l_q3 l_u l_r2 l_r13 l_r22 l_n1 l_n2 l_d1 l_d2 l_d3 l_d4 l_d5 l_y l_na l_nd
      go_upto_region 5 with (fail)
      go_quiet ((go_at_call 22; with_reducible first | exact Calls.quiet_of (H_r6.out _) | exact Calls.quiet_of (H_r11.out _) | exact Calls.quiet_of (H_r25.out _)))
      go_wp2_with fail
      refine (H_r2.out _).mono ?_
      rintro e1 w1 ⟨rfl, n1x, rfl⟩
      go_wp2_with fail
      refine (H_r13.out _).mono ?_
      rintro e1 w1 ⟨rfl, n2x, rfl⟩
      go_wp2_with fail
      refine (H_r22.out _).mono ?_
      rintro e1 w1 ⟨rfl, n3x, rfl⟩
      have HI3b := Lib.hid (HI3.out.drewN (nq + n1x + n2x + n3x))
      have HI4b := Lib.hid (HI4.out.drewN (nq + n1x + n2x + n3x))
      have HBb := Lib.hid (HB.out.drewN (nq + n1x + n2x + n3x))
      have HGb := Lib.hid (HG.out.but ((But.refl [] wr).drewN (nq + n1x + n2x + n3x)))
      clear cK cX HI3 HI4 HB HG H_r6 H_r11 H_r25 H_r2 H_r13 H_r22
      go_wp2
      go_roundw
      case rel => exact ⟨k + 1, na, a, b, c, nd, e, f, g, by omega, by go_num, congrArg (Value.int IntKind.u32) HNA.out, rfl, rfl, rfl, congrArg (Value.int IntKind.u32) HND.out, rfl, rfl, rfl, HNX, HI3b, HI4b, HBb, HGb⟩
      case measure => simp [intOf] <;> omega
    · have h64 : k = 64 := by omega
      rw [h64] at HR
      have z4 : (rowW [] 8).size = 8 := rowW_size (by decide)
      have k64 : ¬ (k : Int) < 64 := by omega
      have HI5 := HI4.out.row #[.int .u32 a, .int .u32 b, .int .u32 c, .int .u32 d, .int .u32 e, .int .u32 f, .int .u32 g, .int .u32 h]
      have HB5 := HB.out.setRow (b := g4) (.inr HL4.out) #[.int .u32 a, .int .u32 b, .int .u32 c, .int .u32 d, .int .u32 e, .int .u32 f, .int .u32 g, .int .u32 h]
      have hone : ∀ v ∈ (#[.int .u32 a, .int .u32 b, .int .u32 c, .int .u32 d, .int .u32 e, .int .u32 f, .int .u32 g, .int .u32 h] : Array Value).toList, v.oneCell' = true := by rw [← rowW8]; exact rowW_one
      go_wp2_with (refine wpList_store_is 30 rfl _ _ rfl rfl rfl agg8 HI4.out z4 hone ?_)
      rw [HR.out, rowW8]
      refine bodyPost_ret (v := .agg #[.int .u32 a, .int .u32 b, .int .u32 c, .int .u32 d, .int .u32 e, .int .u32 f, .int .u32 g, .int .u32 h]) ?_ rfl ⟨rfl, HB5⟩
      have hl := loadVar_is (T := 30) HI5 agg8
      simp [results, Tryd.results18, asAddr, hl]
end Go.Proofs.YtgemmidkfeebfaaDoor
