/- Several texts in one: HaF, HaJ, HaG, HaH, HaI, HaL, HaM, HaR (what BandsApart, BandsCuts, BandsJoins, BandsManifest, BandsNames, BandsReads reach of them). -/
import Derived.Test.YtmdiilnipoblbaaDoorK01
import Derived.Test.YtmdiilnipoblbaaDoorK02
import Derived.Test.YtmdiilnipoblbaaDoorK03
import Derived.ArgAppend
import Derived.Below
import Derived.BigQuiet
import Derived.BigRegion
import Derived.Deep.AppendLies
import Derived.Deep.Cut
import Derived.Deep.CutBlock
import Derived.Deep.CutRange
import Derived.Deep.DeepCutAuto
import Derived.Deep.Draws
import Derived.Deep.LoopGhost
import Derived.Deep.QuietTactic
import Derived.Deep.RegionLaw
import Derived.Deep.RegionWith
import Derived.Deep.Slices
import Derived.Handy
import Derived.Laws.BitsAllLaws
import Derived.Laws.BitsLemmas
import Derived.Laws.BytesArg
import Derived.Laws.Cells
import Derived.Laws.Externs
import Derived.Laws.IdiomStrings
import Derived.Laws.MakeOwn
import Derived.Laws.OwnMore
import Derived.Laws.Rows
import Derived.Laws.StructEq
import Derived.Laws.Tables
import Derived.Lib.AppendStr
import Derived.Lib.Hide
import Derived.Lib.UnsafeStr
import Derived.Maps.AppendAt
import Derived.OpenShut
import Derived.OrdersHeld
import Derived.OrdersIn
import Derived.Outline
import Derived.OwnWalk
import Derived.OwnWalkIn
import Derived.ProofKit
import Derived.RangeFuncCalls
import Derived.RegionTactic
import Derived.Shelf.LaysM
import Derived.Shelf.Small.Wraps
import Derived.Shelf.Strconv.Clone
import Derived.Shelf.Strings.Builder1
import Derived.Shelf.Strings.BuilderF
import Derived.Shelf.Strings.Prefix
import Derived.Shelf.Strings.Repeat
import Derived.TacticsInMore
import Derived.Test.YtmdiilnipoblbaaDoorChecked
import Derived.WalkKit
set_option maxRecDepth 100000
set_option linter.unusedVariables false
set_option maxRecDepth 100000
set_option linter.unusedVariables false
namespace Go.Proofs.YtmdiilnipoblbaaDoor
set_option maxRecDepth 100000
open Go Go.RowKit
/-- What the program's variable holds. -/
def GK (w : World) : Prop := (∀ i, i < 64 → w.cell? ⟨0, i, none⟩ = some (.int .u32 (kSha.getD i 0 : Nat))) ∧ 0 < w.heap.size
theorem GK.but {w w' : World} (h : GK w) (hB : But [] w w') : GK w' := ⟨fun i hi => hB.cell (h.1 i hi) (by simp), Nat.lt_of_lt_of_le h.2 hB.size⟩
theorem notN {e : Nat} (h : e < 4294967296) : 4294967295 ^^^ e = 4294967295 - e := by
  have h1 : (BitVec.allOnes 32 ^^^ BitVec.ofNat 32 e).toNat = 4294967295 ^^^ e := by
    rw [BitVec.toNat_xor, BitVec.toNat_allOnes, BitVec.toNat_ofNat, Nat.mod_eq_of_lt h]
  have h2 : (~~~ (BitVec.ofNat 32 e)).toNat = 4294967295 - e := by
    rw [BitVec.toNat_not, BitVec.toNat_ofNat, Nat.mod_eq_of_lt h]
  rw [← h1, BitVec.allOnes_xor, h2]
theorem notW {e : Nat} (h : e < 4294967296) : bits .xor .u32 IntKind.u32.max (e : Int) = ((4294967295 - e : Nat) : Int) := by
  have hm : IntKind.u32.max = ((4294967295 : Nat) : Int) := by decide
  rw [hm, u32_xor_nat _ _ (by omega) h, notN h]
theorem roundS_of {a b c d e f g h K X : Nat} : roundS [a, b, c, d, e, f, g, h] K X =
    [(shaX [a, b, c, d, e, f, g, h] K X + shaY [a, b, c, d, e, f, g, h]) % 4294967296, a, b, c, (d + shaX [a, b, c, d, e, f, g, h] K X) % 4294967296, e, f, g] := rfl
theorem shaX_of {a b c d e f g h K X m2 c3 : Nat} (hm : m2 = rotT e 6 ^^^ rotT e 11 ^^^ rotT e 25) (hc : c3 = (e &&& f) ^^^ ((4294967295 - e) &&& g)) : shaX [a, b, c, d, e, f, g, h] K X = ((((h + m2) % 4294967296 + c3) % 4294967296 + K) % 4294967296 + X) % 4294967296 := by
  show (h + (rotT e 6 ^^^ rotT e 11 ^^^ rotT e 25) + ((e &&& f) ^^^ ((4294967295 - e) &&& g)) + K + X) % 4294967296 = _
  rw [← hm, ← hc]
  omega
theorem shaY_of {a b c d e f g h n2 d5 : Nat} (hm : n2 = rotT a 2 ^^^ rotT a 13 ^^^ rotT a 22) (hc : d5 = (a &&& b) ^^^ (a &&& c) ^^^ (b &&& c)) : shaY [a, b, c, d, e, f, g, h] = (n2 + d5) % 4294967296 := by
  show ((rotT a 2 ^^^ rotT a 13 ^^^ rotT a 22) + ((a &&& b) ^^^ (a &&& c) ^^^ (b &&& c))) % 4294967296 = _
  rw [← hm, ← hc]
theorem list8 {v : List Nat} (h : v.length = 8) : ∃ a b c d e f g h, v = [a, b, c, d, e, f, g, h] := by
  match v, h with
  | [a, b, c, d, e, f, g, h], _ => exact ⟨a, b, c, d, e, f, g, h, rfl⟩
theorem small8 {a b c d e f g h : Nat} (hs : Small [a, b, c, d, e, f, g, h]) : a < 4294967296 ∧ b < 4294967296 ∧ c < 4294967296 ∧ d < 4294967296 ∧ e < 4294967296 ∧ f < 4294967296 ∧ g < 4294967296 ∧ h < 4294967296 := ⟨hs 0, hs 1, hs 2, hs 3, hs 4, hs 5, hs 6, hs 7⟩
theorem rowW8 (a b c d e f g h : Nat) : rowW [a, b, c, d, e, f, g, h] 8 = #[.int .u32 a, .int .u32 b, .int .u32 c, .int .u32 d, .int .u32 e, .int .u32 f, .int .u32 g, .int .u32 h] := rfl
theorem rowW08 : rowW [] 8 = #[.int .u32 0, .int .u32 0, .int .u32 0, .int .u32 0, .int .u32 0, .int .u32 0, .int .u32 0, .int .u32 0] := rfl
attribute [local irreducible] rowW rotT kSha roundsS roundS shaX shaY
set_option maxHeartbeats 4000000 in
theorem pmixed_any (w : World) {v X : List Nat} (hv : v.length = 8) (hs : Small v) (hX : X.length = 64) (hXs : Small X) (hG : GK w) :
    Calls Tryd.prog 50 #[.agg (rowW v 8), .agg (rowW X 64)] w fun e w' => e = .returned (.agg (rowW (roundsS X v 64) 8)) ∧ But [] w w' := by
  obtain ⟨a0, b0, c0, d0, e0, f0, g0, h0, rfl⟩ := list8 hv
  have HX := Lib.hid hX
  have HXS := Lib.hid hXs
  have HS0 := Lib.hid hs
  rw [rowW8]
  obtain ⟨w0, hw0⟩ : ∃ W, W = ((w.alloc (.cells #[.int .u32 a0, .int .u32 b0, .int .u32 c0, .int .u32 d0, .int .u32 e0, .int .u32 f0, .int .u32 g0, .int .u32 h0] 66)).alloc (.cells (rowW X 64) 77)).alloc (.cells #[.int .u32 0, .int .u32 0, .int .u32 0, .int .u32 0, .int .u32 0, .int .u32 0, .int .u32 0, .int .u32 0] 66) := ⟨_, rfl⟩
  obtain ⟨g2, hg2⟩ : ∃ g, g = w.heap.size := ⟨_, rfl⟩
  obtain ⟨g3, hg3⟩ : ∃ g, g = w.heap.size + 1 := ⟨_, rfl⟩
  obtain ⟨g4, hg4⟩ : ∃ g, g = w.heap.size + 1 + 1 := ⟨_, rfl⟩
  have HI2 : Hid (Is w0 g2 66 #[.int .u32 a0, .int .u32 b0, .int .u32 c0, .int .u32 d0, .int .u32 e0, .int .u32 f0, .int .u32 g0, .int .u32 h0]) := Lib.hid (by rw [hw0, hg2]; exact ((Is.fresh w _ _).alloc _).alloc _)
  have HI3 : Hid (Is w0 g3 77 (rowW X 64)) := Lib.hid (by
    have h := (Is.fresh (w.alloc (.cells #[.int .u32 a0, .int .u32 b0, .int .u32 c0, .int .u32 d0, .int .u32 e0, .int .u32 f0, .int .u32 g0, .int .u32 h0] 66)) 77 (rowW X 64)).alloc (.cells #[.int .u32 0, .int .u32 0, .int .u32 0, .int .u32 0, .int .u32 0, .int .u32 0, .int .u32 0, .int .u32 0] 66)
    rw [hw0, hg3]
    simpa using h)
  have HI4 : Hid (Is w0 g4 66 (rowW [] 8)) := Lib.hid (by
    rw [rowW08]
    have h := Is.fresh ((w.alloc (.cells #[.int .u32 a0, .int .u32 b0, .int .u32 c0, .int .u32 d0, .int .u32 e0, .int .u32 f0, .int .u32 g0, .int .u32 h0] 66)).alloc (.cells (rowW X 64) 77)) 66 #[.int .u32 0, .int .u32 0, .int .u32 0, .int .u32 0, .int .u32 0, .int .u32 0, .int .u32 0, .int .u32 0]
    rw [hw0, hg4]
    simpa using h)
  have HB0 : Hid (But [] w w0) := Lib.hid (by rw [hw0]; exact (((But.refl [] w).alloc _).alloc _).alloc _)
  have HG : Hid (GK w0) := Lib.hid (hG.but HB0.out)
  have HL4 : Hid (w.heap.size ≤ g4) := Lib.hid (by omega)
  have s0 := HI2.out.cell 0
  have s1 := HI2.out.cell 1
  have s2 := HI2.out.cell 2
  have s3 := HI2.out.cell 3
  have s4 := HI2.out.cell 4
  have s5 := HI2.out.cell 5
  have s6 := HI2.out.cell 6
  have s7 := HI2.out.cell 7
  clear hv hs hX hXs hG
  go_enter Tryd.func50, Tryd.ntmps50
  go_upto_region 1 with (fail)
  rw [← hw0, ← hg4, ← hg3, ← hg2]
  clear hw0 hg2 hg3 hg4
  go_quiet (fail)
  have HJ3 : Hid (Is (w0.drewN nq) g3 77 (rowW X 64)) := Lib.hid (HI3.out.drewN nq)
  have HJ4 : Hid (Is (w0.drewN nq) g4 66 (rowW [] 8)) := Lib.hid (HI4.out.drewN nq)
  have HB1 : Hid (But [] w (w0.drewN nq)) := Lib.hid (HB0.out.drewN nq)
  have HG1 : Hid (GK (w0.drewN nq)) := Lib.hid (HG.out.but ((But.refl [] w0).drewN nq))
  have HR0 : Hid (roundsS X [a0, b0, c0, d0, e0, f0, g0, h0] 0 = [a0, b0, c0, d0, e0, f0, g0, h0]) := Lib.hid (by unfold roundsS; rfl)
  clear s0 s1 s2 s3 s4 s5 s6 s7 HI2 HI3 HI4 HB0 HG
  obtain ⟨W1, hW1⟩ : ∃ W, W = w0.drewN nq := ⟨_, rfl⟩
  rw [← hW1] at HJ3 HJ4 HB1 HG1 ⊢
  clear hW1
  go_wp2_with fail
  go_loopw [5, 6, 7, 8, 9, 10, 11, 12, 13, 14, 15, 32] (fun va vb vc vd ve vf vg vh _ _ _ kv wr => ∃ k a b c d e f g h : Nat, k ≤ 64 ∧ kv = .int .i64 k ∧ va = .int .u32 a ∧ vb = .int .u32 b ∧ vc = .int .u32 c ∧ vd = .int .u32 d ∧ ve = .int .u32 e ∧ vf = .int .u32 f ∧ vg = .int .u32 g ∧ vh = .int .u32 h ∧ Hid (roundsS X [a0, b0, c0, d0, e0, f0, g0, h0] k = [a, b, c, d, e, f, g, h]) ∧ Hid (Is wr g3 77 (rowW X 64)) ∧ Hid (Is wr g4 66 (rowW [] 8)) ∧ Hid (But [] w wr) ∧ Hid (GK wr)) (fun _ _ _ _ _ _ _ _ _ _ _ kv _ => 64 - (intOf kv).toNat)
  case atStart => exact ⟨0, a0, b0, c0, d0, e0, f0, g0, h0, Nat.zero_le _, rfl, rfl, rfl, rfl, rfl, rfl, rfl, rfl, rfl, HR0, HJ3, HJ4, HB1, HG1⟩
  case round =>
    clear HJ3 HJ4 HB1 HG1 HR0
    obtain ⟨k, a, b, c, d, e, f, g, h, hk, rfl, rfl, rfl, rfl, rfl, rfl, rfl, rfl, rfl, HR, HI3, HI4, HB, HG⟩ := hrel
    by_cases hlt : k < 64
    · obtain ⟨l_a, l_b, l_c, l_d, l_e, l_f, l_g, l_h⟩ : a < 4294967296 ∧ b < 4294967296 ∧ c < 4294967296 ∧ d < 4294967296 ∧ e < 4294967296 ∧ f < 4294967296 ∧ g < 4294967296 ∧ h < 4294967296 := small8 (by rw [← HR.out]; exact small_rounds X HS0.out k)
      obtain ⟨K, hK⟩ : ∃ z, z = kSha.getD k 0 := ⟨_, rfl⟩
      obtain ⟨X0, hX0⟩ : ∃ z, z = X.getD k 0 := ⟨_, rfl⟩
      have l_K : K < 4294967296 := by rw [hK]; exact small_kSha k
      have l_X0 : X0 < 4294967296 := by rw [hX0]; exact HXS.out k
      have cK := HG.out.1 k hlt
      have cX := HI3.out.cell k
      rw [rowW_at (by rw [HX.out]; exact hlt), ← hX0] at cX
      rw [← hK] at cK
      have H_r6 : Hid (∀ W, Calls Tryd.prog 60 #[.int .u32 (e : Int), .int .i64 6] W fun er w' => er = .returned (.int .u32 ((rotT e 6 : Nat) : Int)) ∧ ∃ q, w' = W.drewN q) := Lib.hid fun W => protr_any W (n := 6) l_e (by decide)
      obtain ⟨r6, h_r6⟩ : ∃ z, z = rotT e 6 := ⟨_, rfl⟩
      have l_r6 : r6 < 4294967296 := by rw [h_r6]; exact rotT_lt _ _
      rw [← h_r6] at H_r6
      have H_r11 : Hid (∀ W, Calls Tryd.prog 60 #[.int .u32 (e : Int), .int .i64 11] W fun er w' => er = .returned (.int .u32 ((rotT e 11 : Nat) : Int)) ∧ ∃ q, w' = W.drewN q) := Lib.hid fun W => protr_any W (n := 11) l_e (by decide)
      obtain ⟨r11, h_r11⟩ : ∃ z, z = rotT e 11 := ⟨_, rfl⟩
      have l_r11 : r11 < 4294967296 := by rw [h_r11]; exact rotT_lt _ _
      rw [← h_r11] at H_r11
      have H_r25 : Hid (∀ W, Calls Tryd.prog 60 #[.int .u32 (e : Int), .int .i64 25] W fun er w' => er = .returned (.int .u32 ((rotT e 25 : Nat) : Int)) ∧ ∃ q, w' = W.drewN q) := Lib.hid fun W => protr_any W (n := 25) l_e (by decide)
      obtain ⟨r25, h_r25⟩ : ∃ z, z = rotT e 25 := ⟨_, rfl⟩
      have l_r25 : r25 < 4294967296 := by rw [h_r25]; exact rotT_lt _ _
      rw [← h_r25] at H_r25
      obtain ⟨m1, h_m1⟩ : ∃ z, z = r6 ^^^ r11 := ⟨_, rfl⟩
      have l_m1 : m1 < 4294967296 := by rw [h_m1]; exact Nat.xor_lt_two_pow (n := 32) l_r6 l_r11
      have f_m1 : bits .xor .u32 (r6 : Int) (r11 : Int) = (m1 : Int) := by rw [u32_xor_nat _ _ l_r6 l_r11, h_m1]
      obtain ⟨m2, h_m2⟩ : ∃ z, z = m1 ^^^ r25 := ⟨_, rfl⟩
      have l_m2 : m2 < 4294967296 := by rw [h_m2]; exact Nat.xor_lt_two_pow (n := 32) l_m1 l_r25
      have f_m2 : bits .xor .u32 (m1 : Int) (r25 : Int) = (m2 : Int) := by rw [u32_xor_nat _ _ l_m1 l_r25, h_m2]
      obtain ⟨c1, h_c1⟩ : ∃ z, z = e &&& f := ⟨_, rfl⟩
      have l_c1 : c1 < 4294967296 := by rw [h_c1]; exact Nat.lt_of_le_of_lt Nat.and_le_left l_e
      have f_c1 : bits .and .u32 (e : Int) (f : Int) = (c1 : Int) := by rw [u32_and_nat _ _ l_e l_f, h_c1]
      obtain ⟨ne, h_ne⟩ : ∃ z, z = 4294967295 - e := ⟨_, rfl⟩
      have l_ne : ne < 4294967296 := by omega
      have f_ne : bits .xor .u32 IntKind.u32.max (e : Int) = (ne : Int) := by rw [h_ne]; exact notW l_e
      obtain ⟨c2, h_c2⟩ : ∃ z, z = ne &&& g := ⟨_, rfl⟩
      have l_c2 : c2 < 4294967296 := by rw [h_c2]; exact Nat.lt_of_le_of_lt Nat.and_le_left l_ne
      have f_c2 : bits .and .u32 (ne : Int) (g : Int) = (c2 : Int) := by rw [u32_and_nat _ _ l_ne l_g, h_c2]
      obtain ⟨c3, h_c3⟩ : ∃ z, z = c1 ^^^ c2 := ⟨_, rfl⟩
      have l_c3 : c3 < 4294967296 := by rw [h_c3]; exact Nat.xor_lt_two_pow (n := 32) l_c1 l_c2
      have f_c3 : bits .xor .u32 (c1 : Int) (c2 : Int) = (c3 : Int) := by rw [u32_xor_nat _ _ l_c1 l_c2, h_c3]
      obtain ⟨q1s, h_q1s⟩ : ∃ z, z = h + m2 := ⟨_, rfl⟩
      obtain ⟨q1, h_q1⟩ : ∃ z, z = q1s % 4294967296 := ⟨_, rfl⟩
      have l_q1 : q1 < 4294967296 := by rw [h_q1]; exact Nat.mod_lt _ (by decide)
      have f_q1s : (h : Int) + (m2 : Int) = (q1s : Int) := by omega
      have f_q1 : IntKind.u32.wrap (q1s : Int) = (q1 : Int) := by rw [wrapW, h_q1]
      obtain ⟨q2s, h_q2s⟩ : ∃ z, z = q1 + c3 := ⟨_, rfl⟩
      obtain ⟨q2, h_q2⟩ : ∃ z, z = q2s % 4294967296 := ⟨_, rfl⟩
      have l_q2 : q2 < 4294967296 := by rw [h_q2]; exact Nat.mod_lt _ (by decide)
      have f_q2s : (q1 : Int) + (c3 : Int) = (q2s : Int) := by omega
      have f_q2 : IntKind.u32.wrap (q2s : Int) = (q2 : Int) := by rw [wrapW, h_q2]
      obtain ⟨q3s, h_q3s⟩ : ∃ z, z = q2 + K := ⟨_, rfl⟩
      obtain ⟨q3, h_q3⟩ : ∃ z, z = q3s % 4294967296 := ⟨_, rfl⟩
      have l_q3 : q3 < 4294967296 := by rw [h_q3]; exact Nat.mod_lt _ (by decide)
      have f_q3s : (q2 : Int) + (K : Int) = (q3s : Int) := by omega
      have f_q3 : IntKind.u32.wrap (q3s : Int) = (q3 : Int) := by rw [wrapW, h_q3]
      obtain ⟨us, h_us⟩ : ∃ z, z = q3 + X0 := ⟨_, rfl⟩
      obtain ⟨u, h_u⟩ : ∃ z, z = us % 4294967296 := ⟨_, rfl⟩
      have l_u : u < 4294967296 := by rw [h_u]; exact Nat.mod_lt _ (by decide)
      have f_us : (q3 : Int) + (X0 : Int) = (us : Int) := by omega
      have f_u : IntKind.u32.wrap (us : Int) = (u : Int) := by rw [wrapW, h_u]
      have H_r2 : Hid (∀ W, Calls Tryd.prog 60 #[.int .u32 (a : Int), .int .i64 2] W fun er w' => er = .returned (.int .u32 ((rotT a 2 : Nat) : Int)) ∧ ∃ q, w' = W.drewN q) := Lib.hid fun W => protr_any W (n := 2) l_a (by decide)
      obtain ⟨r2, h_r2⟩ : ∃ z, z = rotT a 2 := ⟨_, rfl⟩
      have l_r2 : r2 < 4294967296 := by rw [h_r2]; exact rotT_lt _ _
      rw [← h_r2] at H_r2
      have H_r13 : Hid (∀ W, Calls Tryd.prog 60 #[.int .u32 (a : Int), .int .i64 13] W fun er w' => er = .returned (.int .u32 ((rotT a 13 : Nat) : Int)) ∧ ∃ q, w' = W.drewN q) := Lib.hid fun W => protr_any W (n := 13) l_a (by decide)
      obtain ⟨r13, h_r13⟩ : ∃ z, z = rotT a 13 := ⟨_, rfl⟩
      have l_r13 : r13 < 4294967296 := by rw [h_r13]; exact rotT_lt _ _
      rw [← h_r13] at H_r13
      have H_r22 : Hid (∀ W, Calls Tryd.prog 60 #[.int .u32 (a : Int), .int .i64 22] W fun er w' => er = .returned (.int .u32 ((rotT a 22 : Nat) : Int)) ∧ ∃ q, w' = W.drewN q) := Lib.hid fun W => protr_any W (n := 22) l_a (by decide)
      obtain ⟨r22, h_r22⟩ : ∃ z, z = rotT a 22 := ⟨_, rfl⟩
      have l_r22 : r22 < 4294967296 := by rw [h_r22]; exact rotT_lt _ _
      rw [← h_r22] at H_r22
      obtain ⟨n1, h_n1⟩ : ∃ z, z = r2 ^^^ r13 := ⟨_, rfl⟩
      have l_n1 : n1 < 4294967296 := by rw [h_n1]; exact Nat.xor_lt_two_pow (n := 32) l_r2 l_r13
      have f_n1 : bits .xor .u32 (r2 : Int) (r13 : Int) = (n1 : Int) := by rw [u32_xor_nat _ _ l_r2 l_r13, h_n1]
      obtain ⟨n2, h_n2⟩ : ∃ z, z = n1 ^^^ r22 := ⟨_, rfl⟩
      have l_n2 : n2 < 4294967296 := by rw [h_n2]; exact Nat.xor_lt_two_pow (n := 32) l_n1 l_r22
      have f_n2 : bits .xor .u32 (n1 : Int) (r22 : Int) = (n2 : Int) := by rw [u32_xor_nat _ _ l_n1 l_r22, h_n2]
      obtain ⟨d1, h_d1⟩ : ∃ z, z = a &&& b := ⟨_, rfl⟩
      have l_d1 : d1 < 4294967296 := by rw [h_d1]; exact Nat.lt_of_le_of_lt Nat.and_le_left l_a
      have f_d1 : bits .and .u32 (a : Int) (b : Int) = (d1 : Int) := by rw [u32_and_nat _ _ l_a l_b, h_d1]
      obtain ⟨d2, h_d2⟩ : ∃ z, z = a &&& c := ⟨_, rfl⟩
      have l_d2 : d2 < 4294967296 := by rw [h_d2]; exact Nat.lt_of_le_of_lt Nat.and_le_left l_a
      have f_d2 : bits .and .u32 (a : Int) (c : Int) = (d2 : Int) := by rw [u32_and_nat _ _ l_a l_c, h_d2]
      obtain ⟨d3, h_d3⟩ : ∃ z, z = d1 ^^^ d2 := ⟨_, rfl⟩
      have l_d3 : d3 < 4294967296 := by rw [h_d3]; exact Nat.xor_lt_two_pow (n := 32) l_d1 l_d2
      have f_d3 : bits .xor .u32 (d1 : Int) (d2 : Int) = (d3 : Int) := by rw [u32_xor_nat _ _ l_d1 l_d2, h_d3]
      obtain ⟨d4, h_d4⟩ : ∃ z, z = b &&& c := ⟨_, rfl⟩
      have l_d4 : d4 < 4294967296 := by rw [h_d4]; exact Nat.lt_of_le_of_lt Nat.and_le_left l_b
      have f_d4 : bits .and .u32 (b : Int) (c : Int) = (d4 : Int) := by rw [u32_and_nat _ _ l_b l_c, h_d4]
      obtain ⟨d5, h_d5⟩ : ∃ z, z = d3 ^^^ d4 := ⟨_, rfl⟩
      have l_d5 : d5 < 4294967296 := by rw [h_d5]; exact Nat.xor_lt_two_pow (n := 32) l_d3 l_d4
      have f_d5 : bits .xor .u32 (d3 : Int) (d4 : Int) = (d5 : Int) := by rw [u32_xor_nat _ _ l_d3 l_d4, h_d5]
      obtain ⟨ys, h_ys⟩ : ∃ z, z = n2 + d5 := ⟨_, rfl⟩
      obtain ⟨y, h_y⟩ : ∃ z, z = ys % 4294967296 := ⟨_, rfl⟩
      have l_y : y < 4294967296 := by rw [h_y]; exact Nat.mod_lt _ (by decide)
      have f_ys : (n2 : Int) + (d5 : Int) = (ys : Int) := by omega
      have f_y : IntKind.u32.wrap (ys : Int) = (y : Int) := by rw [wrapW, h_y]
      obtain ⟨nas, h_nas⟩ : ∃ z, z = u + y := ⟨_, rfl⟩
      obtain ⟨na, h_na⟩ : ∃ z, z = nas % 4294967296 := ⟨_, rfl⟩
      have l_na : na < 4294967296 := by rw [h_na]; exact Nat.mod_lt _ (by decide)
      have f_nas : (u : Int) + (y : Int) = (nas : Int) := by omega
      have f_na : IntKind.u32.wrap (nas : Int) = (na : Int) := by rw [wrapW, h_na]
      obtain ⟨nds, h_nds⟩ : ∃ z, z = d + u := ⟨_, rfl⟩
      obtain ⟨nd, h_nd⟩ : ∃ z, z = nds % 4294967296 := ⟨_, rfl⟩
      have l_nd : nd < 4294967296 := by rw [h_nd]; exact Nat.mod_lt _ (by decide)
      have f_nds : (d : Int) + (u : Int) = (nds : Int) := by omega
      have f_nd : IntKind.u32.wrap (nds : Int) = (nd : Int) := by rw [wrapW, h_nd]
      have HNX : Hid (roundsS X [a0, b0, c0, d0, e0, f0, g0, h0] (k + 1) = [na, a, b, c, nd, e, f, g]) := Lib.hid (by
        have e1 : shaX [a, b, c, d, e, f, g, h] K X0 = u := by
          rw [shaX_of (m2 := m2) (c3 := c3) (by rw [h_m2, h_m1, h_r6, h_r11, h_r25]) (by rw [h_c3, h_c1, h_c2, h_ne])]
          rw [h_u, h_us, h_q3, h_q3s, h_q2, h_q2s, h_q1, h_q1s]
        have e2 : shaY [a, b, c, d, e, f, g, h] = y := by
          rw [shaY_of (n2 := n2) (d5 := d5) (by rw [h_n2, h_n1, h_r2, h_r13, h_r22]) (by rw [h_d5, h_d3, h_d1, h_d2, h_d4]), h_y, h_ys]
        rw [roundsS_succ, HR.out, ← hK, ← hX0, roundS_of, e1, e2, h_na, h_nas, h_nd, h_nds])
      have HNA : Hid ((((q2s : Int) + (K : Int) + (X0 : Int)) % 4294967296 + (y : Int)) % 4294967296 = (na : Int)) := Lib.hid (by omega)
      have HND : Hid (((d : Int) + ((q2s : Int) + (K : Int) + (X0 : Int)) % 4294967296) % 4294967296 = (nd : Int)) := Lib.hid (by omega)
      have k0 : (0 : Int) ≤ (k : Int) := by omega
      have k64 : (k : Int) < 64 := by omega
      clear HR hK hX0 h_r6 h_r11 h_r25 h_m1 h_m2 h_c1 h_ne h_c2 h_c3 h_q1s h_q1 h_q2s h_q2 h_q3s h_q3 h_us h_u h_r2 h_r13 h_r22 h_n1 h_n2 h_d1 h_d2 h_d3 h_d4 h_d5 h_ys h_y h_nas h_na h_nds h_nd
      clear l_a l_b l_c l_d l_e l_f l_g l_h l_K l_X0 l_r6 l_r11 l_r25 l_m1 l_m2 l_c1 l_ne l_c2 l_c3 l_q1 l_q2 l_q3 l_u l_r2 l_r13 l_r22 l_n1 l_n2 l_d1 l_d2 l_d3 l_d4 l_d5 l_y l_na l_nd
      go_upto_region 5 with (fail)
      go_quiet ((go_at_call 60; with_reducible first | exact Calls.quiet_of (H_r6.out _) | exact Calls.quiet_of (H_r11.out _) | exact Calls.quiet_of (H_r25.out _)))
      go_wp2_with fail
      refine (H_r2.out _).mono ?_
      rintro e1 w1 ⟨rfl, n1x, rfl⟩
      go_wp2_with fail
      refine (H_r13.out _).mono ?_
      rintro e1 w1 ⟨rfl, n2x, rfl⟩
      go_wp2_with fail
      refine (H_r22.out _).mono ?_
      rintro e1 w1 ⟨rfl, n3x, rfl⟩
      have HI3b := Lib.hid (HI3.out.drewN (nq + n1x + n2x + n3x))
      have HI4b := Lib.hid (HI4.out.drewN (nq + n1x + n2x + n3x))
      have HBb := Lib.hid (HB.out.drewN (nq + n1x + n2x + n3x))
      have HGb := Lib.hid (HG.out.but ((But.refl [] wr).drewN (nq + n1x + n2x + n3x)))
      clear cK cX HI3 HI4 HB HG H_r6 H_r11 H_r25 H_r2 H_r13 H_r22
      go_wp2
      go_roundw
      case rel => exact ⟨k + 1, na, a, b, c, nd, e, f, g, by omega, by go_num, congrArg (Value.int IntKind.u32) HNA.out, rfl, rfl, rfl, congrArg (Value.int IntKind.u32) HND.out, rfl, rfl, rfl, HNX, HI3b, HI4b, HBb, HGb⟩
      case measure => simp [intOf] <;> omega
    · have h64 : k = 64 := by omega
      rw [h64] at HR
      have z4 : (rowW [] 8).size = 8 := rowW_size (by decide)
      have k64 : ¬ (k : Int) < 64 := by omega
      have HI5 := HI4.out.row #[.int .u32 a, .int .u32 b, .int .u32 c, .int .u32 d, .int .u32 e, .int .u32 f, .int .u32 g, .int .u32 h]
      have HB5 := HB.out.setRow (b := g4) (.inr HL4.out) #[.int .u32 a, .int .u32 b, .int .u32 c, .int .u32 d, .int .u32 e, .int .u32 f, .int .u32 g, .int .u32 h]
      have hone : ∀ v ∈ (#[.int .u32 a, .int .u32 b, .int .u32 c, .int .u32 d, .int .u32 e, .int .u32 f, .int .u32 g, .int .u32 h] : Array Value).toList, v.oneCell' = true := by rw [← rowW8]; exact rowW_one
      go_wp2_with (refine wpList_store_is 66 rfl _ _ rfl rfl rfl agg8 HI4.out z4 hone ?_)
      rw [HR.out, rowW8]
      refine bodyPost_ret (v := .agg #[.int .u32 a, .int .u32 b, .int .u32 c, .int .u32 d, .int .u32 e, .int .u32 f, .int .u32 g, .int .u32 h]) ?_ rfl ⟨rfl, HB5⟩
      have hl := loadVar_is (T := 66) HI5 agg8
      simp [results, Tryd.results50, asAddr, hl]
end Go.Proofs.YtmdiilnipoblbaaDoor
set_option maxRecDepth 100000
set_option linter.unusedVariables false
namespace Go.Proofs.YtmdiilnipoblbaaDoor
set_option maxRecDepth 100000
open Go Go.RowKit
/-- Bytes in a block from base on, with spare cells that may be written. -/
def OwnG (w : World) (base : Nat) (v : Value) (L : List UInt8) : Prop :=
  ∃ g cap cur fr, v = .slice (some ⟨g, 0, none⟩) L.length cap ∧ base ≤ g ∧ w.heap[g]? = some (.cells cur 5 fr) ∧ L.length ≤ cap ∧ cur.size = cap ∧ (∀ i, i < cap → (decide (fr.1 ≤ i) && decide (i < fr.2)) = false) ∧ ∀ j, j < L.length → cur[j]? = some (.int .u8 ((L.getD j 0).toNat : Nat))
theorem OwnG.but {w w' : World} {base : Nat} {v : Value} {L : List UInt8} (h : OwnG w base v L) (hw : But [] w w') : OwnG w' base v L := by
  obtain ⟨g, cap, cur, fr, e, hb, hg, r⟩ := h
  exact ⟨g, cap, cur, fr, e, hb, (hw.block g (Array.getElem?_eq_some_iff.1 hg).1 (by simp)).trans hg, r⟩
theorem OwnG.shape {w : World} {base : Nat} {v : Value} {L : List UInt8} (h : OwnG w base v L) : ∃ g c, v = .slice (some ⟨g, 0, none⟩) L.length c ∧ base ≤ g ∧ g < w.heap.size ∧ L.length ≤ c := by
  obtain ⟨g, cap, cur, fr, e, hb, hg, hc, _⟩ := h
  exact ⟨g, cap, e, hb, (Array.getElem?_eq_some_iff.1 hg).1, hc⟩
theorem OwnG.row {w : World} {base : Nat} {v : Value} {L : List UInt8} (h : OwnG w base v L) : ∃ g c, v = .slice (some ⟨g, 0, none⟩) L.length c ∧ base ≤ g ∧ g < w.heap.size ∧ L.length ≤ c ∧ ByteRow w (some ⟨g, 0, none⟩) L.length L := by
  obtain ⟨g, cap, cur, fr, e, hb, hg, hc, _, _, hr⟩ := h
  refine ⟨g, cap, e, hb, (Array.getElem?_eq_some_iff.1 hg).1, hc, rfl, fun _ => ⟨g, 0, rfl, fun i hi => ?_⟩⟩
  have h0 := hr i hi
  rw [getD_lt hi] at h0
  simp [World.cell?, hg, h0]
end Go.Proofs.YtmdiilnipoblbaaDoor
set_option maxRecDepth 100000
set_option linter.unusedVariables false
namespace Go.Proofs.YtmdiilnipoblbaaDoor
set_option maxRecDepth 100000
open Go Go.RowKit
/-- What stands behind so many bytes. -/
def padS (n : Nat) : List UInt8 := 128 :: (List.replicate (padN n) 0 ++ eightL (8 * n))
theorem fillT_pad (l : List UInt8) : fillT l = l ++ padS l.length := rfl
theorem padS_length (n : Nat) : (padS n).length = padN n + 9 := by
  unfold padS eightL
  simp only [List.length_append, List.length_cons, List.length_replicate, fourL_length]
theorem padN_lt (n : Nat) : padN n ≤ 63 := by unfold padN; omega
set_option maxHeartbeats 1000000 in
theorem ppadding_any (w : World) {n : Nat} (hn : n ≤ 100000000) :
    Calls Tryd.prog 40 #[.int .i64 n] w fun e w' => e = .returned (.string (strL (padS n))) ∧ But [] w w' := by
  obtain ⟨p, hp⟩ : ∃ p, p = padN n := ⟨_, rfl⟩
  have hp63 : p ≤ 63 := by rw [hp]; exact padN_lt n
  have HRp := Lib.hid fun W => repeat_any W hp63
  rw [← zero_str] at HRp
  obtain ⟨z, hz⟩ : ∃ z, z = 8 * n := ⟨_, rfl⟩
  have HN0 := Lib.hid fun W => pnumW_any W (n := 0) (by decide)
  have HNz := Lib.hid fun W => pnumW_any W (n := z) (by omega)
  obtain ⟨u, hu⟩ : ∃ u, u = (n + 9) % 64 := ⟨_, rfl⟩
  have a1 : (n : Int) + 1 = ((n + 1 : Nat) : Int) := by omega
  obtain ⟨n1, hn1⟩ : ∃ z, z = n + 1 := ⟨_, rfl⟩
  obtain ⟨n9, hn9⟩ : ∃ z, z = n1 + 8 := ⟨_, rfl⟩
  obtain ⟨t, ht⟩ : ∃ t, t = 64 - u := ⟨_, rfl⟩
  have e1 : (n : Int) + 1 = (n1 : Int) := by omega
  have e2 : (n1 : Int) + 8 = (n9 : Int) := by omega
  have e3 : (n9 : Int) % 64 = (u : Int) := by omega
  have e4 : (n9 : Int).tmod 64 = (u : Int) := by rw [Int.tmod_eq_emod_of_nonneg (by omega)]; omega
  have e5 : (64 : Int) - (u : Int) = (t : Int) := by omega
  have ep : t % 64 = p := by rw [hp]; unfold padN; omega
  have e6 : (t : Int) % 64 = (p : Int) := by omega
  have e7 : (t : Int).tmod 64 = (p : Int) := by rw [Int.tmod_eq_emod_of_nonneg (by omega)]; omega
  have w1 := wrapI_in (show n1 < 1000000000000000 by omega)
  have w2 := wrapI_in (show n9 < 1000000000000000 by omega)
  have w3 := wrapI_in (show u < 1000000000000000 by omega)
  have w4 := wrapI_in (show t < 1000000000000000 by omega)
  have w5 := wrapI_in (show p < 1000000000000000 by omega)
  have g1 : (8 : Int) * (n : Int) = (z : Int) := by omega
  have g2 : IntKind.u64.wrap (n : Int) = (n : Int) := by simp [IntKind.wrap_u64]; omega
  have g3 : IntKind.u64.wrap (z : Int) = (z : Int) := by simp [IntKind.wrap_u64]; omega
  have g4 : (z : Int) / 4294967296 = 0 := by omega
  have g5 : IntKind.u32.wrap (z : Int) = (z : Int) := wrapW_in (by omega)
  obtain ⟨Z, hZ⟩ : ∃ Z, Z = strL (List.replicate p (0 : UInt8)) := ⟨_, rfl⟩
  obtain ⟨A, hA⟩ : ∃ A, A = strL (fourL 0) := ⟨_, rfl⟩
  obtain ⟨B, hB⟩ : ∃ A, A = strL (fourL z) := ⟨_, rfl⟩
  have hzs : Z.size ≤ 63 := by rw [hZ, strL_size, List.length_replicate]; exact hp63
  have has : A.size ≤ 4 := by rw [hA, strL_size]; exact Nat.le_refl _
  have hbs : B.size ≤ 4 := by rw [hB, strL_size]; exact Nat.le_refl _
  have HR : Hid (((⟨#[128]⟩ : ByteArray) ++ Z) ++ A ++ B = strL (padS n)) := Lib.hid (by
    rw [hZ, hA, hB, show (⟨#[128]⟩ : ByteArray) = strL [128] from rfl, ← strL_append, ← strL_append, ← strL_append]
    congr 1
    unfold padS eightL
    rw [← hp, ← hz, show z / 4294967296 = 0 by omega]
    simp only [List.append_assoc, List.cons_append, List.nil_append])
  rw [← hZ] at HRp
  rw [← hA] at HN0
  rw [← hB] at HNz
  have kd : (9223372036854775807 < 1 + Z.size) = False := by simp; omega
  have ke : (9223372036854775807 < 1 + Z.size + A.size) = False := by simp; omega
  have kf : (9223372036854775807 < 1 + Z.size + A.size + B.size) = False := by simp; omega
  clear a1 hp hp63 hz hu hn1 hn9 ht ep hZ hA hB hzs has hbs
  go_enter Tryd.func40, Tryd.ntmps40
  go_wp2_with fail
  refine (HRp.out _).mono ?_
  rintro e W1 ⟨rfl, hB1⟩
  have HB1 := Lib.hid hB1
  clear hB1
  go_wp2_with fail
  refine (HN0.out _).mono ?_
  rintro e W2 ⟨rfl, hB2⟩
  have HB2 := Lib.hid (HB1.out.trans hB2)
  clear hB2 HB1
  go_wp2_with fail
  refine (HNz.out _).mono ?_
  rintro e W3 ⟨rfl, hB3⟩
  have HB3 := Lib.hid (HB2.out.trans hB3)
  clear hB3 HB2
  go_wp2
  go_ret
  exact ⟨congrArg (fun z => Ending.returned (.string z)) HR.out, HB3.out⟩
/-- The first so many words as bytes. -/
def outK (h : List Nat) (k : Nat) : List UInt8 := (List.range k).flatMap fun i => fourL (h.getD i 0)
theorem outK_next (h : List Nat) (k : Nat) : outK h (k + 1) = outK h k ++ fourL (h.getD k 0) := by
  unfold outK
  rw [List.range_succ, List.flatMap_append, List.flatMap_singleton]
theorem outK_length (h : List Nat) : ∀ k, (outK h k).length = 4 * k
  | 0 => rfl
  | k + 1 => by rw [outK_next, List.length_append, outK_length h k, fourL_length]; omega
theorem idx8 (a b c d e f g h : Nat) : ∀ (k : Nat), k < 8 → ∀ W : World, (Instr.index 66 (.agg #[.int .u32 (a : Int), .int .u32 (b : Int), .int .u32 (c : Int), .int .u32 (d : Int), .int .u32 (e : Int), .int .u32 (f : Int), .int .u32 (g : Int), .int .u32 (h : Int)]) (.int .i64 k)).run Tryd.prog W = .ok (.int .u32 ([a, b, c, d, e, f, g, h].getD k 0 : Nat)) W
  | 0, _, W => by kernel_rfl
  | 1, _, W => by kernel_rfl
  | 2, _, W => by kernel_rfl
  | 3, _, W => by kernel_rfl
  | 4, _, W => by kernel_rfl
  | 5, _, W => by kernel_rfl
  | 6, _, W => by kernel_rfl
  | 7, _, W => by kernel_rfl
  | n + 8, h, _ => by omega
set_option maxHeartbeats 1000000 in
theorem ptext_any (w : World) {v : List Nat} (hv : v.length = 8) (hs : Small v) :
    Calls Tryd.prog 41 #[.agg (rowW v 8)] w fun e w' => e = .returned (.string (strL (outS v))) ∧ But [] w w' := by
  obtain ⟨a0, b0, c0, d0, e0, f0, g0, h0, rfl⟩ := list8 hv
  obtain ⟨V, hV⟩ : ∃ V, V = [a0, b0, c0, d0, e0, f0, g0, h0] := ⟨_, rfl⟩
  have HX := Lib.hid (idx8 a0 b0 c0 d0 e0 f0 g0 h0)
  have HI0 := Lib.hid (Is.fresh w 66 #[.int .u32 a0, .int .u32 b0, .int .u32 c0, .int .u32 d0, .int .u32 e0, .int .u32 f0, .int .u32 g0, .int .u32 h0])
  have HB0 := Lib.hid ((But.refl [] w).alloc (.cells #[.int .u32 a0, .int .u32 b0, .int .u32 c0, .int .u32 d0, .int .u32 e0, .int .u32 f0, .int .u32 g0, .int .u32 h0] 66))
  have HS := Lib.hid hs
  have HO0 : Hid (strL [] = strL (outK V 0)) := Lib.hid rfl
  rw [rowW8]
  obtain ⟨G, hG⟩ : ∃ G : Array Value, G = #[.int .u32 a0, .int .u32 b0, .int .u32 c0, .int .u32 d0, .int .u32 e0, .int .u32 f0, .int .u32 g0, .int .u32 h0] := ⟨_, rfl⟩
  rw [← hV] at HX HS ⊢
  rw [← hG] at HX HI0 HB0 ⊢
  have hGs : G.size = 8 := by rw [hG]; rfl
  clear hV hG hs hv
  go_enter Tryd.func41, Tryd.ntmps41
  go_wp2_with (refine wpList_load_is 66 rfl _ rfl rfl (by rw [hGs]; exact agg8) HI0.out ?_)
  go_loopw [3, 5, 7] (fun tv _ kv wr => ∃ k : Nat, k ≤ 8 ∧ kv = .int .i64 k ∧ tv = .string (strL (outK V k)) ∧ Hid (But [] w wr)) (fun _ _ kv _ => 8 - (intOf kv).toNat)
  case atStart => exact ⟨0, Nat.zero_le _, rfl, rfl, HB0⟩
  case round =>
    clear HB0
    obtain ⟨k, hk, rfl, rfl, HB⟩ := hrel
    by_cases hlt : k < 8
    · have kx := HX.out k hlt
      obtain ⟨n, hn⟩ : ∃ n, n = V.getD k 0 := ⟨_, rfl⟩
      simp only [← hn] at kx
      have HNu := Lib.hid fun W => pnumW_any W (n := n) (by rw [hn]; exact HS.out k)
      obtain ⟨Y, hY⟩ : ∃ Y, Y = strL (fourL n) := ⟨_, rfl⟩
      obtain ⟨X, hX⟩ : ∃ X, X = strL (outK V k) := ⟨_, rfl⟩
      have hxs : X.size ≤ 32 := by rw [hX, strL_size, outK_length]; omega
      have hys : Y.size ≤ 4 := by rw [hY, strL_size]; exact Nat.le_refl _
      have HNX : Hid (X ++ Y = strL (outK V (k + 1))) := Lib.hid (by rw [hX, hY, ← strL_append, outK_next, hn])
      rw [← hY] at HNu
      rw [← hX]
      have kd : (9223372036854775807 < X.size + Y.size) = False := by simp; omega
      clear hn hY hX hxs hys
      go_wp2_with fail
      refine (HNu.out _).mono ?_
      rintro e W1 ⟨rfl, hB1⟩
      have HB1 := Lib.hid (HB.out.trans hB1)
      clear hB1 HB
      go_wp2
      go_roundw
      case rel => exact ⟨k + 1, by omega, by go_num, congrArg Value.string HNX.out, HB1⟩
      case measure => simp [intOf] <;> omega
    · have h8 : k = 8 := by omega
      rw [h8]
      go_wp2
      go_ret
      exact ⟨rfl, HB.out⟩
end Go.Proofs.YtmdiilnipoblbaaDoor
set_option maxRecDepth 100000
set_option linter.unusedVariables false
namespace Go.Proofs.YtmdiilnipoblbaaDoor
set_option maxRecDepth 100000
open Go Go.RowKit
theorem exec_load_is {o : Oper} {a : Act} {w : World} (T : TypeId) {b : Nat} {t : TypeId} {cs : Array Value} (x : Operand) (ho : o.op = .load T x) (hx : a.eval x = .pointer (some ⟨b, 0, none⟩)) (hT : AggT T cs.size) (h : Is w b t cs) : (execOp a.eval o).run Tryd.prog w = .ok (.value (.agg cs)) w := by
  unfold execOp
  simp only [ho, hx, load_is h hT, Sem.run_bind, Sem.run_pure, Result.andThen_ok]
/-- Words added, the first so many. -/
def midS (h v : List Nat) (k : Nat) : List Nat := (List.range 8).map fun i => if i < k then (h.getD i 0 + v.getD i 0) % 4294967296 else h.getD i 0
theorem midS_length (h v : List Nat) (k : Nat) : (midS h v k).length = 8 := by unfold midS; rw [List.length_map, List.length_range]
theorem midS_at {h v : List Nat} {k i : Nat} (hi : i < 8) : (midS h v k).getD i 0 = if i < k then (h.getD i 0 + v.getD i 0) % 4294967296 else h.getD i 0 := by
  unfold midS
  rw [List.getD_eq_getElem?_getD, List.getElem?_map, List.getElem?_range hi]
  rfl
theorem list_eq8 {a b : List Nat} (ha : a.length = 8) (hb : b.length = 8) (h : ∀ i, i < 8 → a.getD i 0 = b.getD i 0) : a = b := by
  apply List.ext_getElem (by rw [ha, hb])
  intro i h1 h2
  have := h i (by omega)
  rw [List.getD_eq_getElem?_getD, List.getD_eq_getElem?_getD, List.getElem?_eq_getElem h1, List.getElem?_eq_getElem h2] at this
  exact this
theorem midS_zero {h : List Nat} (hh : h.length = 8) (v : List Nat) : midS h v 0 = h := list_eq8 (midS_length _ _ _) hh fun i hi => by rw [midS_at hi, if_neg (by omega)]
theorem addS_length (h v : List Nat) : (addS h v).length = 8 := by unfold addS; rw [List.length_map, List.length_range]
theorem addS_at {h v : List Nat} {i : Nat} (hi : i < 8) : (addS h v).getD i 0 = (h.getD i 0 + v.getD i 0) % 4294967296 := by
  unfold addS
  rw [List.getD_eq_getElem?_getD, List.getElem?_map, List.getElem?_range hi]
  rfl
theorem midS_all (h v : List Nat) : midS h v 8 = addS h v := list_eq8 (midS_length _ _ _) (addS_length _ _) fun i hi => by rw [midS_at hi, if_pos hi, addS_at hi]
theorem midS_next {h v : List Nat} {k : Nat} (hk : k < 8) : (midS h v k).set k ((h.getD k 0 + v.getD k 0) % 4294967296) = midS h v (k + 1) := by
  refine list_eq8 (by rw [List.length_set, midS_length]) (midS_length _ _ _) fun i hi => ?_
  rw [midS_at hi, List.getD_eq_getElem?_getD]
  by_cases e : k = i
  · subst e
    rw [List.getElem?_set_self (by rw [midS_length]; exact hi), if_pos (by omega)]
    rfl
  · rw [List.getElem?_set_ne e, ← List.getD_eq_getElem?_getD, midS_at hi]
    by_cases h1 : i < k
    · rw [if_pos h1, if_pos (by omega)]
    · rw [if_neg h1, if_neg (by omega)]
theorem rowW_set {L : List Nat} {n i : Nat} (x : Nat) (hL : L.length = n) : (rowW L n).setIfInBounds i (.int .u32 (x : Nat)) = rowW (L.set i x) n := by
  unfold rowW uCells
  rw [List.length_set, hL, Nat.sub_self, List.replicate_zero, List.append_nil, List.append_nil]
  apply Array.ext'
  simp [List.map_set]
theorem idxV {v : List Nat} (hv : v.length = 8) : ∀ (k : Nat), k < 8 → ∀ W : World, (Instr.index 66 (.agg (rowW v 8)) (.int .i64 k)).run Tryd.prog W = .ok (.int .u32 (v.getD k 0 : Nat)) W := by
  obtain ⟨a, b, c, d, e, f, g, h, rfl⟩ := list8 hv
  rw [rowW8]
  exact idx8 a b c d e f g h
theorem roundsS_length {X v : List Nat} (hv : v.length = 8) : ∀ n, (roundsS X v n).length = 8
  | 0 => hv
  | n + 1 => by rw [roundsS_succ]; rfl
theorem blockS_of (h : List Nat) (b : List UInt8) : blockS h b = addS h (roundsS (extWd 48 (wordsB b)) h 64) := rfl
theorem empty_toH {B : List UInt8} (h : B.length = 0) : (strL B).toList = [] := by
  obtain rfl : B = [] := List.eq_nil_of_length_eq_zero h
  rw [ByteArray.toList_eq]; rfl
theorem empty_neH {B : List UInt8} (h : B.length ≠ 0) : ((strL B).toList == []) = false := by
  rw [ByteArray.toList_eq]
  have h2 : (strL B).data.toList ≠ [] := fun e => h (by rw [show (strL B).data.toList = B from strL_list B] at e; rw [e]; rfl)
  simpa using h2
attribute [local irreducible] rowW rotT kSha roundsS roundS extWd wordsB blockS addS midS blocksS
set_option maxHeartbeats 4000000 in
theorem pbehind_any (w : World) {h0 : List Nat} {B0 : List UInt8} (hh : h0.length = 8) (hs : Small h0) (hB0 : B0.length % 64 = 0) (hBl : B0.length ≤ 1000000000) (hG : GK w) :
    Calls Tryd.prog 39 #[.agg (rowW h0 8), .string (strL B0)] w fun e w' => e = .returned (.agg (rowW (blocksS (B0.length / 64) B0 h0) 8)) ∧ But [] w w' := by
  have z8 : (rowW h0 8).size = 8 := rowW_size (by omega)
  obtain ⟨w0, hw0⟩ : ∃ W, W = (w.alloc (.cells (rowW h0 8) 66)).alloc (.cells #[.int .u32 0, .int .u32 0, .int .u32 0, .int .u32 0, .int .u32 0, .int .u32 0, .int .u32 0, .int .u32 0] 66) := ⟨_, rfl⟩
  obtain ⟨g2, hg2⟩ : ∃ g, g = w.heap.size := ⟨_, rfl⟩
  obtain ⟨g4, hg4⟩ : ∃ g, g = w.heap.size + 1 := ⟨_, rfl⟩
  have HI2 : Hid (Is w0 g2 66 (rowW h0 8)) := Lib.hid (by rw [hw0, hg2]; exact (Is.fresh w _ _).alloc _)
  have HI4 : Hid (Is w0 g4 66 (rowW [] 8)) := Lib.hid (by
    rw [rowW08]
    have h := Is.fresh (w.alloc (.cells (rowW h0 8) 66)) 66 #[.int .u32 0, .int .u32 0, .int .u32 0, .int .u32 0, .int .u32 0, .int .u32 0, .int .u32 0, .int .u32 0]
    rw [hw0, hg4]
    simpa using h)
  have HB0 : Hid (But [] w w0) := Lib.hid (by rw [hw0]; exact ((But.refl [] w).alloc _).alloc _)
  have HGw := Lib.hid hG
  have HG : Hid (GK w0) := Lib.hid (hG.but HB0.out)
  have HL2 : Hid (w.heap.size ≤ g2) := Lib.hid (by omega)
  have HL4 : Hid (w.heap.size ≤ g4) := Lib.hid (by omega)
  have HNE : Hid (g2 ≠ g4) := Lib.hid (by omega)
  have HS0 := Lib.hid hs
  have HH0 := Lib.hid hh
  have HBM := Lib.hid hB0
  have HBL := Lib.hid hBl
  obtain ⟨R, hR⟩ : ∃ R, R = blocksS (B0.length / 64) B0 h0 := ⟨_, rfl⟩
  have HR0 := Lib.hid hR
  rw [← hR]
  clear hR hh hs hB0 hBl hG z8
  go_enter Tryd.func39, Tryd.ntmps39
  go_wp2_with fail
  rw [← hw0, ← hg4, ← hg2]
  clear hw0 hg4 hg2
  go_loopw [1, 5, 6, 16] (fun sv _ _ _ wr => ∃ (B : List UInt8) (h : List Nat), sv = .string (strL B) ∧ B.length ≤ 1000000000 ∧ Hid (B.length % 64 = 0) ∧ Hid (R = blocksS (B.length / 64) B h) ∧ Hid (h.length = 8) ∧ Hid (Small h) ∧ Hid (Is wr g2 66 (rowW h 8)) ∧ Hid (Is wr g4 66 (rowW [] 8)) ∧ Hid (But [] w wr) ∧ Hid (GK wr)) (fun sv _ _ _ _ => match sv with | .string s => s.size | _ => 0)
  case atStart => exact ⟨B0, h0, rfl, HBL.out, HBM, HR0, HH0, HS0, HI2, HI4, HB0, HG⟩
  case round =>
    clear HBM HR0 HH0 HS0 HI2 HI4 HB0 HG HBL
    obtain ⟨B, h, rfl, hBl, HBM, HR, HH, HS, HI2, HI4, HB, HG⟩ := hrel
    by_cases hz : B.length = 0
    · have e1 := empty_toH hz
      have z4 : (rowW [] 8).size = 8 := rowW_size (by decide)
      have zh : (rowW h 8).size = 8 := rowW_size (by rw [HH.out]; exact Nat.le_refl _)
      have HRh : Hid (R = h) := Lib.hid (by rw [HR.out, hz]; unfold blocksS; rfl)
      have HI5 := HI4.out.row (rowW h 8)
      have HB5 := HB.out.setRow (b := g4) (.inr HL4.out) (rowW h 8)
      have HZ := Lib.hid hz
      clear hz
      go_wp2_with (first
        | (refine wpList_load_is 66 rfl _ rfl rfl (by rw [zh]; exact agg8) HI2.out ?_)
        | (refine wpList_store_is 66 rfl _ _ rfl rfl rfl (by rw [zh]; exact agg8) HI4.out (by rw [z4, zh]) rowW_one ?_))
      go_simp
      rw [HRh.out]
      refine bodyPost_ret (v := .agg (rowW h 8)) ?_ rfl ⟨rfl, HB5⟩
      have hl := loadVar_is (T := 66) HI5 (by rw [zh]; exact agg8)
      simp [results, Tryd.results39, asAddr, hl]
    · have e1 := empty_neH hz
      have zh : (rowW h 8).size = 8 := rowW_size (by rw [HH.out]; exact Nat.le_refl _)
      have h64 : 64 ≤ B.length := by have := HBM.out; omega
      have kc : ∀ W, (Instr.slice 9 (.string (strL B)) none (some (.int .i64 64)) none).run Tryd.prog W = .ok (.string (strL (B.take 64))) W := fun W => cut_toH B (j := 64) W h64
      have kd : ∀ W, (Instr.slice 9 (.string (strL B)) (some (.int .i64 64)) none none).run Tryd.prog W = .ok (.string (strL (B.drop 64))) W := fun W => cut_fromH B (i := 64) W h64
      have ht : (B.take 64).length = 64 := by rw [List.length_take]; omega
      have HSc := Lib.hid fun W => pschedule_any W ht
      obtain ⟨X, hX⟩ : ∃ X, X = extWd 48 (wordsB (B.take 64)) := ⟨_, rfl⟩
      have hXl : X.length = 64 := by rw [hX, extWd_length, wordsB_length]
      have hXs : Small X := by rw [hX]; exact small_ext 48 (small_words _)
      rw [← hX] at HSc
      obtain ⟨V, hV⟩ : ∃ V, V = roundsS X h 64 := ⟨_, rfl⟩
      have HMx : Hid (∀ W, GK W → Calls Tryd.prog 50 #[.agg (rowW h 8), .agg (rowW X 64)] W fun e w' => e = .returned (.agg (rowW V 8)) ∧ But [] W w') := Lib.hid fun W hG => by
        rw [hV]; exact pmixed_any W HH.out HS.out hXl hXs hG
      have hVl : V.length = 8 := by rw [hV]; exact roundsS_length HH.out 64
      have HVl := Lib.hid hVl
      have HVs : Hid (Small V) := Lib.hid (by rw [hV]; exact small_rounds X HS.out 64)
      have HN : Hid (R = blocksS ((B.drop 64).length / 64) (B.drop 64) (addS h V)) := Lib.hid (by
        have e : B.length / 64 = (B.drop 64).length / 64 + 1 := by rw [List.length_drop]; omega
        rw [HR.out, e, hV, hX, ← blockS_of]
        rw [blocksS])
      have HD : Hid ((B.drop 64).length % 64 = 0 ∧ (B.drop 64).length ≤ 1000000000 ∧ (strL (B.drop 64)).size < (strL B).size) := Lib.hid (by
        have := HBM.out
        rw [strL_size, strL_size, List.length_drop]; omega)
      have HIX := Lib.hid (idxV hVl)
      obtain ⟨S, hS⟩ : ∃ S, S = strL B := ⟨_, rfl⟩
      obtain ⟨T, hT⟩ : ∃ S, S = strL (B.take 64) := ⟨_, rfl⟩
      obtain ⟨D, hD⟩ : ∃ S, S = B.drop 64 := ⟨_, rfl⟩
      rw [← hS] at e1
      simp only [← hS, ← hT] at kc
      simp only [← hS, ← hD] at kd
      rw [← hT] at HSc
      rw [← hD] at HN HD
      rw [← hS] at HD ⊢
      clear hX hXl hXs hV hVl ht h64 hS hT hD HR hz
      go_upto_region 3 with (fail)
      refine wp_region_m (S := fun v => But [] wr v) (R := fun v v' => But [] v v') (fun w => But.refl [] w) (by kernel_rfl) (But.refl [] wr).drew ?_
      refine rdq 0 (.agg (rowW h 8)) (fun W hS => exec_load_is 66 _ rfl rfl (by rw [zh]; exact agg8) (HI2.out.but hS (by simp))) ?_
      refine rdk 1 (.string S) ?_
      refine rdk 2 (.string T) ?_
      refine wpM_take (fun w => But.refl [] w) (fun x y z h k => h.trans k) (i := 3) (v := .agg (rowW X 64)) rfl (by kernel_rfl) (by kernel_rfl) (by kernel_rfl) (fun _ _ _ h => h) (.inl ⟨?_, fun w hS => .inr ⟨_, _, ?_, (HSc.out w).mono ?_⟩⟩) ?_
      · go_simp
      · go_simp
      · rintro e wy ⟨rfl, hB⟩; exact ⟨rfl, hS.trans hB, hB⟩
      refine wpM_take (fun w => But.refl [] w) (fun x y z h k => h.trans k) (i := 4) (v := .agg (rowW V 8)) rfl (by kernel_rfl) (by kernel_rfl) (by kernel_rfl) (fun _ _ _ h => h) (.inl ⟨?_, fun w hS => .inr ⟨_, _, ?_, (HMx.out w (HG.out.but hS)).mono ?_⟩⟩) ?_
      · go_simp
      · go_simp
      · rintro e wy ⟨rfl, hB⟩; exact ⟨rfl, hS.trans hB, hB⟩
      refine rdk 5 (.int .i64 0) ?_
      refine ⟨by kernel_rfl, fun w4 hR4 hS4 => ?_⟩
      have HJ2 : Hid (Is w4 g2 66 (rowW (midS h V 0) 8)) := Lib.hid (by rw [midS_zero HH.out]; exact HI2.out.but hS4 (by simp))
      have HJ4 : Hid (Is w4 g4 66 (rowW [] 8)) := Lib.hid (HI4.out.but hS4 (by simp))
      have HBj := Lib.hid (HB.out.trans hS4)
      clear hR4 hS4 HI2 HI4 HB HG HSc HMx kc e1
      go_simp
      go_wp2_with fail
      go_loopw [5, 6, 16] (fun _ _ kv wx => ∃ k : Nat, k ≤ 8 ∧ kv = .int .i64 k ∧ Hid (Is wx g2 66 (rowW (midS h V k) 8)) ∧ Hid (Is wx g4 66 (rowW [] 8)) ∧ Hid (But [] w wx)) (fun _ _ kv _ => 8 - (intOf kv).toNat)
      case atStart => exact ⟨0, Nat.zero_le _, rfl, HJ2, HJ4, HBj⟩
      case round =>
        clear HJ2 HJ4 HBj
        obtain ⟨k, hk, rfl, HI2, HI4, HB⟩ := hrel
        by_cases hlt : k < 8
        · have kx := HIX.out k hlt
          obtain ⟨n, hn⟩ : ∃ n, n = V.getD k 0 := ⟨_, rfl⟩
          obtain ⟨x, hx⟩ : ∃ n, n = h.getD k 0 := ⟨_, rfl⟩
          rw [← hn] at kx
          have c0 := HI2.out.cell k
          rw [rowW_at (by rw [midS_length]; exact hlt), midS_at hlt, if_neg (Nat.lt_irrefl k), ← hx] at c0
          have c1 := HI2.out.free k
          obtain ⟨s, hs⟩ : ∃ z, z = x + n := ⟨_, rfl⟩
          obtain ⟨y, hy⟩ : ∃ z, z = s % 4294967296 := ⟨_, rfl⟩
          have f1 : (x : Int) + (n : Int) = (s : Int) := by omega
          have f2 : IntKind.u32.wrap (s : Int) = (y : Int) := by rw [wrapW, hy]
          have HPUT : Hid ((rowW (midS h V k) 8).setIfInBounds k (.int .u32 (y : Nat)) = rowW (midS h V (k + 1)) 8) := Lib.hid (by
            rw [rowW_set y (midS_length h V k), ← midS_next hlt, hy, hs, hx, hn])
          have HI2b : Hid (Is (wr.setCell ⟨g2, k, none⟩ (.int .u32 (y : Nat))) g2 66 (rowW (midS h V (k + 1)) 8)) := Lib.hid (by
            have e := HI2.out.put k (.int .u32 (y : Nat))
            rw [HPUT.out] at e
            exact e)
          have HI4b : Hid (Is (wr.setCell ⟨g2, k, none⟩ (.int .u32 (y : Nat))) g4 66 (rowW [] 8)) := Lib.hid (HI4.out.far (fun e => HNE.out e.symm) _)
          have HBb : Hid (But [] w (wr.setCell ⟨g2, k, none⟩ (.int .u32 (y : Nat)))) := Lib.hid (HB.out.setCell (.inr HL2.out) _)
          clear hn hx hs hy HPUT HI2 HI4 HB
          go_wp2
          go_roundw
          case rel => exact ⟨k + 1, by omega, by go_num, HI2b, HI4b, HBb⟩
          case measure => simp [intOf] <;> omega
        · have h8 : k = 8 := by omega
          have HI2b : Hid (Is wr g2 66 (rowW (addS h V) 8)) := Lib.hid (by
            have e := HI2.out
            rw [h8, midS_all] at e
            exact e)
          have k8 : ¬ (k : Int) < 8 := by omega
          clear h8 HI2
          go_wp2
          go_roundw
          case rel => exact ⟨D, addS h V, rfl, HD.out.2.1, Lib.hid HD.out.1, HN, Lib.hid (addS_length h V), Lib.hid (small_add h V), HI2b, HI4, HB, Lib.hid (HGw.out.but HB.out)⟩
          case measure => exact HD.out.2.2
end Go.Proofs.YtmdiilnipoblbaaDoor
set_option maxRecDepth 100000
set_option linter.unusedVariables false
namespace Go.Proofs.YtmdiilnipoblbaaDoor
set_option maxRecDepth 100000
open Go Go.RowKit
theorem storeCells_is {t : TypeId} {w : World} {b : Nat} {old cs : Array Value} (h : Is w b t old) (ho : old.size = cs.size) (h1 : ∀ v ∈ cs.toList, v.oneCell' = true) : (storeCells ⟨b, 0, none⟩ cs.toList).run Tryd.prog w = .ok () (w.setRow b cs) := by
  have hs := run_storeCells_from (P := Tryd.prog) b t cs.toList 0 old w h (by rw [Array.length_toList]; omega) h1
  rw [show (old.toList.take 0 ++ cs.toList).toArray = cs by simp] at hs
  exact hs
/-- One that reads, ahead of the last. -/
theorem rzq {P : Program} {ops : Array Oper} {Q : Exit → Act → World → Prop} {md : Region.Mode} {S : World → Prop} {z : Nat} (i : Nat) (v : Value) {oi : Oper} {f : Nat} {listed : Array Bool} {a : Act} {w : World}
    (hv : ∀ w, S w → (execOp a.eval oi).run P w = .ok (.value v) w)
    (h : wpZ P md ops Q S (fun v v' => But [] v v') z f (listed.setIfInBounds i true) (a.put oi.dst v) w)
    (hi : ops[i]? = some oi := by rfl) (hz : waits md ops z i = true := by kernel_rfl) (hiz : i ≠ z := by decide) (hs : Region.noSelect ops = true := by kernel_rfl) (hf : Region.free md ops listed i = true := by kernel_rfl)
    (hr : (Region.ready md ops listed).contains i = true := by kernel_rfl) (hw : Region.wanted oi (yielded ops a.tmps) = true := by first | kernel_rfl | go_simp)
    (hQ : ∀ c a w, Q (.panic c) (a.put oi.dst v) w → Q (.panic c) a w := by exact fun _ _ _ h => h) : wpZ P md ops Q S (fun v v' => But [] v v') z (f + 1) listed a w :=
  wpZ_take (fun w => But.refl [] w) (fun x y z h k => h.trans k) hi hz hiz hs hf hr hQ (YieldsR.read (fun w => But.refl [] w) hw hv) h
theorem rzk {P : Program} {ops : Array Oper} {Q : Exit → Act → World → Prop} {md : Region.Mode} {S : World → Prop} {z : Nat} (i : Nat) (v : Value) {oi : Oper} {f : Nat} {listed : Array Bool} {a : Act} {w : World}
    (h : wpZ P md ops Q S (fun v v' => But [] v v') z f (listed.setIfInBounds i true) (a.put oi.dst v) w)
    (hi : ops[i]? = some oi := by rfl) (hz : waits md ops z i = true := by kernel_rfl) (hiz : i ≠ z := by decide) (hs : Region.noSelect ops = true := by kernel_rfl) (hf : Region.free md ops listed i = true := by kernel_rfl)
    (hr : (Region.ready md ops listed).contains i = true := by kernel_rfl) (hw : Region.wanted oi (yielded ops a.tmps) = true := by first | kernel_rfl | go_simp)
    (hv : ∀ w, S w → (execOp a.eval oi).run P w = .ok (.value v) w := by intro w hS; go_simp)
    (hQ : ∀ c a w, Q (.panic c) (a.put oi.dst v) w → Q (.panic c) a w := by exact fun _ _ _ h => h) : wpZ P md ops Q S (fun v v' => But [] v v') z (f + 1) listed a w :=
  rzq i v hv h hi hz hiz hs hf hr hw hQ
theorem blocksS_append : ∀ (n : Nat) (a b : List UInt8) (h : List Nat) (m : Nat), a.length = 64 * n → blocksS (n + m) (a ++ b) h = blocksS m b (blocksS n a h)
  | 0, a, b, h, m, ha => by
    obtain rfl : a = [] := List.eq_nil_of_length_eq_zero (by omega)
    rw [Nat.zero_add, List.nil_append]
    rfl
  | n + 1, a, b, h, m, ha => by
    rw [show n + 1 + m = (n + m) + 1 by omega]
    show blocksS (n + m) ((a ++ b).drop 64) (blockS h ((a ++ b).take 64)) = blocksS m b (blocksS n (a.drop 64) (blockS h (a.take 64)))
    rw [List.drop_append_of_le_length (by omega), List.take_append_of_le_length (by omega)]
    exact blocksS_append n (a.drop 64) b _ m (by rw [List.length_drop]; omega)
theorem blocksS_length : ∀ (n : Nat) (s : List UInt8) (h : List Nat), h.length = 8 → (blocksS n s h).length = 8
  | 0, _, h, hh => hh
  | n + 1, s, h, _ => blocksS_length n (s.drop 64) (blockS h (s.take 64)) (by rw [blockS_of]; exact addS_length _ _)
theorem small_blocks : ∀ (n : Nat) (s : List UInt8) (h : List Nat), Small h → Small (blocksS n s h)
  | 0, _, h, hh => hh
  | n + 1, s, h, _ => small_blocks n (s.drop 64) (blockS h (s.take 64)) (by rw [blockS_of]; exact small_add _ _)
theorem hSha_length : hSha.length = 8 := rfl
theorem hSha_row : rowW hSha 8 = #[.int .u32 1779033703, .int .u32 3144134277, .int .u32 1013904242, .int .u32 2773480762, .int .u32 1359893119, .int .u32 2600822924, .int .u32 528734635, .int .u32 1541459225] := rfl
theorem shaT_two {l a b : List UInt8} (ha : a = l.take (l.length / 64 * 64)) (hb : b = l.drop (l.length / 64 * 64) ++ padS l.length) : shaT l = outS (blocksS (b.length / 64) b (blocksS (a.length / 64) a hSha)) ∧ a.length % 64 = 0 ∧ b.length % 64 = 0 ∧ b.length ≤ 200 ∧ a.length ≤ l.length := by
  have hal : a.length = 64 * (l.length / 64) := by rw [ha, List.length_take]; omega
  have hbl : b.length = l.length % 64 + (padN l.length + 9) := by rw [hb, List.length_append, List.length_drop, padS_length]; omega
  have hb64 : b.length % 64 = 0 := by rw [hbl]; unfold padN; omega
  have hf : fillT l = a ++ b := by rw [fillT_pad, ha, hb, ← List.append_assoc, List.take_append_drop]
  have hp := padN_lt l.length
  refine ⟨?_, by omega, hb64, by omega, by omega⟩
  unfold shaT
  rw [hf, List.length_append, show (a.length + b.length) / 64 = l.length / 64 + b.length / 64 by omega, blocksS_append _ _ _ _ _ hal, show a.length / 64 = l.length / 64 by omega]
attribute [local irreducible] rowW rotT kSha hSha blocksS outS padS
set_option maxHeartbeats 4000000 in
theorem psumH_any (w : World) {l : List UInt8} (hl : l.length ≤ 100000000) (hG : GK w) :
    Calls Tryd.prog 21 #[.string (strL l)] w fun e w' => e = .returned (.string (strL (shaT l))) ∧ But [] w w' := by
  obtain ⟨n, hn⟩ : ∃ n, n = l.length := ⟨_, rfl⟩
  obtain ⟨q, hq⟩ : ∃ q, q = n / 64 := ⟨_, rfl⟩
  obtain ⟨m, hm⟩ : ∃ m, m = q * 64 := ⟨_, rfl⟩
  obtain ⟨a, ha⟩ : ∃ a, a = l.take m := ⟨_, rfl⟩
  obtain ⟨c, hc⟩ : ∃ a, a = l.drop m := ⟨_, rfl⟩
  obtain ⟨b, hb⟩ : ∃ b, b = c ++ padS n := ⟨_, rfl⟩
  obtain ⟨ht, ha64, hb64, hbl, hal⟩ := shaT_two (l := l) (a := a) (b := b) (by rw [ha, hm, hq, hn]) (by rw [hb, hc, hm, hq, hn])
  obtain ⟨h1, hh1⟩ : ∃ h, h = blocksS (a.length / 64) a hSha := ⟨_, rfl⟩
  obtain ⟨h2, hh2⟩ : ∃ h, h = blocksS (b.length / 64) b h1 := ⟨_, rfl⟩
  have l1 : h1.length = 8 := by rw [hh1]; exact blocksS_length _ _ _ hSha_length
  have l2 : h2.length = 8 := by rw [hh2]; exact blocksS_length _ _ _ l1
  have s1 : Small h1 := by rw [hh1]; exact small_blocks _ _ _ small_hSha
  have s2 : Small h2 := by rw [hh2]; exact small_blocks _ _ _ s1
  have HT : Hid (shaT l = outS h2) := Lib.hid (by rw [ht, hh2, hh1])
  rw [HT.out]
  have HC1 : Hid (∀ W, GK W → Calls Tryd.prog 39 #[.agg (rowW hSha 8), .string (strL a)] W fun e w' => e = .returned (.agg (rowW h1 8)) ∧ But [] W w') := Lib.hid fun W hG => by
    rw [hh1]; exact pbehind_any W hSha_length small_hSha ha64 (by omega) hG
  have HC2 : Hid (∀ W, GK W → Calls Tryd.prog 39 #[.agg (rowW h1 8), .string (strL b)] W fun e w' => e = .returned (.agg (rowW h2 8)) ∧ But [] W w') := Lib.hid fun W hG => by
    rw [hh2]; exact pbehind_any W l1 s1 hb64 (by omega) hG
  have HTx := Lib.hid fun W => ptext_any W l2 s2
  have HP := Lib.hid fun W => ppadding_any W (n := n) (by omega)
  have k1 : ∀ W, (Instr.slice 9 (.string (strL l)) none (some (.int .i64 (m : Int))) none).run Tryd.prog W = .ok (.string (strL a)) W := fun W => by rw [ha]; exact cut_toH l W (by omega)
  have k2 : ∀ W, (Instr.slice 9 (.string (strL l)) (some (.int .i64 (m : Int))) none none).run Tryd.prog W = .ok (.string (strL c)) W := fun W => by rw [hc]; exact cut_fromH l W (by omega)
  have HB : Hid (strL c ++ strL (padS n) = strL b) := Lib.hid (by rw [hb, strL_append])
  have hcs : (strL c).size + (strL (padS n)).size ≤ 200 := by rw [strL_size, strL_size, ← List.length_append, ← hb]; exact hbl
  obtain ⟨Y, hY⟩ : ∃ Y, Y = strL l := ⟨_, rfl⟩
  obtain ⟨A, hA⟩ : ∃ Y, Y = strL a := ⟨_, rfl⟩
  obtain ⟨C, hC⟩ : ∃ Y, Y = strL c := ⟨_, rfl⟩
  obtain ⟨D, hD⟩ : ∃ Y, Y = strL (padS n) := ⟨_, rfl⟩
  obtain ⟨B, hBB⟩ : ∃ Y, Y = strL b := ⟨_, rfl⟩
  have hys : Y.size = n := by rw [hY, strL_size, hn]
  simp only [← hY, ← hA] at k1
  simp only [← hY, ← hC] at k2
  rw [← hC, ← hD, ← hBB] at HB
  rw [← hC, ← hD] at hcs
  rw [← hA] at HC1
  rw [← hBB] at HC2
  rw [← hD] at HP
  rw [← hY]
  have kf : (9223372036854775807 < C.size + D.size) = False := by simp; omega
  have f1 : (n : Int) / 64 = (q : Int) := by omega
  have f2 : (n : Int).tdiv 64 = (q : Int) := by rw [Int.tdiv_eq_ediv_of_nonneg (by omega)]; omega
  have f3 : (q : Int) * 64 = (m : Int) := by omega
  have v1 := wrapI_in (show q < 1000000000000000 by omega)
  have v2 := wrapI_in (show m < 1000000000000000 by omega)
  have z0 : (rowW hSha 8).size = 8 := rowW_size (by rw [hSha_length]; decide)
  have z1 : (rowW h1 8).size = 8 := rowW_size (by omega)
  have z2 : (rowW h2 8).size = 8 := rowW_size (by omega)
  obtain ⟨w0, hw0⟩ : ∃ W, W = w.alloc (.cells #[.int .u32 1779033703, .int .u32 3144134277, .int .u32 1013904242, .int .u32 2773480762, .int .u32 1359893119, .int .u32 2600822924, .int .u32 528734635, .int .u32 1541459225] 66) := ⟨_, rfl⟩
  obtain ⟨g3, hg3⟩ : ∃ g, g = w.heap.size := ⟨_, rfl⟩
  have HI0 : Hid (Is w0 g3 66 (rowW hSha 8)) := Lib.hid (by rw [hw0, hg3, hSha_row]; exact Is.fresh _ _ _)
  have HB0 : Hid (But [] w w0) := Lib.hid (by rw [hw0]; exact (But.refl [] w).alloc _)
  have HL3 : Hid (w.heap.size ≤ g3) := Lib.hid (by omega)
  have HG := Lib.hid hG
  clear hn hq hm ha hc hb ht ha64 hb64 hbl hal hh1 hh2 l1 l2 s1 s2 hY hA hC hD hBB hcs hG hl HT
  go_enter Tryd.func21, Tryd.ntmps21
  go_upto_region 3 with (fail)
  rw [← hw0, ← hg3]
  clear hw0 hg3
  refine wp_region_z (z := 5) (S := fun v => But [] w0 v) (R := fun v v' => But [] v v') (fun w => But.refl [] w) (by kernel_rfl) (But.refl [] w0).drew ?_
  refine rzq 0 (.agg (rowW hSha 8)) (fun W hS => exec_load_is 66 _ rfl rfl (by rw [z0]; exact agg8) (HI0.out.but hS (by simp))) ?_
  refine rzk 1 (.string Y) ?_
  refine rzk 2 (.int .i64 (m : Int)) ?_
  refine rzk 3 (.string A) ?_
  refine wpZ_take (fun w => But.refl [] w) (fun x y z h k => h.trans k) (i := 4) (v := .agg (rowW h1 8)) rfl (by kernel_rfl) (by decide) (by kernel_rfl) (by kernel_rfl) (by kernel_rfl) (fun _ _ _ h => h) (.inl ⟨?_, fun W hS => .inr ⟨_, _, ?_, (HC1.out W (HG.out.but (HB0.out.trans hS))).mono ?_⟩⟩) ?_
  · go_simp
  · go_simp
  · rintro e wy ⟨rfl, hB⟩; exact ⟨rfl, hS.trans hB, hB⟩
  refine wpZ_last rfl (by kernel_rfl) (by kernel_rfl) fun w1 hR1 hS1 K' hK => ?_
  have hst := storeCells_is (HI0.out.but hS1 (by simp)) (cs := rowW h1 8) (by rw [z0, z1]) rowW_one
  go_simp
  refine hK _ _ ?_
  clear hst
  have HI1 := Lib.hid ((HI0.out.but hS1 (by simp)).row (rowW h1 8))
  have HB1 := Lib.hid ((HB0.out.trans hS1).setRow (b := g3) (.inr HL3.out) (rowW h1 8))
  obtain ⟨W1, hW1⟩ : ∃ W, W = w1.setRow g3 (rowW h1 8) := ⟨_, rfl⟩
  rw [← hW1] at HI1 HB1 ⊢
  clear hR1 hS1 hW1 HI0 HB0 hK K'
  go_simp
  go_upto_region 4 with (fail)
  refine wp_region_z (z := 9) (S := fun v => But [] W1 v) (R := fun v v' => But [] v v') (fun w => But.refl [] w) (by kernel_rfl) (But.refl [] W1).drew ?_
  refine rzq 0 (.agg (rowW h1 8)) (fun W hS => exec_load_is 66 _ rfl rfl (by rw [z1]; exact agg8) (HI1.out.but hS (by simp))) ?_
  refine rzk 1 (.string Y) ?_
  refine rzk 2 (.int .i64 (m : Int)) ?_
  refine rzk 3 (.string C) ?_
  refine rzk 4 (.string Y) ?_
  refine rzk 5 (.int .i64 (n : Int)) ?_
  refine wpZ_take (fun w => But.refl [] w) (fun x y z h k => h.trans k) (i := 6) (v := .string D) rfl (by kernel_rfl) (by decide) (by kernel_rfl) (by kernel_rfl) (by kernel_rfl) (fun _ _ _ h => h) (.inl ⟨?_, fun W hS => .inr ⟨_, _, ?_, (HP.out W).mono ?_⟩⟩) ?_
  · go_simp
  · go_simp
  · rintro e wy ⟨rfl, hB⟩; exact ⟨rfl, hS.trans hB, hB⟩
  refine rzk 7 (.string (C ++ D)) ?_
  rw [HB.out]
  refine wpZ_take (fun w => But.refl [] w) (fun x y z h k => h.trans k) (i := 8) (v := .agg (rowW h2 8)) rfl (by kernel_rfl) (by decide) (by kernel_rfl) (by kernel_rfl) (by kernel_rfl) (fun _ _ _ h => h) (.inl ⟨?_, fun W hS => .inr ⟨_, _, ?_, (HC2.out W (HG.out.but (HB1.out.trans hS))).mono ?_⟩⟩) ?_
  · go_simp
  · go_simp
  · rintro e wy ⟨rfl, hB⟩; exact ⟨rfl, hS.trans hB, hB⟩
  refine wpZ_last rfl (by kernel_rfl) (by kernel_rfl) fun w1 hR1 hS1 K' hK => ?_
  have hst := storeCells_is (HI1.out.but hS1 (by simp)) (cs := rowW h2 8) (by rw [z1, z2]) rowW_one
  go_simp
  refine hK _ _ ?_
  clear hst
  have HI2 := Lib.hid ((HI1.out.but hS1 (by simp)).row (rowW h2 8))
  have HB2 := Lib.hid ((HB1.out.trans hS1).setRow (b := g3) (.inr HL3.out) (rowW h2 8))
  obtain ⟨W2, hW2⟩ : ∃ W, W = w1.setRow g3 (rowW h2 8) := ⟨_, rfl⟩
  rw [← hW2] at HI2 HB2 ⊢
  clear hR1 hS1 hW2 HI1 HB1 hK K'
  go_simp
  go_wp2_with (refine wpList_load_is 66 rfl _ rfl rfl (by rw [z2]; exact agg8) HI2.out ?_)
  refine (HTx.out _).mono ?_
  rintro e W3 ⟨rfl, hB3⟩
  have HB3 := Lib.hid (HB2.out.trans hB3)
  clear hB3 HB2
  go_wp2
  go_ret
  exact ⟨rfl, HB3.out⟩
end Go.Proofs.YtmdiilnipoblbaaDoor
set_option maxRecDepth 1000000
set_option linter.unusedVariables false
namespace Go.Proofs.YtmdiilnipoblbaaDoor
set_option maxRecDepth 100000
open Go Go.RowKit
/-- Bytes in a block, from a place on. -/
def SB (w : World) (g o n : Nat) (S : List UInt8) : Prop := S.length = n ∧ ∀ i, i < n → w.cell? ⟨g, o + i, none⟩ = some (.int .u8 ((S.getD i 0).toNat : Nat))
theorem SB.but {w w' : World} {g o n : Nat} {S : List UInt8} {T : List Nat} (h : SB w g o n S) (hw : But T w w') (hg : g ∉ T) : SB w' g o n S := ⟨h.1, fun i hi => hw.cell (h.2 i hi) hg⟩
end Go.Proofs.YtmdiilnipoblbaaDoor
set_option maxRecDepth 1000000
set_option linter.unusedVariables false
namespace Go.Proofs.YtmdiilnipoblbaaDoor
set_option maxRecDepth 100000
open Go Go.RowKit
/-- Eight words in memory. -/
def VI (w : World) (g : Nat) (V : List Nat) : Prop := ∀ i, i < 8 → w.cell? ⟨g, i, none⟩ = some (.int .i64 (V.getD i 0 : Nat))
theorem VI.but {w w' : World} {g : Nat} {V : List Nat} {T : List Nat} (h : VI w g V) (hw : But T w w') (hg : g ∉ T) : VI w' g V := fun i hi => hw.cell (h i hi) hg
attribute [local irreducible] rowZ midS addS
end Go.Proofs.YtmdiilnipoblbaaDoor
set_option maxRecDepth 1000000
set_option linter.unusedVariables false
namespace Go.Proofs.YtmdiilnipoblbaaDoor
set_option maxRecDepth 100000
open Go Go.RowKit
theorem SB.lt {w : World} {g o n : Nat} {S : List UInt8} (h : SB w g o n S) (hn : 0 < n) : g < w.heap.size := World.block_lt_of_cell? w _ (h.2 0 hn)
theorem VI.lt {w : World} {g : Nat} {V : List Nat} (h : VI w g V) : g < w.heap.size := World.block_lt_of_cell? w _ (h 0 (by decide))
attribute [local irreducible] rowZ kSha hSha blocksS outS roundsS extWd wordsB addS fillT
end Go.Proofs.YtmdiilnipoblbaaDoor
