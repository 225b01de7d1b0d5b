/- The program's words of a block. -/
import Derived.Test.YtgemmidkfeebfaaDoorHaD
import Derived.BigQuiet
import Derived.Deep.RegionWith
import Derived.BigRegion
set_option maxRecDepth 100000
set_option linter.unusedVariables false
namespace Go.Proofs.YtgemmidkfeebfaaDoor
set_option maxRecDepth 100000
open Go Go.RowKit
theorem cut_midH (s : List UInt8) {i j : Nat} (h : i ≤ j) (W : World) (hj : j ≤ s.length) : (Instr.slice 9 (.string (strL s)) (some (.int .i64 (i : Int))) (some (.int .i64 (j : Int))) none).run Tryd.prog W = .ok (.string (strL ((s.drop i).take (j - i)))) W := by
  rw [run_slice_string W 9 (strL s) .i64 .i64 (i : Int) (j : Int) Tryd.underlying9 (by omega) (by omega) (by rw [strL_size]; omega), Int.toNat_natCast, Int.toNat_natCast, ext_list, strL_list, List.drop_take]
theorem cut_fromH (s : List UInt8) {i : Nat} (W : World) (hi : i ≤ s.length) : (Instr.slice 9 (.string (strL s)) (some (.int .i64 (i : Int))) none none).run Tryd.prog W = .ok (.string (strL (s.drop i))) W := by
  rw [run_slice_string_from_if W 9 (strL s) .i64 (i : Int) Tryd.underlying9, if_pos (by rw [strL_size]; omega), Int.toNat_natCast, ext_list, strL_list, List.take_of_length_le (by rw [strL_size]; exact Nat.le_refl _)]
theorem cut_toH (s : List UInt8) {j : Nat} (W : World) (hj : j ≤ s.length) : (Instr.slice 9 (.string (strL s)) none (some (.int .i64 (j : Int))) none).run Tryd.prog W = .ok (.string (strL (s.take j))) W := by
  rw [run_slice_string_to_if W 9 (strL s) .i64 (j : Int) Tryd.underlying9, if_pos (by rw [strL_size]; omega), Int.toNat_natCast, ext_list, strL_list, List.drop_zero]
theorem wordsB_length (b : List UInt8) : (wordsB b).length = 16 := by unfold wordsB; rw [List.length_map, List.length_range]
theorem wordsB_next (b : List UInt8) {k : Nat} (h : k < 16) : (wordsB b).take (k + 1) = (wordsB b).take k ++ [ofL ((b.drop (4 * k)).take 4)] := by
  have hl : k < (wordsB b).length := by rw [wordsB_length]; exact h
  have e : (wordsB b)[k]'hl = ofL ((b.drop (4 * k)).take 4) := by simp only [wordsB, List.getElem_map, List.getElem_range]
  rw [List.take_succ_eq_append_getElem hl, e]
theorem ofL_four_lt {s : List UInt8} (h : s.length = 4) : ofL s < 4294967296 := ofL_lt4 h
theorem nextWd_of {w : List Nat} {k x y p q s0 s1 : Nat} (hk : w.length = k) (h16 : 16 ≤ k) (hx : w.getD (k - 15) 0 = x) (hy : w.getD (k - 2) 0 = y) (hp : w.getD (k - 16) 0 = p) (hq : w.getD (k - 7) 0 = q)
    (h0 : s0 = rotT x 7 ^^^ rotT x 18 ^^^ x / 8) (h1 : s1 = rotT y 17 ^^^ rotT y 19 ^^^ y / 1024) : (((p + s0) % 4294967296 + q) % 4294967296 + s1) % 4294967296 = nextWd w := by
  unfold nextWd
  rw [hk, hx, hy, hp, hq, Nat.shiftRight_eq_div_pow, Nat.shiftRight_eq_div_pow, show 2 ^ 3 = 8 from rfl, show 2 ^ 10 = 1024 from rfl, ← h0, ← h1]
  omega
theorem xor3_lt {a b c : Nat} (ha : a < 4294967296) (hb : b < 4294967296) (hc : c < 4294967296) : a ^^^ b ^^^ c < 4294967296 :=
  Nat.xor_lt_two_pow (n := 32) (Nat.xor_lt_two_pow (n := 32) ha hb) hc
attribute [local irreducible] rowW wordsB extWd nextWd rotT
set_option maxHeartbeats 2000000 in
theorem pschedule_any (w : World) {b : List UInt8} (hb : b.length = 64) :
    Calls Tryd.prog 19 #[.string (strL b)] w fun e w' => e = .returned (.agg (rowW (extWd 48 (wordsB b)) 64)) ∧ But [] w w' := by
  have hI2 := Is.fresh w 40 (rowW [] 64)
  have hI2b := hI2.alloc (.cells (rowW [] 64) 40)
  have hI3 := Is.fresh (w.alloc (.cells (rowW [] 64) 40)) 40 (rowW [] 64)
  have hB0 := ((But.refl [] w).alloc (.cells (rowW [] 64) 40)).alloc (.cells (rowW [] 64) 40)
  obtain ⟨W0, hW0⟩ : ∃ W, W = (w.alloc (.cells (rowW [] 64) 40)).alloc (.cells (rowW [] 64) 40) := ⟨_, rfl⟩
  obtain ⟨g2, hg2⟩ : ∃ g, g = w.heap.size := ⟨_, rfl⟩
  obtain ⟨g3, hg3⟩ : ∃ g, g = w.heap.size + 1 := ⟨_, rfl⟩
  have hsz : (w.alloc (.cells (rowW [] 64) 40)).heap.size = w.heap.size + 1 := by simp
  rw [hsz] at hI3
  have hne : g2 ≠ g3 := by rw [hg2, hg3]; simp
  have hle2 : w.heap.size ≤ g2 := Nat.le_of_eq hg2.symm
  have hle3 : w.heap.size ≤ g3 := by rw [hg3]; omega
  have HI2 : Hid (Is W0 g2 40 (rowW [] 64)) := Lib.hid (by rw [hW0, hg2]; exact hI2b)
  have HI3 : Hid (Is W0 g3 40 (rowW ((wordsB b).take 0) 64)) := Lib.hid (by rw [hW0, hg3]; exact hI3)
  have HB0 : Hid (But [] w W0) := Lib.hid (by rw [hW0]; exact hB0)
  have HL2 := Lib.hid hle2
  have HL3 := Lib.hid hle3
  have HNE := Lib.hid hne
  have HWL := Lib.hid (wordsB_length b)
  have HBL := Lib.hid hb
  clear hsz hI2 hI2b hI3 hB0 hle2 hle3 hne
  go_enter Tryd.func19, Tryd.ntmps19
  go_wp2_with (refine wpList_alloc64 rfl rfl ?_)
  rw [← hW0, ← hg3, ← hg2]
  clear hW0 hg2 hg3
  go_loopw [4, 10] (fun tv kv wr => ∃ k : Nat, k ≤ 16 ∧ kv = .int .i64 k ∧ Hid (Is wr g2 40 (rowW [] 64)) ∧ Hid (Is wr g3 40 (rowW ((wordsB b).take k) 64)) ∧ Hid (But [] w wr)) (fun _ kv _ => 16 - (intOf kv).toNat)
  case atStart => exact ⟨0, Nat.zero_le _, rfl, HI2, HI3, HB0⟩
  case round =>
    clear HI2 HI3 HB0
    obtain ⟨k, hk, rfl, HI2, HI3, HB⟩ := hrel
    by_cases hlt : k < 16
    · obtain ⟨p, hp⟩ : ∃ p, p = 4 * k := ⟨_, rfl⟩
      obtain ⟨k1, hk1⟩ : ∃ q, q = k + 1 := ⟨_, rfl⟩
      obtain ⟨q, hq⟩ : ∃ q, q = 4 * k1 := ⟨_, rfl⟩
      have e1 : (4 : Int) * (k : Int) = (p : Int) := by omega
      have e2 : (k : Int) + 1 = (k1 : Int) := by omega
      have e3 : (4 : Int) * (k1 : Int) = (q : Int) := by omega
      have kc := fun W => cut_midH b (i := p) (j := q) (by omega) W (by rw [hb]; omega)
      rw [show q - p = 4 by omega] at kc
      have hl4 : ((b.drop p).take 4).length = 4 := by rw [List.length_take, List.length_drop, hb]; omega
      have HV := Lib.hid fun W => pvalueW_any W hl4
      obtain ⟨n, hn⟩ : ∃ n, n = ofL ((b.drop p).take 4) := ⟨_, rfl⟩
      obtain ⟨S, hS⟩ : ∃ S, S = strL ((b.drop p).take 4) := ⟨_, rfl⟩
      have HN : Hid ((wordsB b).take k ++ [n] = (wordsB b).take (k + 1)) := Lib.hid (by rw [wordsB_next b hlt, hn, hp])
      have HTL : Hid (((wordsB b).take k).length = k) := Lib.hid (by rw [List.length_take, HWL.out]; omega)
      rw [← hn, ← hS] at HV
      simp only [← hS] at kc
      clear hn hS hl4 hp hk1 hq
      go_wp2_with (go_at_call 23; refine (HV.out _).mono ?_)
      rintro e w1 ⟨rfl, nq, rfl⟩
      have hI3 := HI3.out.drewN nq
      obtain ⟨v, hv⟩ := rowW_some (L := (wordsB b).take k) (n := 64) (i := k) (by rw [HTL.out]; omega) (by omega)
      have c0 := hI3.cell k
      rw [hv] at c0
      have c1 := hI3.free k
      have HI3b : Hid (Is ((wr.drewN nq).setCell ⟨g3, k, none⟩ (.int .u32 (n : Nat))) g3 40 (rowW ((wordsB b).take (k + 1)) 64)) := Lib.hid (by
        have h := hI3.put k (.int .u32 (n : Nat))
        have e := rowW_put (L := (wordsB b).take k) (n := 64) n (by rw [HTL.out]; omega)
        rw [HTL.out] at e
        rw [e, HN.out] at h
        exact h)
      have HI2b : Hid (Is ((wr.drewN nq).setCell ⟨g3, k, none⟩ (.int .u32 (n : Nat))) g2 40 (rowW [] 64)) := Lib.hid ((HI2.out.drewN nq).far HNE.out _)
      have HBb : Hid (But [] w ((wr.drewN nq).setCell ⟨g3, k, none⟩ (.int .u32 (n : Nat)))) := Lib.hid ((HB.out.drewN nq).setCell (.inr HL3.out) _)
      clear hI3 hv HV kc
      go_wp2
      go_roundw
      case rel => exact ⟨k + 1, by omega, by go_num, HI2b, HI3b, HBb⟩
      case measure => simp [intOf] <;> omega
    · have HI3b : Hid (Is wr g3 40 (rowW (extWd 0 (wordsB b)) 64)) := Lib.hid (by
        have h := HI3.out
        rw [List.take_of_length_le (by rw [HWL.out]; omega)] at h
        rw [show extWd 0 (wordsB b) = wordsB b by unfold extWd; rfl]
        exact h)
      obtain ⟨k0, hk0⟩ : ∃ z, z = k := ⟨_, rfl⟩
      rw [← hk0] at hlt hk ⊢
      clear HI3 hk0
      obtain ⟨wv, rfl⟩ : ∃ W, W = wr := ⟨wr, rfl⟩
      go_wp2_with fail
      clear hlt hk
      go_loopw [5, 6, 7, 8, 9] (fun kv _ _ _ _ wx => ∃ k : Nat, k ≤ 48 ∧ kv = .int .i64 ((k + 16 : Nat) : Int) ∧ Hid (Is wx g2 40 (rowW [] 64)) ∧ Hid (Is wx g3 40 (rowW (extWd k (wordsB b)) 64)) ∧ Hid (But [] w wx)) (fun kv _ _ _ _ _ => 64 - (intOf kv).toNat)
      case atStart => exact ⟨0, Nat.zero_le _, rfl, HI2, HI3b, HB⟩
      case round =>
        clear HI2 HI3b HB
        obtain ⟨k, hk, rfl, HI2, HI3, HB⟩ := hrel
        obtain ⟨t, ht⟩ : ∃ t, t = k + 16 := ⟨_, rfl⟩
        rw [← ht]
        by_cases hlt : k < 48
        · obtain ⟨X, hX⟩ : ∃ X, X = extWd k (wordsB b) := ⟨_, rfl⟩
          have hXl : X.length = t := by rw [hX, extWd_length, HWL.out, ht]; omega
          have hXs : Small X := by rw [hX]; exact small_ext k (small_words b)
          obtain ⟨i15, h15⟩ : ∃ i, i = t - 15 := ⟨_, rfl⟩
          obtain ⟨i2, h2⟩ : ∃ i, i = t - 2 := ⟨_, rfl⟩
          obtain ⟨i16, h16⟩ : ∃ i, i = t - 16 := ⟨_, rfl⟩
          obtain ⟨i7, h7⟩ : ∃ i, i = t - 7 := ⟨_, rfl⟩
          have e15 : (t : Int) - 15 = (i15 : Int) := by omega
          have e2 : (t : Int) - 2 = (i2 : Int) := by omega
          have e16 : (t : Int) - 16 = (i16 : Int) := by omega
          have e7 : (t : Int) - 7 = (i7 : Int) := by omega
          have w15 := wrapI_in (show i15 < 1000000000000000 by omega)
          have w2 := wrapI_in (show i2 < 1000000000000000 by omega)
          have w16 := wrapI_in (show i16 < 1000000000000000 by omega)
          have w7 := wrapI_in (show i7 < 1000000000000000 by omega)
          obtain ⟨x, hx⟩ : ∃ x, x = X.getD i15 0 := ⟨_, rfl⟩
          obtain ⟨y, hy⟩ : ∃ x, x = X.getD i2 0 := ⟨_, rfl⟩
          obtain ⟨p, hp⟩ : ∃ x, x = X.getD i16 0 := ⟨_, rfl⟩
          obtain ⟨q, hq⟩ : ∃ x, x = X.getD i7 0 := ⟨_, rfl⟩
          have xl : x < 4294967296 := by rw [hx]; exact hXs _
          have yl : y < 4294967296 := by rw [hy]; exact hXs _
          have pl : p < 4294967296 := by rw [hp]; exact hXs _
          have ql : q < 4294967296 := by rw [hq]; exact hXs _
          rw [← hX] at HI3
          have c15 := HI3.out.cell i15
          rw [rowW_at (by omega), ← hx] at c15
          have c2 := HI3.out.cell i2
          rw [rowW_at (by omega), ← hy] at c2
          have c16 := HI3.out.cell i16
          rw [rowW_at (by omega), ← hp] at c16
          have c7 := HI3.out.cell i7
          rw [rowW_at (by omega), ← hq] at c7
          have l15 : i15 < 64 := by omega
          have l2 : i2 < 64 := by omega
          have l16 : i16 < 64 := by omega
          have l7 : i7 < 64 := by omega
          have lt : t < 64 := by omega
          have H7 := Lib.hid fun W => protr_any W (n := 7) xl (by decide)
          have H18 := Lib.hid fun W => protr_any W (n := 18) xl (by decide)
          have H17 := Lib.hid fun W => protr_any W (n := 17) yl (by decide)
          have H19 := Lib.hid fun W => protr_any W (n := 19) yl (by decide)
          obtain ⟨r7, hr7⟩ : ∃ r, r = rotT x 7 := ⟨_, rfl⟩
          obtain ⟨r18, hr18⟩ : ∃ r, r = rotT x 18 := ⟨_, rfl⟩
          obtain ⟨r17, hr17⟩ : ∃ r, r = rotT y 17 := ⟨_, rfl⟩
          obtain ⟨r19, hr19⟩ : ∃ r, r = rotT y 19 := ⟨_, rfl⟩
          rw [← hr7] at H7
          rw [← hr18] at H18
          rw [← hr17] at H17
          rw [← hr19] at H19
          have b7 : r7 < 4294967296 := by rw [hr7]; exact rotT_lt _ _
          have b18 : r18 < 4294967296 := by rw [hr18]; exact rotT_lt _ _
          have b17 : r17 < 4294967296 := by rw [hr17]; exact rotT_lt _ _
          have b19 : r19 < 4294967296 := by rw [hr19]; exact rotT_lt _ _
          obtain ⟨x3, hx3⟩ : ∃ z, z = x / 8 := ⟨_, rfl⟩
          obtain ⟨y10, hy10⟩ : ∃ z, z = y / 1024 := ⟨_, rfl⟩
          have f3 : (x : Int) / 8 = (x3 : Int) := by omega
          have f10 : (y : Int) / 1024 = (y10 : Int) := by omega
          have wx3 : IntKind.u32.wrap (x3 : Int) = (x3 : Int) := wrapW_in (by omega)
          have wy10 : IntKind.u32.wrap (y10 : Int) = (y10 : Int) := wrapW_in (by omega)
          obtain ⟨m0, hm0⟩ : ∃ z, z = r7 ^^^ r18 := ⟨_, rfl⟩
          obtain ⟨s0, hs0⟩ : ∃ z, z = m0 ^^^ x3 := ⟨_, rfl⟩
          obtain ⟨m1, hm1⟩ : ∃ z, z = r17 ^^^ r19 := ⟨_, rfl⟩
          obtain ⟨s1, hs1⟩ : ∃ z, z = m1 ^^^ y10 := ⟨_, rfl⟩
          have lm0 : m0 < 4294967296 := by rw [hm0]; exact Nat.xor_lt_two_pow (n := 32) b7 b18
          have lm1 : m1 < 4294967296 := by rw [hm1]; exact Nat.xor_lt_two_pow (n := 32) b17 b19
          have ls0 : s0 < 4294967296 := by rw [hs0]; exact Nat.xor_lt_two_pow (n := 32) lm0 (show x3 < 2 ^ 32 by omega)
          have ls1 : s1 < 4294967296 := by rw [hs1]; exact Nat.xor_lt_two_pow (n := 32) lm1 (show y10 < 2 ^ 32 by omega)
          have g1 : bits .xor .u32 (r7 : Int) (r18 : Int) = (m0 : Int) := by rw [u32_xor_nat _ _ b7 b18, hm0]
          have g2x : bits .xor .u32 (m0 : Int) (x3 : Int) = (s0 : Int) := by rw [u32_xor_nat _ _ lm0 (by omega), hs0]
          have g3x : bits .xor .u32 (r17 : Int) (r19 : Int) = (m1 : Int) := by rw [u32_xor_nat _ _ b17 b19, hm1]
          have g4 : bits .xor .u32 (m1 : Int) (y10 : Int) = (s1 : Int) := by rw [u32_xor_nat _ _ lm1 (by omega), hs1]
          obtain ⟨a1, ha1⟩ : ∃ z, z = p + s0 := ⟨_, rfl⟩
          obtain ⟨a2, ha2⟩ : ∃ z, z = a1 % 4294967296 := ⟨_, rfl⟩
          obtain ⟨a3, ha3⟩ : ∃ z, z = a2 + q := ⟨_, rfl⟩
          obtain ⟨a4, ha4⟩ : ∃ z, z = a3 % 4294967296 := ⟨_, rfl⟩
          obtain ⟨a5, ha5⟩ : ∃ z, z = a4 + s1 := ⟨_, rfl⟩
          obtain ⟨a6, ha6⟩ : ∃ z, z = a5 % 4294967296 := ⟨_, rfl⟩
          have j1 : (p : Int) + (s0 : Int) = (a1 : Int) := by omega
          have j2 : IntKind.u32.wrap (a1 : Int) = (a2 : Int) := by rw [wrapW, ha2]
          have j3 : (a2 : Int) + (q : Int) = (a3 : Int) := by omega
          have j4 : IntKind.u32.wrap (a3 : Int) = (a4 : Int) := by rw [wrapW, ha4]
          have j5 : (a4 : Int) + (s1 : Int) = (a5 : Int) := by omega
          have j6 : IntKind.u32.wrap (a5 : Int) = (a6 : Int) := by rw [wrapW, ha6]
          have HNX : Hid (X ++ [a6] = extWd (k + 1) (wordsB b)) := Lib.hid (by
            rw [extWd_succ, ← hX, ← nextWd_of (x := x) (y := y) (p := p) (q := q) (s0 := s0) (s1 := s1) hXl (by omega) (by rw [hx, h15]) (by rw [hy, h2]) (by rw [hp, h16]) (by rw [hq, h7]) (by rw [hs0, hm0, hr7, hr18, hx3]) (by rw [hs1, hm1, hr17, hr19, hy10])]
            rw [ha6, ha5, ha4, ha3, ha2, ha1])
          obtain ⟨v, hv⟩ := rowW_some (L := X) (n := 64) (i := t) (by omega) lt
          have ct := HI3.out.cell t
          rw [hv] at ct
          have cf := HI3.out.free t
          have HPUT : Hid ((rowW X 64).setIfInBounds t (.int .u32 (a6 : Nat)) = rowW (extWd (k + 1) (wordsB b)) 64) := Lib.hid (by
            have e := rowW_put (L := X) (n := 64) a6 (by omega)
            rw [hXl] at e
            rw [e, HNX.out])
          have t0 : (0 : Int) ≤ (t : Int) := by omega
          have t64 : (t : Int) < 64 := by omega
          have HT := Lib.hid ht
          clear hX hXl hXs h15 h2 h16 h7 hx hy hp hq hr7 hr18 hr17 hr19 hx3 hy10 hm0 hs0 hm1 hs1 ha1 ha2 ha3 ha4 ha5 ha6 hv HNX ht
          clear xl yl pl ql b7 b18 b17 b19 lm0 lm1 ls0 ls1
          go_upto_region 10 with (fail)
          go_quiet (fail)
          go_wp2_with fail
          refine (H7.out _).mono ?_
          rintro e w1 ⟨rfl, n1, rfl⟩
          go_wp2_with fail
          refine (H18.out _).mono ?_
          rintro e w1 ⟨rfl, n2, rfl⟩
          go_wp2_with fail
          refine (H17.out _).mono ?_
          rintro e w1 ⟨rfl, n3, rfl⟩
          go_wp2_with fail
          refine (H19.out _).mono ?_
          rintro e w1 ⟨rfl, n4, rfl⟩
          have hW3 := (HI3.out.drewN (nq + n1 + n2 + n3)).drewN n4
          have hW2 := (HI2.out.drewN (nq + n1 + n2 + n3)).drewN n4
          have hWB := (HB.out.drewN (nq + n1 + n2 + n3)).drewN n4
          obtain ⟨W1, hW1⟩ : ∃ W, W = (wr.drewN (nq + n1 + n2 + n3)).drewN n4 := ⟨_, rfl⟩
          rw [← hW1] at hW3 hW2 hWB ⊢
          have d16 := hW3.cell i16
          have d7 := hW3.cell i7
          have dt := hW3.cell t
          have df := hW3.free t
          rw [← HI3.out.cell, c16] at d16
          rw [← HI3.out.cell, c7] at d7
          rw [← HI3.out.cell, ct] at dt
          clear c15 c2 c16 c7 ct cf hW1
          have HI3b : Hid (Is (W1.setCell ⟨g3, t, none⟩ (.int .u32 (a6 : Nat))).drew g3 40 (rowW (extWd (k + 1) (wordsB b)) 64)) := Lib.hid (by
            have h := (hW3.put t (.int .u32 (a6 : Nat))).drew
            rw [HPUT.out] at h
            exact h)
          have HI2b : Hid (Is (W1.setCell ⟨g3, t, none⟩ (.int .u32 (a6 : Nat))).drew g2 40 (rowW [] 64)) := Lib.hid (hW2.far HNE.out _).drew
          have HBb : Hid (But [] w (W1.setCell ⟨g3, t, none⟩ (.int .u32 (a6 : Nat))).drew) := Lib.hid (hWB.setCell (.inr HL3.out) _).drew
          clear hW3 hW2 hWB HI3 HI2 HB HPUT
          go_wp2_with fail
          go_region
          all_goals
            go_wp2
            go_roundw
            case rel => refine ⟨k + 1, by omega, ?_, HI2b, HI3b, HBb⟩; have := HT.out; go_num
            case measure => simp [intOf] <;> omega
        · have h48 : k = 48 := by omega
          have hz2 : (rowW [] 64).size = 64 := rowW_size (by decide)
          rw [h48] at HI3
          have hz3 : (rowW (extWd 48 (wordsB b)) 64).size = 64 := rowW_size (by rw [extWd_length, HWL.out]; decide)
          have HI4 := HI2.out.row (rowW (extWd 48 (wordsB b)) 64)
          have HB4 := HB.out.setRow (b := g2) (.inr HL2.out) (rowW (extWd 48 (wordsB b)) 64)
          have t64 : ¬ (t : Int) < 64 := by omega
          go_wp2_with (first
            | (refine wpList_load_is 40 rfl _ rfl rfl (by rw [hz3]; exact agg64) HI3.out ?_)
            | (refine wpList_store_is 40 rfl _ _ rfl rfl rfl (by rw [hz3]; exact agg64) HI2.out (by rw [hz2, hz3]) rowW_one ?_))
          refine bodyPost_ret (v := .agg (rowW (extWd 48 (wordsB b)) 64)) ?_ rfl ⟨rfl, HB4⟩
          have hl := loadVar_is (T := 40) HI4 (by rw [hz3]; exact agg64)
          simp [results, Tryd.results19, asAddr, hl]
end Go.Proofs.YtgemmidkfeebfaaDoor
