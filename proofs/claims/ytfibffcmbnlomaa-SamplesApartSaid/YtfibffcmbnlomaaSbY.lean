/- The walks of the statements on samples that are unpacked again, and on unlike samples. -/
import Derived.Test.YtfibffcmbnlomaaSbQ
import Derived.Test.YtfibffcmbnlomaaSbN
import Derived.Test.YtfibffcmbnlomaaSbI
import Derived.BigQuiet
set_option maxRecDepth 100000
set_option linter.unusedVariables false
namespace Go.Proofs.Ytfibffcmbnlomaa
set_option maxRecDepth 100000
open Go Go.RowKit
theorem unpackA_pack {D n : Nat} {L : List Nat} (hL : L.length = n) (hD : depB (D : Int) = true) (h1 : 1 ≤ D) (hn : n ≤ 4096) : unpackA (strL (packT D L)) (D : Int) (n : Int) = (L.map (· % 2 ^ D), 0) := by
  unfold unpackA
  rw [if_neg (by rintro (h | h | h); rw [hD] at h; cases h; omega; omega), if_neg (by
    rw [strL_size, packT_length, hL, ← Int.natCast_mul]
    omega), strL_list]
  show (unpackT (packT D L) D n, (0 : Int)) = _
  rw [← hL, unpack_pack h1]
set_option maxHeartbeats 2000000 in
theorem samplesBack_walk (haw : Awk11) {d : Int} {A : Option Addr} {len cap : Nat} {l : List Int} (hd : (Lit.int .i64 d).wf = true) {w : World} (hl : Zs w A len l) (hb : len * 8 ≤ 140737488351232) (hcap : len ≤ cap) (hnil : A = none → cap = 0) (hf : ZFit l) :
    Calls Try.prog 7 #[.int .i64 d, .slice A len cap] w fun e w' => e = .returned (.bool true) ∧ Below w.heap.size w w' := by
  have HA := Lib.hid haw
  have hlen := hl.1
  have HLEN := Lib.hid hlen
  clear haw hd
  by_cases hbig : 4096 < len
  · clear hl hnil hf hlen
    go_enter Try.func7, Try.ntmps7
    go_wp2_with fail
    refine (HA.out.use _).mono ?_
    rintro e w4 ⟨rfl, hB4⟩
    have HB4 := Lib.hid hB4
    clear hB4
    go_wp2
    go_ret
    exact ⟨rfl, HB4.out.belowS⟩
  have HP0 := Lib.hid fun (v : World) (h : Zs v A len l) => ppack_any v (cp := cap) (d := d) h (by omega)
  cases hd : depB d with
  | false =>
    have hpk : packA d l = ([], 1) := by unfold packA; rw [if_pos hd]
    have HP : Hid (Calls Try.prog 15 #[.int .i64 d, .slice A len cap] w fun e w' => e = .returned (.tuple #[.string ⟨#[]⟩, .int .i64 1]) ∧ But [] w w') := Lib.hid (by have h := HP0.out w hl; rw [hpk] at h; exact h)
    clear hl hnil hf hlen hd hpk HP0
    go_enter Try.func7, Try.ntmps7
    go_wp2_with fail
    refine HP.out.mono ?_
    rintro e w2 ⟨rfl, hB2⟩
    have HB2 := Lib.hid hB2
    clear hB2
    go_wp2_with fail
    refine (HA.out.use _).mono ?_
    rintro e w4 ⟨rfl, hB4⟩
    have HB4 := Lib.hid (HB2.out.trans hB4)
    clear hB4
    go_wp2
    go_ret
    exact ⟨rfl, HB4.out.belowS⟩
  | true =>
    obtain ⟨D, rfl, hdep, hD1, hD16⟩ := depB_nat hd
    obtain ⟨L, hL⟩ : ∃ L, L = l.map lowN := ⟨_, rfl⟩
    have hLl : L.length = len := by rw [hL, List.length_map]; exact hlen
    obtain ⟨R, hR⟩ : ∃ R, R = strL (packT D L) := ⟨_, rfl⟩
    have hpk : packA (D : Int) l = (packT D L, 0) := by unfold packA; rw [if_neg (by rw [hd]; decide), hL]; rfl
    have HP : Hid (Calls Try.prog 15 #[.int .i64 D, .slice A len cap] w fun e w' => e = .returned (.tuple #[.string R, .int .i64 0]) ∧ But [] w w') := Lib.hid (by have h := HP0.out w hl; rw [hpk, ← hR] at h; exact h)
    obtain ⟨U, hU⟩ : ∃ U, U = L.map (· % 2 ^ D) := ⟨_, rfl⟩
    have hUl : U.length = len := by rw [hU, List.length_map]; exact hLl
    obtain ⟨t, ht⟩ : ∃ t, t = len * D := ⟨_, rfl⟩
    have e0 : (len : Int) * (D : Int) = (t : Int) := by rw [ht, Int.natCast_mul]
    have ht2 : t ≤ 65536 := by rw [ht]; show _ ≤ 4096 * 16; exact Nat.mul_le_mul (by omega) hD16
    obtain ⟨T, hT⟩ : ∃ T, T = (t + 7) / 8 := ⟨_, rfl⟩
    have hRs : R.size = T := by rw [hR, strL_size, packT_length, hLl, ← ht, hT]
    have hRs2 : R.size ≤ 140737488351232 := by omega
    have HU : Hid (∀ v, Calls Try.prog 11 #[.string R, .int .i64 D, .int .i64 (len : Nat)] v fun e w' => ∃ A cap, e = .returned (.tuple #[.slice A len cap, .int .i64 0]) ∧ Nums w' A len U ∧ len ≤ cap ∧ But [] v w') := Lib.hid fun v => by
      have h := punpack_any v (s := R) (d := (D : Int)) (n := (len : Int)) hRs2
      rw [hR, unpackA_pack hLl hd hD1 (by omega), ← hR, ← hU] at h
      unfold GotN at h
      rw [hUl] at h
      exact h
    have g1 : ((t : Int) + 7).tdiv 8 = (T : Int) := by rw [Int.tdiv_eq_ediv_of_nonneg (by omega)]; omega
    have g2 : ((t : Int) + 7) / 8 = (T : Int) := by omega
    have HX : Hid (∀ (i : Nat) (x : Int) (u : Nat), l[i]? = some x → U[i]? = some u → x % 2 ^ D = ((u : Nat) : Int)) := Lib.hid fun i x u hx hu => by
      rw [hU, hL, List.getElem?_map, List.getElem?_map, hx] at hu
      have hu2 : lowN x % 2 ^ D = u := Option.some.inj hu
      rw [← hu2]
      exact lowN_low hdep
    obtain ⟨M, hM⟩ : ∃ M, M = 2 ^ D := ⟨_, rfl⟩
    have hM1 : 1 ≤ M := by rw [hM]; exact Nat.pow_pos (by decide)
    have hM2 : M ≤ 65536 := by rw [hM]; exact Nat.pow_le_pow_right (by decide) hD16
    have p1 : (2 : Int) ^ D = (M : Int) := by rw [hM]; simp
    have t7 : IntKind.i64.wrap (M : Int) = (M : Int) := by rw [IntKind.wrap_i64]; omega
    obtain ⟨G, hG⟩ : ∃ G : Nat, G = M - 1 := ⟨_, rfl⟩
    have eG : (M : Int) - 1 = (G : Int) := by omega
    have v1 := wrapI_in (show G < 1000000000000000 by omega)
    have HMK : Hid (∀ x : Int, bits .and .i64 x (G : Int) = x % 2 ^ D) := Lib.hid fun x => by
      have h := i64_mask x D (by omega)
      rw [p1, eG] at h
      rw [p1]
      exact h
    have vt := wrapI_in (show t < 1000000000000000 by omega)
    have vT := wrapI_in (show T < 1000000000000000 by omega)
    have HL := Lib.hid hl
    clear hl hnil hf hlen hd hdep hL hLl hR hpk hU hUl ht hT hM hG HP0 hRs2
    go_enter Try.func7, Try.ntmps7
    go_wp2_with fail
    refine HP.out.mono ?_
    rintro e w2 ⟨rfl, hB2⟩
    have HB2 := Lib.hid hB2
    clear hB2
    go_wp2_with fail
    refine (HU.out _).mono ?_
    rintro e w3 ⟨A3, cap3, rfl, hN3, hcap3, hB3⟩
    have HN3 := Lib.hid hN3
    have HB3 := Lib.hid (HB2.out.trans hB3)
    clear hN3 hB3 HB2
    go_wp2_with fail
    go_loopw [9] (fun iv wr => ∃ i : Nat, i ≤ len ∧ iv = .int .i64 i ∧ Hid (But [] w3 wr)) (fun iv _ => len - (intOf iv).toNat)
    case atStart => exact ⟨0, Nat.zero_le _, rfl, Lib.hid (But.refl [] _)⟩
    case round =>
      obtain ⟨i, hi, rfl, HB⟩ := hrel
      by_cases hlt : i < len
      · obtain ⟨g, o, x, rfl, hg, hx, k0⟩ := (HL.out.but (HB3.out.trans HB.out)).at hlt
        obtain ⟨g2, o2, u, rfl, hg2, hu, k2⟩ := (HN3.out.but HB.out).at hlt
        have hxu : bits .and .i64 x (G : Int) = (u : Int) := by rw [HMK.out]; exact HX.out i x u hx hu
        have i0 : (0 : Int) ≤ (i : Int) := by omega
        have i1 : (i : Int) < (len : Int) := by omega
        have HBd : Hid (∀ N, But [] w3 (wr.drewN N)) := Lib.hid fun N => HB.out.drewN N
        clear hx hu HB
        go_upto_region 12 with (fail)
        go_quiet (fail)
        go_wp2
        go_roundw
        case rel => exact ⟨i + 1, by omega, by go_num, HBd.out _⟩
        case measure => simp [intOf] <;> omega
      · obtain rfl : len = i := by omega
        go_wp2_with fail
        refine (HA.out.use _).mono ?_
        rintro e w4 ⟨rfl, hB4⟩
        have HB4 := Lib.hid (HB3.out.trans (HB.out.trans hB4))
        clear hB4
        go_wp2
        go_ret
        exact ⟨rfl, HB4.out.belowS⟩
set_option maxHeartbeats 1000000 in
theorem samplesApart_1 (haw : Awk11) {a c : Int} {w : World} (ha : -9223372036854775808 ≤ a ∧ a ≤ 9223372036854775807) (hc : -9223372036854775808 ≤ c ∧ c ≤ 9223372036854775807) :
    Calls Try.prog 8 #[.int .i64 1, .agg #[.int .i64 a, .int .i64 c]] w fun e w' => e = .returned (.bool true) ∧ Below w.heap.size w w' := by
  have HA := Lib.hid haw
  have hdep : isDepth 1 := by unfold isDepth; omega
  have hB := (But.refl [] w).alloc (.cells #[.int .i64 a, .int .i64 c] 42)
  have HB := Lib.hid hB
  have hI := Is.fresh w 42 #[.int .i64 a, .int .i64 c]
  have c0 := hI.cell 0
  have c1 := hI.cell 1
  obtain ⟨x, hx⟩ : ∃ x : Nat, x = (a % 2).toNat := ⟨_, rfl⟩
  obtain ⟨y, hy⟩ : ∃ x : Nat, x = (c % 2).toNat := ⟨_, rfl⟩
  have hxl : x < 2 := by omega
  have hyl : y < 2 := by omega
  have ea : bits .and .i64 a 1 = (x : Int) := by
    have h := i64_mask a 1 (by decide)
    have e : (2 : Int) ^ 1 - 1 = 1 := by decide
    have e2 : (2 : Int) ^ 1 = 2 := by decide
    rw [e, e2] at h
    omega
  have ec : bits .and .i64 c 1 = (y : Int) := by
    have h := i64_mask c 1 (by decide)
    have e : (2 : Int) ^ 1 - 1 = 1 := by decide
    have e2 : (2 : Int) ^ 1 = 2 := by decide
    rw [e, e2] at h
    omega
  have hw : ∀ z : Nat, z < 2 → wideA (z : Int) 1 = wideN z 1 := fun z hz => by
    have h := wideA_yes (v := (z : Int)) (D := 1) (by decide)
    rw [show ((1 : Nat) : Int) = 1 from rfl] at h
    rw [h]
    have e2 : (2 : Int) ^ 1 = 2 := by decide
    have e3 : ((z : Int) % 2 ^ 1).toNat = z := by rw [e2]; omega
    rw [e3]
    rfl
  obtain ⟨X, hX⟩ : ∃ z, z = wideN x 1 := ⟨_, rfl⟩
  obtain ⟨Y, hY⟩ : ∃ z, z = wideN y 1 := ⟨_, rfl⟩
  have HX : Hid (∀ W, Calls Try.prog 17 #[.int .i64 (x : Nat), .int .i64 1] W fun e w' => e = .returned (.int .i64 (X : Nat)) ∧ W = w') := Lib.hid fun W => by
    have h := swide_any W (x : Int) 1
    rw [hw x hxl, ← hX] at h
    exact h
  have HY : Hid (∀ W, Calls Try.prog 17 #[.int .i64 (y : Nat), .int .i64 1] W fun e w' => e = .returned (.int .i64 (Y : Nat)) ∧ W = w') := Lib.hid fun W => by
    have h := swide_any W (y : Int) 1
    rw [hw y hyl, ← hY] at h
    exact h
  have HM : Hid (∀ W, Calls Try.prog 17 #[.int .i64 1, .int .i64 1] W fun e w' => e = .returned (.int .i64 65535) ∧ W = w') := Lib.hid fun W => by
    have h := swide_any W ((1 : Nat) : Int) 1
    rw [hw 1 (by decide)] at h
    have e : wideN 1 1 = 65535 := by decide
    rw [e] at h
    exact h
  have hX2 : X ≤ 65535 := by rw [hX]; exact wideN_le hdep (by show x ≤ 1; omega)
  have hlt : X < Y ↔ x < y := by rw [hX, hY]; exact wideN_lt hdep x y
  have heq : X = Y ↔ x = y := by rw [hX, hY]; exact wideN_eq hdep x y
  clear haw hB hI hx hy hX hY hdep hw
  rcases Nat.lt_trichotomy x y with h | h | h
  · have h2 : ¬ x = y := by omega
    have h3 : X < Y := hlt.2 h
    have h4 : ¬ X = Y := by omega
    have h6 : ((x : Int) == (y : Int)) = false := by simp; omega
    have h7 : ((X : Int) == (Y : Int)) = false := by simp; omega
    clear hlt heq
    go_enter Try.func8, Try.ntmps8
    go_wp2_with fail
    refine (HX.out _).mono ?_
    rintro e wz ⟨rfl, rfl⟩
    go_wp2_with fail
    refine (HY.out _).mono ?_
    rintro e wz ⟨rfl, rfl⟩
    go_wp2_with fail
    refine (HM.out _).mono ?_
    rintro e wz ⟨rfl, rfl⟩
    go_wp2_with fail
    refine (HA.out.use _).mono ?_
    rintro e w4 ⟨rfl, hB4⟩
    have HB4 := Lib.hid (HB.out.trans hB4)
    clear hB4
    go_wp2
    go_ret
    exact ⟨rfl, HB4.out.belowS⟩
  · subst h
    obtain rfl : X = Y := heq.2 rfl
    clear hlt heq HY
    go_enter Try.func8, Try.ntmps8
    go_wp2_with fail
    refine (HX.out _).mono ?_
    rintro e wz ⟨rfl, rfl⟩
    go_wp2_with fail
    refine (HX.out _).mono ?_
    rintro e wz ⟨rfl, rfl⟩
    go_wp2_with fail
    refine (HM.out _).mono ?_
    rintro e wz ⟨rfl, rfl⟩
    go_wp2_with fail
    refine (HA.out.use _).mono ?_
    rintro e w4 ⟨rfl, hB4⟩
    have HB4 := Lib.hid (HB.out.trans hB4)
    clear hB4
    go_wp2
    go_ret
    exact ⟨rfl, HB4.out.belowS⟩
  · have h2 : ¬ x = y := by omega
    have h3 : ¬ X < Y := fun k => by have := hlt.1 k; omega
    have h4 : ¬ X = Y := fun k => h2 (heq.1 k)
    have h5 : ¬ x < y := by omega
    have h6 : ((x : Int) == (y : Int)) = false := by simp; omega
    have h7 : ((X : Int) == (Y : Int)) = false := by simp; omega
    clear hlt heq
    go_enter Try.func8, Try.ntmps8
    go_wp2_with fail
    refine (HX.out _).mono ?_
    rintro e wz ⟨rfl, rfl⟩
    go_wp2_with fail
    refine (HY.out _).mono ?_
    rintro e wz ⟨rfl, rfl⟩
    go_wp2_with fail
    refine (HM.out _).mono ?_
    rintro e wz ⟨rfl, rfl⟩
    go_wp2_with fail
    refine (HA.out.use _).mono ?_
    rintro e w4 ⟨rfl, hB4⟩
    have HB4 := Lib.hid (HB.out.trans hB4)
    clear hB4
    go_wp2
    go_ret
    exact ⟨rfl, HB4.out.belowS⟩
set_option maxHeartbeats 1000000 in
theorem samplesApart_2 (haw : Awk11) {a c : Int} {w : World} (ha : -9223372036854775808 ≤ a ∧ a ≤ 9223372036854775807) (hc : -9223372036854775808 ≤ c ∧ c ≤ 9223372036854775807) :
    Calls Try.prog 8 #[.int .i64 2, .agg #[.int .i64 a, .int .i64 c]] w fun e w' => e = .returned (.bool true) ∧ Below w.heap.size w w' := by
  have HA := Lib.hid haw
  have hdep : isDepth 2 := by unfold isDepth; omega
  have hB := (But.refl [] w).alloc (.cells #[.int .i64 a, .int .i64 c] 42)
  have HB := Lib.hid hB
  have hI := Is.fresh w 42 #[.int .i64 a, .int .i64 c]
  have c0 := hI.cell 0
  have c1 := hI.cell 1
  obtain ⟨x, hx⟩ : ∃ x : Nat, x = (a % 4).toNat := ⟨_, rfl⟩
  obtain ⟨y, hy⟩ : ∃ x : Nat, x = (c % 4).toNat := ⟨_, rfl⟩
  have hxl : x < 4 := by omega
  have hyl : y < 4 := by omega
  have ea : bits .and .i64 a 3 = (x : Int) := by
    have h := i64_mask a 2 (by decide)
    have e : (2 : Int) ^ 2 - 1 = 3 := by decide
    have e2 : (2 : Int) ^ 2 = 4 := by decide
    rw [e, e2] at h
    omega
  have ec : bits .and .i64 c 3 = (y : Int) := by
    have h := i64_mask c 2 (by decide)
    have e : (2 : Int) ^ 2 - 1 = 3 := by decide
    have e2 : (2 : Int) ^ 2 = 4 := by decide
    rw [e, e2] at h
    omega
  have hw : ∀ z : Nat, z < 4 → wideA (z : Int) 2 = wideN z 2 := fun z hz => by
    have h := wideA_yes (v := (z : Int)) (D := 2) (by decide)
    rw [show ((2 : Nat) : Int) = 2 from rfl] at h
    rw [h]
    have e2 : (2 : Int) ^ 2 = 4 := by decide
    have e3 : ((z : Int) % 2 ^ 2).toNat = z := by rw [e2]; omega
    rw [e3]
    rfl
  obtain ⟨X, hX⟩ : ∃ z, z = wideN x 2 := ⟨_, rfl⟩
  obtain ⟨Y, hY⟩ : ∃ z, z = wideN y 2 := ⟨_, rfl⟩
  have HX : Hid (∀ W, Calls Try.prog 17 #[.int .i64 (x : Nat), .int .i64 2] W fun e w' => e = .returned (.int .i64 (X : Nat)) ∧ W = w') := Lib.hid fun W => by
    have h := swide_any W (x : Int) 2
    rw [hw x hxl, ← hX] at h
    exact h
  have HY : Hid (∀ W, Calls Try.prog 17 #[.int .i64 (y : Nat), .int .i64 2] W fun e w' => e = .returned (.int .i64 (Y : Nat)) ∧ W = w') := Lib.hid fun W => by
    have h := swide_any W (y : Int) 2
    rw [hw y hyl, ← hY] at h
    exact h
  have HM : Hid (∀ W, Calls Try.prog 17 #[.int .i64 3, .int .i64 2] W fun e w' => e = .returned (.int .i64 65535) ∧ W = w') := Lib.hid fun W => by
    have h := swide_any W ((3 : Nat) : Int) 2
    rw [hw 3 (by decide)] at h
    have e : wideN 3 2 = 65535 := by decide
    rw [e] at h
    exact h
  have hX2 : X ≤ 65535 := by rw [hX]; exact wideN_le hdep (by show x ≤ 3; omega)
  have hlt : X < Y ↔ x < y := by rw [hX, hY]; exact wideN_lt hdep x y
  have heq : X = Y ↔ x = y := by rw [hX, hY]; exact wideN_eq hdep x y
  clear haw hB hI hx hy hX hY hdep hw
  rcases Nat.lt_trichotomy x y with h | h | h
  · have h2 : ¬ x = y := by omega
    have h3 : X < Y := hlt.2 h
    have h4 : ¬ X = Y := by omega
    have h6 : ((x : Int) == (y : Int)) = false := by simp; omega
    have h7 : ((X : Int) == (Y : Int)) = false := by simp; omega
    clear hlt heq
    go_enter Try.func8, Try.ntmps8
    go_wp2_with fail
    refine (HX.out _).mono ?_
    rintro e wz ⟨rfl, rfl⟩
    go_wp2_with fail
    refine (HY.out _).mono ?_
    rintro e wz ⟨rfl, rfl⟩
    go_wp2_with fail
    refine (HM.out _).mono ?_
    rintro e wz ⟨rfl, rfl⟩
    go_wp2_with fail
    refine (HA.out.use _).mono ?_
    rintro e w4 ⟨rfl, hB4⟩
    have HB4 := Lib.hid (HB.out.trans hB4)
    clear hB4
    go_wp2
    go_ret
    exact ⟨rfl, HB4.out.belowS⟩
  · subst h
    obtain rfl : X = Y := heq.2 rfl
    clear hlt heq HY
    go_enter Try.func8, Try.ntmps8
    go_wp2_with fail
    refine (HX.out _).mono ?_
    rintro e wz ⟨rfl, rfl⟩
    go_wp2_with fail
    refine (HX.out _).mono ?_
    rintro e wz ⟨rfl, rfl⟩
    go_wp2_with fail
    refine (HM.out _).mono ?_
    rintro e wz ⟨rfl, rfl⟩
    go_wp2_with fail
    refine (HA.out.use _).mono ?_
    rintro e w4 ⟨rfl, hB4⟩
    have HB4 := Lib.hid (HB.out.trans hB4)
    clear hB4
    go_wp2
    go_ret
    exact ⟨rfl, HB4.out.belowS⟩
  · have h2 : ¬ x = y := by omega
    have h3 : ¬ X < Y := fun k => by have := hlt.1 k; omega
    have h4 : ¬ X = Y := fun k => h2 (heq.1 k)
    have h5 : ¬ x < y := by omega
    have h6 : ((x : Int) == (y : Int)) = false := by simp; omega
    have h7 : ((X : Int) == (Y : Int)) = false := by simp; omega
    clear hlt heq
    go_enter Try.func8, Try.ntmps8
    go_wp2_with fail
    refine (HX.out _).mono ?_
    rintro e wz ⟨rfl, rfl⟩
    go_wp2_with fail
    refine (HY.out _).mono ?_
    rintro e wz ⟨rfl, rfl⟩
    go_wp2_with fail
    refine (HM.out _).mono ?_
    rintro e wz ⟨rfl, rfl⟩
    go_wp2_with fail
    refine (HA.out.use _).mono ?_
    rintro e w4 ⟨rfl, hB4⟩
    have HB4 := Lib.hid (HB.out.trans hB4)
    clear hB4
    go_wp2
    go_ret
    exact ⟨rfl, HB4.out.belowS⟩
set_option maxHeartbeats 1000000 in
theorem samplesApart_4 (haw : Awk11) {a c : Int} {w : World} (ha : -9223372036854775808 ≤ a ∧ a ≤ 9223372036854775807) (hc : -9223372036854775808 ≤ c ∧ c ≤ 9223372036854775807) :
    Calls Try.prog 8 #[.int .i64 4, .agg #[.int .i64 a, .int .i64 c]] w fun e w' => e = .returned (.bool true) ∧ Below w.heap.size w w' := by
  have HA := Lib.hid haw
  have hdep : isDepth 4 := by unfold isDepth; omega
  have hB := (But.refl [] w).alloc (.cells #[.int .i64 a, .int .i64 c] 42)
  have HB := Lib.hid hB
  have hI := Is.fresh w 42 #[.int .i64 a, .int .i64 c]
  have c0 := hI.cell 0
  have c1 := hI.cell 1
  obtain ⟨x, hx⟩ : ∃ x : Nat, x = (a % 16).toNat := ⟨_, rfl⟩
  obtain ⟨y, hy⟩ : ∃ x : Nat, x = (c % 16).toNat := ⟨_, rfl⟩
  have hxl : x < 16 := by omega
  have hyl : y < 16 := by omega
  have ea : bits .and .i64 a 15 = (x : Int) := by
    have h := i64_mask a 4 (by decide)
    have e : (2 : Int) ^ 4 - 1 = 15 := by decide
    have e2 : (2 : Int) ^ 4 = 16 := by decide
    rw [e, e2] at h
    omega
  have ec : bits .and .i64 c 15 = (y : Int) := by
    have h := i64_mask c 4 (by decide)
    have e : (2 : Int) ^ 4 - 1 = 15 := by decide
    have e2 : (2 : Int) ^ 4 = 16 := by decide
    rw [e, e2] at h
    omega
  have hw : ∀ z : Nat, z < 16 → wideA (z : Int) 4 = wideN z 4 := fun z hz => by
    have h := wideA_yes (v := (z : Int)) (D := 4) (by decide)
    rw [show ((4 : Nat) : Int) = 4 from rfl] at h
    rw [h]
    have e2 : (2 : Int) ^ 4 = 16 := by decide
    have e3 : ((z : Int) % 2 ^ 4).toNat = z := by rw [e2]; omega
    rw [e3]
    rfl
  obtain ⟨X, hX⟩ : ∃ z, z = wideN x 4 := ⟨_, rfl⟩
  obtain ⟨Y, hY⟩ : ∃ z, z = wideN y 4 := ⟨_, rfl⟩
  have HX : Hid (∀ W, Calls Try.prog 17 #[.int .i64 (x : Nat), .int .i64 4] W fun e w' => e = .returned (.int .i64 (X : Nat)) ∧ W = w') := Lib.hid fun W => by
    have h := swide_any W (x : Int) 4
    rw [hw x hxl, ← hX] at h
    exact h
  have HY : Hid (∀ W, Calls Try.prog 17 #[.int .i64 (y : Nat), .int .i64 4] W fun e w' => e = .returned (.int .i64 (Y : Nat)) ∧ W = w') := Lib.hid fun W => by
    have h := swide_any W (y : Int) 4
    rw [hw y hyl, ← hY] at h
    exact h
  have HM : Hid (∀ W, Calls Try.prog 17 #[.int .i64 15, .int .i64 4] W fun e w' => e = .returned (.int .i64 65535) ∧ W = w') := Lib.hid fun W => by
    have h := swide_any W ((15 : Nat) : Int) 4
    rw [hw 15 (by decide)] at h
    have e : wideN 15 4 = 65535 := by decide
    rw [e] at h
    exact h
  have hX2 : X ≤ 65535 := by rw [hX]; exact wideN_le hdep (by show x ≤ 15; omega)
  have hlt : X < Y ↔ x < y := by rw [hX, hY]; exact wideN_lt hdep x y
  have heq : X = Y ↔ x = y := by rw [hX, hY]; exact wideN_eq hdep x y
  clear haw hB hI hx hy hX hY hdep hw
  rcases Nat.lt_trichotomy x y with h | h | h
  · have h2 : ¬ x = y := by omega
    have h3 : X < Y := hlt.2 h
    have h4 : ¬ X = Y := by omega
    have h6 : ((x : Int) == (y : Int)) = false := by simp; omega
    have h7 : ((X : Int) == (Y : Int)) = false := by simp; omega
    clear hlt heq
    go_enter Try.func8, Try.ntmps8
    go_wp2_with fail
    refine (HX.out _).mono ?_
    rintro e wz ⟨rfl, rfl⟩
    go_wp2_with fail
    refine (HY.out _).mono ?_
    rintro e wz ⟨rfl, rfl⟩
    go_wp2_with fail
    refine (HM.out _).mono ?_
    rintro e wz ⟨rfl, rfl⟩
    go_wp2_with fail
    refine (HA.out.use _).mono ?_
    rintro e w4 ⟨rfl, hB4⟩
    have HB4 := Lib.hid (HB.out.trans hB4)
    clear hB4
    go_wp2
    go_ret
    exact ⟨rfl, HB4.out.belowS⟩
  · subst h
    obtain rfl : X = Y := heq.2 rfl
    clear hlt heq HY
    go_enter Try.func8, Try.ntmps8
    go_wp2_with fail
    refine (HX.out _).mono ?_
    rintro e wz ⟨rfl, rfl⟩
    go_wp2_with fail
    refine (HX.out _).mono ?_
    rintro e wz ⟨rfl, rfl⟩
    go_wp2_with fail
    refine (HM.out _).mono ?_
    rintro e wz ⟨rfl, rfl⟩
    go_wp2_with fail
    refine (HA.out.use _).mono ?_
    rintro e w4 ⟨rfl, hB4⟩
    have HB4 := Lib.hid (HB.out.trans hB4)
    clear hB4
    go_wp2
    go_ret
    exact ⟨rfl, HB4.out.belowS⟩
  · have h2 : ¬ x = y := by omega
    have h3 : ¬ X < Y := fun k => by have := hlt.1 k; omega
    have h4 : ¬ X = Y := fun k => h2 (heq.1 k)
    have h5 : ¬ x < y := by omega
    have h6 : ((x : Int) == (y : Int)) = false := by simp; omega
    have h7 : ((X : Int) == (Y : Int)) = false := by simp; omega
    clear hlt heq
    go_enter Try.func8, Try.ntmps8
    go_wp2_with fail
    refine (HX.out _).mono ?_
    rintro e wz ⟨rfl, rfl⟩
    go_wp2_with fail
    refine (HY.out _).mono ?_
    rintro e wz ⟨rfl, rfl⟩
    go_wp2_with fail
    refine (HM.out _).mono ?_
    rintro e wz ⟨rfl, rfl⟩
    go_wp2_with fail
    refine (HA.out.use _).mono ?_
    rintro e w4 ⟨rfl, hB4⟩
    have HB4 := Lib.hid (HB.out.trans hB4)
    clear hB4
    go_wp2
    go_ret
    exact ⟨rfl, HB4.out.belowS⟩
set_option maxHeartbeats 1000000 in
theorem samplesApart_8 (haw : Awk11) {a c : Int} {w : World} (ha : -9223372036854775808 ≤ a ∧ a ≤ 9223372036854775807) (hc : -9223372036854775808 ≤ c ∧ c ≤ 9223372036854775807) :
    Calls Try.prog 8 #[.int .i64 8, .agg #[.int .i64 a, .int .i64 c]] w fun e w' => e = .returned (.bool true) ∧ Below w.heap.size w w' := by
  have HA := Lib.hid haw
  have hdep : isDepth 8 := by unfold isDepth; omega
  have hB := (But.refl [] w).alloc (.cells #[.int .i64 a, .int .i64 c] 42)
  have HB := Lib.hid hB
  have hI := Is.fresh w 42 #[.int .i64 a, .int .i64 c]
  have c0 := hI.cell 0
  have c1 := hI.cell 1
  obtain ⟨x, hx⟩ : ∃ x : Nat, x = (a % 256).toNat := ⟨_, rfl⟩
  obtain ⟨y, hy⟩ : ∃ x : Nat, x = (c % 256).toNat := ⟨_, rfl⟩
  have hxl : x < 256 := by omega
  have hyl : y < 256 := by omega
  have ea : bits .and .i64 a 255 = (x : Int) := by
    have h := i64_mask a 8 (by decide)
    have e : (2 : Int) ^ 8 - 1 = 255 := by decide
    have e2 : (2 : Int) ^ 8 = 256 := by decide
    rw [e, e2] at h
    omega
  have ec : bits .and .i64 c 255 = (y : Int) := by
    have h := i64_mask c 8 (by decide)
    have e : (2 : Int) ^ 8 - 1 = 255 := by decide
    have e2 : (2 : Int) ^ 8 = 256 := by decide
    rw [e, e2] at h
    omega
  have hw : ∀ z : Nat, z < 256 → wideA (z : Int) 8 = wideN z 8 := fun z hz => by
    have h := wideA_yes (v := (z : Int)) (D := 8) (by decide)
    rw [show ((8 : Nat) : Int) = 8 from rfl] at h
    rw [h]
    have e2 : (2 : Int) ^ 8 = 256 := by decide
    have e3 : ((z : Int) % 2 ^ 8).toNat = z := by rw [e2]; omega
    rw [e3]
    rfl
  obtain ⟨X, hX⟩ : ∃ z, z = wideN x 8 := ⟨_, rfl⟩
  obtain ⟨Y, hY⟩ : ∃ z, z = wideN y 8 := ⟨_, rfl⟩
  have HX : Hid (∀ W, Calls Try.prog 17 #[.int .i64 (x : Nat), .int .i64 8] W fun e w' => e = .returned (.int .i64 (X : Nat)) ∧ W = w') := Lib.hid fun W => by
    have h := swide_any W (x : Int) 8
    rw [hw x hxl, ← hX] at h
    exact h
  have HY : Hid (∀ W, Calls Try.prog 17 #[.int .i64 (y : Nat), .int .i64 8] W fun e w' => e = .returned (.int .i64 (Y : Nat)) ∧ W = w') := Lib.hid fun W => by
    have h := swide_any W (y : Int) 8
    rw [hw y hyl, ← hY] at h
    exact h
  have HM : Hid (∀ W, Calls Try.prog 17 #[.int .i64 255, .int .i64 8] W fun e w' => e = .returned (.int .i64 65535) ∧ W = w') := Lib.hid fun W => by
    have h := swide_any W ((255 : Nat) : Int) 8
    rw [hw 255 (by decide)] at h
    have e : wideN 255 8 = 65535 := by decide
    rw [e] at h
    exact h
  have hX2 : X ≤ 65535 := by rw [hX]; exact wideN_le hdep (by show x ≤ 255; omega)
  have hlt : X < Y ↔ x < y := by rw [hX, hY]; exact wideN_lt hdep x y
  have heq : X = Y ↔ x = y := by rw [hX, hY]; exact wideN_eq hdep x y
  clear haw hB hI hx hy hX hY hdep hw
  rcases Nat.lt_trichotomy x y with h | h | h
  · have h2 : ¬ x = y := by omega
    have h3 : X < Y := hlt.2 h
    have h4 : ¬ X = Y := by omega
    have h6 : ((x : Int) == (y : Int)) = false := by simp; omega
    have h7 : ((X : Int) == (Y : Int)) = false := by simp; omega
    clear hlt heq
    go_enter Try.func8, Try.ntmps8
    go_wp2_with fail
    refine (HX.out _).mono ?_
    rintro e wz ⟨rfl, rfl⟩
    go_wp2_with fail
    refine (HY.out _).mono ?_
    rintro e wz ⟨rfl, rfl⟩
    go_wp2_with fail
    refine (HM.out _).mono ?_
    rintro e wz ⟨rfl, rfl⟩
    go_wp2_with fail
    refine (HA.out.use _).mono ?_
    rintro e w4 ⟨rfl, hB4⟩
    have HB4 := Lib.hid (HB.out.trans hB4)
    clear hB4
    go_wp2
    go_ret
    exact ⟨rfl, HB4.out.belowS⟩
  · subst h
    obtain rfl : X = Y := heq.2 rfl
    clear hlt heq HY
    go_enter Try.func8, Try.ntmps8
    go_wp2_with fail
    refine (HX.out _).mono ?_
    rintro e wz ⟨rfl, rfl⟩
    go_wp2_with fail
    refine (HX.out _).mono ?_
    rintro e wz ⟨rfl, rfl⟩
    go_wp2_with fail
    refine (HM.out _).mono ?_
    rintro e wz ⟨rfl, rfl⟩
    go_wp2_with fail
    refine (HA.out.use _).mono ?_
    rintro e w4 ⟨rfl, hB4⟩
    have HB4 := Lib.hid (HB.out.trans hB4)
    clear hB4
    go_wp2
    go_ret
    exact ⟨rfl, HB4.out.belowS⟩
  · have h2 : ¬ x = y := by omega
    have h3 : ¬ X < Y := fun k => by have := hlt.1 k; omega
    have h4 : ¬ X = Y := fun k => h2 (heq.1 k)
    have h5 : ¬ x < y := by omega
    have h6 : ((x : Int) == (y : Int)) = false := by simp; omega
    have h7 : ((X : Int) == (Y : Int)) = false := by simp; omega
    clear hlt heq
    go_enter Try.func8, Try.ntmps8
    go_wp2_with fail
    refine (HX.out _).mono ?_
    rintro e wz ⟨rfl, rfl⟩
    go_wp2_with fail
    refine (HY.out _).mono ?_
    rintro e wz ⟨rfl, rfl⟩
    go_wp2_with fail
    refine (HM.out _).mono ?_
    rintro e wz ⟨rfl, rfl⟩
    go_wp2_with fail
    refine (HA.out.use _).mono ?_
    rintro e w4 ⟨rfl, hB4⟩
    have HB4 := Lib.hid (HB.out.trans hB4)
    clear hB4
    go_wp2
    go_ret
    exact ⟨rfl, HB4.out.belowS⟩
set_option maxHeartbeats 1000000 in
theorem samplesApart_16 (haw : Awk11) {a c : Int} {w : World} (ha : -9223372036854775808 ≤ a ∧ a ≤ 9223372036854775807) (hc : -9223372036854775808 ≤ c ∧ c ≤ 9223372036854775807) :
    Calls Try.prog 8 #[.int .i64 16, .agg #[.int .i64 a, .int .i64 c]] w fun e w' => e = .returned (.bool true) ∧ Below w.heap.size w w' := by
  have HA := Lib.hid haw
  have hdep : isDepth 16 := by unfold isDepth; omega
  have hB := (But.refl [] w).alloc (.cells #[.int .i64 a, .int .i64 c] 42)
  have HB := Lib.hid hB
  have hI := Is.fresh w 42 #[.int .i64 a, .int .i64 c]
  have c0 := hI.cell 0
  have c1 := hI.cell 1
  obtain ⟨x, hx⟩ : ∃ x : Nat, x = (a % 65536).toNat := ⟨_, rfl⟩
  obtain ⟨y, hy⟩ : ∃ x : Nat, x = (c % 65536).toNat := ⟨_, rfl⟩
  have hxl : x < 65536 := by omega
  have hyl : y < 65536 := by omega
  have ea : bits .and .i64 a 65535 = (x : Int) := by
    have h := i64_mask a 16 (by decide)
    have e : (2 : Int) ^ 16 - 1 = 65535 := by decide
    have e2 : (2 : Int) ^ 16 = 65536 := by decide
    rw [e, e2] at h
    omega
  have ec : bits .and .i64 c 65535 = (y : Int) := by
    have h := i64_mask c 16 (by decide)
    have e : (2 : Int) ^ 16 - 1 = 65535 := by decide
    have e2 : (2 : Int) ^ 16 = 65536 := by decide
    rw [e, e2] at h
    omega
  have hw : ∀ z : Nat, z < 65536 → wideA (z : Int) 16 = wideN z 16 := fun z hz => by
    have h := wideA_yes (v := (z : Int)) (D := 16) (by decide)
    rw [show ((16 : Nat) : Int) = 16 from rfl] at h
    rw [h]
    have e2 : (2 : Int) ^ 16 = 65536 := by decide
    have e3 : ((z : Int) % 2 ^ 16).toNat = z := by rw [e2]; omega
    rw [e3]
    rfl
  obtain ⟨X, hX⟩ : ∃ z, z = wideN x 16 := ⟨_, rfl⟩
  obtain ⟨Y, hY⟩ : ∃ z, z = wideN y 16 := ⟨_, rfl⟩
  have HX : Hid (∀ W, Calls Try.prog 17 #[.int .i64 (x : Nat), .int .i64 16] W fun e w' => e = .returned (.int .i64 (X : Nat)) ∧ W = w') := Lib.hid fun W => by
    have h := swide_any W (x : Int) 16
    rw [hw x hxl, ← hX] at h
    exact h
  have HY : Hid (∀ W, Calls Try.prog 17 #[.int .i64 (y : Nat), .int .i64 16] W fun e w' => e = .returned (.int .i64 (Y : Nat)) ∧ W = w') := Lib.hid fun W => by
    have h := swide_any W (y : Int) 16
    rw [hw y hyl, ← hY] at h
    exact h
  have HM : Hid (∀ W, Calls Try.prog 17 #[.int .i64 65535, .int .i64 16] W fun e w' => e = .returned (.int .i64 65535) ∧ W = w') := Lib.hid fun W => by
    have h := swide_any W ((65535 : Nat) : Int) 16
    rw [hw 65535 (by decide)] at h
    have e : wideN 65535 16 = 65535 := by decide
    rw [e] at h
    exact h
  have hX2 : X ≤ 65535 := by rw [hX]; exact wideN_le hdep (by show x ≤ 65535; omega)
  have hlt : X < Y ↔ x < y := by rw [hX, hY]; exact wideN_lt hdep x y
  have heq : X = Y ↔ x = y := by rw [hX, hY]; exact wideN_eq hdep x y
  clear haw hB hI hx hy hX hY hdep hw
  rcases Nat.lt_trichotomy x y with h | h | h
  · have h2 : ¬ x = y := by omega
    have h3 : X < Y := hlt.2 h
    have h4 : ¬ X = Y := by omega
    have h6 : ((x : Int) == (y : Int)) = false := by simp; omega
    have h7 : ((X : Int) == (Y : Int)) = false := by simp; omega
    clear hlt heq
    go_enter Try.func8, Try.ntmps8
    go_wp2_with fail
    refine (HX.out _).mono ?_
    rintro e wz ⟨rfl, rfl⟩
    go_wp2_with fail
    refine (HY.out _).mono ?_
    rintro e wz ⟨rfl, rfl⟩
    go_wp2_with fail
    refine (HM.out _).mono ?_
    rintro e wz ⟨rfl, rfl⟩
    go_wp2_with fail
    refine (HA.out.use _).mono ?_
    rintro e w4 ⟨rfl, hB4⟩
    have HB4 := Lib.hid (HB.out.trans hB4)
    clear hB4
    go_wp2
    go_ret
    exact ⟨rfl, HB4.out.belowS⟩
  · subst h
    obtain rfl : X = Y := heq.2 rfl
    clear hlt heq HY
    go_enter Try.func8, Try.ntmps8
    go_wp2_with fail
    refine (HX.out _).mono ?_
    rintro e wz ⟨rfl, rfl⟩
    go_wp2_with fail
    refine (HX.out _).mono ?_
    rintro e wz ⟨rfl, rfl⟩
    go_wp2_with fail
    refine (HM.out _).mono ?_
    rintro e wz ⟨rfl, rfl⟩
    go_wp2_with fail
    refine (HA.out.use _).mono ?_
    rintro e w4 ⟨rfl, hB4⟩
    have HB4 := Lib.hid (HB.out.trans hB4)
    clear hB4
    go_wp2
    go_ret
    exact ⟨rfl, HB4.out.belowS⟩
  · have h2 : ¬ x = y := by omega
    have h3 : ¬ X < Y := fun k => by have := hlt.1 k; omega
    have h4 : ¬ X = Y := fun k => h2 (heq.1 k)
    have h5 : ¬ x < y := by omega
    have h6 : ((x : Int) == (y : Int)) = false := by simp; omega
    have h7 : ((X : Int) == (Y : Int)) = false := by simp; omega
    clear hlt heq
    go_enter Try.func8, Try.ntmps8
    go_wp2_with fail
    refine (HX.out _).mono ?_
    rintro e wz ⟨rfl, rfl⟩
    go_wp2_with fail
    refine (HY.out _).mono ?_
    rintro e wz ⟨rfl, rfl⟩
    go_wp2_with fail
    refine (HM.out _).mono ?_
    rintro e wz ⟨rfl, rfl⟩
    go_wp2_with fail
    refine (HA.out.use _).mono ?_
    rintro e w4 ⟨rfl, hB4⟩
    have HB4 := Lib.hid (HB.out.trans hB4)
    clear hB4
    go_wp2
    go_ret
    exact ⟨rfl, HB4.out.belowS⟩
set_option maxHeartbeats 1000000 in
theorem samplesApart_walk (haw : Awk11) {d : Int} {a c : Int} {w : World} (hd : (Lit.int .i64 d).wf = true) (ha : -9223372036854775808 ≤ a ∧ a ≤ 9223372036854775807) (hc : -9223372036854775808 ≤ c ∧ c ≤ 9223372036854775807) :
    Calls Try.prog 8 #[.int .i64 d, .agg #[.int .i64 a, .int .i64 c]] w fun e w' => e = .returned (.bool true) ∧ Below w.heap.size w w' := by
  by_cases h : depB d = true
  · have h2 := of_decide_eq_true h
    rcases h2 with rfl | rfl | rfl | rfl | rfl
    · exact samplesApart_1 haw ha hc
    · exact samplesApart_2 haw ha hc
    · exact samplesApart_4 haw ha hc
    · exact samplesApart_8 haw ha hc
    · exact samplesApart_16 haw ha hc
  · have HA := Lib.hid haw
    have hf : depB d = false := by simpa using h
    have hn := of_decide_eq_false hf
    have n1 : (d != 1) = true := by simp; omega
    have n2 : (d != 2) = true := by simp; omega
    have n4 : (d != 4) = true := by simp; omega
    have n8 : (d != 8) = true := by simp; omega
    have n16 : (d != 16) = true := by simp; omega
    have m1 : ¬ d = 1 := by omega
    have m2 : ¬ d = 2 := by omega
    have m4 : ¬ d = 4 := by omega
    have m8 : ¬ d = 8 := by omega
    have m16 : ¬ d = 16 := by omega
    have HW : Hid (∀ W, Calls Try.prog 17 #[.int .i64 a, .int .i64 d] W fun e w' => e = .returned (.int .i64 0) ∧ W = w') := Lib.hid fun W => by
      have h := swide_any W a d
      rw [wideA_no hf] at h
      exact h
    have hB := (But.refl [] w).alloc (.cells #[.int .i64 a, .int .i64 c] 42)
    have HB := Lib.hid hB
    have hI := Is.fresh w 42 #[.int .i64 a, .int .i64 c]
    have c0 := hI.cell 0
    have c1 := hI.cell 1
    clear haw h hf hn hB hI hd
    go_enter Try.func8, Try.ntmps8
    go_wp2_with (first | (refine (HW.out _).mono ?_; rintro e wz ⟨rfl, rfl⟩) | (refine (HA.out.use _).mono ?_; rintro e w4 ⟨rfl, hB4⟩; have HB4 := Lib.hid (HB.out.trans hB4); clear hB4))
    go_ret
    exact ⟨rfl, HB4.out.belowS⟩
end Go.Proofs.Ytfibffcmbnlomaa
