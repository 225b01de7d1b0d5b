/- The program's pixel of samples: whether a colour is that of a transparency. -/
import Derived.Test.YtfibffcmbnlomaaSbV
set_option maxRecDepth 100000
set_option linter.unusedVariables false
namespace Go.Proofs.Ytfibffcmbnlomaa
set_option maxRecDepth 100000
open Go Go.RowKit
theorem unpackA_16 {tr : ByteArray} {n : Nat} (hn : n ≤ 4096) (h : tr.size = 2 * n) : unpackA tr 16 n = (unpackT tr.data.toList 16 n, 0) := by
  unfold unpackA
  rw [if_neg (by rintro (h | h | h); exact absurd h (by decide); omega; omega), if_neg (by omega)]
  rfl
theorem sameAt_16 {D n i : Nat} {tr : ByteArray} {l : List Int} (hD : D ≤ 16) {x y : Int} {v : Nat} (hi : i < n) (hv : (unpackT tr.data.toList 16 n)[i]? = some v) (hx : l[i]? = some x) (hy : ((v : Nat) : Int) % 2 ^ D = y) : sameAt D tr l i = decide (y = x) := by
  have e : v = sampleN tr.data.toList 16 i := by
    unfold unpackT at hv
    rw [List.getElem?_map, List.getElem?_range hi] at hv
    exact (Option.some.inj hv).symm
  unfold sameAt
  rw [← sample_two, ← e, getD_of hx, ← hy]
  congr 1
set_option maxHeartbeats 2000000 in
theorem pclear_any (w : World) {a b c e0 : Int} {D : Nat} {pal tr : ByteArray} {has : Bool} {A : Option Addr} {n cp : Nat} {l : List Int} (hD16 : D ≤ 16) (hZ : Zs w A n l) (hn : n ≤ 1000) (ht : tr.size ≤ 140737488351232) :
    Calls Try.prog 30 #[.agg #[.int .i64 a, .int .i64 b, .int .i64 D, .int .i64 c, .int .i64 e0, .string pal, .string tr, .bool has], .slice A n cp] w fun r w' => r = .returned (.bool (sameS D tr has l)) ∧ But [] w w' := by
  have hln := hZ.1
  have hA := (But.refl [] w).alloc (.cells #[.int .i64 a, .int .i64 b, .int .i64 D, .int .i64 c, .int .i64 e0, .string pal, .string tr, .bool has] 38)
  obtain ⟨b0, hb0⟩ : ∃ g, g = w.heap.size := ⟨_, rfl⟩
  obtain ⟨w1, hw1⟩ : ∃ X, X = w.alloc (.cells #[.int .i64 a, .int .i64 b, .int .i64 D, .int .i64 c, .int .i64 e0, .string pal, .string tr, .bool has] 38) := ⟨_, rfl⟩
  have hI : Is w1 b0 38 #[.int .i64 a, .int .i64 b, .int .i64 D, .int .i64 c, .int .i64 e0, .string pal, .string tr, .bool has] := by rw [hw1, hb0]; exact Is.fresh _ _ _
  rw [← hw1] at hA
  have HA := Lib.hid hA
  have HC : Hid (∀ v, But [] w1 v → v.cell? ⟨b0, 0, none⟩ = some (.int .i64 a) ∧ v.cell? ⟨b0, 1, none⟩ = some (.int .i64 b) ∧ v.cell? ⟨b0, 2, none⟩ = some (.int .i64 D) ∧ v.cell? ⟨b0, 3, none⟩ = some (.int .i64 c) ∧ v.cell? ⟨b0, 4, none⟩ = some (.int .i64 e0) ∧ v.cell? ⟨b0, 5, none⟩ = some (.string pal) ∧ v.cell? ⟨b0, 6, none⟩ = some (.string tr) ∧ v.cell? ⟨b0, 7, none⟩ = some (.bool has) ∧ b0 < v.heap.size) := Lib.hid fun v hv => by
    have hh := hI.but hv (by simp)
    exact ⟨hh.cell 0, hh.cell 1, hh.cell 2, hh.cell 3, hh.cell 4, hh.cell 5, hh.cell 6, hh.cell 7, hh.lt⟩
  have HZ : Hid (∀ v, But [] w1 v → Zs v A n l) := Lib.hid fun v hv => hZ.but (hA.trans hv)
  have HLq : Hid (∀ W (x : Int), Calls Try.prog 24 #[.int .i64 x, .int .i64 D] W fun e w' => e = .returned (.int .i64 (x % 2 ^ D)) ∧ w' = W) := Lib.hid fun W x => (plow_any W x hD16).mono fun _ _ ⟨h1, h2⟩ => ⟨h1, h2.symm⟩
  cases has with
  | false =>
    have HR := Lib.hid (sameS_no (D := D) (tr := tr) (l := l) (.inl (rfl : false = false)))
    rw [HR.out]
    clear hln hZ
    have c0 := hI.cell 0
    have c6 := hI.cell 6
    have c7 := hI.cell 7
    clear hA hI
    go_enter Try.func30, Try.ntmps30
    go_upto_region 1 with (fail)
    rw [← hw1, ← hb0]
    clear c0 c6 c7 hw1 hb0
    obtain ⟨c0, c1, c2, c3, c4, c5, c6, c7, hgl⟩ := HC.out w1 (But.refl [] _)
    go_wp2
    go_ret
    exact ⟨rfl, HA.out⟩
  | true =>
    by_cases hsz : tr.size = 2 * n
    · have HSZ := Lib.hid hsz
      have HLN := Lib.hid hln
      have b1 : ((tr.size : Int) != 2 * (n : Int)) = false := by simp; omega
      have b2 : (tr.size : Int) = 2 * (n : Int) := by omega
      have HR : Hid ((∀ i, i < n → sameAt D tr l i = true) → sameS D tr true l = true) := Lib.hid fun h => by
        unfold sameS
        rw [decide_eq_true (by rw [HLN.out]; exact hsz), Bool.true_and, Bool.true_and, List.all_eq_true]
        intro i hi
        exact h i (by rw [← HLN.out]; exact List.mem_range.1 hi)
      have HRF : Hid (∀ i, i < n → sameAt D tr l i = false → sameS D tr true l = false) := Lib.hid fun i hi h => by
        unfold sameS
        rw [Bool.and_eq_false_iff]
        right
        rw [List.all_eq_false]
        exact ⟨i, List.mem_range.2 (by rw [HLN.out]; exact hi), by rw [h]; decide⟩
      obtain ⟨R, hR⟩ : ∃ R, R = sameS D tr true l := ⟨_, rfl⟩
      rw [← hR] at HR HRF ⊢
      obtain ⟨L, hL⟩ : ∃ L, L = unpackT tr.data.toList 16 n := ⟨_, rfl⟩
      have hLn : L.length = n := by rw [hL]; exact unpackT_length _ _ _
      have HUN : Hid (∀ v, Calls Try.prog 11 #[.string tr, .int .i64 16, .int .i64 (n : Nat)] v fun e w' => ∃ A cap, e = .returned (.tuple #[.slice A n cap, .int .i64 0]) ∧ Nums w' A n L ∧ n ≤ cap ∧ But [] v w') := Lib.hid fun v => by
        have h := punpack_any v (s := tr) (d := 16) (n := (n : Int)) ht
        rw [unpackA_16 (by omega) hsz, ← hL] at h
        unfold GotN at h
        rw [hLn] at h
        exact h
      have HSA : Hid (∀ (i : Nat) (x y : Int) (v : Nat), i < n → L[i]? = some v → l[i]? = some x → ((v : Nat) : Int) % 2 ^ D = y → sameAt D tr l i = decide (y = x)) := Lib.hid fun i x y v hi hv hx hy => sameAt_16 hD16 hi (by rw [← hL]; exact hv) hx hy
      clear hln hZ hsz hR hL hLn
      have c0 := hI.cell 0
      have c6 := hI.cell 6
      have c7 := hI.cell 7
      clear hA hI
      go_enter Try.func30, Try.ntmps30
      go_upto_region 1 with (fail)
      rw [← hw1, ← hb0]
      clear c0 c6 c7 hw1 hb0
      obtain ⟨c0, c1, c2, c3, c4, c5, c6, c7, hgl⟩ := HC.out w1 (But.refl [] _)
      go_wp2_with fail
      refine (HUN.out _).mono ?_
      rintro e w2 ⟨A2, cap2, rfl, hN2, hcap2, hB2⟩
      have HN2 := Lib.hid hN2
      have HB2 := Lib.hid hB2
      clear hN2 hB2 c0 c1 c2 c3 c4 c5 c6 c7 hgl b1 b2
      go_wp2_with fail
      go_loopw [31] (fun iv wr => ∃ i : Nat, i ≤ n ∧ iv = .int .i64 i ∧ Hid (∀ j, j < i → sameAt D tr l j = true) ∧ Hid (But [] w2 wr)) (fun iv _ => n - (intOf iv).toNat)
      case atStart => exact ⟨0, Nat.zero_le _, rfl, Lib.hid (fun j h => absurd h (by omega)), Lib.hid (But.refl [] _)⟩
      case round =>
        obtain ⟨i, hi, rfl, HJ, HB⟩ := hrel
        by_cases hlt : i < n
        · obtain ⟨g, o, x, hAx, hg, hx, k0⟩ := (HZ.out _ (HB2.out.trans HB.out)).at hlt
          subst hAx
          obtain ⟨g2, o2, v, hAv, hg2, hv, k2⟩ := (HN2.out.but HB.out).at hlt
          subst hAv
          obtain ⟨y, hy⟩ : ∃ y, y = (v : Int) % 2 ^ D := ⟨_, rfl⟩
          have HLx : Hid (∀ W, Calls Try.prog 24 #[.int .i64 (v : Nat), .int .i64 D] W fun e w' => e = .returned (.int .i64 y) ∧ w' = W) := Lib.hid fun W => by rw [hy]; exact HLq.out W (v : Int)
          have HS := Lib.hid (HSA.out i x y v hlt hv hx hy.symm)
          obtain ⟨c0, c1, c2, c3, c4, c5, c6, c7, hgl⟩ := HC.out _ (HB2.out.trans HB.out)
          have i0 : (0 : Int) ≤ (i : Int) := by omega
          have i1 : (i : Int) < (n : Int) := by omega
          have HBd : Hid (∀ N, But [] w2 (wr.drewN N)) := Lib.hid fun N => HB.out.drewN N
          clear hy hx hv
          by_cases hxy : y = x
          · subst hxy
            have HJ2 : Hid (∀ j, j < i + 1 → sameAt D tr l j = true) := Lib.hid fun j hj => by
              by_cases e : j = i
              · rw [e, HS.out]; exact decide_eq_true rfl
              · exact HJ.out j (by omega)
            clear HJ HB HS
            go_upto_region 7 with (fail)
            go_quiet ((go_at_call 24; exact Calls.quiet_of_same (HLx.out _)))
            go_wp2
            go_roundw
            case rel => exact ⟨i + 1, by omega, by go_num, HJ2, HBd.out _⟩
            case measure => simp [intOf] <;> omega
          · have HE := Lib.hid (HRF.out i hlt (by rw [HS.out]; exact decide_eq_false hxy))
            have q1 : (y != x) = true := by simpa using hxy
            clear HJ HB HS
            go_upto_region 7 with (fail)
            go_quiet ((go_at_call 24; exact Calls.quiet_of_same (HLx.out _)))
            go_wp2
            go_ret
            exact ⟨by rw [HE.out]; rfl, HA.out.trans (HB2.out.trans (HBd.out _))⟩
        · obtain rfl : n = i := by omega
          have HE := Lib.hid (HR.out HJ.out)
          go_wp2
          go_ret
          exact ⟨by rw [HE.out]; rfl, HA.out.trans (HB2.out.trans HB.out)⟩
    · have HR := Lib.hid (sameS_no (D := D) (tr := tr) (has := true) (l := l) (.inr (by rw [hln]; exact hsz)))
      rw [HR.out]
      have b1 : ((tr.size : Int) != 2 * (n : Int)) = true := by simp; omega
      have b2 : ¬ (tr.size : Int) = 2 * (n : Int) := by omega
      clear hln hZ
      have c0 := hI.cell 0
      have c6 := hI.cell 6
      have c7 := hI.cell 7
      clear hA hI
      go_enter Try.func30, Try.ntmps30
      go_upto_region 1 with (fail)
      rw [← hw1, ← hb0]
      clear c0 c6 c7 hw1 hb0
      obtain ⟨c0, c1, c2, c3, c4, c5, c6, c7, hgl⟩ := HC.out w1 (But.refl [] _)
      go_wp2
      go_ret
      exact ⟨rfl, HA.out⟩
end Go.Proofs.Ytfibffcmbnlomaa
