/- The program's pixel of samples: colours and how much is seen. -/
import Derived.Test.YtfibffcmbnlomaaSbU
set_option maxRecDepth 100000
set_option linter.unusedVariables false
namespace Go.Proofs.Ytfibffcmbnlomaa
set_option maxRecDepth 100000
open Go Go.RowKit
theorem Zs.is {w : World} {g : Nat} {l : List Int} (h : Is w g 3 (l.map fun x => Value.int .i64 x).toArray) : Zs w (some ⟨g, 0, none⟩) l.length l :=
  ⟨rfl, fun _ => ⟨g, 0, rfl, h.lt, fun i hi => by
    rw [h.cell, Nat.zero_add, List.getElem?_toArray, List.getElem?_map, List.getElem?_eq_getElem hi]
    rfl⟩⟩
set_option maxHeartbeats 1000000 in
theorem pchannel_any (w : World) {bc bd : Nat} {A : Option Addr} {m cp : Nat} {l : List Int} {d : Int} {i : Nat} (hIc : Is w bc 22 #[.slice A m cp]) (hId : Is w bd 3 #[.int .i64 d]) (hZ : Zs w A m l) (hm : 0 < m) (hm2 : m ≤ 1000) (hi : i ≤ 2) :
    Calls Try.prog 34 #[.int .i64 i, .pointer (some ⟨bc, 0, none⟩), .pointer (some ⟨bd, 0, none⟩)] w fun e w' => e = .returned (.int .i64 (wideA (l.getD (i % m) 0) d : Nat)) ∧ But [] w w' := by
  obtain ⟨j, hj⟩ : ∃ j, j = i % m := ⟨_, rfl⟩
  have hjm : j < m := by rw [hj]; exact Nat.mod_lt _ hm
  rw [← hj]
  obtain ⟨g, o, x, rfl, hg, hx, k0⟩ := hZ.at hjm
  obtain ⟨W0, hW0⟩ : ∃ z, z = wideA x d := ⟨_, rfl⟩
  have HW : Hid (∀ W, Calls Try.prog 17 #[.int .i64 x, .int .i64 d] W fun e w' => e = .returned (.int .i64 (W0 : Nat)) ∧ w' = W) := Lib.hid fun W => by
    rw [hW0]
    exact (swide_any W x d).mono fun _ _ ⟨h1, h2⟩ => ⟨h1, h2.symm⟩
  have HR : Hid (wideA (l.getD j 0) d = W0) := Lib.hid (by rw [getD_of hx, hW0])
  rw [HR.out]
  have f1 : (i : Int).tmod (m : Int) = (j : Int) := by rw [Int.tmod_eq_emod_of_nonneg (by omega), hj]; simp
  have f2 : (i : Int) % (m : Int) = (j : Int) := by rw [hj]; simp
  have t1 := wrapI_in (show j < 1000000000000000 by omega)
  have n0 : ((m : Int) == 0) = false := by simp; omega
  have n1 : ¬ (m : Int) = 0 := by omega
  have n2 : ¬ m = 0 := by omega
  have cc := hIc.cell 0
  have cd := hId.cell 0
  have lc := hIc.lt
  have ld := hId.lt
  clear hj hx hW0 hIc hId hZ
  go_enter Try.func34, Try.ntmps34
  go_upto_region 1 with (fail)
  go_quiet ((go_at_call 17; exact Calls.quiet_of_same (HW.out _)))
  go_wp2
  go_ret
  exact ⟨rfl, (But.refl [] _).drewN _⟩
theorem packA_four {a b c e : Nat} (ha : a < 65536) (hb : b < 65536) (hc : c < 65536) (he : e < 65536) : packA 16 [(a : Int), (b : Int), (c : Int), (e : Int)] = (twoB a ++ twoB b ++ twoB c ++ twoB e, 0) := by
  have h := pack16_px ha hb hc he
  unfold px4 at h
  have h2 := congrArg (fun s : ByteArray => s.data.toList) h
  simp only [strL_list] at h2
  have ln : ∀ x : Nat, x < 65536 → lowN (x : Int) = x := fun x hx => by unfold lowN; omega
  unfold packA
  rw [if_neg (by decide)]
  show (packT 16 [lowN a, lowN b, lowN c, lowN e], (0 : Int)) = _
  rw [ln a ha, ln b hb, ln c hc, ln e he, h2]
set_option maxHeartbeats 2000000 in
theorem pcoloured_any (w : World) {A : Option Addr} {m cp al : Nat} {l : List Int} {d : Int} (hZ : Zs w A m l) (hm : 0 < m) (hm2 : m ≤ 1000) (hal : al < 65536) :
    Calls Try.prog 29 #[.int .i64 d, .slice A m cp, .int .i64 al] w fun e w' => e = .returned (.tuple #[.string (px4 (wideA (l.getD (0 % m) 0) d) (wideA (l.getD (1 % m) 0) d) (wideA (l.getD (2 % m) 0) d) al), .int .i64 0]) ∧ But [] w w' := by
  have hB1 := (But.refl [] w).alloc (.cells #[.int .i64 d] 3)
  have hI1 := Is.fresh w 3 #[.int .i64 d]
  obtain ⟨wa, hwa⟩ : ∃ X, X = w.alloc (.cells #[.int .i64 d] 3) := ⟨_, rfl⟩
  rw [← hwa] at hB1 hI1
  have hB2 := hB1.alloc (.cells #[.slice A m cp] 22)
  have hI2 := Is.fresh wa 22 #[.slice A m cp]
  have hI3 := hI1.alloc (.cells #[.slice A m cp] 22)
  obtain ⟨wb, hwb⟩ : ∃ X, X = wa.alloc (.cells #[.slice A m cp] 22) := ⟨_, rfl⟩
  rw [← hwb] at hB2 hI2 hI3
  obtain ⟨bd, hbd⟩ : ∃ g, g = w.heap.size := ⟨_, rfl⟩
  obtain ⟨bc, hbc⟩ : ∃ g, g = wa.heap.size := ⟨_, rfl⟩
  have hbc2 : bc = w.heap.size + 1 := by rw [hbc, hwa]; simp
  rw [← hbd] at hI3
  rw [← hbc] at hI2
  have hZ2 := hZ.but hB2
  obtain ⟨W0, hW0⟩ : ∃ z, z = wideA (l.getD (0 % m) 0) d := ⟨_, rfl⟩
  obtain ⟨W1, hW1⟩ : ∃ z, z = wideA (l.getD (1 % m) 0) d := ⟨_, rfl⟩
  obtain ⟨W2, hW2⟩ : ∃ z, z = wideA (l.getD (2 % m) 0) d := ⟨_, rfl⟩
  have l0 : W0 < 65536 := by rw [hW0]; exact wideA_lt _ _
  have l1 : W1 < 65536 := by rw [hW1]; exact wideA_lt _ _
  have l2 : W2 < 65536 := by rw [hW2]; exact wideA_lt _ _
  have H0 : Hid (∀ v, But [] wb v → Calls Try.prog 34 #[.int .i64 0, .pointer (some ⟨bc, 0, none⟩), .pointer (some ⟨bd, 0, none⟩)] v fun e w' => e = .returned (.int .i64 (W0 : Nat)) ∧ But [] v w') := Lib.hid fun v hv => by
    rw [hW0]; exact pchannel_any v (i := 0) (hI2.but hv (by simp)) (hI3.but hv (by simp)) (hZ2.but hv) hm hm2 (by omega)
  have H1 : Hid (∀ v, But [] wb v → Calls Try.prog 34 #[.int .i64 1, .pointer (some ⟨bc, 0, none⟩), .pointer (some ⟨bd, 0, none⟩)] v fun e w' => e = .returned (.int .i64 (W1 : Nat)) ∧ But [] v w') := Lib.hid fun v hv => by
    rw [hW1]; exact pchannel_any v (i := 1) (hI2.but hv (by simp)) (hI3.but hv (by simp)) (hZ2.but hv) hm hm2 (by omega)
  have H2 : Hid (∀ v, But [] wb v → Calls Try.prog 34 #[.int .i64 2, .pointer (some ⟨bc, 0, none⟩), .pointer (some ⟨bd, 0, none⟩)] v fun e w' => e = .returned (.int .i64 (W2 : Nat)) ∧ But [] v w') := Lib.hid fun v hv => by
    rw [hW2]; exact pchannel_any v (i := 2) (hI2.but hv (by simp)) (hI3.but hv (by simp)) (hZ2.but hv) hm hm2 (by omega)
  have HB2 := Lib.hid hB2
  have HPK : Hid (∀ (v : World) (g : Nat), Is v g 3 #[.int .i64 (W0 : Nat), .int .i64 (W1 : Nat), .int .i64 (W2 : Nat), .int .i64 (al : Nat)] → Calls Try.prog 15 #[.int .i64 16, .slice (some ⟨g, 0, none⟩) 4 4] v fun e w' => e = .returned (.tuple #[.string (px4 W0 W1 W2 al), .int .i64 0]) ∧ But [] v w') := Lib.hid fun v g hg => by
    have h := ppack_any v (d := 16) (cp := 4) (n := 4) (l := [(W0 : Int), (W1 : Int), (W2 : Int), (al : Int)]) (Zs.is (l := [(W0 : Int), (W1 : Int), (W2 : Int), (al : Int)]) hg) (by decide)
    rw [packA_four l0 l1 l2 hal] at h
    exact h
  obtain ⟨R, hR⟩ : ∃ z, z = px4 W0 W1 W2 al := ⟨_, rfl⟩
  rw [← hW0, ← hW1, ← hW2]
  rw [← hR] at HPK ⊢
  clear hZ hB1 hI1 hB2 hI2 hI3 hZ2 hW0 hW1 hW2 hR
  go_enter Try.func29, Try.ntmps29
  go_upto_region 2 with (fail)
  rw [← hwa, ← hwb, ← hbc2, ← hbd]
  clear hwa hwb hbc hbc2 hbd
  go_wp2_with fail
  refine (H0.out _ (But.refl [] _)).mono ?_
  rintro e w1 ⟨rfl, hB1⟩
  have HB1 := Lib.hid hB1
  clear hB1
  go_wp2_with fail
  refine (H1.out _ HB1.out).mono ?_
  rintro e w2 ⟨rfl, hB2⟩
  have HB3 := Lib.hid (HB1.out.trans hB2)
  clear hB2 HB1
  go_wp2_with fail
  refine (H2.out _ HB3.out).mono ?_
  rintro e w3 ⟨rfl, hB3⟩
  have HB4 := Lib.hid (HB2.out.trans (HB3.out.trans hB3))
  clear hB3 HB3
  go_wp2_with fail
  refine (HPK.out _ _ (Is.fresh _ _ _)).mono ?_
  rintro e w4 ⟨rfl, hB4⟩
  have HB5 := Lib.hid ((HB4.out.alloc _).trans hB4)
  clear hB4 HB4
  go_wp2
  go_ret2
  exact ⟨rfl, HB5.out⟩
end Go.Proofs.Ytfibffcmbnlomaa
