/- The document's two bytes of a number; whether samples are those of a transparency. -/
import Derived.Test.YtfibffcmbnlomaaSbD
set_option maxRecDepth 100000
set_option linter.unusedVariables false
namespace Go.Proofs.Ytfibffcmbnlomaa
set_option maxRecDepth 100000
open Go Go.RowKit
/-- Two bytes of a number, the high one first. -/
def twoB (n : Nat) : List UInt8 := [UInt8.ofNat (n / 256), UInt8.ofNat n]
theorem twoB_length (n : Nat) : (twoB n).length = 2 := rfl
theorem conv_two (W : World) {a b : Int} {n : Nat} (ha : a = ((n / 256 % 256 : Nat) : Int)) (hb : b = ((n % 256 : Nat) : Int)) :
    (convert 46 9 (.slice (some ⟨W.heap.size, 0, none⟩) 2 2)).run Try.prog (W.alloc (.cells #[.int .u8 a, .int .u8 b] 5)) = .ok (.string (strL (twoB n))) (W.alloc (.cells #[.int .u8 a, .int .u8 b] 5)) := by
  have hI := Is.fresh W 5 #[.int .u8 a, .int .u8 b]
  refine conv_atF (L := twoB n) (cap := 2) fun j hj => ?_
  rw [hI.cell]
  match j, hj with
  | 0, _ => show some (Value.int .u8 a) = some (.int .u8 ((UInt8.ofNat (n / 256)).toNat : Int)); rw [ha, UInt8.toNat_ofNat']
  | 1, _ => show some (Value.int .u8 b) = some (.int .u8 ((UInt8.ofNat n).toNat : Int)); rw [hb, UInt8.toNat_ofNat']
theorem etwo_any (w : World) {n : Nat} (hn : n < 65536) : Calls Try.prog 32 #[.int .i64 n] w fun e w' => e = .returned (.string (strL (twoB n))) ∧ But [] w w' := by
  obtain ⟨x, hx⟩ : ∃ x, x = n / 256 := ⟨_, rfl⟩
  obtain ⟨y, hy⟩ : ∃ x, x = n % 256 := ⟨_, rfl⟩
  have hx2 : x < 256 := by omega
  have hy2 : y < 256 := by omega
  have f1 : (n : Int).tdiv 256 = (x : Int) := by rw [Int.tdiv_eq_ediv_of_nonneg (by omega)]; omega
  have f2 : (n : Int) / 256 = (x : Int) := by omega
  have f3 : IntKind.u8.wrap (n : Int) = (y : Int) := by rw [IntKind.wrap_u8]; omega
  have f4 : IntKind.u8.wrap (x : Int) = (x : Int) := wrapY_in hx2
  have kc := fun W : World => conv_two W (a := (x : Int)) (b := (y : Int)) (n := n) (by omega) (by omega)
  have HB := Lib.hid ((But.refl [] w).alloc (.cells #[.int .u8 (x : Nat), .int .u8 (y : Nat)] 5))
  clear hx hy
  go_enter Try.func32, Try.ntmps32
  go_wp2
  go_ret
  exact ⟨rfl, HB.out⟩
/-- Whether a sample is that of a transparency. -/
def sameAt (D : Nat) (tr : ByteArray) (l : List Int) (i : Nat) : Bool := decide ((((256 * (tr.data.toList.getD (2 * i) 0).toNat + (tr.data.toList.getD (2 * i + 1) 0).toNat) % 2 ^ D : Nat) : Int) = l.getD i 0)
/-- Whether samples are those of a transparency. -/
def sameS (D : Nat) (tr : ByteArray) (has : Bool) (l : List Int) : Bool := has && decide (tr.size = 2 * l.length) && (List.range l.length).all (sameAt D tr l)
def shC (a b d c l : Int) (pal tr : ByteArray) (has : Bool) : Array Value := #[.int .i64 a, .int .i64 b, .int .i64 d, .int .i64 c, .int .i64 l, .string pal, .string tr, .bool has]
/-- What stands while samples are compared. -/
def SmS (w : World) (g : Nat) (cs : Array Value) (A : Option Addr) (n : Nat) (l : List Int) (v : World) : Prop := Is v g 38 cs ∧ Zs v A n l ∧ But [] w v
theorem SmS.but {w v v' : World} {g : Nat} {cs : Array Value} {A : Option Addr} {n : Nat} {l : List Int} (h : SmS w g cs A n l v) (k : But [] v v') : SmS w g cs A n l v' := ⟨h.1.but k (by simp), h.2.1.but k, h.2.2.trans k⟩
theorem sameS_no {D : Nat} {tr : ByteArray} {has : Bool} {l : List Int} (h : has = false ∨ tr.size ≠ 2 * l.length) : sameS D tr has l = false := by
  unfold sameS
  rcases h with h | h
  · rw [h]; rfl
  · rw [decide_eq_false h, Bool.and_false, Bool.false_and]
set_option maxHeartbeats 2000000 in
theorem esame_any (w : World) {a b c e : Int} {D : Nat} {pal tr : ByteArray} {has : Bool} {A : Option Addr} {n cp : Nat} {l : List Int} (hD1 : 1 ≤ D) (hD16 : D ≤ 16) (hZ : Zs w A n l) (hn : n ≤ 1000) (ht : tr.size ≤ 140737488351232) :
    Calls Try.prog 33 #[.agg #[.int .i64 a, .int .i64 b, .int .i64 D, .int .i64 c, .int .i64 e, .string pal, .string tr, .bool has], .slice A n cp] w fun r w' => r = .returned (.bool (sameS D tr has l)) ∧ But [] w w' := by
  have hln := hZ.1
  have hA := (But.refl [] w).alloc (.cells #[.int .i64 a, .int .i64 b, .int .i64 D, .int .i64 c, .int .i64 e, .string pal, .string tr, .bool has] 38)
  have HS0 : Hid (SmS w w.heap.size #[.int .i64 a, .int .i64 b, .int .i64 D, .int .i64 c, .int .i64 e, .string pal, .string tr, .bool has] A n l (w.alloc (.cells #[.int .i64 a, .int .i64 b, .int .i64 D, .int .i64 c, .int .i64 e, .string pal, .string tr, .bool has] 38))) := Lib.hid ⟨Is.fresh _ _ _, hZ.but hA, hA⟩
  have c2 := HS0.out.1.cell 2
  have c6 := HS0.out.1.cell 6
  have c7 := HS0.out.1.cell 7
  clear hA hZ
  cases has with
  | false =>
    have HR := Lib.hid (sameS_no (D := D) (tr := tr) (l := l) (.inl (rfl : false = false)))
    rw [HR.out]
    clear hln
    go_enter Try.func33, Try.ntmps33
    go_wp2
    go_ret
    exact ⟨rfl, HS0.out.2.2⟩
  | true =>
    by_cases hsz : tr.size = 2 * n
    · have HLN := Lib.hid hln
      have HSZ := Lib.hid hsz
      have b1 : ((tr.size : Int) == 2 * (n : Int)) = true := by simp; omega
      have b2 : (tr.size : Int) = 2 * (n : Int) := by omega
      have HR : Hid ((∀ i, i < n → sameAt D tr l i = true) → sameS D tr true l = true) := Lib.hid fun h => by
        unfold sameS
        rw [decide_eq_true (by rw [HLN.out]; exact hsz), Bool.true_and, Bool.true_and, List.all_eq_true]
        intro i hi
        exact h i (by rw [← HLN.out]; exact List.mem_range.1 hi)
      have HRF : Hid (∀ i, i < n → sameAt D tr l i = false → sameS D tr true l = false) := Lib.hid fun i hi h => by
        unfold sameS
        rw [Bool.and_eq_false_iff]
        right
        rw [List.all_eq_false]
        exact ⟨i, List.mem_range.2 (by rw [HLN.out]; exact hi), by rw [h]; decide⟩
      obtain ⟨R, hR⟩ : ∃ R, R = sameS D tr true l := ⟨_, rfl⟩
      rw [← hR] at HR HRF ⊢
      obtain ⟨M, hM⟩ : ∃ M, M = 2 ^ D := ⟨_, rfl⟩
      have hM1 : 1 ≤ M := by rw [hM]; exact Nat.pow_pos (by decide)
      have hM2 : M ≤ 65536 := by rw [hM]; exact Nat.pow_le_pow_right (by decide) hD16
      have p1 : (2 : Int) ^ D = (M : Int) := by rw [hM]; simp
      have HM := Lib.hid hM
      clear hln hsz hR hM
      go_enter Try.func33, Try.ntmps33
      go_wp2_with fail
      go_loopw [5] (fun iv wr => ∃ i : Nat, i ≤ n ∧ iv = .int .i64 i ∧ Hid (∀ j, j < i → sameAt D tr l j = true) ∧ Hid (SmS w w.heap.size #[.int .i64 a, .int .i64 b, .int .i64 D, .int .i64 c, .int .i64 e, .string pal, .string tr, .bool true] A n l wr)) (fun iv _ => n - (intOf iv).toNat)
      case atStart => exact ⟨0, Nat.zero_le _, rfl, Lib.hid (fun j h => absurd h (by omega)), HS0⟩
      case round =>
        clear HS0 c2 c6 c7
        obtain ⟨i, hi, rfl, HJ, HS⟩ := hrel
        by_cases hlt : i < n
        · have HS1 := Lib.hid (HS.out.but ((But.refl [] wr).drew))
          have HS2 := Lib.hid (HS1.out.but ((But.refl [] wr.drew).drew))
          obtain ⟨g, o, x, rfl, hg, hx, k0⟩ := HS2.out.2.1.at hlt
          have c6 := HS1.out.1.cell 6
          have c2 := HS2.out.1.cell 2
          obtain ⟨i2, hi2⟩ : ∃ z, z = 2 * i := ⟨_, rfl⟩
          have e1 : (2 : Int) * (i : Int) = (i2 : Int) := by omega
          have e1b : (i2 : Int) + 1 = ((i2 + 1 : Nat) : Int) := by omega
          have hl1 : i2 < tr.size := by have := HSZ.out; omega
          have hl2 : i2 + 1 < tr.size := by have := HSZ.out; omega
          obtain ⟨x1, hx1⟩ : ∃ z, z = tr[i2].toNat := ⟨_, rfl⟩
          obtain ⟨x2, hx2⟩ : ∃ z, z = tr[i2 + 1].toNat := ⟨_, rfl⟩
          have x1b : x1 < 256 := by rw [hx1]; exact tr[i2].toNat_lt
          have x2b : x2 < 256 := by rw [hx2]; exact tr[i2 + 1].toNat_lt
          obtain ⟨i3, hi3⟩ : ∃ z, z = i2 + 1 := ⟨_, rfl⟩
          have kx1 : ∀ w, (Instr.index 9 (.string tr) (.int .i64 (i2 : Int))).run Try.prog w = .ok (.int .u8 (x1 : Int)) w := fun w => by rw [hx1]; exact byteR_run hl1 w
          have kx2 : ∀ w, (Instr.index 9 (.string tr) (.int .i64 (i3 : Int))).run Try.prog w = .ok (.int .u8 (x2 : Int)) w := fun w => by rw [hx2, hi3]; exact byteR_run hl2 w
          rw [← hi3] at e1b
          obtain ⟨m, hm⟩ : ∃ z, z = 256 * x1 + x2 := ⟨_, rfl⟩
          obtain ⟨m1, hm1⟩ : ∃ z, z = 256 * x1 := ⟨_, rfl⟩
          have e2 : (256 : Int) * (x1 : Int) = (m1 : Int) := by omega
          have e3 : (m1 : Int) + (x2 : Int) = (m : Int) := by omega
          obtain ⟨r, hr⟩ : ∃ z, z = m % M := ⟨_, rfl⟩
          have e4 : (m : Int).tmod (M : Int) = (r : Int) := by rw [hr, Int.tmod_eq_emod_of_nonneg (by omega)]; simp
          have e5 : (m : Int) % (M : Int) = (r : Int) := by rw [hr]; simp
          have hrM : r < M := by rw [hr]; exact Nat.mod_lt _ hM1
          have hsa : sameAt D tr l i = decide ((r : Int) = x) := by
            unfold sameAt
            rw [← hi2, getD_byte tr hl1, getD_byte tr hl2, ← hx1, ← hx2, ← hm, ← HM.out, ← hr, List.getD_eq_getElem?_getD, hx]
            rfl
          have HSA := Lib.hid hsa
          have t1 := wrapI_in (show i2 < 1000000000000000 by omega)
          have t2 := wrapI_in (show i3 < 1000000000000000 by omega)
          have t3 := wrapI_in (show x1 < 1000000000000000 by omega)
          have t4 := wrapI_in (show x2 < 1000000000000000 by omega)
          have t5 := wrapI_in (show m1 < 1000000000000000 by omega)
          have t6 := wrapI_in (show m < 1000000000000000 by omega)
          have t7 := wrapI_in (show M < 1000000000000000 by omega)
          have t8 := wrapI_in (show r < 1000000000000000 by omega)
          have i0 : (0 : Int) ≤ (i : Int) := by omega
          have i1 : (i : Int) < (n : Int) := by omega
          have nM : ((M : Int) == 0) = false := by simp; omega
          clear hx hi2 hx1 hx2 hi3 hm hm1 hr hsa
          by_cases heq : (r : Int) = x
          · subst heq
            have HJ2 : Hid (∀ j, j < i + 1 → sameAt D tr l j = true) := Lib.hid fun j hj => by
              by_cases e : j = i
              · rw [e, HSA.out]; exact decide_eq_true rfl
              · exact HJ.out j (by omega)
            go_upto_region 6 with (fail)
            go_region_with fail
            all_goals go_upto_region 7 with (fail)
            all_goals go_region_with fail
            all_goals go_wp2
            all_goals exact ⟨⟨i + 1, by omega, by go_num, HJ2, HS2⟩, by simp [intOf] <;> omega⟩
          · have HE := Lib.hid (HRF.out i hlt (by rw [HSA.out]; exact decide_eq_false heq))
            have hne : ((r : Int) == x) = false := by simpa using heq
            go_upto_region 6 with (fail)
            go_region_with fail
            all_goals go_upto_region 7 with (fail)
            all_goals go_region_with fail
            all_goals go_wp2
            all_goals go_ret
            all_goals exact ⟨by rw [HE.out]; rfl, HS2.out.2.2⟩
        · obtain rfl : i = n := by omega
          have HE := Lib.hid (HR.out HJ.out)
          go_wp2
          go_ret
          exact ⟨by rw [HE.out]; rfl, HS.out.2.2⟩
    · have HR := Lib.hid (sameS_no (D := D) (tr := tr) (has := true) (l := l) (.inr (by rw [hln]; exact hsz)))
      rw [HR.out]
      have b1 : ((tr.size : Int) == 2 * (n : Int)) = false := by simp; omega
      have b2 : ¬ (tr.size : Int) = 2 * (n : Int) := by omega
      clear hln
      go_enter Try.func33, Try.ntmps33
      go_wp2
      go_ret
      exact ⟨rfl, HS0.out.2.2⟩
end Go.Proofs.Ytfibffcmbnlomaa
