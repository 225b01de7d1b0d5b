/- The document's kind that is taken for a line. -/
import Derived.Test.YtbhdbekkandbhaaFiD
set_option maxRecDepth 100000
set_option linter.unusedVariables false
namespace Go.Proofs.Ytbhdbekkandbhaa
set_option maxRecDepth 100000
open Go Go.RowKit
/-- The kind that is taken, of whatever arguments. -/
def pickA (bpp : Int) (s t : ByteArray) : Nat := if wrongP bpp s t = 0 then pickF bpp.toNat s.data.toList t.data.toList else 0
theorem pickA_ok {n : Nat} {s t : ByteArray} (h : wrongP (n : Int) s t = 0) : pickA (n : Int) s t = pickF n s.data.toList t.data.toList := by unfold pickA; rw [if_pos h]; rfl
theorem pickA_bad {bpp : Int} {s t : ByteArray} (h : wrongP bpp s t ≠ 0) : pickA bpp s t = 0 := by unfold pickA; rw [if_neg h]
theorem wrongF_kind {bpp kind : Int} {s t : ByteArray} (h0 : 0 ≤ kind) (h4 : kind ≤ 4) : wrongF bpp kind s t = wrongP bpp s t := by
  unfold wrongF
  rcases wrongP_cases bpp s t with h | h
  · rw [h, if_neg (by decide), if_neg (by omega)]
  · rw [h, if_pos (by decide)]
theorem wrongP_zero {bpp : Int} {s t : ByteArray} (h : wrongP bpp s t = 0) : 1 ≤ bpp ∧ bpp ≤ 8 ∧ (t.size = 0 ∨ t.size = s.size) := by
  have := wrongF_zero (bpp := bpp) (kind := 0) (s := s) (t := t) (by rw [wrongF_kind (by decide) (by decide)]; exact h)
  exact ⟨this.1.1, this.1.2, this.2.1⟩
/-- What is taken, and what it costs, of the first kinds. -/
def bstF (c : Nat → Nat) : Nat → Nat × Nat
  | 0 => (0, 0)
  | k + 1 => pickTo c k
theorem bstF_next (c : Nat → Nat) (k : Nat) : bstF c (k + 1) = if k = 0 ∨ c k < (bstF c k).2 then (k, c k) else bstF c k := by
  cases k with
  | zero => rw [if_pos (.inl rfl)]; rfl
  | succ k =>
    show pickTo c (k + 1) = _
    unfold pickTo
    show (if c (k + 1) < (pickTo c k).2 then _ else _) = if k + 1 = 0 ∨ c (k + 1) < (pickTo c k).2 then _ else pickTo c k
    by_cases h : c (k + 1) < (pickTo c k).2
    · rw [if_pos h, if_pos (.inr h)]
    · rw [if_neg h, if_neg (by omega)]
theorem bstF_le (c : Nat → Nat) {B : Nat} (h : ∀ k, c k ≤ B) : ∀ k, (bstF c k).2 ≤ B ∧ (bstF c k).1 ≤ k
  | 0 => ⟨Nat.zero_le _, Nat.zero_le _⟩
  | k + 1 => by
    rw [bstF_next]
    have := bstF_le c h k
    split
    · exact ⟨h k, by dsimp only; omega⟩
    · exact ⟨this.1, by omega⟩
theorem farB_int (x : UInt8) : ((farB x : Nat) : Int) = if (128 : Int) < (x.toNat : Int) then 256 - (x.toNat : Int) else (x.toNat : Int) := by
  have := x.toNat_lt
  unfold farB
  by_cases h : 128 < x.toNat
  · rw [if_pos h, if_pos (by omega)]; omega
  · rw [if_neg h, if_neg (by omega)]
theorem costF_take (X : List UInt8) {i : Nat} (h : i < X.length) : costF (X.take (i + 1)) = costF (X.take i) + farB (X.getD i 0) := by
  rw [List.take_succ_eq_append_getElem h, ← getD_lt h, costF_snoc]
theorem costF_take_le (X : List UInt8) (i : Nat) {B : Nat} (h : X.length ≤ B) : costF (X.take i) ≤ 128 * B := by
  have h1 := costF_le (X.take i)
  have h2 : (X.take i).length ≤ X.length := by rw [List.length_take]; exact Nat.min_le_right _ _
  have : 128 * (X.take i).length ≤ 128 * B := Nat.mul_le_mul_left _ (Nat.le_trans h2 h)
  omega
set_option maxHeartbeats 1000000 in
theorem epick_any (w : World) (bpp : Int) (s t : ByteArray) (hs : s.size ≤ 140737488351232) (ht : t.size ≤ 140737488351232) :
    Calls Try.prog 16 #[.int .i64 bpp, .string s, .string t] w fun e w' => e = .returned (.tuple #[.int .i64 (pickA bpp s t : Nat), .int .i64 (wrongP bpp s t)]) ∧ But [] w w' := by
  have hD := fun v (k : Nat) => edo_any v bpp k s t hs ht
  by_cases h0 : wrongP bpp s t ≠ 0
  · have h1 : wrongP bpp s t = 1 := by rcases wrongP_cases bpp s t with h | h; exact absurd h h0; exact h
    have HD : Hid (∀ v, Calls Try.prog 11 #[.int .i64 bpp, .int .i64 0, .string s, .string t] v fun e w' => e = .returned (.tuple #[.string ⟨#[]⟩, .int .i64 1]) ∧ But [] v w') := Lib.hid fun v => by
      have h := hD v 0
      have e : wrongF bpp ((0 : Nat) : Int) s t = 1 := by rw [wrongF_kind (by decide) (by decide), h1]
      rw [doA_bad (by rw [e]; decide), e] at h
      exact h
    rw [pickA_bad h0, h1]
    clear hD h0 h1
    go_enter Try.func16, Try.ntmps16
    go_wp2_with fail
    go_loopw [8, 9, 10] (fun bv lv kv wr => bv = .int .i64 0 ∧ lv = .int .i64 0 ∧ kv = .int .i64 0 ∧ Hid (But [] w wr)) (fun _ _ _ _ => 0)
    case atStart => exact ⟨rfl, rfl, rfl, Lib.hid (But.refl [] _)⟩
    case round =>
      obtain ⟨rfl, rfl, rfl, HB⟩ := hrel
      go_wp2_with fail
      refine (HD.out _).mono ?_
      rintro e w1 ⟨rfl, hB⟩
      have HB1 := Lib.hid hB
      clear hB
      go_wp2
      go_ret2
      exact ⟨rfl, HB.out.trans HB1.out⟩
  have h0 : wrongP bpp s t = 0 := by simpa using h0
  obtain ⟨hb1, hb8, hts⟩ := wrongP_zero h0
  obtain ⟨n, rfl⟩ : ∃ n : Nat, bpp = (n : Int) := ⟨bpp.toNat, by omega⟩
  rw [pickA_ok h0, h0]
  obtain ⟨X, hX⟩ : ∃ X : Nat → List UInt8, X = fun k => doF (k : Nat) n s.data.toList t.data.toList := ⟨_, rfl⟩
  obtain ⟨c, hc⟩ : ∃ c : Nat → Nat, c = fun k => costF (X k) := ⟨_, rfl⟩
  have hXl : ∀ k, (X k).length = s.size := fun k => by rw [hX]; dsimp only; rw [doF_length, Array.length_toList]; rfl
  have HD : Hid (∀ v (k : Nat), k ≤ 4 → Calls Try.prog 11 #[.int .i64 (n : Int), .int .i64 (k : Int), .string s, .string t] v fun e w' => e = .returned (.tuple #[.string (strL (X k)), .int .i64 0]) ∧ But [] v w') := Lib.hid fun v k hk => by
    have h := hD v k
    have e : wrongF (n : Int) (k : Int) s t = 0 := by rw [wrongF_kind (by omega) (by omega), h0]
    rw [doA_ok e, e] at h
    rw [hX]; exact h
  have HR : Hid (pickF n s.data.toList t.data.toList = (bstF c 5).1) := Lib.hid (by unfold pickF; rw [hc, hX]; rfl)
  have HXL := Lib.hid hXl
  have HCC : Hid (∀ k, c k = costF (X k)) := Lib.hid fun k => by rw [hc]
  have HCL : Hid (∀ k, c k ≤ 18014398508957696) := Lib.hid fun k => by
    rw [hc]
    dsimp only
    have h1 := costF_le (X k)
    rw [hXl] at h1
    omega
  clear hD h0 hX hc hXl
  go_enter Try.func16, Try.ntmps16
  go_wp2_with fail
  go_loopw [8, 9, 10] (fun bv lv kv wr => ∃ k b l : Nat, k ≤ 5 ∧ kv = .int .i64 (k : Int) ∧ bv = .int .i64 (b : Int) ∧ lv = .int .i64 (l : Int) ∧ Hid ((b, l) = bstF c k) ∧ Hid (But [] w wr)) (fun _ _ kv _ => 5 - (intOf kv).toNat)
  case atStart => exact ⟨0, 0, 0, Nat.zero_le _, rfl, rfl, rfl, Lib.hid rfl, Lib.hid (But.refl [] _)⟩
  case round =>
    obtain ⟨k, b, l, hk, rfl, rfl, rfl, HE, HB⟩ := hrel
    by_cases hlt : k ≤ 4
    · go_wp2_with fail
      refine (HD.out _ k hlt).mono ?_
      rintro e w1 ⟨rfl, hB⟩
      have HB1 := Lib.hid (HB.out.trans hB)
      obtain ⟨S, hS⟩ : ∃ S, S = strL (X k) := ⟨_, rfl⟩
      have hSl : S.size = s.size := by rw [hS, strL_size, HXL.out]
      have HS := Lib.hid hS
      have hbl : l ≤ 18014398508957696 ∧ b ≤ k := by
        have h1 := bstF_le c HCL.out k
        rw [← HE.out] at h1
        exact h1
      obtain ⟨hl1, hb1⟩ := hbl
      rw [← hS]
      obtain ⟨m, hm⟩ : ∃ m, m = S.size := ⟨_, rfl⟩
      have hm2 : m ≤ 140737488351232 := by rw [hm, hSl]; exact hs
      have HM := Lib.hid hm
      have HSL := Lib.hid hSl
      clear hB hS hSl
      go_wp2_with fail
      go_loopw [13, 14] (fun nv iv wx => ∃ i a : Nat, i ≤ m ∧ iv = .int .i64 (i : Int) ∧ nv = .int .i64 (a : Int) ∧ Hid (a = costF ((X k).take i)) ∧ Hid (But [] w wx)) (fun _ iv _ => m - (intOf iv).toNat)
      case atStart => exact ⟨0, 0, Nat.zero_le _, rfl, rfl, Lib.hid (by rw [List.take_zero]; rfl), HB1⟩
      case round =>
        obtain ⟨i, a, hi, rfl, rfl, HA, HB2⟩ := hrel
        have ha : a ≤ 18014398508957696 := by rw [HA.out]; have h := costF_take_le (X k) i (B := 140737488351232) (by rw [HXL.out]; exact hs); omega
        by_cases hit : i < S.size
        · obtain ⟨y, hy⟩ : ∃ y, y = S[i] := ⟨_, rfl⟩
          obtain ⟨b, hb⟩ : ∃ b, b = y.toNat := ⟨_, rfl⟩
          have hb256 : b < 256 := by rw [hb]; exact y.toNat_lt
          have kx : ∀ w, (Instr.index 9 (.string S) (.int .i64 (i : Int))).run Try.prog w = .ok (.int .u8 (b : Int)) w := fun w => by rw [hb, hy]; exact byteF_run hit w
          have HN : Hid (costF ((X k).take (i + 1)) = a + farB y) := Lib.hid (by
            rw [costF_take _ (by rw [HXL.out, ← HSL.out]; exact hit), ← HA.out]
            congr 2
            rw [hy, ← getD_byte S hit, HS.out, strL_list])
          clear hy
          obtain ⟨f, hfb⟩ : ∃ f, f = farB y := ⟨_, rfl⟩
          rw [← hfb] at HN
          by_cases hf : 128 < b
          · have HF : Hid (f = 256 - b) := Lib.hid (by rw [hfb, hb]; unfold farB; rw [if_pos (by rw [← hb]; exact hf)])
            clear hfb hb
            go_wp2
            go_roundw
            case rel => exact ⟨i + 1, a + f, by omega, by go_num, by rw [HF.out]; go_num, Lib.hid HN.out.symm, HB2⟩
            case measure => simp [intOf] <;> omega
          · have HF : Hid (f = b) := Lib.hid (by rw [hfb, hb]; unfold farB; rw [if_neg (by rw [← hb]; exact hf)])
            clear hfb hb
            go_wp2
            go_roundw
            case rel => exact ⟨i + 1, a + f, by omega, by go_num, by rw [HF.out]; go_num, Lib.hid HN.out.symm, HB2⟩
            case measure => simp [intOf] <;> omega
        · have HAC : Hid (a = c k) := Lib.hid (by rw [HA.out, HCC.out, List.take_of_length_le]; rw [HXL.out, ← HSL.out]; omega)
          have HNX := Lib.hid (bstF_next c k)
          by_cases hz : k = 0
          · subst hz
            go_wp2
            go_roundw
            case rel => exact ⟨1, 0, a, by omega, by first | rfl | go_num, by first | rfl | go_num, by first | rfl | go_num, Lib.hid (by rw [HNX.out, if_pos (.inl rfl), HAC.out]), HB2⟩
            case measure => simp [intOf] <;> omega
          · by_cases hal : a < l
            · go_wp2
              go_roundw
              case rel => exact ⟨k + 1, k, a, by omega, by first | rfl | go_num, by first | rfl | go_num, by first | rfl | go_num, Lib.hid (by rw [HNX.out, ← HE.out, if_pos (.inr (by rw [← HAC.out]; exact hal)), HAC.out]), HB2⟩
              case measure => simp [intOf] <;> omega
            · go_wp2
              go_roundw
              case rel => exact ⟨k + 1, b, l, by omega, by first | rfl | go_num, by first | rfl | go_num, by first | rfl | go_num, Lib.hid (by rw [HNX.out, ← HE.out, if_neg (by rw [← HAC.out]; dsimp only; omega)]), HB2⟩
              case measure => simp [intOf] <;> omega
    · obtain rfl : k = 5 := by omega
      have HF : Hid (pickF n s.data.toList t.data.toList = b) := Lib.hid (by rw [HR.out, ← HE.out])
      go_wp2
      go_ret2
      exact ⟨by rw [HF.out]; rfl, HB.out⟩
end Go.Proofs.Ytbhdbekkandbhaa
