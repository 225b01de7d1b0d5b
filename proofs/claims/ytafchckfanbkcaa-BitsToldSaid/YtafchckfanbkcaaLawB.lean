/- A byte that is changed is told by the cyclic sum. -/
import Derived.Test.YtafchckfanbkcaaLawA
import Derived.OpenShut
namespace Go.Proofs.Ytafchckfanbkcaa
open Go Go.RowKit

theorem xor_cancel_right {a b c : Nat} (h : a ^^^ c = b ^^^ c) : a = b := by
  have h2 : (a ^^^ c) ^^^ c = (b ^^^ c) ^^^ c := by rw [h]
  rwa [Nat.xor_assoc, Nat.xor_assoc, Nat.xor_self, Nat.xor_zero, Nat.xor_zero] at h2
theorem crcBit_inj {a b : Nat} (ha : a < 4294967296) (hb : b < 4294967296) (h : crcBit a = crcBit b) : a = b := by
  have mixed : ∀ x y : Nat, x < 2147483648 → y < 2147483648 → x ^^^ 3988292384 = y → False := by
    intro x y hx hy e
    have h2 : x ^^^ y = 3988292384 := by rw [← e, ← Nat.xor_assoc, Nat.xor_self, Nat.zero_xor]
    have h3 : x ^^^ y < 2 ^ 31 := Nat.xor_lt_two_pow (by omega) (by omega)
    omega
  unfold crcBit at h
  by_cases h1 : a % 2 = 1 <;> by_cases h2 : b % 2 = 1
  · rw [if_pos h1, if_pos h2] at h
    have := xor_cancel_right h
    omega
  · rw [if_pos h1, if_neg h2] at h
    exact (mixed _ _ (by omega) (by omega) h).elim
  · rw [if_neg h1, if_pos h2] at h
    exact (mixed _ _ (by omega) (by omega) h.symm).elim
  · rw [if_neg h1, if_neg h2] at h
    omega
theorem crcBits_inj {a b : Nat} (n : Nat) (ha : a < 4294967296) (hb : b < 4294967296) (h : crcBits n a = crcBits n b) : a = b := by
  induction n with
  | zero => exact h
  | succ n ih => exact ih (crcBit_inj (crcBits_lt n ha) (crcBits_lt n hb) h)
theorem crcByte_inj {a b : Nat} (x : UInt8) (ha : a < 4294967296) (hb : b < 4294967296) (h : crcByte a x = crcByte b x) : a = b :=
  xor_cancel_right (crcBits_inj 8 (xor_lt32 ha (by have := x.toNat_lt; omega)) (xor_lt32 hb (by have := x.toNat_lt; omega)) h)
theorem crcByte_inj' {a : Nat} (x y : UInt8) (ha : a < 4294967296) (h : crcByte a x = crcByte a y) : x = y := by
  have h2 := crcBits_inj 8 (xor_lt32 ha (by have := x.toNat_lt; omega)) (xor_lt32 ha (by have := y.toNat_lt; omega)) h
  rw [Nat.xor_comm a, Nat.xor_comm a] at h2
  exact UInt8.toNat_inj.1 (xor_cancel_right h2)
theorem crcFold_inj (l : List UInt8) : ∀ {a b : Nat}, a < 4294967296 → b < 4294967296 → l.foldl crcByte a = l.foldl crcByte b → a = b := by
  induction l with
  | nil => intro a b _ _ h; exact h
  | cons x l ih => intro a b ha hb h; exact crcByte_inj x ha hb (ih (crcByte_lt x ha) (crcByte_lt x hb) h)
theorem crcSum_set (l : List UInt8) (k : Nat) (hk : k < l.length) (y : UInt8) (h : crcSum (l.set k y) = crcSum l) : y = l[k] := by
  have h1 : crcRaw (l.set k y) = crcRaw l := xor_cancel_right h
  have e1 : l = l.take k ++ l[k] :: l.drop (k + 1) := by rw [← List.drop_eq_getElem_cons hk, List.take_append_drop]
  have e2 : l.set k y = l.take k ++ y :: l.drop (k + 1) := List.set_eq_take_append_cons_drop.trans (by rw [if_pos hk])
  rw [e2] at h1
  have e3 : crcRaw l = crcRaw (l.take k ++ l[k] :: l.drop (k + 1)) := congrArg crcRaw e1
  rw [e3] at h1
  unfold crcRaw at h1
  rw [List.foldl_append, List.foldl_append, List.foldl_cons, List.foldl_cons] at h1
  have hp := crcFold_lt (l.take k) _ (show 4294967295 < 4294967296 by decide)
  exact crcByte_inj' _ _ hp (crcFold_inj _ (crcByte_lt _ hp) (crcByte_lt _ hp) h1)

theorem tmod_small (a L : Int) (h : 0 < L) : -L < a.tmod L ∧ a.tmod L < L := by
  have h1 := Int.tmod_lt_of_pos a h
  have h2 := Int.lt_tmod_of_pos a h
  exact ⟨h2, h1⟩
theorem told_text (w : World) (s : ByteArray) (cap k : Nat) (z : UInt8) (fz : Nat × Nat) :
    (convert 43 9 (.slice (some ⟨w.heap.size, 0, none⟩) s.size cap)).run Try.prog ((w.alloc (.cells (bytesRow s cap) 5 fz)).setCell ⟨w.heap.size, k, none⟩ (.int .u8 (z.toNat : Int))).drew
      = .ok (.string ⟨(s.data.toList.set k z).toArray⟩) ((w.alloc (.cells (bytesRow s cap) 5 fz)).setCell ⟨w.heap.size, k, none⟩ (.int .u8 (z.toNat : Int))).drew := by
  have hl : (s.data.toList.set k z).length = s.size := by rw [List.length_set]; exact Array.length_toList
  refine ByteRow.text ⟨hl, fun _ => ⟨w.heap.size, 0, rfl, fun i hi => ?_⟩⟩
  have hi' : i < s.data.size := by rw [hl] at hi; exact hi
  have hc : (w.alloc (.cells (bytesRow s cap) 5 fz)).cell? ⟨w.heap.size, i, none⟩ = some (.int .u8 (s.data[i].toNat : Int)) := by
    rw [World.cell?_alloc_mark]; exact bytesRow_at s cap i hi'
  rw [Nat.zero_add]
  show ((w.alloc (.cells (bytesRow s cap) 5 fz)).setCell ⟨w.heap.size, k, none⟩ (.int .u8 (z.toNat : Int))).cell? _ = _
  by_cases e : k = i
  · subst e
    rw [World.cell?_setCell_same _ _ _ hc]
    simp
  · rw [World.cell?_setCell_other _ _ _ _ (by intro h; injection h with _ h2; exact e h2), hc]
    simp [e]
theorem bitsTold_walk {s : ByteArray} {at_ y : Int} {w : World} (hs : s.size ≤ 140737488351232) (_ha : (Lit.int .i64 at_).wf = true) (hy : (Lit.int .u8 y).wf = true) :
    Calls Try.prog 8 #[.string s, .int .i64 at_, .int .u8 y] w fun e w' => e = .returned (.bool true) ∧ Below w.heap.size w w' := by
  by_cases h0 : s.size = 0 ∨ y = 0
  · rcases h0 with h0 | h0
    · have t0 : ((s.size : Int) == 0) = true := by rw [beq_iff_eq]; omega
      go_enter Try.func8, Try.ntmps8
      go_wp2_with (go_at_call 12; refine (awake_any _).mono ?_; rintro e w' ⟨rfl, hB⟩)
      go_ret
      exact ⟨rfl, hB.belowNew⟩
    · by_cases h1 : s.size = 0
      · have t0 : ((s.size : Int) == 0) = true := by rw [beq_iff_eq]; omega
        go_enter Try.func8, Try.ntmps8
        go_wp2_with (go_at_call 12; refine (awake_any _).mono ?_; rintro e w' ⟨rfl, hB⟩)
        go_ret
        exact ⟨rfl, hB.belowNew⟩
      · have t0 : ((s.size : Int) == 0) = false := by rw [beq_eq_false_iff_ne]; omega
        subst h0
        go_enter Try.func8, Try.ntmps8
        go_wp2_with (go_at_call 12; refine (awake_any _).mono ?_; rintro e w' ⟨rfl, hB⟩)
        go_ret
        exact ⟨rfl, hB.belowNew⟩
  · have t0 : ((s.size : Int) == 0) = false := by rw [beq_eq_false_iff_ne]; omega
    have t1 : (y == 0) = false := by rw [beq_eq_false_iff_ne]; omega
    have hL : (1 : Int) ≤ (s.size : Int) := by omega
    obtain ⟨hm1, hm2⟩ := tmod_small at_ (s.size : Int) (by omega)
    have hk0 : 0 ≤ (at_.tmod (s.size : Int) + (s.size : Int)) % (s.size : Int) := Int.emod_nonneg _ (by omega)
    have hk1 : (at_.tmod (s.size : Int) + (s.size : Int)) % (s.size : Int) < (s.size : Int) := Int.emod_lt_of_pos _ (by omega)
    have hcv := run_bytes_of_string (P := Try.prog) w 9 43 5 s Try.underlying9 Try.underlying43 Try.underlying5
    clear h0
    go_enter Try.func8, Try.ntmps8
    go_upto_region 3 with (fail)
    go_cut [7] (fun q w1 => ∃ k : Nat, k < s.size ∧ q = .int .i64 k ∧ w = w1)
    case first =>
      go_wp2
      go_meet
      have e := Int.add_emod_right (at_.tmod (s.size : Int)) (s.size : Int)
      rw [e] at hk0 hk1
      exact ⟨(at_.tmod (s.size : Int) % (s.size : Int)).toNat, by omega, by go_num, rfl⟩
    case rest =>
      obtain ⟨k, hk, rfl, rfl⟩ := hcut
      clear hk0 hk1 hm1 hm2
      generalize hcap : grownCap w s.size 0 5 = cap at *
      have hcs : s.size ≤ cap := by rw [← hcap]; exact grownCap_ge w s.size 0 _
      generalize hfz : ((bytesRow s cap).size, (bytesRow s cap).size + 1) = fz at *
      have hkd : k < s.data.size := hk
      have ce : (w.alloc (.cells (bytesRow s cap) 5 fz)).cell? ⟨w.heap.size, k, none⟩ = some (.int .u8 ((s.data[k]'hkd).toNat : Int)) := by
        rw [World.cell?_alloc_mark]; exact bytesRow_at s cap k hkd
      have ef : (w.alloc (.cells (bytesRow s cap) 5 fz)).frozen? ⟨w.heap.size, k, none⟩ = false := by
        rw [← hfz, World.frozen?_alloc_mark]
        have : (bytesRow s cap).size = cap := by unfold bytesRow; simp; have h : s.data.size = s.size := rfl; omega
        rw [this]
        simp; omega
      clear hfz hcap
      obtain ⟨yb, hyb⟩ : ∃ yb : UInt8, y = (yb.toNat : Int) := by
        have h := bounds_u8 hy
        refine ⟨UInt8.ofNat y.toNat, ?_⟩
        have e : (UInt8.ofNat y.toNat).toNat = y.toNat % 256 := UInt8.toNat_ofNat'
        omega
      subst hyb
      have hz : (s.data[k] ^^^ yb) ≠ s.data[k] := by
        intro h
        have h2 : s.data[k] ^^^ (s.data[k] ^^^ yb) = s.data[k] ^^^ s.data[k] := by rw [h]
        rw [← UInt8.xor_assoc, UInt8.xor_self, UInt8.zero_xor] at h2
        rw [h2] at t1
        exact absurd t1 (by decide)
      have hxor : Go.bits .xor .u8 ((s.data[k].toNat : Nat) : Int) (yb.toNat : Int) = (((s.data[k] ^^^ yb).toNat : Nat) : Int) := by
        rw [u8_xor_nat _ _ (UInt8.toNat_lt _) (UInt8.toNat_lt _), UInt8.toNat_xor]
      generalize hzz : s.data[k] ^^^ yb = z at *
      have hcv2 := told_text w s cap k z fz
      obtain ⟨x1, hx1⟩ : ∃ x : Int, ((crcSum (s.data.toList.set k z) : Nat) : Int) = x := ⟨_, rfl⟩
      obtain ⟨x2, hx2⟩ : ∃ x : Int, ((crcSum s.data.toList : Nat) : Int) = x := ⟨_, rfl⟩
      have hne : (x1 != x2) = true := by
        rw [bne_iff_ne, ← hx1, ← hx2]
        intro e
        exact hz (crcSum_set s.data.toList k (by simpa using hk) z (by omega))
      have hm : s.size ≤ maxLen := by unfold maxLen; omega
      have hm2 : (⟨(s.data.toList.set k z).toArray⟩ : ByteArray).size ≤ maxLen := by
        show (s.data.toList.set k z).toArray.size ≤ _
        simpa using hm
      have HX1 := Lib.hid hx1
      have HX2 := Lib.hid hx2
      clear hx1 hx2 hz hzz hcs
      go_wp2_with fail
      refine (crc_at _ _ hm2 x1 HX1.out).mono ?_
      rintro e w' ⟨rfl, rfl⟩
      go_wp2_with fail
      refine (crc_at _ _ hm x2 HX2.out).mono ?_
      rintro e w' ⟨rfl, rfl⟩
      go_wp2_with (go_at_call 12; refine (awake_any _).mono ?_; rintro e w' ⟨rfl, hB⟩)
      go_ret
      exact ⟨rfl, ((((But.refl [] w).alloc _).setCell (p := ⟨w.heap.size, k, none⟩) (.inr (Nat.le_refl _)) _).drew.trans hB).belowNew⟩
end Go.Proofs.Ytafchckfanbkcaa
