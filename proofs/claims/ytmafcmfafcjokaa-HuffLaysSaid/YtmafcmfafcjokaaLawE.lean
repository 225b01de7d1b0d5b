/- The walks of the statements on tables that there are, and on nil tables, readers and writers. -/
import Derived.Test.YtmafcmfafcjokaaTable
namespace Go.Proofs.Ytmafcmfafcjokaa
open Go Go.RowKit

theorem huffMakes_walk {A : Option Addr} {len cap : Nat} {l : List Int} {w : World} (hl : Ints w A len l) (hb : len * 8 ≤ 140737488351232) (hnil : A = none → cap = 0) (_hf : Fits l) :
    Calls Try.prog 11 #[.slice A len cap] w fun e w' => e = .returned (.bool true) ∧ Below w.heap.size w w' := by
  have hm : len ≤ maxLen := by unfold maxLen; omega
  by_cases hc : chk l = 0
  · have hmk := make_any hl hb hnil hc
    have HM := Lib.hid hmk
    have HC := Lib.hid hc
    clear hmk hc hnil
    go_enter Try.func11, Try.ntmps11
    go_wp2_with fail
    refine HM.out.mono ?_
    rintro e w1 ⟨b, rfl, hT, hB⟩
    have hck := ref_check (cap := cap) (hl.but hB (by simp)) hm
    rw [HC.out] at hck
    have HCK := Lib.hid hck
    have HB := Lib.hid hB
    clear hck hB hT hl
    go_wp2_with fail
    refine HCK.out.mono ?_
    rintro e w2 ⟨rfl, rfl⟩
    go_wp2_with fail
    refine (awake_any _).mono ?_
    rintro e w3 ⟨rfl, hB3⟩
    have HF := Lib.hid (HB.out.trans hB3).belowNew
    go_wp2
    go_ret
    exact ⟨rfl, HF.out⟩
  · have hmk := make_err (cap := cap) hl hm hc
    have hck := ref_check (cap := cap) hl hm
    have hx0 : (chk l == 0) = false := by simpa using hc
    generalize chk l = x at *
    have HM := Lib.hid hmk
    have HCK := Lib.hid hck
    clear hmk hc hnil hck hl
    go_enter Try.func11, Try.ntmps11
    go_wp2_with fail
    refine HM.out.mono ?_
    rintro e w1 ⟨rfl, rfl⟩
    go_wp2_with fail
    refine HCK.out.mono ?_
    rintro e w2 ⟨rfl, rfl⟩
    go_wp2_with fail
    refine (awake_any _).mono ?_
    rintro e w3 ⟨rfl, hB3⟩
    have HF := Lib.hid hB3.belowNew
    go_wp2
    go_ret
    exact ⟨rfl, HF.out⟩

theorem next_nil (r : Value) (w : World) (hr : ∃ a, r = .pointer a) : Calls Try.prog 21 #[.pointer none, r] w fun e w' => e = .returned (.tuple #[.int .i64 0, .int .i64 2]) ∧ w = w' := by
  obtain ⟨a, rfl⟩ := hr
  go_enter Try.func21, Try.ntmps21
  go_wp2
  go_ret2
  exact ⟨rfl, rfl⟩
theorem next_nil2 (b : Nat) (w : World) : Calls Try.prog 21 #[.pointer (some ⟨b, 0, none⟩), .pointer none] w fun e w' => e = .returned (.tuple #[.int .i64 0, .int .i64 2]) ∧ w = w' := by
  go_enter Try.func21, Try.ntmps21
  go_wp2
  go_ret2
  exact ⟨rfl, rfl⟩
theorem lay_nil (r : Value) (n : Int) (w : World) (hr : ∃ a, r = .pointer a) : Calls Try.prog 26 #[.pointer none, r, .int .i64 n] w fun e w' => e = .returned (.int .i64 2) ∧ w = w' := by
  obtain ⟨a, rfl⟩ := hr
  go_enter Try.func26, Try.ntmps26
  go_wp2
  go_ret
  exact ⟨rfl, rfl⟩
theorem lay_nil2 (b : Nat) (n : Int) (w : World) : Calls Try.prog 26 #[.pointer (some ⟨b, 0, none⟩), .pointer none, .int .i64 n] w fun e w' => e = .returned (.int .i64 2) ∧ w = w' := by
  go_enter Try.func26, Try.ntmps26
  go_wp2
  go_ret
  exact ⟨rfl, rfl⟩

set_option maxRecDepth 100000 in
theorem huffNil_walk {n : Int} {w : World} (_hn : (Lit.int .i64 n).wf = true) :
    Calls Try.prog 10 #[.int .i64 n] w fun e w' => e = .returned (.bool true) ∧ Below w.heap.size w w' := by
  go_enter Try.func10, Try.ntmps10
  go_wp2_with fail
  refine (make_any (l := [1, 1]) (Ints.lit w [1, 1]) (by decide) (by simp) (by decide +kernel)).mono ?_
  rintro e w1 ⟨b, rfl, _, hB1⟩
  go_wp2_with fail
  refine (bits_read _ _).mono ?_
  rintro e w2 ⟨rfl, _, hB2, _⟩
  go_wp2_with fail
  refine (next_nil _ _ ⟨_, rfl⟩).mono ?_
  rintro e w3 ⟨rfl, rfl⟩
  go_wp2_with fail
  refine (next_nil2 _ _).mono ?_
  rintro e w4 ⟨rfl, rfl⟩
  have hB := (((But.refl [] w).alloc _).trans hB1).trans hB2
  clear hB1 hB2
  go_wp2_with fail
  refine (bits_new _).mono ?_
  rintro e w5 ⟨rfl, rfl⟩
  go_wp2_with fail
  refine (lay_nil _ _ _ ⟨_, rfl⟩).mono ?_
  rintro e w6 ⟨rfl, rfl⟩
  go_wp2_with fail
  refine (lay_nil2 _ _ _).mono ?_
  rintro e w7 ⟨rfl, rfl⟩
  go_wp2_with fail
  refine (awake_any _).mono ?_
  rintro e w8 ⟨rfl, hB8⟩
  have HF := Lib.hid ((hB.alloc _).trans hB8).belowNew
  clear hB hB8
  go_wp2
  go_ret
  exact ⟨rfl, HF.out⟩
end Go.Proofs.Ytmafcmfafcjokaa
