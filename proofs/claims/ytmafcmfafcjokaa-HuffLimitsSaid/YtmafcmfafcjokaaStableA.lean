/- The contract of the stable sort of coins, as far as one block goes. -/
import Derived.Test.YtmafcmfafcjokaaSortX
namespace Go.Proofs.Ytmafcmfafcjokaa
open Go Go.RowKit

/-- The library's stable sort sorts so many coins and fewer. -/
def SortsUpTo (N : Nat) : Prop := ∀ (w : World) (g o n cap : Nat) (d : List (Nat × Nat)), CL w g o d → d.length = n → n ≤ N → g < w.heap.size → (d.Pairwise fun x y => x.1 < y.1) →
  Calls Try.prog 43 #[.slice (some ⟨g, o, none⟩) n cap, .func (.func 44) #[] #[]] w fun e w' => e = .returned (.tuple #[]) ∧ (∃ S, Srt S ∧ S.Perm d ∧ CL w' g o S) ∧ But [g] w w'

set_option maxRecDepth 100000 in
theorem stable_small {w : World} {g o n cap : Nat} {d : List (Nat × Nat)} (hd : CL w g o d) (hdl : d.length = n) (hn : n < 20) (hgl : g < w.heap.size) (hs : d.Pairwise fun x y => x.1 < y.1) :
    Calls Try.prog 49 #[.slice (some ⟨g, o, none⟩) n cap, .int .i64 n, .func (.func 44) #[] #[]] w fun e w' => e = .returned (.tuple #[]) ∧ (∃ S, Srt S ∧ S.Perm d ∧ CL w' g o S) ∧ But [g] w w' := by
  have hi := insertion_any (cap := cap) (a := 0) (b := n) (A := []) (X := d) (B := []) (by simpa using hd) (by simpa using hdl) (by omega) hgl rfl (by simpa using hdl.symm) hs
  simp only [List.nil_append, List.append_nil] at hi
  have HI := Lib.hid hi
  clear hi hd hdl
  have d1 : decide (20 ≤ (n : Int)) = false := by simp; omega
  have d2 : decide (20 < (n : Int)) = false := by simp; omega
  go_enter Try.func49, Try.ntmps49
  go_wp2
  go_loopw [7, 8] (fun av bv wr => av = .int .i64 0 ∧ bv = .int .i64 20 ∧ wr = w) (fun _ _ _ => 0)
  case atStart => exact ⟨rfl, rfl, rfl⟩
  case round =>
    obtain ⟨rfl, rfl, rfl⟩ := hrel
    go_wp2_with fail
    refine HI.out.mono ?_
    rintro e w' ⟨rfl, hS, hB⟩
    go_wp2
    go_loopw [6] (fun bv wr => bv = .int .i64 20 ∧ wr = w') (fun _ _ => 0)
    case atStart => exact ⟨rfl, rfl⟩
    case round =>
      obtain ⟨rfl, rfl⟩ := hrel
      go_wp2
      go_end0
      exact ⟨rfl, hS, hB⟩
theorem sorts_of {N : Nat} (h : ∀ {w : World} {g o n cap : Nat} {d : List (Nat × Nat)}, CL w g o d → d.length = n → n ≤ N → g < w.heap.size → (d.Pairwise fun x y => x.1 < y.1) →
    Calls Try.prog 49 #[.slice (some ⟨g, o, none⟩) n cap, .int .i64 n, .func (.func 44) #[] #[]] w fun e w' => e = .returned (.tuple #[]) ∧ (∃ S, Srt S ∧ S.Perm d ∧ CL w' g o S) ∧ But [g] w w') : SortsUpTo N := by
  intro w g o n cap d hd hdl hn hgl hs
  have HI := Lib.hid (h (cap := cap) hd hdl hn hgl hs)
  clear hd hdl
  go_enter Try.func43, Try.ntmps43
  go_wp2_with fail
  refine HI.out.mono ?_
  rintro e w' ⟨rfl, hS, hB⟩
  go_wp2
  go_end0
  exact ⟨rfl, hS, hB⟩
theorem sorts_small : SortsUpTo 19 := sorts_of fun hd hdl hn hgl hs => stable_small hd hdl (by omega) hgl hs

set_option maxRecDepth 100000 in
theorem insertion_nil (w : World) (A : Option Addr) (cap : Nat) (f : Value) : Calls Try.prog 52 #[.slice A 0 cap, .int .i64 0, .int .i64 0, f] w fun e w' => e = .returned (.tuple #[]) ∧ w = w' := by
  go_enter Try.func52, Try.ntmps52
  go_wp2
  go_loopw [8] (fun iv wr => iv = .int .i64 1 ∧ wr = w) (fun _ _ => 0)
  case atStart => exact ⟨rfl, rfl⟩
  case round =>
    obtain ⟨rfl, rfl⟩ := hrel
    go_wp2
    go_end0
    exact ⟨rfl, rfl⟩
set_option maxRecDepth 100000 in
theorem stable_nil (w : World) (A : Option Addr) (cap : Nat) (f : Value) : Calls Try.prog 49 #[.slice A 0 cap, .int .i64 0, f] w fun e w' => e = .returned (.tuple #[]) ∧ w = w' := by
  go_enter Try.func49, Try.ntmps49
  go_wp2
  go_loopw [7, 8] (fun av bv wr => av = .int .i64 0 ∧ bv = .int .i64 20 ∧ wr = w) (fun _ _ _ => 0)
  case atStart => exact ⟨rfl, rfl, rfl⟩
  case round =>
    obtain ⟨rfl, rfl, rfl⟩ := hrel
    go_wp2_with fail
    refine (insertion_nil _ _ _ _).mono ?_
    rintro e w' ⟨rfl, rfl⟩
    obtain ⟨w9, hw9⟩ : ∃ w9 : World, wr = w9 := ⟨_, rfl⟩
    subst hw9
    go_wp2
    go_loopw [6] (fun bv w2 => bv = .int .i64 20 ∧ w2 = wr) (fun _ _ => 0)
    case atStart => exact ⟨rfl, rfl⟩
    case round =>
      obtain ⟨rfl, rfl⟩ := hrel
      go_wp2
      go_end0
      exact ⟨rfl, rfl⟩
theorem sort_nil (w : World) (A : Option Addr) (cap : Nat) (f : Value) : Calls Try.prog 43 #[.slice A 0 cap, f] w fun e w' => e = .returned (.tuple #[]) ∧ w = w' := by
  go_enter Try.func43, Try.ntmps43
  go_wp2_with (go_at_call 49; refine (stable_nil _ _ _ _).mono ?_; rintro e w' ⟨rfl, rfl⟩)
  go_end0
  exact ⟨rfl, rfl⟩
end Go.Proofs.Ytmafcmfafcjokaa
