/- Whether two lists of numbers are the same: where they are. -/
import Derived.Test.YtfibffcmbnlomaaSbE
set_option maxRecDepth 100000
set_option linter.unusedVariables false
namespace Go.Proofs.Ytfibffcmbnlomaa
set_option maxRecDepth 100000
open Go Go.RowKit
theorem Nums.zs {w : World} {A : Option Addr} {n : Nat} {L : List Nat} (h : Nums w A n L) : Zs w A n (L.map fun x => ((x : Nat) : Int)) := by
  refine ⟨by rw [List.length_map]; exact h.1, fun hn => ?_⟩
  obtain ⟨g, o, e, hg, hc⟩ := h.2 hn
  refine ⟨g, o, e, hg, fun i hi => ?_⟩
  rw [List.length_map] at hi
  rw [List.getElem_map]
  exact hc i hi
set_option maxHeartbeats 1000000 in
theorem isame_any (w : World) {A A' : Option Addr} {n c c' : Nat} {l : List Int} (hA : Zs w A n l) (hB : Zs w A' n l) (hn : n ≤ 1000000000000000) :
    Calls Try.prog 13 #[.slice A n c, .slice A' n c'] w fun e w' => e = .returned (.bool true) ∧ But [] w w' := by
  have HS0 : Hid (Zs w A n l ∧ Zs w A' n l ∧ But [] w w) := Lib.hid ⟨hA, hB, But.refl [] w⟩
  clear hA hB
  go_enter Try.func13, Try.ntmps13
  go_wp2_with fail
  go_loopw [5] (fun iv wr => ∃ i : Nat, i ≤ n ∧ iv = .int .i64 i ∧ Hid (Zs wr A n l ∧ Zs wr A' n l ∧ But [] w wr)) (fun iv _ => n - (intOf iv).toNat)
  case atStart => exact ⟨0, Nat.zero_le _, rfl, HS0⟩
  case round =>
    clear HS0
    obtain ⟨i, hi, rfl, HS⟩ := hrel
    by_cases hlt : i < n
    · have HS1 : Hid (Zs wr.drew A n l ∧ Zs wr.drew A' n l ∧ But [] w wr.drew) := Lib.hid ⟨HS.out.1.but ((But.refl [] wr).drew), HS.out.2.1.but ((But.refl [] wr).drew), HS.out.2.2.drew⟩
      obtain ⟨g, o, x, rfl, hg, hx, k0⟩ := HS1.out.1.at hlt
      obtain ⟨g', o', x', rfl, hg', hx', k1⟩ := HS1.out.2.1.at hlt
      have e : x' = x := by
        rw [hx] at hx'
        exact (Option.some.inj hx').symm
      subst e
      have i0 : (0 : Int) ≤ (i : Int) := by omega
      have i1 : (i : Int) < (n : Int) := by omega
      clear hx hx'
      go_upto_region 6 with (fail)
      go_region_with fail
      all_goals go_wp2
      all_goals exact ⟨⟨i + 1, by omega, by go_num, HS1⟩, by simp [intOf] <;> omega⟩
    · obtain rfl : i = n := by omega
      go_wp2
      go_ret
      exact ⟨rfl, HS.out.2.2⟩
end Go.Proofs.Ytfibffcmbnlomaa
