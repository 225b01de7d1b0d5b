/- Whether two lists of passes are the same: where they are. -/
import Derived.Test.YtookfoanggjnkaaDoorLcD
set_option maxRecDepth 100000
set_option linter.unusedVariables false
namespace Go.Proofs.YtookfoanggjnkaaDoor
set_option maxRecDepth 100000
open Go Go.RowKit
set_option maxHeartbeats 1000000 in
theorem lsame_any (w : World) {A A' : Option Addr} {n c c' : Nat} {L : List P6} (hA : Pss w A n L) (hB : Pss w A' n L) (hn : n ≤ 1000) :
    Calls Tryd.prog 10 #[.slice A n c, .slice A' n c'] w fun e w' => e = .returned (.bool true) ∧ But [] w w' := by
  have HS0 : Hid (Pss w A n L ∧ Pss w A' n L ∧ But [] w w) := Lib.hid ⟨hA, hB, But.refl [] w⟩
  clear hA hB
  go_enter Tryd.func10, Tryd.ntmps10
  go_wp2_with fail
  go_loopw [5] (fun iv wr => ∃ i : Nat, i ≤ n ∧ iv = .int .i64 i ∧ Hid (Pss wr A n L ∧ Pss wr A' n L ∧ But [] w wr)) (fun iv _ => n - (intOf iv).toNat)
  case atStart => exact ⟨0, Nat.zero_le _, rfl, HS0⟩
  case round =>
    clear HS0
    obtain ⟨i, hi, rfl, HS⟩ := hrel
    by_cases hlt : i < n
    · have HS1 : Hid (Pss wr.drew A n L ∧ Pss wr.drew A' n L ∧ But [] w wr.drew) := Lib.hid ⟨HS.out.1.but ((But.refl [] wr).drew), HS.out.2.1.but ((But.refl [] wr).drew), HS.out.2.2.drew⟩
      obtain ⟨g, o, p, rfl, hg, hp, k0, k1, k2, k3, k4, k5⟩ := HS1.out.1.at hlt
      obtain ⟨g', o', p', rfl, hg', hp', m0, m1, m2, m3, m4, m5⟩ := HS1.out.2.1.at hlt
      have e : p' = p := by
        rw [hp] at hp'
        exact (Option.some.inj hp').symm
      subst e
      obtain ⟨x, y, dx, dy, pw, ph⟩ := p'
      dsimp only at k0 k1 k2 k3 k4 k5 m0 m1 m2 m3 m4 m5
      have kn := fun v => pass_neq v x y dx dy pw ph
      have i0 : (0 : Int) ≤ (i : Int) := by omega
      have i1 : (i : Int) < (n : Int) := by omega
      clear hp hp'
      go_upto_region 6 with (fail)
      go_region_with fail
      all_goals go_wp2
      all_goals exact ⟨⟨i + 1, by omega, by go_num, HS1⟩, by simp [intOf] <;> omega⟩
    · obtain rfl : i = n := by omega
      go_wp2
      go_ret
      exact ⟨rfl, HS.out.2.2⟩
end Go.Proofs.YtookfoanggjnkaaDoor
