/- The walk of the statement on what a stream says. -/
import Derived.Test.YtobmghjpfkdooaaDoorLawN
import Derived.Test.YtobmghjpfkdooaaDoorRfI
set_option maxRecDepth 100000
set_option linter.unusedVariables false
namespace Go.Proofs.YtobmghjpfkdooaaDoor
set_option maxRecDepth 100000
open Go Go.RowKit

set_option maxHeartbeats 1000000 in
theorem inflateSays_walk {s : ByteArray} {M : Int} {w : World} (hs : s.size ≤ 140737488351232) (hw : (Lit.int .i64 M).wf = true) (hG : GL w) :
    Calls Tryd.prog 3 #[.string s, .int .i64 M] w fun e w' => e = .returned (.bool true) ∧ Below w.heap.size w w' := by
  have HG := Lib.hid hG
  clear hG
  by_cases h1 : 20000 < s.size
  · have d1 : decide ((20000 : Int) < (s.size : Int)) = true := by simp; omega
    clear h1
    go_enter Tryd.func3, Tryd.ntmps3
    go_wp2_with fail
    refine (awake3_any _ HG.out).mono ?_
    rintro e w2 ⟨rfl, hB⟩
    have HF := Lib.hid hB.belowNew
    clear hB
    go_wp2
    go_ret
    exact ⟨rfl, HF.out⟩
  · have d1 : decide ((20000 : Int) < (s.size : Int)) = false := by simp; omega
    by_cases h2 : 100000 < M
    · have d2 : decide ((100000 : Int) < M) = true := by simpa using h2
      clear h2
      go_enter Tryd.func3, Tryd.ntmps3
      go_wp2_with fail
      refine (awake3_any _ HG.out).mono ?_
      rintro e w9 ⟨rfl, hB⟩
      have HF := Lib.hid hB.belowNew
      clear hB
      go_wp2
      go_ret
      exact ⟨rfl, HF.out⟩
    · have d2 : decide ((100000 : Int) < M) = false := by simpa using h2
      have c1 := fun (w : World) (hG : GL w) => inflate_any (w := w) s M (by omega) (by omega) hG
      have c2 := fun (w : World) => rinflate_any w (s := s) (M := M) (by omega) (by omega)
      obtain ⟨X, N, E, hx⟩ : ∃ (X : ByteArray) (N E : Int), tell (inflT s M) = .returned (.tuple #[.string X, .int .i64 N, .int .i64 E]) := ⟨_, _, _, rfl⟩
      rw [hx] at c1 c2
      have C1 := Lib.hid c1
      have C2 := Lib.hid c2
      clear c1 c2 hx h1 h2
      have exx : (X.toList == X.toList) = true := by simp
      go_enter Tryd.func3, Tryd.ntmps3
      go_wp2_with fail
      refine (C1.out w HG.out).mono ?_
      rintro e w1 ⟨rfl, hB1⟩
      have HG1 := Lib.hid (HG.out.but hB1)
      have HB1 := Lib.hid hB1
      clear hB1
      go_wp2_with fail
      refine (C2.out w1).mono ?_
      rintro e w2 ⟨rfl, hB2⟩
      have HG2 := Lib.hid (HG1.out.but hB2)
      have HB2 := Lib.hid (HB1.out.trans hB2)
      clear hB2 HG1 HB1
      go_wp2_with fail
      refine (awake3_any _ HG2.out).mono ?_
      rintro e w3 ⟨rfl, hB3⟩
      have HF := Lib.hid (HB2.out.trans hB3).belowNew
      clear hB3 HB2
      go_wp2
      go_ret
      exact ⟨rfl, HF.out⟩
end Go.Proofs.YtobmghjpfkdooaaDoor
