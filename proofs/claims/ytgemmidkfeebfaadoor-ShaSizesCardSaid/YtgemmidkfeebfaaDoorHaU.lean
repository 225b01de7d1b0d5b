/- The laws of layer 14: the walks of its sizes and words. -/
import Derived.Test.YtgemmidkfeebfaaDoorHaS
set_option maxRecDepth 100000
set_option linter.unusedVariables false
namespace Go.Proofs.YtgemmidkfeebfaaDoor
set_option maxRecDepth 100000
open Go Go.RowKit
theorem toList_inj {a b : ByteArray} (h : a.toList = b.toList) : a = b := by
  rw [ByteArray.toList_eq, ByteArray.toList_eq] at h
  exact ByteArray.ext (Array.ext' h)
set_option maxHeartbeats 1000000 in
theorem shaSizes_walk {a b : ByteArray} {w : World} (ha : a.size ≤ 140737488351232) (hb : b.size ≤ 140737488351232) (hG : GK w) : Calls Tryd.prog 5 #[.string a, .string b] w fun e w' => e = .returned (.bool true) ∧ Below w.heap.size w w' := by
  have HG := Lib.hid hG
  have HA := Lib.hid fun W hG => awake14_any W hG
  by_cases h1 : 100000 < a.size
  · have i1 : (100000 : Int) < (a.size : Int) := by omega
    clear hG
    go_enter Tryd.func5, Tryd.ntmps5
    go_wp2_with fail
    refine (HA.out _ HG.out).mono ?_
    rintro e w1 ⟨rfl, hB1⟩
    have HB1 := Lib.hid hB1
    clear hB1
    go_wp2
    go_ret
    exact ⟨rfl, but_belowH HB1.out⟩
  · by_cases h2 : 100000 < b.size
    · have i1 : ¬ (100000 : Int) < (a.size : Int) := by omega
      have i2 : (100000 : Int) < (b.size : Int) := by omega
      clear hG
      go_enter Tryd.func5, Tryd.ntmps5
      go_wp2_with fail
      refine (HA.out _ HG.out).mono ?_
      rintro e w1 ⟨rfl, hB1⟩
      have HB1 := Lib.hid hB1
      clear hB1
      go_wp2
      go_ret
      exact ⟨rfl, but_belowH HB1.out⟩
    · have i1 : ¬ (100000 : Int) < (a.size : Int) := by omega
      have i2 : ¬ (100000 : Int) < (b.size : Int) := by omega
      have HSm := Lib.hid fun W hG => psum_str W a (by omega) hG
      have HXa := Lib.hid fun W => phex_any W a (by omega)
      have HXb := Lib.hid fun W => phex_any W b (by omega)
      obtain ⟨Z, hZ⟩ : ∃ Z, Z = strL (shaT a.data.toList) := ⟨_, rfl⟩
      obtain ⟨X, hX⟩ : ∃ Z, Z = strL (hexL a.data.toList) := ⟨_, rfl⟩
      obtain ⟨Y, hY⟩ : ∃ Z, Z = strL (hexL b.data.toList) := ⟨_, rfl⟩
      have hz : Z.size = 32 := by rw [hZ, strL_size, shaT_length]
      have hx : X.size = 2 * a.size := by rw [hX, strL_size, hexL_length, Array.length_toList]; rfl
      obtain ⟨m, hm⟩ : ∃ m, m = 2 * a.size := ⟨_, rfl⟩
      rw [← hm] at hx
      have em : (2 : Int) * (a.size : Int) = (m : Int) := by omega
      have vm : IntKind.i64.wrap (m : Int) = (m : Int) := wrapI_in (by omega)
      have HAB : Hid (a = b → X = Y) := Lib.hid fun e => by rw [hX, hY, e]
      have HNB : Hid (a ≠ b → X ≠ Y) := Lib.hid fun ne e => ne (by
        rw [hX, hY] at e
        have h := congrArg (fun z : ByteArray => z.data.toList) e
        have h2 : hexL a.data.toList = hexL b.data.toList := by
          rw [← strL_list (hexL a.data.toList), ← strL_list (hexL b.data.toList)]; exact h
        exact ByteArray.ext (Array.ext' (hexL_inj h2)))
      rw [← hZ] at HSm
      rw [← hX] at HXa
      rw [← hY] at HXb
      clear hZ hX hY hm h1 h2 hG ha hb
      obtain ⟨p, hp⟩ : ∃ p : Bool, p = (a.toList == b.toList) := ⟨_, rfl⟩
      have HPP : Hid ((X.toList == Y.toList) = p) := Lib.hid (by
        rw [hp]
        by_cases e : a = b
        · rw [HAB.out e, e]
          simp
        · have n1 : (a.toList == b.toList) = false := by
            rw [beq_eq_false_iff_ne]; exact fun h => e (toList_inj h)
          have n2 : (X.toList == Y.toList) = false := by
            rw [beq_eq_false_iff_ne]; exact fun h => HNB.out e (toList_inj h)
          rw [n1, n2])
      have q1 : (a.toList == b.toList) = p := hp.symm
      have q2 := HPP.out
      clear hp HAB HNB HPP
      go_enter Tryd.func5, Tryd.ntmps5
      go_wp2_with fail
      refine (HXa.out _).mono ?_
      rintro e w1 ⟨rfl, hB1⟩
      have HB1 := Lib.hid hB1
      clear hB1
      go_wp2_with fail
      refine (HXb.out _).mono ?_
      rintro e w2 ⟨rfl, hB2⟩
      have HB2 := Lib.hid (HB1.out.trans hB2)
      clear hB2 HB1
      go_wp2_with fail
      refine (HSm.out _ (HG.out.but HB2.out)).mono ?_
      rintro e w3 ⟨rfl, hB3⟩
      have HB3 := Lib.hid (HB2.out.trans hB3)
      clear hB3 HB2
      cases p
      all_goals
        go_wp2_with fail
        refine (HA.out _ (HG.out.but HB3.out)).mono ?_
        rintro e w4 ⟨rfl, hB4⟩
        have HB4 := Lib.hid (HB3.out.trans hB4)
        clear hB4 HB3
        go_wp2
        go_ret
        exact ⟨rfl, but_belowH HB4.out⟩
end Go.Proofs.YtgemmidkfeebfaaDoor
