/- The walk of the statement on readers: call by call both readers answer alike. -/
import Derived.Test.YtafchckfanbkcaaOps
namespace Go.Proofs.Ytafchckfanbkcaa
open Go Go.RowKit

theorem FS.fresh (w : World) (s : ByteArray) : FS (w.alloc (.cells #[.string s, .int .i64 0] 30)) w.heap.size s 0 := ⟨Nat.zero_le _, Is.fresh w _ _⟩
set_option maxRecDepth 100000 in
set_option maxHeartbeats 1000000 in
theorem bitsReads_walk {s : ByteArray} {A : Option Addr} {len cap : Nat} {ops : List (Bool × Int × Int)} {w : World} (hs : s.size ≤ 140737488351232) (ho : IsOps w A len cap ops) :
    Calls Try.prog 5 #[.string s, .slice A len cap] w fun e w' => e = .returned (.bool true) ∧ Below w.heap.size w w' := by
  have hs2 : s.size ≤ 140737488355328 := by omega
  go_enter Try.func5, Try.ntmps5
  go_wp2_with fail
  refine (bits_read _ _).mono ?_
  rintro e w1 ⟨rfl, hR, hB1, hs1⟩
  go_wp2_with fail
  have hF := FS.fresh w1 s
  have hR1 := hR.but ((But.refl [] w1).alloc (.cells #[.string s, .int .i64 0] 30)) (by simp) (by simp)
  have hB := hB1.alloc (.cells #[.string s, .int .i64 0] 30)
  rw [hs1] at hF
  clear hR hB1
  go_loopw [7] (fun i wr => ∃ k p : Nat, k ≤ len ∧ i = .int .i64 k ∧ RS wr (w.heap.size + 1) w.heap.size s p ∧ FS wr (w.heap.size + 2) s p ∧ But [] w wr) (fun i _ => len - (intOf i).toNat)
  case atStart => exact ⟨0, 0, Nat.zero_le _, rfl, hR1, hF, hB⟩
  case round =>
    obtain ⟨k, p, hk, rfl, hRr, hFr, hBr⟩ := hrel
    have ho' := ho.below hBr.belowNew
    clear hR1 hF hB ho
    obtain ⟨hol, hlc, hcm, hoc, hob⟩ := ho'
    unfold maxLen at hcm
    by_cases hlt : k < len
    · by_cases h300 : k < 300
      · obtain ⟨g, o, rfl, hg, hc⟩ := hoc (by omega)
        obtain ⟨c0, c1, c2⟩ := hc k (by omega)
        have hb := hob _ (List.getElem_mem (show k < ops.length by omega))
        generalize ops[k]'(by omega) = q at *
        obtain ⟨wh, n, v⟩ := q
        clear hoc hob hc
        have hn64 : n ≤ 9223372036854775807 := hb.2
        cases wh
        · go_wp2_with fail
          refine (hRr.bits hs2 n).mono ?_
          rintro e w2 ⟨rfl, hR2, hB2⟩
          have hF2 := hFr.but hB2 (by simp)
          go_wp2_with fail
          refine (hF2.bits hs2 n).mono ?_
          rintro e w3 ⟨rfl, hF3, hB3⟩
          have hR3 := hR2.but hB3 (by simp) (by simp)
          have hBn := (hBr.fresh hB2 (by simp)).fresh hB3 (by simp)
          clear hRr hFr hR2 hF2 hB2 hB3 c0 c1 c2 hBr
          go_wp2_with fail
          refine (hR3.left hs2).mono ?_
          rintro e w4 ⟨rfl, nq, rfl⟩
          have hF4 := hF3.but ((But.refl [] w3).drewN nq) (by simp)
          go_wp2_with fail
          refine (hF4.left hs2).mono ?_
          rintro e w5 ⟨rfl, nq2, rfl⟩
          go_wp2_with fail
          go_roundw
          case rel => exact ⟨k + 1, bitsGo s p n, by omega, by go_num, hR3.but ((But.refl [] w3).drewN _) (by simp) (by simp), hF3.but ((But.refl [] w3).drewN _) (by simp), hBn.drewN _⟩
          case measure => simp [intOf]; omega
        · go_wp2_with fail
          refine (hRr.bytes hs2 n).mono ?_
          rintro e w2 ⟨rfl, hR2, hB2⟩
          have hF2 := hFr.but hB2 (by simp)
          go_wp2_with fail
          refine (hF2.bytes hs2 n hn64).mono ?_
          rintro e w3 ⟨rfl, hF3, hB3⟩
          have hR3 := hR2.but hB3 (by simp) (by simp)
          have hBn := (hBr.fresh hB2 (by simp)).fresh hB3 (by simp)
          clear hRr hFr hR2 hF2 hB2 hB3 c0 c1 c2 hBr
          go_wp2_with fail
          refine (hR3.left hs2).mono ?_
          rintro e w4 ⟨rfl, nq, rfl⟩
          have hF4 := hF3.but ((But.refl [] w3).drewN nq) (by simp)
          go_wp2_with fail
          refine (hF4.left hs2).mono ?_
          rintro e w5 ⟨rfl, nq2, rfl⟩
          go_wp2_with fail
          go_roundw
          case rel => exact ⟨k + 1, bytesGo s p n, by omega, by go_num, hR3.but ((But.refl [] w3).drewN _) (by simp) (by simp), hF3.but ((But.refl [] w3).drewN _) (by simp), hBn.drewN _⟩
          case measure => simp [intOf]; omega
      · have t300 : decide ((k : Int) < 300) = false := by simp; omega
        go_wp2_with (go_at_call 12; refine (awake_any _).mono ?_; rintro e w' ⟨rfl, hB2⟩)
        go_ret
        exact ⟨rfl, (hBr.trans hB2).belowNew⟩
    · have tlen : decide ((k : Int) < (len : Int)) = false := by simp; omega
      go_wp2_with (go_at_call 12; refine (awake_any _).mono ?_; rintro e w' ⟨rfl, hB2⟩)
      go_ret
      exact ⟨rfl, (hBr.trans hB2).belowNew⟩
end Go.Proofs.Ytafchckfanbkcaa
