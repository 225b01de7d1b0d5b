/- The contract of the chapter's examples: they answer as the chapter says, and leave all memory that was there as it was. -/
import Derived.Test.YtmafcmfafcjokaaLimitW
namespace Go.Proofs.Ytmafcmfafcjokaa
open Go Go.RowKit

theorem Ints.of {w : World} {b n : Nat} {t : TypeId} {cs : Array Value} {l : List Int} (h : Is w b t cs) (hn : l.length = n) (hc : ∀ i (hi : i < l.length), cs[i]? = some (.int .i64 l[i])) : Ints w (some ⟨b, 0, none⟩) n l :=
  ⟨hn, fun _ => ⟨b, 0, rfl, h.lt, fun i hi => by rw [Nat.zero_add, h.cell]; exact hc i hi⟩⟩
/-- A list that was just written down. -/
theorem Ints.lit (w : World) (l : List Int) : Ints (w.alloc (.cells (l.map (Value.int .i64)).toArray 3)) (some ⟨w.heap.size, 0, none⟩) l.length l :=
  Ints.of (Is.fresh w _ _) rfl (fun i hi => by simp [hi])
theorem limit_got {w : World} {A : Option Addr} {cap M n : Nat} {l r : List Int} (hl : Ints w A n l) (hM1 : 1 ≤ M) (hM2 : M ≤ 15) (h20 : n ≤ 19) (hok : okCounts l = true) (hp : (csOf l n).length ≤ 2 ^ M) (hr : lims M l = r) :
    Calls Try.prog 30 #[.int .i64 (M : Int), .slice A n cap] w (GotList w n r) := by
  refine (limit_late sorts_small hl hM1 hM2 (by omega) (by have := length_coins0 l n; omega)).mono ?_
  rintro e w' (⟨_, _, h⟩ | ⟨h, _⟩)
  · rw [hr] at h; exact h
  · rcases h with h | h
    · rw [hok] at h; cases h
    · omega
theorem limit_none {w : World} {A : Option Addr} {cap M n : Nat} {l : List Int} (hl : Ints w A n l) (hM1 : 1 ≤ M) (hM2 : M ≤ 15) (h20 : n ≤ 19) (hp : 2 ^ M < (csOf l n).length) :
    Calls Try.prog 30 #[.int .i64 (M : Int), .slice A n cap] w (GotNone w) := by
  refine (limit_late sorts_small hl hM1 hM2 (by omega) (by have := length_coins0 l n; omega)).mono ?_
  rintro e w' (⟨_, h, _⟩ | ⟨_, h⟩)
  · omega
  · exact h
theorem check_at {w : World} {A : Option Addr} {n cap : Nat} {l : List Int} (hl : Ints w A n l) (hm : n ≤ 19) (x : Int) (hx : chk l = x) :
    Calls Try.prog 12 #[.slice A n cap] w fun e w' => e = .returned (.int .i64 x) ∧ w = w' := by
  subst hx; exact check_any hl (by unfold maxLen; omega)
theorem check_but {w : World} {l : List Int} (hm : l.length ≤ 19) (x : Int) (hx : chk l = x) :
    Calls Try.prog 12 #[.slice (some ⟨w.heap.size, 0, none⟩) l.length l.length] (w.alloc (.cells (l.map (Value.int .i64)).toArray 3)) fun e w' => e = .returned (.int .i64 x) ∧ But [] w w' := by
  refine (check_at (Ints.lit w l) hm x hx).mono ?_
  rintro e w' ⟨he, rfl⟩
  exact ⟨he, (But.refl [] w).alloc _⟩
theorem check_nil {w : World} : Calls Try.prog 12 #[.slice none 0 0] w fun e w' => e = .returned (.int .i64 0) ∧ But [] w w' := by
  refine (check_at (l := []) (Ints.empty w none) (by decide) 0 (by decide +kernel)).mono ?_
  rintro e w' ⟨he, rfl⟩
  exact ⟨he, But.refl _ _⟩
theorem ints_at {w : World} {A : Option Addr} {g n c d : Nat} {base : Nat} {l : List Int} (ha : OwnI w base (.slice (some ⟨g, 0, none⟩) n c) l) (hb : Ints w A n l) (hm : n ≤ maxLen) :
    Calls Try.prog 17 #[.slice (some ⟨g, 0, none⟩) n c, .slice A n d] w fun e w' => e = .returned (.bool true) ∧ ∃ k, w' = w.drewN k := ints_same ha.ints hb hm

set_option maxRecDepth 100000 in
set_option maxHeartbeats 2000000 in
theorem awake_any (w : World) :
    Calls Try.prog 14 #[] w fun e w' => e = .returned (.bool true) ∧ But [] w w' := by
  go_enter Try.func14, Try.ntmps14
  go_wp2_with fail
  refine (codes_any (l := [2, 1, 3, 3]) (Ints.lit w [2, 1, 3, 3]) (by unfold maxLen; decide) (by decide +kernel)).mono ?_
  rintro e w1 ⟨g1, rfl, hO1, hB1⟩
  go_wp2_with fail
  refine (limit_got (M := 15) (l := [1, 1, 2, 4]) (r := [3, 3, 2, 1]) (Ints.lit w1 [1, 1, 2, 4]) (by decide) (by decide) (by decide) (by decide +kernel) (by decide +kernel) (by decide +kernel)).mono ?_
  rintro e w2 ⟨g2, rfl, hO2, hB2⟩
  go_wp2_with fail
  refine (limit_got (M := 2) (l := [1, 1, 2, 4]) (r := [2, 2, 2, 2]) (Ints.lit w2 [1, 1, 2, 4]) (by decide) (by decide) (by decide) (by decide +kernel) (by decide +kernel) (by decide +kernel)).mono ?_
  rintro e w3 ⟨g3, rfl, hO3, hB3⟩
  go_wp2_with fail
  refine (limit_none (M := 1) (l := [1, 1, 1]) (Ints.lit w3 [1, 1, 1]) (by decide) (by decide) (by decide) (by decide +kernel)).mono ?_
  rintro e w4 ⟨rfl, hB4⟩
  have a1 : But [] w1 w2 := ((But.refl [] w1).alloc _).trans hB2
  have a2 : But [] w2 w3 := ((But.refl [] w2).alloc _).trans hB3
  have a3 : But [] w3 w4 := ((But.refl [] w3).alloc _).trans hB4
  have hcd : codes [2, 1, 3, 3] = [2, 0, 6, 7] := by decide +kernel
  rw [hcd] at hO1
  have i1 := (hO1.ints.but ((a1.trans a2).trans a3) (by simp))
  have i2 := (hO2.ints.but (a2.trans a3) (by simp))
  have i3 := (hO3.ints.but a3 (by simp))
  have hB : But [] w w4 := ((((But.refl [] w).alloc _).trans hB1).trans a1).trans (a2.trans a3)
  clear hO1 hO2 hO3 hB1 hB2 hB3 hB4 a1 a2 a3 hcd
  go_wp2_with fail
  refine (ints_same (l := [2, 0, 6, 7]) (i1.but ((But.refl [] w4).alloc _) (by simp)) (Ints.lit w4 [2, 0, 6, 7]) (by unfold maxLen; decide)).mono ?_
  rintro e w5 ⟨rfl, q5, hq5⟩
  have a5 : But [] w4 w5 := by rw [hq5]; exact ((But.refl [] w4).alloc _).drewN _
  clear hq5 i1
  go_wp2_with fail
  refine (check_but (w := w5) (l := [1, 1, 1]) (by decide) 10 (by decide +kernel)).mono ?_
  rintro e w6 ⟨rfl, a6⟩
  go_wp2_with fail
  refine (check_but (w := w6) (l := [2]) (by decide) 11 (by decide +kernel)).mono ?_
  rintro e w7 ⟨rfl, a7⟩
  go_wp2_with fail
  refine (check_but (w := w7) (l := [1]) (by decide) 0 (by decide +kernel)).mono ?_
  rintro e w8 ⟨rfl, a8⟩
  go_wp2_with fail
  refine (check_but (w := w8) (l := [0, 0]) (by decide) 0 (by decide +kernel)).mono ?_
  rintro e w9 ⟨rfl, a9⟩
  go_wp2_with fail
  refine (check_nil (w := w9)).mono ?_
  rintro e w10 ⟨rfl, a10⟩
  have b1 := ((((a5.trans a6).trans a7).trans a8).trans a9).trans a10
  have j2 := i2.but b1 (by simp)
  have j3 := i3.but b1 (by simp)
  have hBB := hB.trans b1
  clear a5 a6 a7 a8 a9 a10 b1 i2 i3 hB
  go_wp2_with fail
  refine (ints_same (l := [3, 3, 2, 1]) (j2.but ((But.refl [] w10).alloc _) (by simp)) (Ints.lit w10 [3, 3, 2, 1]) (by unfold maxLen; decide)).mono ?_
  rintro e w11 ⟨rfl, q11, hq11⟩
  have a11 : But [] w10 w11 := by rw [hq11]; exact ((But.refl [] w10).alloc _).drewN _
  have k3 := j3.but a11 (by simp)
  have hB3 := hBB.trans a11
  clear hq11 j2 j3 a11 hBB
  go_wp2_with fail
  refine (ints_same (l := [2, 2, 2, 2]) (k3.but ((But.refl [] w11).alloc _) (by simp)) (Ints.lit w11 [2, 2, 2, 2]) (by unfold maxLen; decide)).mono ?_
  rintro e w12 ⟨rfl, q12, hq12⟩
  have a12 : But [] w11 w12 := by rw [hq12]; exact ((But.refl [] w11).alloc _).drewN _
  have hB4 := hB3.trans a12
  clear hq12 k3 a12 hB3
  go_wp2_with fail
  go_ret
  exact ⟨rfl, hB4⟩
end Go.Proofs.Ytmafcmfafcjokaa
