/- The chapter's examples come out. -/
import Derived.Test.YtfibffcmbnlomaaSbQ
import Derived.Test.YtfibffcmbnlomaaSbWb
set_option maxRecDepth 100000
set_option linter.unusedVariables false
namespace Go.Proofs.Ytfibffcmbnlomaa
set_option maxRecDepth 100000
open Go Go.RowKit
theorem ex11_pack : packA 2 [1, 2, 3] = ([108], 0) := by decide +kernel
theorem ex11_unpack : unpackA ⟨#[108]⟩ 2 3 = ([1, 2, 3], 0) := by decide +kernel
theorem ex11_pixel : pixelA 8 0 ⟨#[]⟩ ⟨#[]⟩ false [128] = (⟨#[128, 128, 128, 128, 128, 128, 255, 255]⟩, 0) := by decide +kernel
attribute [local irreducible] packA unpackA pixelA
set_option maxHeartbeats 2000000 in
theorem awake11_any (w : World) : Calls Try.prog 14 #[] w fun e w' => e = .returned (.bool true) ∧ But [] w w' := by
  have H1 : Hid (∀ (v : World) (g : Nat), Is v g 3 #[.int .i64 1, .int .i64 2, .int .i64 3] → Calls Try.prog 15 #[.int .i64 2, .slice (some ⟨g, 0, none⟩) 3 3] v fun e w' => e = .returned (.tuple #[.string ⟨#[108]⟩, .int .i64 0]) ∧ But [] v w') := Lib.hid fun v g hg => by
    have h := ppack_any v (d := 2) (cp := 3) (n := 3) (l := [1, 2, 3]) (Zs.is (l := [1, 2, 3]) hg) (by decide)
    rw [ex11_pack] at h
    exact h
  have H2 : Hid (∀ v, Calls Try.prog 11 #[.string ⟨#[108]⟩, .int .i64 2, .int .i64 3] v fun e w' => ∃ A cap, e = .returned (.tuple #[.slice A 3 cap, .int .i64 0]) ∧ Nums w' A 3 [1, 2, 3] ∧ 3 ≤ cap ∧ But [] v w') := Lib.hid fun v => by
    have h := punpack_any v (s := ⟨#[108]⟩) (d := 2) (n := 3) (by decide)
    rw [ex11_unpack] at h
    exact h
  have H3 : Hid (∀ (v : World) (g : Nat), Is v g 3 #[.int .i64 128] → Calls Try.prog 19 #[.agg #[.int .i64 0, .int .i64 0, .int .i64 8, .int .i64 0, .int .i64 0, .string ⟨#[]⟩, .string ⟨#[]⟩, .bool false], .slice (some ⟨g, 0, none⟩) 1 1] v fun e w' => e = .returned (.tuple #[.string ⟨#[128, 128, 128, 128, 128, 128, 255, 255]⟩, .int .i64 0]) ∧ But [] v w') := Lib.hid fun v g hg => by
    have h := ppixel_any v (a := 0) (b := 0) (c := 0) (d := 8) (e0 := 0) (pal := ⟨#[]⟩) (tr := ⟨#[]⟩) (has := false) (cp := 1) (n := 1) (l := [128]) (Zs.is (l := [128]) hg) (by decide) (by decide) (by decide) (by decide)
    rw [ex11_pixel] at h
    exact h
  have H4 : Hid (∀ (v : World) (g : Nat) (A : Option Addr) (c c' : Nat), Nums v A 3 [1, 2, 3] → Is v g 3 #[.int .i64 1, .int .i64 2, .int .i64 3] → Calls Try.prog 13 #[.slice A 3 c, .slice (some ⟨g, 0, none⟩) 3 c'] v fun e w' => e = .returned (.bool true) ∧ But [] v w') := Lib.hid fun v g A c c' hN hg =>
    isame_any v hN.zs (Zs.is (l := [1, 2, 3]) hg) (by decide)
  have H5 : Hid (∀ W, Calls Try.prog 17 #[.int .i64 1, .int .i64 1] W fun e w' => e = .returned (.int .i64 65535) ∧ W = w') := Lib.hid fun W => swide_any W 1 1
  have H6 : Hid (∀ W, Calls Try.prog 17 #[.int .i64 2, .int .i64 2] W fun e w' => e = .returned (.int .i64 43690) ∧ W = w') := Lib.hid fun W => swide_any W 2 2
  have H7 : Hid (∀ W, Calls Try.prog 17 #[.int .i64 255, .int .i64 8] W fun e w' => e = .returned (.int .i64 65535) ∧ W = w') := Lib.hid fun W => swide_any W 255 8
  go_enter Try.func14, Try.ntmps14
  go_wp2_with fail
  refine (H1.out _ _ (Is.fresh _ _ _)).mono ?_
  rintro e w1 ⟨rfl, hB⟩
  have HB := Lib.hid (((But.refl [] w).alloc _).trans hB)
  clear hB
  go_wp2_with fail
  refine (H2.out _).mono ?_
  rintro e w2 ⟨A2, cap2, rfl, hN2, hcap2, hB⟩
  have HN2 := Lib.hid hN2
  have HB := Lib.hid (HB.out.trans hB)
  clear hB hN2
  go_wp2_with fail
  refine (H3.out _ _ (Is.fresh _ _ _)).mono ?_
  rintro e w3 ⟨rfl, hB⟩
  have HN3 := Lib.hid ((HN2.out.but ((But.refl [] _).alloc _)).but hB)
  have HB := Lib.hid ((HB.out.alloc _).trans hB)
  clear hB HN2
  go_wp2_with fail
  refine (H4.out _ _ _ _ _ (HN3.out.but ((But.refl [] _).alloc _)) (Is.fresh _ _ _)).mono ?_
  rintro e w4 ⟨rfl, hB⟩
  have HB := Lib.hid ((HB.out.alloc _).trans hB)
  clear hB HN3
  go_wp2_with fail
  refine (H5.out _).mono ?_
  rintro e wz ⟨rfl, rfl⟩
  go_wp2_with fail
  refine (H6.out _).mono ?_
  rintro e wz ⟨rfl, rfl⟩
  go_wp2_with fail
  refine (H7.out _).mono ?_
  rintro e wz ⟨rfl, rfl⟩
  go_wp2
  go_ret
  exact ⟨rfl, HB.out⟩
theorem awk11 : Awk11 := awake11_any
end Go.Proofs.Ytfibffcmbnlomaa
