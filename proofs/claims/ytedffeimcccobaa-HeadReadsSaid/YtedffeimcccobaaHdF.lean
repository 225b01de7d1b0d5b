/- The document's Read. -/
import Derived.Test.YtedffeimcccobaaHdL
set_option maxRecDepth 100000
set_option linter.unusedVariables false
namespace Go.Proofs.Ytedffeimcccobaa
set_option maxRecDepth 100000
open Go Go.RowKit
attribute [local irreducible] strL
set_option maxHeartbeats 2000000 in
theorem eread_any (w : World) {A : Option Addr} {n cap : Nat} {L : List Ck} (hK : Cks w A n L) (hL : dataC L ≤ 100000000) (hn : n ≤ 8796093022208) :
    Calls Try.prog 18 #[.slice A n cap] w (GotH w (readT L)) := by
  have HLEN := Lib.hid hK.1
  have HK := Lib.hid hK
  have HSL := Lib.hid hL
  obtain ⟨w0, hw0⟩ : ∃ x, x = (w.alloc (.cells zerC 36)).alloc (.cells zerC 36) := ⟨_, rfl⟩
  have hB0 : But [] w w0 := by rw [hw0]; exact ((But.refl [] w).alloc _).alloc _
  have hI0 : Is w0 w.heap.size 36 zerC := by rw [hw0]; exact (Is.fresh _ _ _).alloc _
  have hJ0 : Is w0 (w.heap.size + 1) 36 zerC := by
    have h := Is.fresh (w.alloc (.cells zerC 36)) 36 zerC
    rw [show (w.alloc (.cells zerC 36)).heap.size = w.heap.size + 1 by simp] at h
    rw [hw0]; exact h
  unfold zerC at hw0
  obtain ⟨b0, hb0⟩ : ∃ g, g = w.heap.size := ⟨_, rfl⟩
  obtain ⟨b1, hb1⟩ : ∃ g, g = w.heap.size + 1 := ⟨_, rfl⟩
  rw [← hb1] at hJ0
  rw [← hb0] at hI0
  have HB0 := Lib.hid hb0
  have HB1 := Lib.hid hb1
  have HI0 := Lib.hid hI0
  have HJ0 := Lib.hid hJ0
  have HBW := Lib.hid hB0
  have hq := zero_put hI0 hB0 (by rw [hb0]; exact Nat.le_refl _)
  have HQ0 := Lib.hid hq
  clear hK hL hq
  go_enter Try.func18, Try.ntmps18
  go_upto_region 2 with (fail)
  rw [← hw0, ← hb1, ← hb0]
  have r0 : w0.cell? ⟨b0, 0, none⟩ = some (.int .i64 0) := hI0.cell 0
  have r1 : w0.cell? ⟨b0, 1, none⟩ = some (.int .i64 0) := hI0.cell 1
  have r2 : w0.cell? ⟨b0, 2, none⟩ = some (.int .i64 0) := hI0.cell 2
  have r3 : w0.cell? ⟨b0, 3, none⟩ = some (.int .i64 0) := hI0.cell 3
  have r4 : w0.cell? ⟨b0, 4, none⟩ = some (.int .i64 0) := hI0.cell 4
  have r5 : w0.cell? ⟨b0, 5, none⟩ = some (.string ⟨#[]⟩) := hI0.cell 5
  have r6 : w0.cell? ⟨b0, 6, none⟩ = some (.string ⟨#[]⟩) := hI0.cell 6
  have r7 : w0.cell? ⟨b0, 7, none⟩ = some (.bool false) := hI0.cell 7
  have f0 := hI0.free 0
  have f1 := hI0.free 1
  have f2 := hI0.free 2
  have f3 := hI0.free 3
  have f4 := hI0.free 4
  have f5 := hI0.free 5
  have f6 := hI0.free 6
  have f7 := hI0.free 7
  have n0 : w0.cell? ⟨b1, 0, none⟩ = some (.int .i64 0) := hJ0.cell 0
  have n1 : w0.cell? ⟨b1, 1, none⟩ = some (.int .i64 0) := hJ0.cell 1
  have n2 : w0.cell? ⟨b1, 2, none⟩ = some (.int .i64 0) := hJ0.cell 2
  have n3 : w0.cell? ⟨b1, 3, none⟩ = some (.int .i64 0) := hJ0.cell 3
  have n4 : w0.cell? ⟨b1, 4, none⟩ = some (.int .i64 0) := hJ0.cell 4
  have n5 : w0.cell? ⟨b1, 5, none⟩ = some (.string ⟨#[]⟩) := hJ0.cell 5
  have n6 : w0.cell? ⟨b1, 6, none⟩ = some (.string ⟨#[]⟩) := hJ0.cell 6
  have n7 : w0.cell? ⟨b1, 7, none⟩ = some (.bool false) := hJ0.cell 7
  clear hw0 hI0 hJ0 hb0 hb1 hB0
  by_cases h0 : n = 0
  · subst h0
    have HR := Lib.hid (show readT L = ([], hs0, 23) by rw [List.eq_nil_of_length_eq_zero HLEN.out]; rfl)
    go_wp2
    exact read_ret HQ0.out.1 HQ0.out.2 rfl rfl rfl HR.out
  · obtain ⟨g, o, k, rfl, hg, hc0, hc1, hat⟩ := HK.out.at (i := 0) (by omega)
    obtain ⟨t, D⟩ := k
    obtain ⟨L1, hL1⟩ : ∃ L1, L = (t, D) :: L1 := by
      match L, hat with
      | k :: L1, hat => exact ⟨L1, by have : k = (t, D) := by simpa using hat
                                      rw [this]⟩
    rw [show o + 0 * 2 = o by omega] at hc0 hc1
    have c0 := HBW.out.cell hc0 (by simp)
    have c1 := HBW.out.cell hc1 (by simp)
    dsimp only at c0 c1
    have hpos : 0 < n := by omega
    have k0 : (0 : Int) < (n : Int) := by omega
    have dn : ((n : Int) == 0) = false := by simp; omega
    have dn' : ((n : Int) = 0) = False := by simp; omega
    have HL1 := Lib.hid hL1
    clear hc0 hc1 hat h0 hg hL1
    by_cases ht : t = tIHDR
    · have hs := str_eq ht
      unfold tIHDR at hs
      obtain ⟨S, hS⟩ : ∃ S, S = strL t := ⟨_, rfl⟩
      rw [← hS] at c0 hs
      subst ht
      clear hS
      have hDs : (strL D).size = D.length := strL_size D
      by_cases hl : D.length = 13
      · have d13 : (((strL D).size : Int) != 13) = false := by rw [hDs, hl]; rfl
        have k10 : ∀ W, (Instr.index 9 (.string (strL D)) (.int .i64 10)).run Try.prog W = .ok (.int .u8 ((D.getD 10 0).toNat : Nat)) W := fun W => byteD_run (k := 10) (by omega) W
        have k11 : ∀ W, (Instr.index 9 (.string (strL D)) (.int .i64 11)).run Try.prog W = .ok (.int .u8 ((D.getD 11 0).toNat : Nat)) W := fun W => byteD_run (k := 11) (by omega) W
        obtain ⟨x10, hx10⟩ : ∃ x, x = (D.getD 10 0).toNat := ⟨_, rfl⟩
        obtain ⟨x11, hx11⟩ : ∃ x, x = (D.getD 11 0).toNat := ⟨_, rfl⟩
        simp only [← hx10] at k10
        simp only [← hx11] at k11
        have z10 : D.getD 10 0 = 0 ↔ x10 = 0 := by rw [hx10]; exact ⟨fun h => by rw [h]; rfl, fun h => UInt8.toNat_inj.1 h⟩
        have z11 : D.getD 11 0 = 0 ↔ x11 = 0 := by rw [hx11]; exact ⟨fun h => by rw [h]; rfl, fun h => UInt8.toNat_inj.1 h⟩
        have Z10 := Lib.hid z10
        have Z11 := Lib.hid z11
        clear z10 z11 hx10 hx11 hDs
        by_cases h10 : x10 = 0
        · subst h10
          by_cases h11 : x11 = 0
          · subst h11
            have HG := Lib.hid (show ¬ (D.length ≠ 13 ∨ D.getD 10 0 ≠ 0 ∨ D.getD 11 0 ≠ 0) by
              rintro (h | h | h)
              · exact h hl
              · exact h (Z10.out.2 rfl)
              · exact h (Z11.out.2 rfl))
            have k8 : ∀ W, (Instr.index 9 (.string (strL D)) (.int .i64 8)).run Try.prog W = .ok (.int .u8 ((D.getD 8 0).toNat : Nat)) W := fun W => byteD_run (k := 8) (by omega) W
            have k9 : ∀ W, (Instr.index 9 (.string (strL D)) (.int .i64 9)).run Try.prog W = .ok (.int .u8 ((D.getD 9 0).toNat : Nat)) W := fun W => byteD_run (k := 9) (by omega) W
            have k12 : ∀ W, (Instr.index 9 (.string (strL D)) (.int .i64 12)).run Try.prog W = .ok (.int .u8 ((D.getD 12 0).toNat : Nat)) W := fun W => byteD_run (k := 12) (by omega) W
            have l8 := (D.getD 8 0).toNat_lt
            have l9 := (D.getD 9 0).toNat_lt
            have l12 := (D.getD 12 0).toNat_lt
            obtain ⟨x8, hx8⟩ : ∃ x, x = (D.getD 8 0).toNat := ⟨_, rfl⟩
            obtain ⟨x9, hx9⟩ : ∃ x, x = (D.getD 9 0).toNat := ⟨_, rfl⟩
            obtain ⟨x12, hx12⟩ : ∃ x, x = (D.getD 12 0).toNat := ⟨_, rfl⟩
            simp only [← hx8] at k8 l8
            simp only [← hx9] at k9 l9
            simp only [← hx12] at k12 l12
            have e8 : IntKind.i64.wrap (x8 : Int) = (x8 : Int) := IntWalk.i64_in _ (by omega)
            have e9 : IntKind.i64.wrap (x9 : Int) = (x9 : Int) := IntWalk.i64_in _ (by omega)
            have e12 : IntKind.i64.wrap (x12 : Int) = (x12 : Int) := IntWalk.i64_in _ (by omega)
            have s4 : ∀ W, (Instr.slice 9 (.string (strL D)) none (some (.int .i64 4)) none).run Try.prog W = .ok (.string (strL (D.take 4))) W := fun W => cut_to D (j := 4) W (by omega)
            have s8 : ∀ W, (Instr.slice 9 (.string (strL D)) (some (.int .i64 4)) (some (.int .i64 8)) none).run Try.prog W = .ok (.string (strL ((D.drop 4).take 4))) W := fun W => cut_mid D (i := 4) (j := 8) (by omega) W (by omega)
            have ho1 := fun v => eof_any v (s := strL (D.take 4)) (by rw [strL_size, List.length_take]; omega)
            have ho2 := fun v => eof_any v (s := strL ((D.drop 4).take 4)) (by rw [strL_size, List.length_take]; omega)
            simp only [strL_list] at ho1 ho2
            have hn1 : ofL (D.take 4) < 4294967296 := ofL_lt4 (by rw [List.length_take]; omega)
            have hn2 : ofL ((D.drop 4).take 4) < 4294967296 := ofL_lt4 (by rw [List.length_take, List.length_drop]; omega)
            obtain ⟨a, ha⟩ : ∃ n, n = ofL (D.take 4) := ⟨_, rfl⟩
            obtain ⟨b, hb⟩ : ∃ n, n = ofL ((D.drop 4).take 4) := ⟨_, rfl⟩
            simp only [← ha] at ho1 hn1
            simp only [← hb] at ho2 hn2
            obtain ⟨D1, hD1⟩ : ∃ n, n = strL (D.take 4) := ⟨_, rfl⟩
            obtain ⟨D2, hD2⟩ : ∃ n, n = strL ((D.drop 4).take 4) := ⟨_, rfl⟩
            simp only [← hD1] at ho1 s4
            simp only [← hD2] at ho2 s8
            have HO1 := Lib.hid ho1
            have HO2 := Lib.hid ho2
            have HNS := Lib.hid (show numsH D = [(a : Int), (b : Int), (x8 : Int), (x9 : Int), (x12 : Int)] by unfold numsH; rw [← ha, ← hb, ← hx8, ← hx9, ← hx12])
            clear hx8 hx9 hx12 ha hb hD1 hD2 ho1 ho2 hl
            go_upto_region 7 with (fail)
            refine wp_region_m (S := fun v => Is v b0 36 zerC ∧ Is v b1 36 zerC ∧ But [] w v) (R := fun v v' => But [] v v') (fun w => But.refl [] w) (by kernel_rfl) ⟨HI0.out.drew, HJ0.out.drew, HBW.out.drew⟩ ?_
            refine wpM_take (fun w => But.refl [] w) (fun x y z h k => h.trans k) (i := 0) (v := .string (strL D)) rfl (by kernel_rfl) (by kernel_rfl) (by kernel_rfl) (fun _ _ _ h => h) (YieldsR.read (fun w => But.refl [] w) ?_ fun w hS => ?_) ?_
            · go_simp
            · go_simp
            refine wpM_take (fun w => But.refl [] w) (fun x y z h k => h.trans k) (i := 1) (v := .string D1) rfl (by kernel_rfl) (by kernel_rfl) (by kernel_rfl) (fun _ _ _ h => h) (YieldsR.read (fun w => But.refl [] w) ?_ fun w hS => ?_) ?_
            · go_simp
            · go_simp
            refine wpM_take (fun w => But.refl [] w) (fun x y z h k => h.trans k) (i := 2) (v := .int .i64 (a : Int)) rfl (by kernel_rfl) (by kernel_rfl) (by kernel_rfl) (fun _ _ _ h => h) (.inl ⟨?_, fun w hS => .inr ⟨_, _, ?_, (HO1.out w).mono ?_⟩⟩) ?_
            · go_simp
            · go_simp
            · rintro e w1 ⟨rfl, rfl⟩; exact ⟨rfl, hS, But.refl [] _⟩
            refine wpM_take (fun w => But.refl [] w) (fun x y z h k => h.trans k) (i := 3) (v := .string (strL D)) rfl (by kernel_rfl) (by kernel_rfl) (by kernel_rfl) (fun _ _ _ h => h) (YieldsR.read (fun w => But.refl [] w) ?_ fun w hS => ?_) ?_
            · go_simp
            · go_simp
            refine wpM_take (fun w => But.refl [] w) (fun x y z h k => h.trans k) (i := 4) (v := .string D2) rfl (by kernel_rfl) (by kernel_rfl) (by kernel_rfl) (fun _ _ _ h => h) (YieldsR.read (fun w => But.refl [] w) ?_ fun w hS => ?_) ?_
            · go_simp
            · go_simp
            refine wpM_take (fun w => But.refl [] w) (fun x y z h k => h.trans k) (i := 5) (v := .int .i64 (b : Int)) rfl (by kernel_rfl) (by kernel_rfl) (by kernel_rfl) (fun _ _ _ h => h) (.inl ⟨?_, fun w hS => .inr ⟨_, _, ?_, (HO2.out w).mono ?_⟩⟩) ?_
            · go_simp
            · go_simp
            · rintro e w1 ⟨rfl, rfl⟩; exact ⟨rfl, hS, But.refl [] _⟩
            refine wpM_take (fun w => But.refl [] w) (fun x y z h k => h.trans k) (i := 6) (v := .string (strL D)) rfl (by kernel_rfl) (by kernel_rfl) (by kernel_rfl) (fun _ _ _ h => h) (YieldsR.read (fun w => But.refl [] w) ?_ fun w hS => ?_) ?_
            · go_simp
            · go_simp
            refine wpM_take (fun w => But.refl [] w) (fun x y z h k => h.trans k) (i := 7) (v := .int .u8 (x8 : Int)) rfl (by kernel_rfl) (by kernel_rfl) (by kernel_rfl) (fun _ _ _ h => h) (YieldsR.read (fun w => But.refl [] w) ?_ fun w hS => ?_) ?_
            · go_simp
            · go_simp
            refine wpM_take (fun w => But.refl [] w) (fun x y z h k => h.trans k) (i := 8) (v := .int .i64 (x8 : Int)) rfl (by kernel_rfl) (by kernel_rfl) (by kernel_rfl) (fun _ _ _ h => h) (YieldsR.read (fun w => But.refl [] w) ?_ fun w hS => ?_) ?_
            · go_simp
            · go_simp
            refine wpM_take (fun w => But.refl [] w) (fun x y z h k => h.trans k) (i := 9) (v := .string (strL D)) rfl (by kernel_rfl) (by kernel_rfl) (by kernel_rfl) (fun _ _ _ h => h) (YieldsR.read (fun w => But.refl [] w) ?_ fun w hS => ?_) ?_
            · go_simp
            · go_simp
            refine wpM_take (fun w => But.refl [] w) (fun x y z h k => h.trans k) (i := 10) (v := .int .u8 (x9 : Int)) rfl (by kernel_rfl) (by kernel_rfl) (by kernel_rfl) (fun _ _ _ h => h) (YieldsR.read (fun w => But.refl [] w) ?_ fun w hS => ?_) ?_
            · go_simp
            · go_simp
            refine wpM_take (fun w => But.refl [] w) (fun x y z h k => h.trans k) (i := 11) (v := .int .i64 (x9 : Int)) rfl (by kernel_rfl) (by kernel_rfl) (by kernel_rfl) (fun _ _ _ h => h) (YieldsR.read (fun w => But.refl [] w) ?_ fun w hS => ?_) ?_
            · go_simp
            · go_simp
            refine wpM_take (fun w => But.refl [] w) (fun x y z h k => h.trans k) (i := 12) (v := .string (strL D)) rfl (by kernel_rfl) (by kernel_rfl) (by kernel_rfl) (fun _ _ _ h => h) (YieldsR.read (fun w => But.refl [] w) ?_ fun w hS => ?_) ?_
            · go_simp
            · go_simp
            refine wpM_take (fun w => But.refl [] w) (fun x y z h k => h.trans k) (i := 13) (v := .int .u8 (x12 : Int)) rfl (by kernel_rfl) (by kernel_rfl) (by kernel_rfl) (fun _ _ _ h => h) (YieldsR.read (fun w => But.refl [] w) ?_ fun w hS => ?_) ?_
            · go_simp
            · go_simp
            refine wpM_take (fun w => But.refl [] w) (fun x y z h k => h.trans k) (i := 14) (v := .int .i64 (x12 : Int)) rfl (by kernel_rfl) (by kernel_rfl) (by kernel_rfl) (fun _ _ _ h => h) (YieldsR.read (fun w => But.refl [] w) ?_ fun w hS => ?_) ?_
            · go_simp
            · go_simp
            refine wpM_take (fun w => But.refl [] w) (fun x y z h k => h.trans k) (i := 15) (v := .agg #[.int .i64 (a : Int), .int .i64 (b : Int), .int .i64 (x8 : Int), .int .i64 (x9 : Int), .int .i64 (x12 : Int)]) rfl (by kernel_rfl) (by kernel_rfl) (by kernel_rfl) (fun _ _ _ h => h) (YieldsR.read (fun w => But.refl [] w) ?_ fun w hS => ?_) ?_
            · go_simp
            · go_simp
            refine wpM_take (fun w => But.refl [] w) (fun x y z h k => h.trans k) (i := 16) (v := .agg #[.int .i64 (a : Int), .int .i64 (b : Int), .int .i64 (x8 : Int), .int .i64 (x9 : Int), .int .i64 (x12 : Int), .string ⟨#[]⟩, .string ⟨#[]⟩, .bool false]) rfl (by kernel_rfl) (by kernel_rfl) (by kernel_rfl) (fun _ _ _ h => h) (YieldsR.read (fun w => But.refl [] w) ?_ fun w hS => ?_) ?_
            · go_simp
            · go_simp
            refine wpM_one (i := 17) rfl (by kernel_rfl) fun w1 hR hS K' hK => ?_
            go_simp
            refine hK _ _ ⟨⟨hS.1.alloc _, hS.2.1.alloc _, hS.2.2.alloc _⟩, ?_⟩
            clear hK K'
            have hI5 := Is.fresh w1 36 zerC
            have q0 := hS.1.lt
            have q1 := hS.2.1.lt
            have q2 := hS.2.2.size
            obtain ⟨b2, hb2⟩ : ∃ g, g = w1.heap.size := ⟨_, rfl⟩
            rw [← hb2] at hI5 q0 q1 q2 ⊢
            clear hb2
            refine wpM_one (i := 18) rfl (by kernel_rfl) fun w2 hR2 hS2 K' hK => ?_
            have hI6 := hI5.but hR2 (by simp)
            have m0 : w2.cell? ⟨b2, 0, none⟩ = some (.int .i64 0) := hI6.cell 0
            have m1 : w2.cell? ⟨b2, 1, none⟩ = some (.int .i64 0) := hI6.cell 1
            have m2 : w2.cell? ⟨b2, 2, none⟩ = some (.int .i64 0) := hI6.cell 2
            have m3 : w2.cell? ⟨b2, 3, none⟩ = some (.int .i64 0) := hI6.cell 3
            have m4 : w2.cell? ⟨b2, 4, none⟩ = some (.int .i64 0) := hI6.cell 4
            have m5 : w2.cell? ⟨b2, 5, none⟩ = some (.string ⟨#[]⟩) := hI6.cell 5
            have m6 : w2.cell? ⟨b2, 6, none⟩ = some (.string ⟨#[]⟩) := hI6.cell 6
            have m7 : w2.cell? ⟨b2, 7, none⟩ = some (.bool false) := hI6.cell 7
            have p0 := hI6.free 0
            have p1 := hI6.free 1
            have p2 := hI6.free 2
            have p3 := hI6.free 3
            have p4 := hI6.free 4
            have p5 := hI6.free 5
            have p6 := hI6.free 6
            have p7 := hI6.free 7
            go_simp
            have hRS := shp_put (w := w) hI6 hS2.1 hS2.2.1 hS2.2.2 q2 (by omega) (by omega) (.int .i64 (a : Int)) (.int .i64 (b : Int)) (.int .i64 (x8 : Int)) (.int .i64 (x9 : Int)) (.int .i64 (x12 : Int)) (.string ⟨#[]⟩) (.string ⟨#[]⟩) (.bool false)
            refine hK _ _ ⟨⟨hRS.1, hRS.2.1, hRS.2.2.2⟩, ?_⟩
            clear hK K' m0 m1 m2 m3 m4 m5 m6 m7 p0 p1 p2 p3 p4 p5 p6 p7
            refine ⟨by kernel_rfl, fun w3 hR3 hS3 => ?_⟩
            have hRS3 := hRS.but hR3
            have HRS := Lib.hid hRS3
            have N0 : b0 ≠ b2 := by omega
            have N1 : b1 ≠ b2 := by omega
            clear hRS hR3 hS3 hI6 hS2 hR2 hI5 hS hR r0 r1 r2 r3 r4 r5 r6 r7 f0 f1 f2 f3 f4 f5 f6 f7 n0 n1 n2 n3 n4 n5 n6 n7 c0 c1 k10 k11 k8 k9 k12 e8 e9 e12 s4 s8
            have m0 := hRS3.2.2.1.cell 0
            have m1 := hRS3.2.2.1.cell 1
            have m2 := hRS3.2.2.1.cell 2
            have m3 := hRS3.2.2.1.cell 3
            have m4 := hRS3.2.2.1.cell 4
            clear hRS3
            have HRI := Lib.hid (fun v => eright_h v (a : Int) (b : Int) (x8 : Int) (x9 : Int) (x12 : Int))
            obtain ⟨er, her⟩ : ∃ er, er = rightH (a : Int) (b : Int) (x8 : Int) (x9 : Int) (x12 : Int) := ⟨_, rfl⟩
            rw [← her] at HRI
            have HER := Lib.hid (show rightN (numsH D) = er by rw [HNS.out, her]; rfl)
            have HE0 := Lib.hid her
            clear her
            go_wp2_with fail
            refine (HRI.out w3).mono ?_
            rintro e w4 ⟨rfl, hB4⟩
            have hRS4 := HRS.out.but hB4
            have HRS4 := Lib.hid hRS4
            clear m0 m1 m2 m3 m4 hB4
            by_cases he : er = 0
            · subst he
              clear hRS4
              obtain ⟨R, hR⟩ : ∃ R, R = runH (x8 : Int) (x9 : Int) L1 hs0 := ⟨_, rfl⟩
              have HTL := Lib.hid (show readT L = if R.2 = 0 then (numsH D, R) else ([], hs0, R.2) by
                rw [HL1.out, readT_on HG.out HER.out, hR, HNS.out]; rfl)
              have HDP := Lib.hid (show x9 = 3 → x8 = 1 ∨ x8 = 2 ∨ x8 = 4 ∨ x8 = 8 by
                intro h9
                obtain ⟨_, _, _, _, _, h, _⟩ := rightH_zero HE0.out.symm
                have := of_decide_eq_true h
                omega)
              have HDR := Lib.hid (show L.drop 1 = L1 by rw [HL1.out]; rfl)
              have HRR := Lib.hid hR.symm
              clear hR
              have hST : Stays w g o n b0 b1 b2 a b x8 x9 x12 L R := ⟨HK.out, hn, HB0.out, q2, N0, N1, HDP.out, by omega, by omega⟩
              have hLS : LoopS w b0 b1 b2 n a b x8 x9 x12 L R 1 hs0 (.slice none 0 0) w4 := ⟨by omega, by omega, OwnY.nil _ _, by
                have h := HSL.out
                rw [HL1.out] at h
                rw [HDR.out]
                unfold dataC at h ⊢
                rw [List.map_cons, List.sum_cons] at h
                show 0 + _ ≤ _
                omega, by
                have h := HRS4.out
                unfold shpC
                show RdS w b0 b1 b2 #[.int .i64 (a : Int), .int .i64 (b : Int), .int .i64 (x8 : Int), .int .i64 (x9 : Int), .int .i64 (x12 : Int), .string (strL []), .string (strL []), .bool false] w4
                rw [strL_nilH]
                exact h, by rw [HDR.out]; exact HRR.out, by show 0 ≤ _; omega⟩
              have HST := Lib.hid hST
              have HLS := Lib.hid hLS
              clear hST hLS
              go_wp2_with fail
              refine rd_loop HST.out HTL HNS ?_ ?_ ?_ HLS.out
              · intro c a d v w h
                cases d <;> exact h
              · intro act w1 h
                exact h
              · intro act wz hX
                refine wxr_open hX ?_
                clear hX
                intro u3 u4 u14 u15 u70 u71 u72 u73 u74 u75 u76 u77 u78 u79 u80 u81 u82 u83 u84 u85 u86 u87 u88 u89 u90 u91 u92 u93 u94 u95 u96 u97 u98 u99 u100 u101 u102 u103 u104 u105 u106 u107 u108 u109 u110 u111 u112 u113 u114 u115 u116 u117 u118 u119 u120 u121 u122 u123 u124 u125 u126 u127 u128 u129 u130 u131 u132 u133 u134 u135 u136 u137 u138 u139 u140 u141 u142 u143 u144 u145 u146 u147 u148 u149 u150 u151 u152 u153 u154 u155 u156 u157 u158 u159 u160 u161 u162 u163 u164 u165 u166 u167 u168 u169 u170 u171 u172 u173 u174 u175 u176 u177 u178 u179 u180 u181 u182 u183 u184 u185 u186 u187 u188 u189 u190 u191 u192 u193 u194 u195 u196 u197 u198 u199 u200 u201 u202 u203 u204 u205 u206 u207 u208 u209 u210 u211 u212 u213 u214 u215 u216 u217 u218 u219 u220 u221 u222 u223 u224 u225 u226 u227 u228 u229 u230 u231 u232 u233 u234 u235 u236 u237 u238 u239 u240 u241 u242 u243 u244 u245 u246 u247 u248 u249 u250 u251 u252 u253 u254 u255 u256 u257 u258 u259 xi xs xd xc hRX hR3
                have HR := Lib.hid (show readT L = ([], hs0, 3) by rw [HTL.out, hR3, if_neg (by decide)])
                have r0 : wz.cell? ⟨b0, 0, none⟩ = some (.int .i64 0) := hRX.1.cell 0
                have r1 : wz.cell? ⟨b0, 1, none⟩ = some (.int .i64 0) := hRX.1.cell 1
                have r2 : wz.cell? ⟨b0, 2, none⟩ = some (.int .i64 0) := hRX.1.cell 2
                have r3 : wz.cell? ⟨b0, 3, none⟩ = some (.int .i64 0) := hRX.1.cell 3
                have r4 : wz.cell? ⟨b0, 4, none⟩ = some (.int .i64 0) := hRX.1.cell 4
                have r5 : wz.cell? ⟨b0, 5, none⟩ = some (.string ⟨#[]⟩) := hRX.1.cell 5
                have r6 : wz.cell? ⟨b0, 6, none⟩ = some (.string ⟨#[]⟩) := hRX.1.cell 6
                have r7 : wz.cell? ⟨b0, 7, none⟩ = some (.bool false) := hRX.1.cell 7
                have f0 := hRX.1.free 0
                have f1 := hRX.1.free 1
                have f2 := hRX.1.free 2
                have f3 := hRX.1.free 3
                have f4 := hRX.1.free 4
                have f5 := hRX.1.free 5
                have f6 := hRX.1.free 6
                have f7 := hRX.1.free 7
                have n0 : wz.cell? ⟨b1, 0, none⟩ = some (.int .i64 0) := hRX.2.1.cell 0
                have n1 : wz.cell? ⟨b1, 1, none⟩ = some (.int .i64 0) := hRX.2.1.cell 1
                have n2 : wz.cell? ⟨b1, 2, none⟩ = some (.int .i64 0) := hRX.2.1.cell 2
                have n3 : wz.cell? ⟨b1, 3, none⟩ = some (.int .i64 0) := hRX.2.1.cell 3
                have n4 : wz.cell? ⟨b1, 4, none⟩ = some (.int .i64 0) := hRX.2.1.cell 4
                have n5 : wz.cell? ⟨b1, 5, none⟩ = some (.string ⟨#[]⟩) := hRX.2.1.cell 5
                have n6 : wz.cell? ⟨b1, 6, none⟩ = some (.string ⟨#[]⟩) := hRX.2.1.cell 6
                have n7 : wz.cell? ⟨b1, 7, none⟩ = some (.bool false) := hRX.2.1.cell 7
                have HQ := Lib.hid (zero_put hRX.1 hRX.2.2.2 (by rw [HB0.out]; exact Nat.le_refl _))
                clear hRX
                go_wp2
                exact read_ret HQ.out.1 HQ.out.2 rfl rfl rfl HR.out
            · have dne : (er != 0) = true := by simpa using he
              have HR := Lib.hid (show readT L = ([], hs0, er) by rw [HL1.out, readT_head HG.out (by rw [HER.out]; exact he), HER.out])
              have r0 : w4.cell? ⟨b0, 0, none⟩ = some (.int .i64 0) := hRS4.1.cell 0
              have r1 : w4.cell? ⟨b0, 1, none⟩ = some (.int .i64 0) := hRS4.1.cell 1
              have r2 : w4.cell? ⟨b0, 2, none⟩ = some (.int .i64 0) := hRS4.1.cell 2
              have r3 : w4.cell? ⟨b0, 3, none⟩ = some (.int .i64 0) := hRS4.1.cell 3
              have r4 : w4.cell? ⟨b0, 4, none⟩ = some (.int .i64 0) := hRS4.1.cell 4
              have r5 : w4.cell? ⟨b0, 5, none⟩ = some (.string ⟨#[]⟩) := hRS4.1.cell 5
              have r6 : w4.cell? ⟨b0, 6, none⟩ = some (.string ⟨#[]⟩) := hRS4.1.cell 6
              have r7 : w4.cell? ⟨b0, 7, none⟩ = some (.bool false) := hRS4.1.cell 7
              have f0 := hRS4.1.free 0
              have f1 := hRS4.1.free 1
              have f2 := hRS4.1.free 2
              have f3 := hRS4.1.free 3
              have f4 := hRS4.1.free 4
              have f5 := hRS4.1.free 5
              have f6 := hRS4.1.free 6
              have f7 := hRS4.1.free 7
              have n0 : w4.cell? ⟨b1, 0, none⟩ = some (.int .i64 0) := hRS4.2.1.cell 0
              have n1 : w4.cell? ⟨b1, 1, none⟩ = some (.int .i64 0) := hRS4.2.1.cell 1
              have n2 : w4.cell? ⟨b1, 2, none⟩ = some (.int .i64 0) := hRS4.2.1.cell 2
              have n3 : w4.cell? ⟨b1, 3, none⟩ = some (.int .i64 0) := hRS4.2.1.cell 3
              have n4 : w4.cell? ⟨b1, 4, none⟩ = some (.int .i64 0) := hRS4.2.1.cell 4
              have n5 : w4.cell? ⟨b1, 5, none⟩ = some (.string ⟨#[]⟩) := hRS4.2.1.cell 5
              have n6 : w4.cell? ⟨b1, 6, none⟩ = some (.string ⟨#[]⟩) := hRS4.2.1.cell 6
              have n7 : w4.cell? ⟨b1, 7, none⟩ = some (.bool false) := hRS4.2.1.cell 7
              have HQ := Lib.hid (zero_put hRS4.1 hRS4.2.2.2 (by rw [HB0.out]; exact Nat.le_refl _))
              clear hRS4 he
              go_wp2
              exact read_ret HQ.out.1 HQ.out.2 rfl rfl rfl HR.out
          · have d11 : ((x11 : Int) != 0) = true := by simp; omega
            have HR := Lib.hid (show readT L = ([], hs0, 24) by rw [HL1.out]; exact readT_bad (.inr (.inr fun h => h11 (Z11.out.1 h))))
            clear h11
            go_wp2
            exact read_ret HQ0.out.1 HQ0.out.2 rfl rfl rfl HR.out
        · have d10 : ((x10 : Int) != 0) = true := by simp; omega
          have HR := Lib.hid (show readT L = ([], hs0, 24) by rw [HL1.out]; exact readT_bad (.inr (.inl fun h => h10 (Z10.out.1 h))))
          clear h10
          go_wp2
          exact read_ret HQ0.out.1 HQ0.out.2 rfl rfl rfl HR.out
      · have d13 : (((strL D).size : Int) != 13) = true := by rw [hDs]; simp; omega
        have HR := Lib.hid (show readT L = ([], hs0, 24) by rw [HL1.out]; exact readT_bad (.inl hl))
        clear hDs hl
        go_wp2
        exact read_ret HQ0.out.1 HQ0.out.2 rfl rfl rfl HR.out
    · have hs := str_ne ht
      unfold tIHDR at hs
      obtain ⟨S, hS⟩ : ∃ S, S = strL t := ⟨_, rfl⟩
      rw [← hS] at c0 hs
      obtain ⟨hs1, hs2⟩ := hs
      have HR := Lib.hid (show readT L = ([], hs0, 23) by rw [HL1.out]; exact readT_type ht)
      clear hS ht
      go_wp2
      exact read_ret HQ0.out.1 HQ0.out.2 rfl rfl rfl HR.out
end Go.Proofs.Ytedffeimcccobaa
