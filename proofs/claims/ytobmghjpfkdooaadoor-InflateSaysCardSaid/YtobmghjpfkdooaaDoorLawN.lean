/- The chapter's examples of Inflate; the walk of the statement on bounds. -/
import Derived.Test.YtobmghjpfkdooaaDoorInf
namespace Go.Proofs.YtobmghjpfkdooaaDoor
set_option maxRecDepth 100000
open Go Go.RowKit

def txt (l : List UInt8) : ByteArray := ⟨l.toArray⟩
theorem empty_of_size {x : ByteArray} (h : x.size = 0) : x = ByteArray.empty := ByteArray.size_eq_zero_iff.1 h
theorem size_txt (l : List UInt8) : (txt l).size = l.length := by unfold txt; rfl
section
variable {w : World}
theorem inflate_at (s : ByteArray) (M : Int) {x : ByteArray} {n : Nat} {er : Int} (hs : s.size ≤ 1099511627776) (hM : M ≤ 1099511627776) (hG : GL w) (hx : txt (inflT s M).1 = x) (hn : (inflT s M).2.1 = n) (he : (inflT s M).2.2 = er) :
    Calls Tryd.prog 7 #[.string s, .int .i64 M] w fun e w' => e = .returned (.tuple #[.string x, .int .i64 (n : Nat), .int .i64 er]) ∧ But [] w w' := by
  subst hx hn he
  exact inflate_any s M hs hM hG
theorem ex1 : txt (inflT ⟨#[1, 2, 0, 253, 255, 97, 98]⟩ 9).1 = ⟨#[97, 98]⟩ ∧ (inflT ⟨#[1, 2, 0, 253, 255, 97, 98]⟩ 9).2.1 = 7 ∧ (inflT ⟨#[1, 2, 0, 253, 255, 97, 98]⟩ 9).2.2 = 0 := by decide +kernel
theorem ex2 : txt (inflT ⟨#[3, 0]⟩ 9).1 = ⟨#[]⟩ ∧ (inflT ⟨#[3, 0]⟩ 9).2.1 = 2 ∧ (inflT ⟨#[3, 0]⟩ 9).2.2 = 0 := by decide +kernel
theorem ex3 : txt (inflT ⟨#[75, 4, 0]⟩ 1).1 = ⟨#[97]⟩ ∧ (inflT ⟨#[75, 4, 0]⟩ 1).2.1 = 3 ∧ (inflT ⟨#[75, 4, 0]⟩ 1).2.2 = 0 := by decide +kernel
theorem ex4 : txt (inflT ⟨#[7]⟩ 9).1 = ⟨#[]⟩ ∧ (inflT ⟨#[7]⟩ 9).2.1 = 0 ∧ (inflT ⟨#[7]⟩ 9).2.2 = 13 := by decide +kernel
theorem ex5 : txt (inflT ⟨#[1, 2, 0, 253, 254]⟩ 9).1 = ⟨#[]⟩ ∧ (inflT ⟨#[1, 2, 0, 253, 254]⟩ 9).2.1 = 0 ∧ (inflT ⟨#[1, 2, 0, 253, 254]⟩ 9).2.2 = 14 := by decide +kernel
theorem awake3_any (w : World) (hG : GL w) :
    Calls Tryd.prog 6 #[] w fun e w' => e = .returned (.bool true) ∧ But [] w w' := by
  have HG := Lib.hid hG
  clear hG
  go_enter Tryd.func6, Tryd.ntmps6
  go_wp2_with fail
  refine (inflate_at _ _ (by decide) (by decide) HG.out ex1.1 ex1.2.1 ex1.2.2).mono ?_
  rintro e w1 ⟨rfl, hB1⟩
  have HG1 := Lib.hid (HG.out.but hB1)
  have HB1 := Lib.hid hB1
  clear hB1
  go_wp2_with fail
  refine (inflate_at _ _ (by decide) (by decide) HG1.out ex2.1 ex2.2.1 ex2.2.2).mono ?_
  rintro e w2 ⟨rfl, hB2⟩
  have HG2 := Lib.hid (HG1.out.but hB2)
  have HB2 := Lib.hid (HB1.out.trans hB2)
  clear hB2 HG1 HB1
  go_wp2_with fail
  refine (inflate_at _ _ (by decide) (by decide) HG2.out ex3.1 ex3.2.1 ex3.2.2).mono ?_
  rintro e w3 ⟨rfl, hB3⟩
  have HG3 := Lib.hid (HG2.out.but hB3)
  have HB3 := Lib.hid (HB2.out.trans hB3)
  clear hB3 HG2 HB2
  go_wp2_with fail
  refine (inflate_at _ _ (by decide) (by decide) HG3.out ex4.1 ex4.2.1 ex4.2.2).mono ?_
  rintro e w4 ⟨rfl, hB4⟩
  have HG4 := Lib.hid (HG3.out.but hB4)
  have HB4 := Lib.hid (HB3.out.trans hB4)
  clear hB4 HG3 HB3
  go_wp2_with fail
  refine (inflate_at _ _ (by decide) (by decide) HG4.out ex5.1 ex5.2.1 ex5.2.2).mono ?_
  rintro e w5 ⟨rfl, hB5⟩
  have HB5 := Lib.hid (HB4.out.trans hB5)
  clear hB5 HG4 HB4
  go_wp2
  go_ret
  exact ⟨rfl, HB5.out⟩

theorem inflateBound_walk {s : ByteArray} {a c : Int} (hs : s.size ≤ 140737488351232) (_hb : -9223372036854775808 ≤ a ∧ a ≤ 9223372036854775807 ∧ -9223372036854775808 ≤ c ∧ c ≤ 9223372036854775807) (hG : GL w) :
    Calls Tryd.prog 5 #[.string s, .agg #[.int .i64 a, .int .i64 c]] w fun e w' => e = .returned (.bool true) ∧ Below w.heap.size w w' := by
  have hBa := but_alloc w (.cells #[.int .i64 a, .int .i64 c] 27)
  have HG1 := Lib.hid (hG.but hBa)
  have HBA := Lib.hid hBa
  clear hBa hG
  by_cases h1 : 20000 < s.size
  · have d1 : decide ((20000 : Int) < (s.size : Int)) = true := by simp; omega
    clear h1
    go_enter Tryd.func5, Tryd.ntmps5
    go_wp2_with fail
    refine (awake3_any _ HG1.out).mono ?_
    rintro e w2 ⟨rfl, hB⟩
    have HF := Lib.hid (HBA.out.trans hB).belowNew
    clear hB
    go_wp2
    go_ret
    exact ⟨rfl, HF.out⟩
  · have d1 : decide ((20000 : Int) < (s.size : Int)) = false := by simp; omega
    by_cases h2 : 100000 < a
    · have d2 : decide ((100000 : Int) < a) = true := by simpa using h2
      clear h2
      go_enter Tryd.func5, Tryd.ntmps5
      go_wp2_with fail
      refine (awake3_any _ HG1.out).mono ?_
      rintro e w9 ⟨rfl, hB⟩
      have HF := Lib.hid (HBA.out.trans hB).belowNew
      clear hB
      go_wp2
      go_ret
      exact ⟨rfl, HF.out⟩
    · have d2 : decide ((100000 : Int) < a) = false := by simpa using h2
      by_cases h3 : 100000 < c
      · have d3 : decide ((100000 : Int) < c) = true := by simpa using h3
        clear h3
        go_enter Tryd.func5, Tryd.ntmps5
        go_wp2_with fail
        refine (awake3_any _ HG1.out).mono ?_
        rintro e w9 ⟨rfl, hB⟩
        have HF := Lib.hid (HBA.out.trans hB).belowNew
        clear hB
        go_wp2
        go_ret
        exact ⟨rfl, HF.out⟩
      · have d3 : decide ((100000 : Int) < c) = false := by simpa using h3
        have f1 : (inflT s 100000).2.2 = 0 → ((txt (inflT s 100000).1).size : Int) ≤ a → txt (inflT s a).1 = txt (inflT s 100000).1 ∧ (inflT s a).2.1 = (inflT s 100000).2.1 ∧ (inflT s a).2.2 = 0 := fun h0 hl => by
          have := inflT_room (most := a) h0 (by rw [size_txt] at hl; exact hl)
          rw [this]; exact ⟨rfl, rfl, h0⟩
        have f2 : (inflT s 100000).2.2 = 0 → 0 < (txt (inflT s 100000).1).size → a < ((txt (inflT s 100000).1).size : Int) → (inflT s a).2.2 = 5 := fun h0 hp hl => inflT_big h0 (by rw [size_txt] at hp; exact hp) (by rw [size_txt] at hl; exact hl)
        have f3 : ((txt (inflT s a).1).size : Int) ≤ max a 0 := by rw [size_txt]; exact inflT_size.2
        have c1 := fun (w : World) (hG : GL w) => inflate_at (w := w) s 100000 (by omega) (by omega) hG rfl rfl rfl
        have c2 := fun (w : World) (hG : GL w) => inflate_at (w := w) s a (by omega) (by omega) hG rfl rfl rfl
        generalize txt (inflT s 100000).1 = X1 at *
        generalize (inflT s 100000).2.1 = N1 at *
        generalize (inflT s 100000).2.2 = E1 at *
        generalize txt (inflT s a).1 = X2 at *
        generalize (inflT s a).2.1 = N2 at *
        generalize (inflT s a).2.2 = E2 at *
        have F1 := Lib.hid f1
        have F2 := Lib.hid f2
        have C1 := Lib.hid c1
        have C2 := Lib.hid c2
        clear f1 f2 c1 c2 h1 h2 h3
        have hI := Is.fresh w 27 #[.int .i64 a, .int .i64 c]
        have HI := Lib.hid hI
        clear hI
        by_cases hE1 : E1 = 0
        · by_cases hle : (X1.size : Int) ≤ a
          · obtain ⟨rfl, rfl, rfl⟩ := F1.out hE1 hle
            subst hE1
            have ha : 0 ≤ a := by omega
            have b1 : decide ((X2.size : Int) ≤ a) = true := by simpa using hle
            have b4 : decide (a < (X2.size : Int)) = false := by simpa using hle
            clear F1 F2 f3
            go_enter Tryd.func5, Tryd.ntmps5
            go_wp2_with fail
            refine (C1.out _ HG1.out).mono ?_
            rintro e w2 ⟨rfl, hB2⟩
            have hI2 := HI.out.but hB2 (by simp)
            have k2 : w2.cell? ⟨w.heap.size, 0, none⟩ = some (.int .i64 a) := hI2.cell 0
            have HG2 := Lib.hid (HG1.out.but hB2)
            have HB2 := Lib.hid (HBA.out.trans hB2)
            have HI2 := Lib.hid hI2
            clear hB2 hI2
            go_wp2_with fail
            refine (C2.out _ HG2.out).mono ?_
            rintro e w3 ⟨rfl, hB3⟩
            have hI3 := HI2.out.but hB3 (by simp)
            have k3 : w3.cell? ⟨w.heap.size, 0, none⟩ = some (.int .i64 a) := hI3.cell 0
            have HG3 := Lib.hid (HG2.out.but hB3)
            have HB3 := Lib.hid (HB2.out.trans hB3)
            clear hB3 hI3 k2
            go_wp2_with (go_at_call 6; refine (awake3_any _ HG3.out).mono ?_; rintro e w9 ⟨rfl, hB⟩; have HF := Lib.hid (HB3.out.trans hB).belowNew; clear hB)
            all_goals
              go_ret
              exact ⟨rfl, HF.out⟩
          · have b1 : decide ((X1.size : Int) ≤ a) = false := by simpa using hle
            have b4 : decide (a < (X1.size : Int)) = true := by simp; omega
            by_cases hp : 0 < X1.size
            · obtain rfl := F2.out hE1 hp (by omega)
              subst hE1
              have b6 : decide (0 < X1.size) = true := by simpa using hp
              clear F1 F2 f3
              go_enter Tryd.func5, Tryd.ntmps5
              go_wp2_with fail
              refine (C1.out _ HG1.out).mono ?_
              rintro e w2 ⟨rfl, hB2⟩
              have hI2 := HI.out.but hB2 (by simp)
              have k2 : w2.cell? ⟨w.heap.size, 0, none⟩ = some (.int .i64 a) := hI2.cell 0
              have HG2 := Lib.hid (HG1.out.but hB2)
              have HB2 := Lib.hid (HBA.out.trans hB2)
              have HI2 := Lib.hid hI2
              clear hB2 hI2
              go_wp2_with fail
              refine (C2.out _ HG2.out).mono ?_
              rintro e w3 ⟨rfl, hB3⟩
              have hI3 := HI2.out.but hB3 (by simp)
              have k3 : w3.cell? ⟨w.heap.size, 0, none⟩ = some (.int .i64 a) := hI3.cell 0
              have HG3 := Lib.hid (HG2.out.but hB3)
              have HB3 := Lib.hid (HB2.out.trans hB3)
              clear hB3 hI3 k2
              go_wp2_with (go_at_call 6; refine (awake3_any _ HG3.out).mono ?_; rintro e w9 ⟨rfl, hB⟩; have HF := Lib.hid (HB3.out.trans hB).belowNew; clear hB)
              all_goals
                go_ret
                exact ⟨rfl, HF.out⟩
            · have b6 : decide (0 < X1.size) = false := by simpa using hp
              subst hE1
              by_cases hE2 : E2 = 0
              · subst hE2
                obtain rfl : X2 = ByteArray.empty := empty_of_size (by omega)
                have ha : a < 0 := by omega
                clear F1 F2 f3
                go_enter Tryd.func5, Tryd.ntmps5
                go_wp2_with fail
                refine (C1.out _ HG1.out).mono ?_
                rintro e w2 ⟨rfl, hB2⟩
                have hI2 := HI.out.but hB2 (by simp)
                have k2 : w2.cell? ⟨w.heap.size, 0, none⟩ = some (.int .i64 a) := hI2.cell 0
                have HG2 := Lib.hid (HG1.out.but hB2)
                have HB2 := Lib.hid (HBA.out.trans hB2)
                have HI2 := Lib.hid hI2
                clear hB2 hI2
                go_wp2_with fail
                refine (C2.out _ HG2.out).mono ?_
                rintro e w3 ⟨rfl, hB3⟩
                have hI3 := HI2.out.but hB3 (by simp)
                have k3 : w3.cell? ⟨w.heap.size, 0, none⟩ = some (.int .i64 a) := hI3.cell 0
                have HG3 := Lib.hid (HG2.out.but hB3)
                have HB3 := Lib.hid (HB2.out.trans hB3)
                clear hB3 hI3 k2
                go_wp2_with (go_at_call 6; refine (awake3_any _ HG3.out).mono ?_; rintro e w9 ⟨rfl, hB⟩; have HF := Lib.hid (HB3.out.trans hB).belowNew; clear hB)
                all_goals
                  go_ret
                  exact ⟨rfl, HF.out⟩
              · have b8 : (E2 != 0) = true := by simpa using hE2
                clear F1 F2 f3 hE2
                go_enter Tryd.func5, Tryd.ntmps5
                go_wp2_with fail
                refine (C1.out _ HG1.out).mono ?_
                rintro e w2 ⟨rfl, hB2⟩
                have hI2 := HI.out.but hB2 (by simp)
                have k2 : w2.cell? ⟨w.heap.size, 0, none⟩ = some (.int .i64 a) := hI2.cell 0
                have HG2 := Lib.hid (HG1.out.but hB2)
                have HB2 := Lib.hid (HBA.out.trans hB2)
                have HI2 := Lib.hid hI2
                clear hB2 hI2
                go_wp2_with fail
                refine (C2.out _ HG2.out).mono ?_
                rintro e w3 ⟨rfl, hB3⟩
                have hI3 := HI2.out.but hB3 (by simp)
                have k3 : w3.cell? ⟨w.heap.size, 0, none⟩ = some (.int .i64 a) := hI3.cell 0
                have HG3 := Lib.hid (HG2.out.but hB3)
                have HB3 := Lib.hid (HB2.out.trans hB3)
                clear hB3 hI3 k2
                go_wp2_with (go_at_call 6; refine (awake3_any _ HG3.out).mono ?_; rintro e w9 ⟨rfl, hB⟩; have HF := Lib.hid (HB3.out.trans hB).belowNew; clear hB)
                all_goals
                  go_ret
                  exact ⟨rfl, HF.out⟩
        · have b9 : (E1 == 0) = false := by simpa using hE1
          by_cases hE2 : E2 = 0
          · subst hE2
            by_cases ha : 0 ≤ a
            · have b5 : decide ((X2.size : Int) ≤ a) = true := by simp; omega
              clear F1 F2 f3 hE1
              go_enter Tryd.func5, Tryd.ntmps5
              go_wp2_with fail
              refine (C1.out _ HG1.out).mono ?_
              rintro e w2 ⟨rfl, hB2⟩
              have hI2 := HI.out.but hB2 (by simp)
              have k2 : w2.cell? ⟨w.heap.size, 0, none⟩ = some (.int .i64 a) := hI2.cell 0
              have HG2 := Lib.hid (HG1.out.but hB2)
              have HB2 := Lib.hid (HBA.out.trans hB2)
              have HI2 := Lib.hid hI2
              clear hB2 hI2
              go_wp2_with fail
              refine (C2.out _ HG2.out).mono ?_
              rintro e w3 ⟨rfl, hB3⟩
              have hI3 := HI2.out.but hB3 (by simp)
              have k3 : w3.cell? ⟨w.heap.size, 0, none⟩ = some (.int .i64 a) := hI3.cell 0
              have HG3 := Lib.hid (HG2.out.but hB3)
              have HB3 := Lib.hid (HB2.out.trans hB3)
              clear hB3 hI3 k2
              go_wp2_with (go_at_call 6; refine (awake3_any _ HG3.out).mono ?_; rintro e w9 ⟨rfl, hB⟩; have HF := Lib.hid (HB3.out.trans hB).belowNew; clear hB)
              all_goals
                go_ret
                exact ⟨rfl, HF.out⟩
            · obtain rfl : X2 = ByteArray.empty := empty_of_size (by omega)
              have ha2 : a < 0 := by omega
              clear F1 F2 f3 hE1
              go_enter Tryd.func5, Tryd.ntmps5
              go_wp2_with fail
              refine (C1.out _ HG1.out).mono ?_
              rintro e w2 ⟨rfl, hB2⟩
              have hI2 := HI.out.but hB2 (by simp)
              have k2 : w2.cell? ⟨w.heap.size, 0, none⟩ = some (.int .i64 a) := hI2.cell 0
              have HG2 := Lib.hid (HG1.out.but hB2)
              have HB2 := Lib.hid (HBA.out.trans hB2)
              have HI2 := Lib.hid hI2
              clear hB2 hI2
              go_wp2_with fail
              refine (C2.out _ HG2.out).mono ?_
              rintro e w3 ⟨rfl, hB3⟩
              have hI3 := HI2.out.but hB3 (by simp)
              have k3 : w3.cell? ⟨w.heap.size, 0, none⟩ = some (.int .i64 a) := hI3.cell 0
              have HG3 := Lib.hid (HG2.out.but hB3)
              have HB3 := Lib.hid (HB2.out.trans hB3)
              clear hB3 hI3 k2
              go_wp2_with (go_at_call 6; refine (awake3_any _ HG3.out).mono ?_; rintro e w9 ⟨rfl, hB⟩; have HF := Lib.hid (HB3.out.trans hB).belowNew; clear hB)
              all_goals
                go_ret
                exact ⟨rfl, HF.out⟩
          · have b8 : (E2 != 0) = true := by simpa using hE2
            clear F1 F2 f3 hE1 hE2
            go_enter Tryd.func5, Tryd.ntmps5
            go_wp2_with fail
            refine (C1.out _ HG1.out).mono ?_
            rintro e w2 ⟨rfl, hB2⟩
            have hI2 := HI.out.but hB2 (by simp)
            have k2 : w2.cell? ⟨w.heap.size, 0, none⟩ = some (.int .i64 a) := hI2.cell 0
            have HG2 := Lib.hid (HG1.out.but hB2)
            have HB2 := Lib.hid (HBA.out.trans hB2)
            have HI2 := Lib.hid hI2
            clear hB2 hI2
            go_wp2_with fail
            refine (C2.out _ HG2.out).mono ?_
            rintro e w3 ⟨rfl, hB3⟩
            have hI3 := HI2.out.but hB3 (by simp)
            have k3 : w3.cell? ⟨w.heap.size, 0, none⟩ = some (.int .i64 a) := hI3.cell 0
            have HG3 := Lib.hid (HG2.out.but hB3)
            have HB3 := Lib.hid (HB2.out.trans hB3)
            clear hB3 hI3 k2
            go_wp2_with (go_at_call 6; refine (awake3_any _ HG3.out).mono ?_; rintro e w9 ⟨rfl, hB⟩; have HF := Lib.hid (HB3.out.trans hB).belowNew; clear hB)
            all_goals
              go_ret
              exact ⟨rfl, HF.out⟩
end
end Go.Proofs.YtobmghjpfkdooaaDoor
