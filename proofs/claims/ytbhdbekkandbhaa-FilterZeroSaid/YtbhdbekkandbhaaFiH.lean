/- What the program's predictions are. -/
import Derived.Test.YtbhdbekkandbhaaFiG
set_option maxRecDepth 100000
set_option linter.unusedVariables false
namespace Go.Proofs.Ytbhdbekkandbhaa
set_option maxRecDepth 100000
open Go Go.RowKit
/-- What each kind foretells, as a value. -/
def preV (a b c : Nat) : Value := .agg #[.int .u8 0, .int .u8 (a : Nat), .int .u8 (b : Nat), .int .u8 ((a + b) / 2 : Nat), .int .u8 (predF 4 a b c : Nat)]
theorem preV_of {a b c d p : Nat} (hd : d = (a + b) / 2) (hp : p = predF 4 a b c) : preV a b c = .agg #[.int .u8 0, .int .u8 (a : Nat), .int .u8 (b : Nat), .int .u8 (d : Nat), .int .u8 (p : Nat)] := by unfold preV; rw [hd, hp]
theorem wrapU_in {q : Nat} (h : q < 256) : IntKind.u8.wrap (q : Int) = (q : Int) := by rw [IntKind.wrap_u8]; omega
theorem wrapL_in {q : Nat} (h : q < 256) : wrap64 (q : Int) = (q : Int) := IntWalk.wrap64_in _ ⟨by omega, by omega⟩
/-- The answer laid, and read. -/
theorem pre_ret {w W : World} {b0 : Nat} {tmps : Array Value} (hI : Is W b0 34 #[.int .u8 0, .int .u8 0, .int .u8 0, .int .u8 0, .int .u8 0]) (hB : But [] w W) (hb : b0 = w.heap.size) (ht : tmps[8]? = some (.pointer (some ⟨b0, 0, none⟩))) (a b d p : Int) :
    bodyPost Try.prog Try.f18 (fun e w' => e = .returned (.agg #[.int .u8 0, .int .u8 a, .int .u8 b, .int .u8 d, .int .u8 p]) ∧ But [] w w') Exit.ret { tmps := tmps, defers := [] }
      (((((W.setCell ⟨b0, 0, none⟩ (.int .u8 0)).setCell ⟨b0, 1, none⟩ (.int .u8 a)).setCell ⟨b0, 2, none⟩ (.int .u8 b)).setCell ⟨b0, 3, none⟩ (.int .u8 d)).setCell ⟨b0, 4, none⟩ (.int .u8 p)) := by
  have h0 := hI.put 0 (.int .u8 0)
  have h1 := h0.put 1 (.int .u8 a)
  have h2 := h1.put 2 (.int .u8 b)
  have h3 := h2.put 3 (.int .u8 d)
  have h4 := h3.put 4 (.int .u8 p)
  have k0 := hB.setCell (p := ⟨b0, 0, none⟩) (.inr (by rw [hb]; exact Nat.le_refl _)) (.int .u8 0)
  have k1 := k0.setCell (p := ⟨b0, 1, none⟩) (.inr (by rw [hb]; exact Nat.le_refl _)) (.int .u8 a)
  have k2 := k1.setCell (p := ⟨b0, 2, none⟩) (.inr (by rw [hb]; exact Nat.le_refl _)) (.int .u8 b)
  have k3 := k2.setCell (p := ⟨b0, 3, none⟩) (.inr (by rw [hb]; exact Nat.le_refl _)) (.int .u8 d)
  have k4 := k3.setCell (p := ⟨b0, 4, none⟩) (.inr (by rw [hb]; exact Nat.le_refl _)) (.int .u8 p)
  obtain ⟨V, hV⟩ : ∃ V, V = (((((W.setCell ⟨b0, 0, none⟩ (.int .u8 0)).setCell ⟨b0, 1, none⟩ (.int .u8 a)).setCell ⟨b0, 2, none⟩ (.int .u8 b)).setCell ⟨b0, 3, none⟩ (.int .u8 d)).setCell ⟨b0, 4, none⟩ (.int .u8 p)) := ⟨_, rfl⟩
  rw [← hV] at h4 k4 ⊢
  clear h0 h1 h2 h3 k0 k1 k2 k3 hV
  have e0 := h4.cell 0
  have e1 := h4.cell 1
  have e2 := h4.cell 2
  have e3 := h4.cell 3
  have e4 := h4.cell 4
  refine bodyPost_ret (v := .agg #[.int .u8 0, .int .u8 a, .int .u8 b, .int .u8 d, .int .u8 p]) ?_ rfl ⟨rfl, k4⟩
  simp [results, Try.results18, go_sem, e0, e1, e2, e3, e4, ht]
set_option maxHeartbeats 1000000 in
theorem ppre_any (w : World) {n k g m cap : Nat} {L : List UInt8} {t : ByteArray} (hn1 : 1 ≤ n) (hn8 : n ≤ 8) (hk : k < m) (hm : m ≤ 140737488351232) (hcap : m ≤ cap) (hg : g < w.heap.size)
    (hc : ∀ i, i < k → w.cell? ⟨g, i, none⟩ = some (.int .u8 ((L.getD i 0).toNat : Nat))) (ht : t.size = 0 ∨ t.size = m) :
    Calls Try.prog 18 #[.int .i64 n, .int .i64 k, .slice (some ⟨g, 0, none⟩) m cap, .string t] w fun e w' => e = .returned (preV (behindF L n k) (t.data.toList.getD k 0).toNat (behindF t.data.toList n k)) ∧ But [] w w' := by
  obtain ⟨qa, hqa⟩ : ∃ q, q = behindF L n k := ⟨_, rfl⟩
  obtain ⟨qb, hqb⟩ : ∃ q, q = (t.data.toList.getD k 0).toNat := ⟨_, rfl⟩
  obtain ⟨qc, hqc⟩ : ∃ q, q = behindF t.data.toList n k := ⟨_, rfl⟩
  have la : qa < 256 := by rw [hqa]; exact behindF_lt _ _ _
  have lb : qb < 256 := by rw [hqb]; exact UInt8.toNat_lt _
  have lc : qc < 256 := by rw [hqc]; exact behindF_lt _ _ _
  obtain ⟨p, hp⟩ : ∃ p, p = predF 4 qa qb qc := ⟨_, rfl⟩
  have hp256 : p < 256 := by rw [hp]; exact predF_lt 4 la lb lc
  have HP : Hid (∀ v, Calls Try.prog 24 #[.int .i64 qa, .int .i64 qb, .int .i64 qc] v fun e w' => e = .returned (.int .i64 (p : Nat)) ∧ v = w') := Lib.hid fun v => by
    rw [hp]; exact pnearest_any v la lb lc
  obtain ⟨d, hd⟩ : ∃ d, d = (qa + qb) / 2 := ⟨_, rfl⟩
  have hd256 : d < 256 := by omega
  rw [← hqa, ← hqb, ← hqc, preV_of hd hp]
  have hsz := Lib.hid hg
  have ha0 : k < n → qa = 0 ∧ qc = 0 := fun h => by rw [hqa, hqc]; unfold behindF; rw [if_pos h, if_pos h]; exact ⟨rfl, rfl⟩
  have hb0 : t.size = 0 → qb = 0 ∧ qc = 0 := fun h => by
    have e : t.data.toList = [] := by rw [empty_eqF h]; rfl
    rw [hqb, hqc, e]
    refine ⟨rfl, ?_⟩
    unfold behindF
    split <;> rfl
  have hcell : n ≤ k → w.cell? ⟨g, k - n, none⟩ = some (.int .u8 (qa : Nat)) := fun h => by
    rw [hc _ (by omega), hqa]; unfold behindF; rw [if_neg (by omega)]
  have hqb1 : ∀ (h : k < t.size), qb = t[k].toNat := fun h => by rw [hqb, getD_byte t h]
  have hqc1 : n ≤ k → ∀ (h : k - n < t.size), qc = t[k - n].toNat := fun h0 h => by
    rw [hqc]; unfold behindF; rw [if_neg (by omega), getD_byte t h]
  have HD := Lib.hid hd
  clear hc hqa hqb hqc hp hd hg
  have HA0 := Lib.hid ha0
  have HB0 := Lib.hid hb0
  have HCE := Lib.hid hcell
  have HQB := Lib.hid hqb1
  have HQC := Lib.hid hqc1
  have HT := Lib.hid ht
  clear ha0 hb0 hcell hqb1 hqc1 ht
  by_cases hkn : k < n
  · by_cases hz : t.size = 0
    · obtain ⟨rfl, rfl⟩ := HA0.out hkn
      obtain ⟨rfl, _⟩ := HB0.out hz
      have e1 : (t.toList == []) = true := by rw [empty_toF hz]; rfl
      have e2 := empty_toF hz
      have HZ := Lib.hid hz
      clear hz
      have hdd := HD.out
      obtain rfl : d = 0 := by omega
      clear hdd
      have HP2 : Hid (∀ v, Calls Try.prog 24 #[.int .i64 0, .int .i64 0, .int .i64 0] v fun e w' => e = .returned (.int .i64 (p : Nat)) ∧ v = w') := HP
      clear HP
      go_enter Try.func18, Try.ntmps18
      go_upto_region 1 with (fail)
      obtain ⟨w0, hw0⟩ : ∃ x, x = w.alloc (.cells #[.int .u8 0, .int .u8 0, .int .u8 0, .int .u8 0, .int .u8 0] 34) := ⟨_, rfl⟩
      have hB0 : But [] w w0 := by rw [hw0]; exact (But.refl [] w).alloc _
      have hI0 : Is w0 w.heap.size 34 #[.int .u8 0, .int .u8 0, .int .u8 0, .int .u8 0, .int .u8 0] := by rw [hw0]; exact Is.fresh _ _ _
      rw [← hw0]
      obtain ⟨b0, hb0⟩ : ∃ g, g = w.heap.size := ⟨_, rfl⟩
      rw [← hb0] at hI0 ⊢
      have HBZ := Lib.hid hb0
      have HB0W := Lib.hid hB0
      have HI0 := Lib.hid hI0
      have z0 := hI0.cell 0
      have z1 := hI0.cell 1
      have z2 := hI0.cell 2
      have z3 := hI0.cell 3
      have z4 := hI0.cell 4
      have f0 := hI0.free 0
      have f1 := hI0.free 1
      have f2 := hI0.free 2
      have f3 := hI0.free 3
      have f4 := hI0.free 4
      clear hw0 hB0 hb0 hI0 HCE
      go_wp2_with (refine (HP2.out _).mono ?_; rintro e wz ⟨rfl, rfl⟩)
      exact pre_ret HI0.out HB0W.out HBZ.out rfl (0) (0) (0) (p : Int)
    · obtain ⟨rfl, rfl⟩ := HA0.out hkn
      have e1 := empty_neF hz
      have hts : t.size = m := by rcases HT.out with h | h; exact absurd h hz; exact h
      have hkt : k < t.size := by omega
      have kx : ∀ w, (Instr.index 9 (.string t) (.int .i64 (k : Int))).run Try.prog w = .ok (.int .u8 (qb : Int)) w := fun w => by rw [HQB.out hkt]; exact byteF_run hkt w
      have HTS := Lib.hid hts
      have HZ := Lib.hid hz
      clear hts
      clear hz
      have hdd := HD.out
      have d1 : (qb : Int) / 2 = (d : Int) := by omega
      have d2 : (qb : Int).tdiv 2 = (d : Int) := by rw [Int.tdiv_eq_ediv_of_nonneg (by omega)]; omega
      clear hdd
      have HP2 : Hid (∀ v, Calls Try.prog 24 #[.int .i64 0, .int .i64 (qb : Int), .int .i64 0] v fun e w' => e = .returned (.int .i64 (p : Nat)) ∧ v = w') := HP
      clear HP
      go_enter Try.func18, Try.ntmps18
      go_upto_region 1 with (fail)
      obtain ⟨w0, hw0⟩ : ∃ x, x = w.alloc (.cells #[.int .u8 0, .int .u8 0, .int .u8 0, .int .u8 0, .int .u8 0] 34) := ⟨_, rfl⟩
      have hB0 : But [] w w0 := by rw [hw0]; exact (But.refl [] w).alloc _
      have hI0 : Is w0 w.heap.size 34 #[.int .u8 0, .int .u8 0, .int .u8 0, .int .u8 0, .int .u8 0] := by rw [hw0]; exact Is.fresh _ _ _
      rw [← hw0]
      obtain ⟨b0, hb0⟩ : ∃ g, g = w.heap.size := ⟨_, rfl⟩
      rw [← hb0] at hI0 ⊢
      have HBZ := Lib.hid hb0
      have HB0W := Lib.hid hB0
      have HI0 := Lib.hid hI0
      have z0 := hI0.cell 0
      have z1 := hI0.cell 1
      have z2 := hI0.cell 2
      have z3 := hI0.cell 3
      have z4 := hI0.cell 4
      have f0 := hI0.free 0
      have f1 := hI0.free 1
      have f2 := hI0.free 2
      have f3 := hI0.free 3
      have f4 := hI0.free 4
      clear hw0 hB0 hb0 hI0 HCE
      go_wp2_with (refine (HP2.out _).mono ?_; rintro e wz ⟨rfl, rfl⟩)
      exact pre_ret HI0.out HB0W.out HBZ.out rfl (0) ((qb : Int)) ((d : Int)) (p : Int)
  · by_cases hz : t.size = 0
    · obtain ⟨rfl, rfl⟩ := HB0.out hz
      have e1 : (t.toList == []) = true := by rw [empty_toF hz]; rfl
      have e2 := empty_toF hz
      have HZ := Lib.hid hz
      obtain ⟨i, hi⟩ : ∃ i, i = k - n := ⟨_, rfl⟩
      have ei : (k : Int) - (n : Int) = (i : Int) := by omega
      have i1 : (0 : Int) ≤ (i : Int) := by omega
      have i2 : (i : Int) < (m : Int) := by omega
      have hcell := HCE.out (by omega)
      rw [← hi] at hcell
      have HI := Lib.hid hi
      clear hi
      clear hz
      have hdd := HD.out
      have d1 : (qa : Int) / 2 = (d : Int) := by omega
      have d2 : (qa : Int).tdiv 2 = (d : Int) := by rw [Int.tdiv_eq_ediv_of_nonneg (by omega)]; omega
      clear hdd
      have HP2 : Hid (∀ v, Calls Try.prog 24 #[.int .i64 (qa : Int), .int .i64 0, .int .i64 0] v fun e w' => e = .returned (.int .i64 (p : Nat)) ∧ v = w') := HP
      clear HP
      go_enter Try.func18, Try.ntmps18
      go_upto_region 1 with (fail)
      obtain ⟨w0, hw0⟩ : ∃ x, x = w.alloc (.cells #[.int .u8 0, .int .u8 0, .int .u8 0, .int .u8 0, .int .u8 0] 34) := ⟨_, rfl⟩
      have hB0 : But [] w w0 := by rw [hw0]; exact (But.refl [] w).alloc _
      have hI0 : Is w0 w.heap.size 34 #[.int .u8 0, .int .u8 0, .int .u8 0, .int .u8 0, .int .u8 0] := by rw [hw0]; exact Is.fresh _ _ _
      rw [← hw0]
      obtain ⟨b0, hb0⟩ : ∃ g, g = w.heap.size := ⟨_, rfl⟩
      rw [← hb0] at hI0 ⊢
      have hcell := hB0.cell hcell (by simp)
      have HBZ := Lib.hid hb0
      have HB0W := Lib.hid hB0
      have HI0 := Lib.hid hI0
      have z0 := hI0.cell 0
      have z1 := hI0.cell 1
      have z2 := hI0.cell 2
      have z3 := hI0.cell 3
      have z4 := hI0.cell 4
      have f0 := hI0.free 0
      have f1 := hI0.free 1
      have f2 := hI0.free 2
      have f3 := hI0.free 3
      have f4 := hI0.free 4
      clear hw0 hB0 hb0 hI0 HCE
      go_wp2_with (refine (HP2.out _).mono ?_; rintro e wz ⟨rfl, rfl⟩)
      exact pre_ret HI0.out HB0W.out HBZ.out rfl ((qa : Int)) (0) ((d : Int)) (p : Int)
    · have e1 := empty_neF hz
      have hts : t.size = m := by rcases HT.out with h | h; exact absurd h hz; exact h
      have hkt : k < t.size := by omega
      have kx : ∀ w, (Instr.index 9 (.string t) (.int .i64 (k : Int))).run Try.prog w = .ok (.int .u8 (qb : Int)) w := fun w => by rw [HQB.out hkt]; exact byteF_run hkt w
      have HTS := Lib.hid hts
      have HZ := Lib.hid hz
      obtain ⟨i, hi⟩ : ∃ i, i = k - n := ⟨_, rfl⟩
      have ei : (k : Int) - (n : Int) = (i : Int) := by omega
      have i1 : (0 : Int) ≤ (i : Int) := by omega
      have i2 : (i : Int) < (m : Int) := by omega
      have hcell := HCE.out (by omega)
      rw [← hi] at hcell
      have hit : i < t.size := by omega
      have kx2 : ∀ w, (Instr.index 9 (.string t) (.int .i64 (i : Int))).run Try.prog w = .ok (.int .u8 (qc : Int)) w := fun w => by
        have h := HQC.out (by omega) (by rw [← hi]; exact hit)
        have h2 := byteF_run hit w
        simp only [hi] at h h2 ⊢
        rw [h]
        exact h2
      have HI := Lib.hid hi
      clear hi
      clear hts
      clear hz
      have hdd := HD.out
      have d1 : ((qa : Int) + (qb : Int)) / 2 = (d : Int) := by omega
      have d2 : ((qa : Int) + (qb : Int)).tdiv 2 = (d : Int) := by rw [Int.tdiv_eq_ediv_of_nonneg (by omega)]; omega
      clear hdd
      have HP2 : Hid (∀ v, Calls Try.prog 24 #[.int .i64 (qa : Int), .int .i64 (qb : Int), .int .i64 (qc : Int)] v fun e w' => e = .returned (.int .i64 (p : Nat)) ∧ v = w') := HP
      clear HP
      go_enter Try.func18, Try.ntmps18
      go_upto_region 1 with (fail)
      obtain ⟨w0, hw0⟩ : ∃ x, x = w.alloc (.cells #[.int .u8 0, .int .u8 0, .int .u8 0, .int .u8 0, .int .u8 0] 34) := ⟨_, rfl⟩
      have hB0 : But [] w w0 := by rw [hw0]; exact (But.refl [] w).alloc _
      have hI0 : Is w0 w.heap.size 34 #[.int .u8 0, .int .u8 0, .int .u8 0, .int .u8 0, .int .u8 0] := by rw [hw0]; exact Is.fresh _ _ _
      rw [← hw0]
      obtain ⟨b0, hb0⟩ : ∃ g, g = w.heap.size := ⟨_, rfl⟩
      rw [← hb0] at hI0 ⊢
      have hcell := hB0.cell hcell (by simp)
      have HBZ := Lib.hid hb0
      have HB0W := Lib.hid hB0
      have HI0 := Lib.hid hI0
      have z0 := hI0.cell 0
      have z1 := hI0.cell 1
      have z2 := hI0.cell 2
      have z3 := hI0.cell 3
      have z4 := hI0.cell 4
      have f0 := hI0.free 0
      have f1 := hI0.free 1
      have f2 := hI0.free 2
      have f3 := hI0.free 3
      have f4 := hI0.free 4
      clear hw0 hB0 hb0 hI0 HCE
      go_wp2_with (refine (HP2.out _).mono ?_; rintro e wz ⟨rfl, rfl⟩)
      exact pre_ret HI0.out HB0W.out HBZ.out rfl ((qa : Int)) ((qb : Int)) ((d : Int)) (p : Int)
end Go.Proofs.Ytbhdbekkandbhaa
