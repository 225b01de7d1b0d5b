/- The program's line of which the filter is undone. -/
import Derived.Test.YtbhdbekkandbhaaFiJ
set_option maxRecDepth 100000
set_option linter.unusedVariables false
namespace Go.Proofs.Ytbhdbekkandbhaa
set_option maxRecDepth 100000
open Go Go.RowKit
/-- What is undone so far, and the rest as it was. -/
def midF (U l : List UInt8) (k : Nat) : List UInt8 := U.take k ++ l.drop k
theorem midF_length {U l : List UInt8} (h : U.length = l.length) (k : Nat) : (midF U l k).length = l.length := by unfold midF; rw [List.length_append, List.length_take, List.length_drop]; omega
theorem midF_zero (U l : List UInt8) : midF U l 0 = l := rfl
theorem midF_all {U l : List UInt8} (h : U.length = l.length) {n : Nat} (hn : n = l.length) : midF U l n = U := by unfold midF; rw [List.take_of_length_le (by omega), List.drop_eq_nil_of_le (by omega), List.append_nil]
theorem midF_at {U l : List UInt8} (h : U.length = l.length) {k i : Nat} (hk : k ≤ l.length) : (midF U l k).getD i 0 = if i < k then U.getD i 0 else l.getD i 0 := by
  unfold midF
  by_cases hi : i < k
  · rw [if_pos hi, getD_left (by rw [List.length_take]; omega), getD_take hi]
  · rw [if_neg hi, List.getD_eq_getElem?_getD, List.getElem?_append_right (by rw [List.length_take]; omega), List.length_take, List.getElem?_drop, List.getD_eq_getElem?_getD]
    congr 2
    omega
theorem midF_set {U l : List UInt8} (h : U.length = l.length) {k : Nat} (hk : k < l.length) : (midF U l k).set k (U.getD k 0) = midF U l (k + 1) := by
  refine ext_getD (by rw [List.length_set, midF_length h, midF_length h]) fun i hi => ?_
  rw [List.length_set, midF_length h] at hi
  rw [midF_at h (by omega)]
  by_cases hik : i = k
  · subst hik
    rw [getD_lt (by rw [List.length_set, midF_length h]; exact hi), List.getElem_set_self, if_pos (by omega)]
  · rw [List.getD_eq_getElem?_getD, List.getElem?_set_ne (by omega), ← List.getD_eq_getElem?_getD, midF_at h (by omega)]
    by_cases h3 : i < k
    · rw [if_pos h3, if_pos (by omega)]
    · rw [if_neg h3, if_neg (by omega)]
/-- A row of the call's own. -/
def OneF (w : World) (v : World) (g : Nat) (l : List UInt8) : Prop := RowF v g l ∧ w.heap.size ≤ g ∧ But [] w v
theorem OneF.but {w v v' : World} {g : Nat} {l : List UInt8} (h : OneF w v g l) (k : But [] v v') : OneF w v' g l := ⟨h.1.but k, h.2.1, h.2.2.trans k⟩
theorem OneF.put {w v : World} {g : Nat} {l : List UInt8} (h : OneF w v g l) {i : Nat} (x : UInt8) (hi : i < l.length) : OneF w (v.setCell ⟨g, i, none⟩ (.int .u8 (x.toNat : Nat))) g (l.set i x) :=
  ⟨h.1.put i x hi, h.2.1, h.2.2.setCell (p := ⟨g, i, none⟩) (.inr h.2.1) _⟩
set_option maxHeartbeats 1000000 in
theorem pundo_any (w : World) (bpp kind : Int) (s t : ByteArray) (hs : s.size ≤ 140737488351232) (ht : t.size ≤ 140737488351232) :
    Calls Try.prog 13 #[.int .i64 bpp, .int .i64 kind, .string s, .string t] w fun e w' => e = .returned (.tuple #[.string (strL (undoA bpp kind s t)), .int .i64 (wrongF bpp kind s t)]) ∧ But [] w w' := by
  have hW := fun v => pcheck_any v bpp kind s t (by omega) (by omega)
  by_cases h0 : wrongF bpp kind s t ≠ 0
  · obtain ⟨er, her⟩ : ∃ x, x = wrongF bpp kind s t := ⟨_, rfl⟩
    rw [undoA_bad h0]
    have h1 : er = 1 ∨ er = 28 := by rcases wrongF_cases bpp kind s t with h | h | h <;> simp_all
    rw [← her]
    simp only [← her] at hW
    have HW := Lib.hid hW
    clear hW her h0
    rcases h1 with rfl | rfl
    · go_enter Try.func13, Try.ntmps13
      go_wp2_with fail
      refine (HW.out _).mono ?_
      rintro e w1 ⟨rfl, rfl⟩
      go_wp2
      go_ret2
      exact ⟨rfl, But.refl [] _⟩
    · go_enter Try.func13, Try.ntmps13
      go_wp2_with fail
      refine (HW.out _).mono ?_
      rintro e w1 ⟨rfl, rfl⟩
      go_wp2
      go_ret2
      exact ⟨rfl, But.refl [] _⟩
  have h0 : wrongF bpp kind s t = 0 := by simpa using h0
  obtain ⟨⟨hb1, hb8⟩, hts, hk0, hk4⟩ := wrongF_zero h0
  obtain ⟨n, rfl⟩ : ∃ n : Nat, bpp = (n : Int) := ⟨bpp.toNat, by omega⟩
  obtain ⟨kd, rfl⟩ : ∃ n : Nat, kind = (n : Int) := ⟨kind.toNat, by omega⟩
  have hn1 : 1 ≤ n := by omega
  have hn8 : n ≤ 8 := by omega
  have hkd : kd ≤ 4 := by omega
  rw [undoA_ok h0, h0]
  rw [h0] at hW
  have HW := Lib.hid hW
  have HTS := Lib.hid hts
  obtain ⟨R, hR⟩ : ∃ R, R = undoF (kd : Int) n s.data.toList t.data.toList := ⟨_, rfl⟩
  have hRl : R.length = s.data.toList.length := by rw [hR, undoF_length]
  rw [← hR]
  have HRl := Lib.hid hRl
  have HR := Lib.hid hR
  clear hW h0 hts hR hRl hb1 hb8 hk0 hk4
  have kc := run_rowOf w s
  have hro := rowOf_row w s
  have hrb := rowOf_but w s
  have hcap := grownCap_le' w s.size 5
  obtain ⟨c1, hc1⟩ : ∃ c, c = grownCap w s.size 0 5 := ⟨_, rfl⟩
  rw [← hc1] at kc hcap
  obtain ⟨w5, hw5⟩ : ∃ x, x = rowOf w s := ⟨_, rfl⟩
  rw [← hw5] at kc hro hrb
  clear hc1 hw5
  obtain ⟨g, hg⟩ : ∃ g, g = w.heap.size := ⟨_, rfl⟩
  have HO0 : Hid (OneF w w5 g (midF R s.data.toList 0)) := Lib.hid ⟨by rw [midF_zero, hg]; exact hro, by rw [hg]; exact Nat.le_refl _, hrb⟩
  rw [← hg] at kc
  clear hro hrb hg
  go_enter Try.func13, Try.ntmps13
  go_wp2_with fail
  refine (HW.out _).mono ?_
  rintro e wz ⟨rfl, rfl⟩
  go_wp2_with fail
  go_loopw [25] (fun kv wr => ∃ k : Nat, k ≤ s.size ∧ kv = .int .i64 k ∧ Hid (OneF w wr g (midF R s.data.toList k))) (fun kv _ => s.size - (intOf kv).toNat)
  case atStart => exact ⟨0, Nat.zero_le _, rfl, HO0⟩
  case round =>
    clear HO0 kc
    obtain ⟨k, hk, rfl, HO⟩ := hrel
    by_cases hlt : k < s.size
    · obtain ⟨qa, hqa⟩ : ∃ q, q = behindF R n k := ⟨_, rfl⟩
      obtain ⟨qb, hqb⟩ : ∃ q, q = (t.data.toList.getD k 0).toNat := ⟨_, rfl⟩
      obtain ⟨qc, hqc⟩ : ∃ q, q = behindF t.data.toList n k := ⟨_, rfl⟩
      have la : qa < 256 := by rw [hqa]; exact behindF_lt _ _ _
      have lb : qb < 256 := by rw [hqb]; exact UInt8.toNat_lt _
      have lc : qc < 256 := by rw [hqc]; exact behindF_lt _ _ _
      have hll : s.data.toList.length = s.size := Array.length_toList
      have hpl := midF_length HRl.out k
      rw [hll] at hpl
      obtain ⟨b, hb⟩ : ∃ b, b = (s.data.toList.getD k 0).toNat := ⟨_, rfl⟩
      have hcell : ∀ v, OneF w v g (midF R s.data.toList k) → v.cell? ⟨g, k, none⟩ = some (.int .u8 (b : Nat)) := fun v h => by
        rw [hb, h.1.cell (by rw [hpl]; exact hlt), midF_at HRl.out (by rw [hll]; exact hk), if_neg (by omega)]
      have hfree : ∀ v, OneF w v g (midF R s.data.toList k) → v.frozen? ⟨g, k, none⟩ = false := fun v h => h.1.free (by rw [hpl]; exact hlt)
      have hb256 : b < 256 := by rw [hb]; exact UInt8.toNat_lt _
      have HP : Hid (∀ v, OneF w v g (midF R s.data.toList k) → Calls Try.prog 18 #[.int .i64 n, .int .i64 k, .slice (some ⟨g, 0, none⟩) s.size c1, .string t] v fun e w' => e = .returned (preV qa qb qc) ∧ But [] v w') := Lib.hid (fun v h => by
        rw [hqa, hqb, hqc]
        refine ppre_any v hn1 hn8 hlt hs hcap h.1.lt (fun i hi => ?_) HTS.out
        rw [h.1.cell (by rw [hpl]; omega), midF_at HRl.out (by rw [hll]; exact hk), if_pos hi])
      obtain ⟨p, hp⟩ : ∃ p, p = predF (kd : Int) qa qb qc := ⟨_, rfl⟩
      have hp256 : p < 256 := by rw [hp]; exact predF_lt _ la lb lc
      have hix := fun v => pre_index (a := qa) (b := qb) (c := qc) hkd la lb v
      rw [← hp] at hix
      obtain ⟨V, hV⟩ : ∃ V, V = preV qa qb qc := ⟨_, rfl⟩
      rw [← hV] at hix HP
      obtain ⟨y, hy⟩ : ∃ y, y = R.getD k 0 := ⟨_, rfl⟩
      have ew : IntKind.u8.wrap ((b : Int) + (p : Int)) = ((y.toNat : Nat) : Int) := by
        have hfo : (foreF (kd : Int) n R t.data.toList k).toNat = p := by
          unfold foreF
          rw [← hqa, ← hqb, ← hqc, ← hp, UInt8.toNat_ofNat']
          omega
        rw [hy, HR.out, undoF_at hn1 _ _ k (by rw [hll]; exact hlt), ← HR.out, UInt8.toNat_add, hfo, ← hb, IntKind.wrap_u8]
        omega
      obtain ⟨z, hz⟩ : ∃ z : Nat, z = y.toNat := ⟨_, rfl⟩
      rw [← hz] at ew
      have HZ := Lib.hid hz
      have HY := Lib.hid hy
      have HPL := Lib.hid hpl
      have HLL := Lib.hid hll
      have HCE := Lib.hid hcell
      have HFR := Lib.hid hfree
      have HPUT : Hid (∀ v, OneF w v g (midF R s.data.toList k) → OneF w (v.setCell ⟨g, k, none⟩ (.int .u8 (z : Nat))) g (midF R s.data.toList (k + 1))) := Lib.hid (fun v h => by
        rw [← midF_set HRl.out (by rw [hll]; exact hlt), ← hy, hz]
        exact h.put y (by rw [hpl]; exact hlt))
      clear hqa hqb hqc hb hp hV hy hz hpl hll hcell hfree
      go_upto_region 8 with (fail)
      have c0 := HCE.out _ (HO.out.but ((But.refl [] _).drew))
      go_region_with (refine (HP.out _ (HO.out.but ((But.refl [] _).drew))).mono ?_; rintro e w6 ⟨rfl, hB6⟩; have HO6 := Lib.hid (HO.out.but (((But.refl [] _).drew).trans hB6)); have c6 := HCE.out _ HO6.out; have f6 := HFR.out _ HO6.out; have HO7 := Lib.hid (HPUT.out _ HO6.out); clear hB6)
      all_goals go_wp2
      all_goals exact ⟨⟨k + 1, by omega, by go_num, HO7⟩, by simp [intOf] <;> omega⟩
    · obtain rfl : k = s.size := by omega
      have hpa := midF_all HRl.out (n := s.size) (Array.length_toList).symm
      have hct := HO.out.1.text c1
      have hRl2 : R.length = s.size := HRl.out.trans Array.length_toList
      rw [hpa, hRl2] at hct
      go_wp2
      go_ret2
      exact ⟨rfl, HO.out.2.2⟩
end Go.Proofs.Ytbhdbekkandbhaa
