/- The program's line that is filtered. -/
import Derived.Test.YtbhdbekkandbhaaFiI
set_option maxRecDepth 100000
set_option linter.unusedVariables false
namespace Go.Proofs.Ytbhdbekkandbhaa
set_option maxRecDepth 100000
open Go Go.RowKit
/-- Two rows of the call's own. -/
def TwoF (w : World) (v : World) (g1 g2 : Nat) (l m : List UInt8) : Prop := RowF v g1 l ∧ RowF v g2 m ∧ g1 ≠ g2 ∧ w.heap.size ≤ g1 ∧ w.heap.size ≤ g2 ∧ But [] w v
theorem TwoF.but {w v v' : World} {g1 g2 : Nat} {l m : List UInt8} (h : TwoF w v g1 g2 l m) (k : But [] v v') : TwoF w v' g1 g2 l m := ⟨h.1.but k, h.2.1.but k, h.2.2.1, h.2.2.2.1, h.2.2.2.2.1, h.2.2.2.2.2.trans k⟩
theorem TwoF.put {w v : World} {g1 g2 : Nat} {l m : List UInt8} (h : TwoF w v g1 g2 l m) {i : Nat} (x : UInt8) (hi : i < m.length) : TwoF w (v.setCell ⟨g2, i, none⟩ (.int .u8 (x.toNat : Nat))) g1 g2 l (m.set i x) :=
  ⟨h.1.far (p := ⟨g2, i, none⟩) h.2.2.1 _, h.2.1.put i x hi, h.2.2.1, h.2.2.2.1, h.2.2.2.2.1, h.2.2.2.2.2.setCell (p := ⟨g2, i, none⟩) (.inr h.2.2.2.2.1) _⟩
/-- What is done so far, and noughts. -/
def parF (R : List UInt8) (n k : Nat) : List UInt8 := R.take k ++ List.replicate (n - k) 0
theorem parF_length {R : List UInt8} {n k : Nat} (h : R.length = n) (hk : k ≤ n) : (parF R n k).length = n := by unfold parF; rw [List.length_append, List.length_take, List.length_replicate]; omega
theorem parF_zero (R : List UInt8) (n : Nat) : parF R n 0 = List.replicate n 0 := by unfold parF; rw [List.take_zero]; rfl
theorem parF_all {R : List UInt8} {n : Nat} (h : R.length = n) : parF R n n = R := by unfold parF; rw [List.take_of_length_le (by omega), Nat.sub_self]; simp
theorem parF_set {R : List UInt8} {n k : Nat} (h : R.length = n) (hk : k < n) : (parF R n k).set k (R.getD k 0) = parF R n (k + 1) := by
  have hl := parF_length (k := k) h (by omega)
  have hl2 := parF_length (k := k + 1) h (by omega)
  refine ext_getD (by rw [List.length_set, hl, hl2]) fun i hi => ?_
  rw [List.length_set, hl] at hi
  have e : ∀ j, (parF R n j).getD i 0 = if i < j then R.getD i 0 else 0 := fun j => by
    unfold parF
    by_cases hij : i < j
    · rw [if_pos hij, getD_left (by rw [List.length_take]; omega), getD_take hij]
    · rw [if_neg hij, List.getD_eq_getElem?_getD, List.getElem?_append_right (by rw [List.length_take]; omega), ← List.getD_eq_getElem?_getD, getD_zeros]
  rw [e]
  by_cases hik : i = k
  · subst hik
    rw [getD_lt (by rw [List.length_set, hl]; exact hi), List.getElem_set_self, if_pos (by omega)]
  · rw [List.getD_eq_getElem?_getD, List.getElem?_set_ne (by omega), ← List.getD_eq_getElem?_getD, e]
    by_cases h3 : i < k
    · rw [if_pos h3, if_pos (by omega)]
    · rw [if_neg h3, if_neg (by omega)]
set_option maxHeartbeats 1000000 in
theorem pdo_any (w : World) (bpp kind : Int) (s t : ByteArray) (hs : s.size ≤ 140737488351232) (ht : t.size ≤ 140737488351232) :
    Calls Try.prog 10 #[.int .i64 bpp, .int .i64 kind, .string s, .string t] w fun e w' => e = .returned (.tuple #[.string (strL (doA bpp kind s t)), .int .i64 (wrongF bpp kind s t)]) ∧ But [] w w' := by
  have hW := fun v => pcheck_any v bpp kind s t (by omega) (by omega)
  by_cases h0 : wrongF bpp kind s t ≠ 0
  · obtain ⟨er, her⟩ : ∃ x, x = wrongF bpp kind s t := ⟨_, rfl⟩
    rw [doA_bad h0]
    have h1 : er = 1 ∨ er = 28 := by rcases wrongF_cases bpp kind s t with h | h | h <;> simp_all
    rw [← her]
    simp only [← her] at hW
    have HW := Lib.hid hW
    clear hW her h0
    rcases h1 with rfl | rfl
    · go_enter Try.func10, Try.ntmps10
      go_wp2_with fail
      refine (HW.out _).mono ?_
      rintro e w1 ⟨rfl, rfl⟩
      go_wp2
      go_ret2
      exact ⟨rfl, But.refl [] _⟩
    · go_enter Try.func10, Try.ntmps10
      go_wp2_with fail
      refine (HW.out _).mono ?_
      rintro e w1 ⟨rfl, rfl⟩
      go_wp2
      go_ret2
      exact ⟨rfl, But.refl [] _⟩
  have h0 : wrongF bpp kind s t = 0 := by simpa using h0
  obtain ⟨⟨hb1, hb8⟩, hts, hk0, hk4⟩ := wrongF_zero h0
  obtain ⟨n, rfl⟩ : ∃ n : Nat, bpp = (n : Int) := ⟨bpp.toNat, by omega⟩
  obtain ⟨kd, rfl⟩ : ∃ n : Nat, kind = (n : Int) := ⟨kind.toNat, by omega⟩
  have hn1 : 1 ≤ n := by omega
  have hn8 : n ≤ 8 := by omega
  have hkd : kd ≤ 4 := by omega
  rw [doA_ok h0, h0]
  rw [h0] at hW
  have HW := Lib.hid hW
  have HTS := Lib.hid hts
  obtain ⟨R, hR⟩ : ∃ R, R = doF (kd : Int) n s.data.toList t.data.toList := ⟨_, rfl⟩
  have hRl : R.length = s.size := by rw [hR, doF_length, Array.length_toList]; rfl
  rw [← hR]
  have HRl := Lib.hid hRl
  have HR := Lib.hid hR
  clear hW h0 hts hR hRl hb1 hb8 hk0 hk4
  go_enter Try.func10, Try.ntmps10
  go_wp2_with fail
  refine (HW.out _).mono ?_
  rintro e w1 ⟨rfl, rfl⟩
  go_upto_region 4 with (fail)
  go_cut [11, 12] from 23 to 27 (fun v1 v2 wx => ∃ g1 g2 c1, v1 = .slice (some ⟨g1, 0, none⟩) s.size c1 ∧ v2 = .slice (some ⟨g2, 0, none⟩) s.size s.size ∧ s.size ≤ c1 ∧ Hid (TwoF w wx g1 g2 s.data.toList (parF R s.size 0)))
  case first =>
    refine wp_region_m (S := fun v => But [] w v) (R := fun v v' => But [] v v') (fun w => But.refl [] w) (by kernel_rfl) ((But.refl [] w).drew) ?_
    refine wpM_take (fun w => But.refl [] w) (fun x y z h k => h.trans k) (i := 0) (v := .string s) rfl (by kernel_rfl) (by kernel_rfl) (by kernel_rfl) (fun _ _ _ h => h) (YieldsR.read (fun w => But.refl [] w) ?_ fun w hS => ?_) ?_
    · go_simp
    · go_simp
    refine wpM_take (fun w => But.refl [] w) (fun x y z h k => h.trans k) (i := 2) (v := .string s) rfl (by kernel_rfl) (by kernel_rfl) (by kernel_rfl) (fun _ _ _ h => h) (YieldsR.read (fun w => But.refl [] w) ?_ fun w hS => ?_) ?_
    · go_simp
    · go_simp
    refine wpM_take (fun w => But.refl [] w) (fun x y z h k => h.trans k) (i := 3) (v := .int .i64 (s.size : Int)) rfl (by kernel_rfl) (by kernel_rfl) (by kernel_rfl) (fun _ _ _ h => h) (YieldsR.read (fun w => But.refl [] w) ?_ fun w hS => ?_) ?_
    · go_simp
    · go_simp
    refine wpM_two (i := 1) (j := 4) rfl rfl (by kernel_rfl) ?_ ?_
    · intro w4 hR4 hS4 K' hK
      have kc := run_rowOf w4 s
      have hro := rowOf_row w4 s
      have hrb := rowOf_but w4 s
      have hcg := grownCap_le' w4 s.size 5
      obtain ⟨c1, hc1⟩ : ∃ c, c = grownCap w4 s.size 0 5 := ⟨_, rfl⟩
      rw [← hc1] at kc hcg
      obtain ⟨w5, hw5⟩ : ∃ x, x = rowOf w4 s := ⟨_, rfl⟩
      rw [← hw5] at kc hro hrb
      clear hc1 hw5
      go_simp
      refine hK _ _ ⟨hS4.trans hrb, ?_⟩
      clear hK K' kc
      have hg4 := hS4.size
      have hlt5 := hro.lt
      refine wpM_take (fun w => But.refl [] w) (fun x y z h k => h.trans k) (i := 5) (v := .slice (some ⟨w4.heap.size, 0, none⟩) s.size c1) rfl (by kernel_rfl) (by kernel_rfl) (by kernel_rfl) (fun _ _ _ h => h) (YieldsR.read (fun w => But.refl [] w) ?_ fun w hS => ?_) ?_
      · go_simp
      · go_simp
      refine wpM_one (i := 4) rfl (by kernel_rfl) fun w6 hR6 hS6 K' hK => ?_
      have km := run_noughts w6 (n := s.size) (by omega)
      have hno := noughtsF_row w6 s.size
      have hnb := noughtsF_but w6 s.size
      obtain ⟨w7, hw7⟩ : ∃ x, x = noughtsF w6 s.size := ⟨_, rfl⟩
      rw [← hw7] at km hno hnb
      clear hw7
      go_simp
      refine hK _ _ ⟨hS6.trans hnb, ?_⟩
      clear hK K' km
      have hT : TwoF w w7 w4.heap.size w6.heap.size s.data.toList (parF R s.size 0) := ⟨(hro.but hR6).but hnb, by rw [parF_zero]; exact hno, by have := hR6.size; omega, hg4, hS6.size, hS6.trans hnb⟩
      refine wpM_take (fun w => But.refl [] w) (fun x y z h k => h.trans k) (i := 6) (v := .slice (some ⟨w6.heap.size, 0, none⟩) s.size s.size) rfl (by kernel_rfl) (by kernel_rfl) (by kernel_rfl) (fun _ _ _ h => h) (YieldsR.read (fun w => But.refl [] w) ?_ fun w hS => ?_) ?_
      · go_simp
      · go_simp
      refine ⟨by kernel_rfl, fun w9 hR9 hS9 => ?_⟩
      have HT9 := Lib.hid (hT.but hR9)
      clear hR9 hS9 hT
      go_simp
      go_wp2
      go_meet
      exact ⟨_, _, _, rfl, rfl, hcg, HT9⟩
    · intro w4 hR4 hS4 K' hK
      have km := run_noughts w4 (n := s.size) (by omega)
      have hno := noughtsF_row w4 s.size
      have hnb := noughtsF_but w4 s.size
      obtain ⟨w5, hw5⟩ : ∃ x, x = noughtsF w4 s.size := ⟨_, rfl⟩
      rw [← hw5] at km hno hnb
      clear hw5
      go_simp
      refine hK _ _ ⟨hS4.trans hnb, ?_⟩
      clear hK K' km
      have hg4 := hS4.size
      have hlt5 := hno.lt
      refine wpM_one (i := 1) rfl (by kernel_rfl) fun w6 hR6 hS6 K' hK => ?_
      have kc := run_rowOf w6 s
      have hro := rowOf_row w6 s
      have hrb := rowOf_but w6 s
      have hcg := grownCap_le' w6 s.size 5
      obtain ⟨c1, hc1⟩ : ∃ c, c = grownCap w6 s.size 0 5 := ⟨_, rfl⟩
      rw [← hc1] at kc hcg
      obtain ⟨w7, hw7⟩ : ∃ x, x = rowOf w6 s := ⟨_, rfl⟩
      rw [← hw7] at kc hro hrb
      clear hc1 hw7
      go_simp
      refine hK _ _ ⟨hS6.trans hrb, ?_⟩
      clear hK K' kc
      have hT : TwoF w w7 w6.heap.size w4.heap.size s.data.toList (parF R s.size 0) := ⟨hro, by rw [parF_zero]; exact (hno.but hR6).but hrb, by have := hR6.size; omega, hS6.size, hg4, hS6.trans hrb⟩
      refine wpM_take (fun w => But.refl [] w) (fun x y z h k => h.trans k) (i := 5) (v := .slice (some ⟨w6.heap.size, 0, none⟩) s.size c1) rfl (by kernel_rfl) (by kernel_rfl) (by kernel_rfl) (fun _ _ _ h => h) (YieldsR.read (fun w => But.refl [] w) ?_ fun w hS => ?_) ?_
      · go_simp
      · go_simp
      refine wpM_take (fun w => But.refl [] w) (fun x y z h k => h.trans k) (i := 6) (v := .slice (some ⟨w4.heap.size, 0, none⟩) s.size s.size) rfl (by kernel_rfl) (by kernel_rfl) (by kernel_rfl) (fun _ _ _ h => h) (YieldsR.read (fun w => But.refl [] w) ?_ fun w hS => ?_) ?_
      · go_simp
      · go_simp
      refine ⟨by kernel_rfl, fun w9 hR9 hS9 => ?_⟩
      have HT9 := Lib.hid (hT.but hR9)
      clear hR9 hS9 hT
      go_simp
      go_wp2
      go_meet
      exact ⟨_, _, _, rfl, rfl, hcg, HT9⟩
  case rest =>
  obtain ⟨g1, g2, c1, rfl, rfl, hcap, HT⟩ := hcut
  go_wp2_with fail
  go_loopw [30] (fun kv wr => ∃ k : Nat, k ≤ s.size ∧ kv = .int .i64 k ∧ Hid (TwoF w wr g1 g2 s.data.toList (parF R s.size k))) (fun kv _ => s.size - (intOf kv).toNat)
  case atStart => exact ⟨0, Nat.zero_le _, rfl, HT⟩
  case round =>
    obtain ⟨k, hk, rfl, HT⟩ := hrel
    by_cases hlt : k < s.size
    · obtain ⟨qa, hqa⟩ : ∃ q, q = behindF s.data.toList n k := ⟨_, rfl⟩
      obtain ⟨qb, hqb⟩ : ∃ q, q = (t.data.toList.getD k 0).toNat := ⟨_, rfl⟩
      obtain ⟨qc, hqc⟩ : ∃ q, q = behindF t.data.toList n k := ⟨_, rfl⟩
      have la : qa < 256 := by rw [hqa]; exact behindF_lt _ _ _
      have lb : qb < 256 := by rw [hqb]; exact UInt8.toNat_lt _
      have lc : qc < 256 := by rw [hqc]; exact behindF_lt _ _ _
      have hll : s.data.toList.length = s.size := Array.length_toList
      have hpl := parF_length (k := k) HRl.out hk
      obtain ⟨b, hb⟩ : ∃ b, b = (s.data.toList.getD k 0).toNat := ⟨_, rfl⟩
      have hcb : wr.cell? ⟨g1, k, none⟩ = some (.int .u8 (b : Nat)) := by rw [hb]; exact HT.out.1.cell (by rw [hll]; exact hlt)
      have hb256 : b < 256 := by rw [hb]; exact UInt8.toNat_lt _
      have HP : Hid (Calls Try.prog 18 #[.int .i64 n, .int .i64 k, .slice (some ⟨g1, 0, none⟩) s.size c1, .string t] wr fun e w' => e = .returned (preV qa qb qc) ∧ But [] wr w') := Lib.hid (by
        rw [hqa, hqb, hqc]
        exact ppre_any wr hn1 hn8 hlt hs hcap HT.out.1.lt (fun i hi => HT.out.1.cell (by rw [hll]; omega)) HTS.out)
      obtain ⟨p, hp⟩ : ∃ p, p = predF (kd : Int) qa qb qc := ⟨_, rfl⟩
      have hp256 : p < 256 := by rw [hp]; exact predF_lt _ la lb lc
      have hix := fun v => pre_index (a := qa) (b := qb) (c := qc) hkd la lb v
      rw [← hp] at hix
      obtain ⟨V, hV⟩ : ∃ V, V = preV qa qb qc := ⟨_, rfl⟩
      rw [← hV] at hix HP
      obtain ⟨y, hy⟩ : ∃ y, y = s.data.toList.getD k 0 - foreF (kd : Int) n s.data.toList t.data.toList k := ⟨_, rfl⟩
      have ew : IntKind.u8.wrap ((b : Int) - (p : Int)) = ((y.toNat : Nat) : Int) := by
        have hfo : (foreF (kd : Int) n s.data.toList t.data.toList k).toNat = p := by
          unfold foreF
          rw [← hqa, ← hqb, ← hqc, ← hp, UInt8.toNat_ofNat']
          omega
        rw [hy, UInt8.toNat_sub, hfo, ← hb, IntKind.wrap_u8]
        omega
      obtain ⟨z, hz⟩ : ∃ z : Nat, z = y.toNat := ⟨_, rfl⟩
      rw [← hz] at ew
      have HN : Hid (y = R.getD k 0) := Lib.hid (by rw [HR.out, doF_at _ _ _ _ (by rw [hll]; exact hlt), hy])
      have HZ := Lib.hid hz
      have HPL := Lib.hid hpl
      have HLL := Lib.hid hll
      clear hqa hqb hqc hb hp hV hy hz hpl hll
      go_upto_region 8 with (fail)
      go_wp2_with fail
      refine HP.out.mono ?_
      rintro e w5 ⟨rfl, hB5⟩
      have HT5 := Lib.hid (HT.out.but hB5)
      have c5 : ∃ u, w5.cell? ⟨g2, k, none⟩ = some (.int .u8 u) := ⟨_, HT5.out.2.1.cell (by rw [HPL.out]; exact hlt)⟩
      obtain ⟨u5, c5⟩ := c5
      have f5 : w5.frozen? ⟨g2, k, none⟩ = false := HT5.out.2.1.free (by rw [HPL.out]; exact hlt)
      have HT6 : Hid (TwoF w (w5.setCell ⟨g2, k, none⟩ (.int .u8 (z : Nat))) g1 g2 s.data.toList (parF R s.size (k + 1))) := Lib.hid (by
        rw [← parF_set HRl.out hlt, ← HN.out, HZ.out]
        exact HT5.out.put y (by rw [HPL.out]; exact hlt))
      clear hB5 hcb HP HT HT5
      go_wp2
      go_roundw
      case rel => exact ⟨k + 1, by omega, by go_num, HT6⟩
      case measure => simp [intOf] <;> omega
    · obtain rfl : k = s.size := by omega
      have hpa := parF_all HRl.out
      have hct := HT.out.2.1.text s.size
      rw [hpa, HRl.out] at hct
      go_wp2
      go_ret2
      exact ⟨rfl, HT.out.2.2.2.2.2⟩
end Go.Proofs.Ytbhdbekkandbhaa
