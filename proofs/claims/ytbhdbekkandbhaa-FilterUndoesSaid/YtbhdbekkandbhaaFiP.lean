/- The program's kind that is taken for a line. -/
import Derived.Test.YtbhdbekkandbhaaFiK
set_option maxRecDepth 100000
set_option linter.unusedVariables false
namespace Go.Proofs.Ytbhdbekkandbhaa
set_option maxRecDepth 100000
open Go Go.RowKit
/-- Five sums. -/
def sumC (f : Nat → Nat) : Array Value := #[.int .i64 (f 0 : Nat), .int .i64 (f 1 : Nat), .int .i64 (f 2 : Nat), .int .i64 (f 3 : Nat), .int .i64 (f 4 : Nat)]
theorem sumC_at (f : Nat → Nat) {k : Nat} (hk : k < 5) : (sumC f)[k]? = some (.int .i64 (f k : Nat)) := by
  match k, hk with
  | 0, _ => rfl
  | 1, _ => rfl
  | 2, _ => rfl
  | 3, _ => rfl
  | 4, _ => rfl
theorem sumC_set (f : Nat → Nat) {k : Nat} (hk : k < 5) (x : Nat) : (sumC f).setIfInBounds k (.int .i64 (x : Nat)) = sumC fun j => if j = k then x else f j := by
  match k, hk with
  | 0, _ => rfl
  | 1, _ => rfl
  | 2, _ => rfl
  | 3, _ => rfl
  | 4, _ => rfl
theorem sumC_eq {f h : Nat → Nat} (e : ∀ j, j < 5 → f j = h j) : sumC f = sumC h := by
  unfold sumC
  rw [e 0 (by omega), e 1 (by omega), e 2 (by omega), e 3 (by omega), e 4 (by omega)]
theorem sum_index (f : Nat → Nat) {k : Nat} (hk : k < 5) (w : World) : (Instr.index 39 (.agg (sumC f)) (.int .i64 (k : Int))).run Try.prog w = .ok (.int .i64 (f k : Nat)) w := by
  match k, hk with
  | 0, _ => rfl
  | 1, _ => rfl
  | 2, _ => rfl
  | 3, _ => rfl
  | 4, _ => rfl
/-- The row and the sums. -/
def PickS (w v : World) (g b0 : Nat) (l : List UInt8) (f : Nat → Nat) : Prop := RowF v g l ∧ Is v b0 39 (sumC f) ∧ g ≠ b0 ∧ w.heap.size ≤ b0 ∧ But [] w v
section
variable {w v v' : World} {g b0 : Nat} {l : List UInt8} {f h : Nat → Nat}
theorem PickS.but (s : PickS w v g b0 l f) (k : But [] v v') : PickS w v' g b0 l f := ⟨s.1.but k, s.2.1.but k (by simp), s.2.2.1, s.2.2.2.1, s.2.2.2.2.trans k⟩
theorem PickS.eq (s : PickS w v g b0 l f) (e : ∀ j, j < 5 → f j = h j) : PickS w v g b0 l h := ⟨s.1, by rw [← sumC_eq e]; exact s.2.1, s.2.2⟩
theorem PickS.put (s : PickS w v g b0 l f) {k : Nat} (hk : k < 5) (x : Nat) : PickS w (v.setCell ⟨b0, k, none⟩ (.int .i64 (x : Nat))) g b0 l fun j => if j = k then x else f j :=
  ⟨s.1.far (p := ⟨b0, k, none⟩) s.2.2.1 _, by rw [← sumC_set f hk]; exact s.2.1.put k _, s.2.2.1, s.2.2.2.1, s.2.2.2.2.setCell (p := ⟨b0, k, none⟩) (.inr s.2.2.2.1) _⟩
theorem PickS.sum (s : PickS w v g b0 l f) {k : Nat} (hk : k < 5) : v.cell? ⟨b0, k, none⟩ = some (.int .i64 (f k : Nat)) := (s.2.1.cell k).trans (sumC_at f hk)
end
theorem bstF_cost (c : Nat → Nat) (k : Nat) : (bstF c (k + 1)).2 = c (bstF c (k + 1)).1 := (pickTo_is c k).2.1
theorem bstF_one (c : Nat → Nat) (k : Nat) : (bstF c (k + 1)).1 = if c k < c (bstF c k).1 then k else (bstF c k).1 := by
  rw [bstF_next]
  cases k with
  | zero => rw [if_pos (.inl rfl)]; show 0 = if c 0 < c 0 then 0 else 0; split <;> rfl
  | succ k =>
    rw [bstF_cost]
    by_cases h : c (k + 1) < c (bstF c (k + 1)).1
    · rw [if_pos (.inr h), if_pos h]
    · rw [if_neg (by omega), if_neg h]
set_option maxHeartbeats 1000000 in
theorem ppick_any (w : World) (bpp : Int) (s t : ByteArray) (hs : s.size ≤ 140737488351232) (ht : t.size ≤ 140737488351232) :
    Calls Try.prog 15 #[.int .i64 bpp, .string s, .string t] w fun e w' => e = .returned (.tuple #[.int .i64 (pickA bpp s t : Nat), .int .i64 (wrongP bpp s t)]) ∧ But [] w w' := by
  have hF := fun v => pfits_f v bpp s t (by omega) (by omega)
  by_cases h0 : wrongP bpp s t ≠ 0
  · have h1 : wrongP bpp s t = 1 := by rcases wrongP_cases bpp s t with h | h; exact absurd h h0; exact h
    rw [pickA_bad h0, h1]
    rw [decide_eq_false h0] at hF
    have HF := Lib.hid hF
    clear hF h0 h1
    go_enter Try.func15, Try.ntmps15
    go_wp2_with fail
    refine (HF.out _).mono ?_
    rintro e w1 ⟨rfl, rfl⟩
    go_wp2
    go_ret2
    exact ⟨rfl, But.refl [] _⟩
  have h0 : wrongP bpp s t = 0 := by simpa using h0
  obtain ⟨hb1, hb8, hts⟩ := wrongP_zero h0
  obtain ⟨n, rfl⟩ : ∃ n : Nat, bpp = (n : Int) := ⟨bpp.toNat, by omega⟩
  have hn1 : 1 ≤ n := by omega
  have hn8 : n ≤ 8 := by omega
  rw [pickA_ok h0, h0]
  rw [decide_eq_true h0] at hF
  have HF := Lib.hid hF
  have HTS := Lib.hid hts
  obtain ⟨X, hX⟩ : ∃ X : Nat → List UInt8, X = fun k => doF (k : Nat) n s.data.toList t.data.toList := ⟨_, rfl⟩
  have hll : s.data.toList.length = s.size := Array.length_toList
  have hXl : ∀ k, (X k).length = s.size := fun k => by rw [hX]; dsimp only; rw [doF_length, hll]
  obtain ⟨c, hc⟩ : ∃ c : Nat → Nat → Nat, c = fun i k => costF ((X k).take i) := ⟨_, rfl⟩
  have hR : pickF n s.data.toList t.data.toList = (bstF (c s.size) 5).1 := by
    have e : c s.size = fun k => costF (X k) := by
      rw [hc]
      funext k
      dsimp only
      rw [List.take_of_length_le (by rw [hXl]; exact Nat.le_refl _)]
    unfold pickF
    rw [e, hX]
    rfl
  have hcl : ∀ i k, c i k ≤ 18014398508957696 := fun i k => by
    rw [hc]
    dsimp only
    have h := costF_take_le (X k) i (B := 140737488351232) (by rw [hXl]; exact hs)
    omega
  have hc0 : ∀ k, c 0 k = 0 := fun k => by rw [hc]; dsimp only; rw [List.take_zero]; rfl
  have hcn : ∀ i k, i < s.size → c (i + 1) k = c i k + farB ((X k).getD i 0) := fun i k hi => by
    rw [hc]; dsimp only; rw [costF_take _ (by rw [hXl]; exact hi)]
  have hXa : ∀ i (k : Nat), i < s.size → (X k).getD i 0 = s.data.toList.getD i 0 - foreF (k : Int) n s.data.toList t.data.toList i := fun i k hi => by
    rw [hX]; dsimp only; rw [doF_at _ _ _ _ (by rw [hll]; exact hi)]
  have HR := Lib.hid hR
  have HCL := Lib.hid hcl
  have HC0 := Lib.hid hc0
  have HCN := Lib.hid hcn
  have HXA := Lib.hid hXa
  have HLL := Lib.hid hll
  clear hF h0 hts hb1 hb8 hX hXl hc hR hcl hc0 hcn hXa hll
  have kc := run_rowOf w s
  have hro := rowOf_row w s
  have hrb := rowOf_but w s
  have hcap := grownCap_le' w s.size 5
  obtain ⟨c1, hc1⟩ : ∃ c, c = grownCap w s.size 0 5 := ⟨_, rfl⟩
  rw [← hc1] at kc hcap
  obtain ⟨w5, hw5⟩ : ∃ x, x = rowOf w s := ⟨_, rfl⟩
  rw [← hw5] at kc hro hrb
  clear hc1 hw5
  obtain ⟨g, hg⟩ : ∃ g, g = w.heap.size := ⟨_, rfl⟩
  rw [← hg] at kc hro
  have hI5 := Is.fresh w5 39 #[.int .i64 0, .int .i64 0, .int .i64 0, .int .i64 0, .int .i64 0]
  have hA5 := (But.refl [] w5).alloc (.cells #[.int .i64 0, .int .i64 0, .int .i64 0, .int .i64 0, .int .i64 0] 39)
  have HS0 : Hid (PickS w (w5.alloc (.cells #[.int .i64 0, .int .i64 0, .int .i64 0, .int .i64 0, .int .i64 0] 39)) g w5.heap.size s.data.toList (c 0)) := Lib.hid (by
    refine ⟨hro.but hA5, ?_, by have := hro.lt; omega, hrb.size, hrb.trans hA5⟩
    have e : sumC (c 0) = #[.int .i64 0, .int .i64 0, .int .i64 0, .int .i64 0, .int .i64 0] := by
      unfold sumC
      rw [HC0.out, HC0.out, HC0.out, HC0.out, HC0.out]
      rfl
    rw [e]
    exact hI5)
  clear hro hrb hg hI5 hA5
  go_enter Try.func15, Try.ntmps15
  go_wp2_with fail
  refine (HF.out _).mono ?_
  rintro e wz ⟨rfl, rfl⟩
  go_wp2_with fail
  obtain ⟨b0, hb0⟩ : ∃ b, b = w5.heap.size := ⟨_, rfl⟩
  rw [← hb0] at HS0 ⊢
  obtain ⟨w6, hw6⟩ : ∃ x, x = w5.alloc (.cells #[.int .i64 0, .int .i64 0, .int .i64 0, .int .i64 0, .int .i64 0] 39) := ⟨_, rfl⟩
  rw [← hw6] at HS0 ⊢
  clear hb0 hw6 kc
  go_loopw [26] (fun kv wr => ∃ i : Nat, i ≤ s.size ∧ kv = .int .i64 i ∧ Hid (PickS w wr g b0 s.data.toList (c i))) (fun kv _ => s.size - (intOf kv).toNat)
  case atStart => exact ⟨0, Nat.zero_le _, rfl, HS0⟩
  case round =>
    clear HS0
    obtain ⟨k, hk, rfl, HS⟩ := hrel
    by_cases hlt : k < s.size
    · obtain ⟨qa, hqa⟩ : ∃ q, q = behindF s.data.toList n k := ⟨_, rfl⟩
      obtain ⟨qb, hqb⟩ : ∃ q, q = (t.data.toList.getD k 0).toNat := ⟨_, rfl⟩
      obtain ⟨qc, hqc⟩ : ∃ q, q = behindF t.data.toList n k := ⟨_, rfl⟩
      have la : qa < 256 := by rw [hqa]; exact behindF_lt _ _ _
      have lb : qb < 256 := by rw [hqb]; exact UInt8.toNat_lt _
      have lc : qc < 256 := by rw [hqc]; exact behindF_lt _ _ _
      obtain ⟨b, hb⟩ : ∃ b, b = (s.data.toList.getD k 0).toNat := ⟨_, rfl⟩
      have hcb : wr.cell? ⟨g, k, none⟩ = some (.int .u8 (b : Nat)) := by rw [hb]; exact HS.out.1.cell (by rw [HLL.out]; exact hlt)
      have hb256 : b < 256 := by rw [hb]; exact UInt8.toNat_lt _
      have HP : Hid (Calls Try.prog 18 #[.int .i64 n, .int .i64 k, .slice (some ⟨g, 0, none⟩) s.size c1, .string t] wr fun e w' => e = .returned (preV qa qb qc) ∧ But [] wr w') := Lib.hid (by
        rw [hqa, hqb, hqc]
        exact ppre_any wr hn1 hn8 hlt hs hcap HS.out.1.lt (fun i hi => HS.out.1.cell (by rw [HLL.out]; omega)) HTS.out)
      have HIX : Hid (∀ (m : Nat) v, m ≤ 4 → (Instr.index 34 (preV qa qb qc) (.int .i64 (m : Int))).run Try.prog v = .ok (.int .u8 (predF (m : Int) qa qb qc : Nat)) v) := Lib.hid fun m v hm => pre_index hm la lb v
      obtain ⟨V, hV⟩ : ∃ V, V = preV qa qb qc := ⟨_, rfl⟩
      have HFO : Hid (∀ m : Nat, (foreF (m : Int) n s.data.toList t.data.toList k).toNat = predF (m : Int) qa qb qc) := Lib.hid (fun m => by
        have hp := predF_lt (m : Int) la lb lc
        unfold foreF
        rw [← hqa, ← hqb, ← hqc, UInt8.toNat_ofNat']
        omega)
      rw [← hV] at HIX HP
      have HBB := Lib.hid hb
      clear hqa hqb hqc hV hb
      go_wp2_with fail
      refine HP.out.mono ?_
      rintro e w7 ⟨rfl, hB7⟩
      have HS7 := Lib.hid (HS.out.but hB7)
      clear hB7 HP hcb HS
      go_wp2_with fail
      go_loopw [36] (fun kv wx => ∃ m : Nat, m ≤ 5 ∧ kv = .int .i64 m ∧ Hid (PickS w wx g b0 s.data.toList (fun j => if j < m then c (k + 1) j else c k j))) (fun kv _ => 5 - (intOf kv).toNat)
      case atStart => exact ⟨0, Nat.zero_le _, rfl, Lib.hid (HS7.out.eq fun j _ => by rw [if_neg (by omega)])⟩
      case round =>
        clear HS7
        obtain ⟨m, hm, rfl, HS8⟩ := hrel
        by_cases hm5 : m < 5
        · have hix := fun v => HIX.out m v (by omega)
          obtain ⟨p, hp⟩ : ∃ p, p = predF (m : Int) qa qb qc := ⟨_, rfl⟩
          have hp256 : p < 256 := by rw [hp]; exact predF_lt _ la lb lc
          rw [← hp] at hix
          obtain ⟨y, hy⟩ : ∃ y, y = (X m).getD k 0 := ⟨_, rfl⟩
          obtain ⟨z, hz⟩ : ∃ z : Nat, z = y.toNat := ⟨_, rfl⟩
          have hz256 : z < 256 := by rw [hz]; exact y.toNat_lt
          have ew : IntKind.u8.wrap ((b : Int) - (p : Int)) = (z : Int) := by
            rw [hz, hy, HXA.out k m hlt, UInt8.toNat_sub, HFO.out, ← HBB.out, ← hp, IntKind.wrap_u8]
            omega
          obtain ⟨q, hq⟩ : ∃ q, q = farB y := ⟨_, rfl⟩
          have HSZ : Hid (∀ v, Calls Try.prog 23 #[.int .u8 (z : Int)] v fun e w' => e = .returned (.int .i64 (q : Nat)) ∧ v = w') := Lib.hid fun v => by
            have h := psize_any v z hz256
            rw [hz, UInt8.ofNat_toNat, ← hq] at h
            rw [hz]
            exact h
          obtain ⟨a, ha⟩ : ∃ a, a = c k m := ⟨_, rfl⟩
          have ha2 : a ≤ 18014398508957696 := by rw [ha]; exact HCL.out k m
          have hq2 : q ≤ 128 := by rw [hq]; exact farB_le y
          have haq : c (k + 1) m = a + q := by rw [HCN.out k m hlt, ← hy, ← hq, ← ha]
          have hcell : wr.drew.cell? ⟨b0, m, none⟩ = some (.int .i64 (a : Nat)) := by
            have h := (HS8.out.but ((But.refl [] _).drew)).sum hm5
            rw [if_neg (by omega), ← ha] at h
            exact h
          have hfree : wr.drew.frozen? ⟨b0, m, none⟩ = false := (HS8.out.but ((But.refl [] _).drew)).2.1.free m
          have HS9 : Hid (PickS w (wr.drew.setCell ⟨b0, m, none⟩ (.int .i64 ((a : Int) + (q : Int)))) g b0 s.data.toList (fun j => if j < m + 1 then c (k + 1) j else c k j)) := Lib.hid (by
            have h := (HS8.out.but ((But.refl [] _).drew)).put hm5 (a + q)
            rw [Int.natCast_add] at h
            refine h.eq fun j _ => ?_
            by_cases hj : j = m
            · rw [if_pos hj, hj, if_pos (by omega), haq]
            · rw [if_neg hj]
              by_cases hjm : j < m
              · rw [if_pos hjm, if_pos (by omega)]
              · rw [if_neg hjm, if_neg (by omega)])
          have m0 : (0 : Int) ≤ (m : Int) := by omega
          have m1 : (m : Int) < 5 := by omega
          clear hp hy hz hq ha haq HS8
          go_upto_region 11 with (fail)
          go_region_with (refine (HSZ.out _).mono ?_; rintro e w6 ⟨rfl, rfl⟩)
          all_goals go_wp2
          all_goals exact ⟨⟨m + 1, by omega, by go_num, HS9⟩, by simp [intOf] <;> omega⟩
        · obtain rfl : m = 5 := by omega
          have HS9 := Lib.hid (HS8.out.eq (h := c (k + 1)) fun j hj => if_pos hj)
          go_wp2
          go_roundw
          case rel => exact ⟨k + 1, by omega, by go_num, HS9⟩
          case measure => simp [intOf] <;> omega
    · obtain rfl : k = s.size := by omega
      obtain ⟨d, hd⟩ : ∃ d, d = c s.size := ⟨_, rfl⟩
      rw [← hd] at HS HR
      have hdl : ∀ j, d j ≤ 18014398508957696 := fun j => by rw [hd]; exact HCL.out _ _
      have HDL := Lib.hid hdl
      have e0 := HS.out.sum (k := 0) (by omega)
      have e1 := HS.out.sum (k := 1) (by omega)
      have e2 := HS.out.sum (k := 2) (by omega)
      have e3 := HS.out.sum (k := 3) (by omega)
      have e4 := HS.out.sum (k := 4) (by omega)
      have HIX : Hid (∀ (m : Nat) v, m < 5 → (Instr.index 39 (.agg #[.int .i64 (d 0 : Nat), .int .i64 (d 1 : Nat), .int .i64 (d 2 : Nat), .int .i64 (d 3 : Nat), .int .i64 (d 4 : Nat)]) (.int .i64 (m : Int))).run Try.prog v = .ok (.int .i64 (d m : Nat)) v) := Lib.hid fun m v hm => sum_index d hm v
      clear hd hdl
      go_wp2_with fail
      go_loopw [14, 52] (fun bv kv wx => ∃ m b : Nat, m ≤ 5 ∧ kv = .int .i64 m ∧ bv = .int .i64 b ∧ Hid (b = (bstF d m).1) ∧ Hid (PickS w wx g b0 s.data.toList d)) (fun _ kv _ => 5 - (intOf kv).toNat)
      case atStart => exact ⟨0, 0, Nat.zero_le _, rfl, rfl, Lib.hid rfl, HS⟩
      case round =>
        clear e0 e1 e2 e3 e4 HS
        obtain ⟨m, b, hm, rfl, rfl, HB, HS⟩ := hrel
        by_cases hm5 : m < 5
        · have hix := fun v => HIX.out m v hm5
          have hbm : b ≤ m := by rw [HB.out]; exact (bstF_le d HDL.out m).2
          have hcell := HS.out.sum (k := b) (by omega)
          have HON : Hid ((bstF d (m + 1)).1 = if d m < d b then m else b) := Lib.hid (by rw [bstF_one, ← HB.out])
          obtain ⟨x, hx⟩ : ∃ x, x = d m := ⟨_, rfl⟩
          obtain ⟨u, hu⟩ : ∃ u, u = d b := ⟨_, rfl⟩
          rw [← hx] at hix HON
          rw [← hu] at hcell HON
          have i0 : (0 : Int) ≤ (b : Int) := by omega
          have i1 : (b : Int) < 5 := by omega
          have m0 : (0 : Int) ≤ (m : Int) := by omega
          have m1 : (m : Int) < 5 := by omega
          clear hx hu
          by_cases hxu : x < u
          · have HN : Hid (m = (bstF d (m + 1)).1) := Lib.hid (by rw [HON.out, if_pos hxu])
            go_wp2
            go_roundw
            case rel => exact ⟨m + 1, m, by omega, by go_num, by first | rfl | go_num, HN, HS⟩
            case measure => simp [intOf] <;> omega
          · have HN : Hid (b = (bstF d (m + 1)).1) := Lib.hid (by rw [HON.out, if_neg hxu])
            go_wp2
            go_roundw
            case rel => exact ⟨m + 1, b, by omega, by go_num, by first | rfl | go_num, HN, HS⟩
            case measure => simp [intOf] <;> omega
        · obtain rfl : m = 5 := by omega
          have HE : Hid (pickF n s.data.toList t.data.toList = b) := Lib.hid (by rw [HR.out, ← HB.out])
          go_wp2
          go_ret2
          exact ⟨by rw [HE.out]; rfl, HS.out.2.2.2.2⟩
end Go.Proofs.Ytbhdbekkandbhaa
