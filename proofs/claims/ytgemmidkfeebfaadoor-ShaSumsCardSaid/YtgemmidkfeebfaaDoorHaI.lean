/- The program's hash of bytes. -/
import Derived.Test.YtgemmidkfeebfaaDoorHaH
import Derived.Test.YtgemmidkfeebfaaDoorRegZ
set_option maxRecDepth 100000
set_option linter.unusedVariables false
namespace Go.Proofs.YtgemmidkfeebfaaDoor
set_option maxRecDepth 100000
open Go Go.RowKit
theorem storeCells_is {t : TypeId} {w : World} {b : Nat} {old cs : Array Value} (h : Is w b t old) (ho : old.size = cs.size) (h1 : ∀ v ∈ cs.toList, v.oneCell' = true) : (storeCells ⟨b, 0, none⟩ cs.toList).run Tryd.prog w = .ok () (w.setRow b cs) := by
  have hs := run_storeCells_from (P := Tryd.prog) b t cs.toList 0 old w h (by rw [Array.length_toList]; omega) h1
  rw [show (old.toList.take 0 ++ cs.toList).toArray = cs by simp] at hs
  exact hs
theorem if_takeH {c : Prop} [Decidable c] {A B : Prop} (hc : c) (h : A) : if c then A else B := by rw [if_pos hc]; exact h
theorem wp_store_is {o : Oper} {a : Act} {w : World} {K : Act → World → Prop} {Q : Exit → Act → World → Prop} (T : TypeId) {b : Nat} {t : TypeId} {old cs : Array Value} (x v : Operand) (ho : o.op = .store T x v) (hx : a.eval x = .pointer (some ⟨b, 0, none⟩)) (hv : a.eval v = .agg cs) (hT : AggT T cs.size) (h : Is w b t old) (ho2 : old.size = cs.size) (h1 : ∀ v ∈ cs.toList, v.oneCell' = true)
    (hK : K (a.put o.dst (.tuple #[])) (w.setRow b cs)) : Oper.wp Tryd.prog o a w K Q := by
  unfold Oper.wp execOp
  simp only [ho, hx, hv, store_is h hT ho2 h1, Sem.run_bind, Sem.run_pure, Result.andThen_ok]
  exact hK
/-- One that reads, ahead of the last. -/
theorem rzq {P : Program} {ops : Array Oper} {Q : Exit → Act → World → Prop} {md : Region.Mode} {S : World → Prop} {z : Nat} (i : Nat) (v : Value) {oi : Oper} {f : Nat} {listed : Array Bool} {a : Act} {w : World}
    (hv : ∀ w, S w → (execOp a.eval oi).run P w = .ok (.value v) w)
    (h : wpZ P md ops Q S (fun v v' => But [] v v') z f (listed.setIfInBounds i true) (a.put oi.dst v) w)
    (hi : ops[i]? = some oi := by rfl) (hz : waits md ops z i = true := by kernel_rfl) (hiz : i ≠ z := by decide) (hs : Region.noSelect ops = true := by kernel_rfl) (hf : Region.free md ops listed i = true := by kernel_rfl)
    (hr : (Region.ready md ops listed).contains i = true := by kernel_rfl) (hw : Region.wanted oi (yielded ops a.tmps) = true := by first | kernel_rfl | go_simp)
    (hQ : ∀ c a w, Q (.panic c) (a.put oi.dst v) w → Q (.panic c) a w := by exact fun _ _ _ h => h) : wpZ P md ops Q S (fun v v' => But [] v v') z (f + 1) listed a w :=
  wpZ_take (fun w => But.refl [] w) (fun x y z h k => h.trans k) hi hz hiz hs hf hr hQ (YieldsR.read (fun w => But.refl [] w) hw hv) h
theorem rzk {P : Program} {ops : Array Oper} {Q : Exit → Act → World → Prop} {md : Region.Mode} {S : World → Prop} {z : Nat} (i : Nat) (v : Value) {oi : Oper} {f : Nat} {listed : Array Bool} {a : Act} {w : World}
    (h : wpZ P md ops Q S (fun v v' => But [] v v') z f (listed.setIfInBounds i true) (a.put oi.dst v) w)
    (hi : ops[i]? = some oi := by rfl) (hz : waits md ops z i = true := by kernel_rfl) (hiz : i ≠ z := by decide) (hs : Region.noSelect ops = true := by kernel_rfl) (hf : Region.free md ops listed i = true := by kernel_rfl)
    (hr : (Region.ready md ops listed).contains i = true := by kernel_rfl) (hw : Region.wanted oi (yielded ops a.tmps) = true := by first | kernel_rfl | go_simp)
    (hv : ∀ w, S w → (execOp a.eval oi).run P w = .ok (.value v) w := by intro w hS; go_simp)
    (hQ : ∀ c a w, Q (.panic c) (a.put oi.dst v) w → Q (.panic c) a w := by exact fun _ _ _ h => h) : wpZ P md ops Q S (fun v v' => But [] v v') z (f + 1) listed a w :=
  rzq i v hv h hi hz hiz hs hf hr hw hQ
theorem blocksS_append : ∀ (n : Nat) (a b : List UInt8) (h : List Nat) (m : Nat), a.length = 64 * n → blocksS (n + m) (a ++ b) h = blocksS m b (blocksS n a h)
  | 0, a, b, h, m, ha => by
    obtain rfl : a = [] := List.eq_nil_of_length_eq_zero (by omega)
    rw [Nat.zero_add, List.nil_append]
    rfl
  | n + 1, a, b, h, m, ha => by
    rw [show n + 1 + m = (n + m) + 1 by omega]
    show blocksS (n + m) ((a ++ b).drop 64) (blockS h ((a ++ b).take 64)) = blocksS m b (blocksS n (a.drop 64) (blockS h (a.take 64)))
    rw [List.drop_append_of_le_length (by omega), List.take_append_of_le_length (by omega)]
    exact blocksS_append n (a.drop 64) b _ m (by rw [List.length_drop]; omega)
theorem blocksS_length : ∀ (n : Nat) (s : List UInt8) (h : List Nat), h.length = 8 → (blocksS n s h).length = 8
  | 0, _, h, hh => hh
  | n + 1, s, h, _ => blocksS_length n (s.drop 64) (blockS h (s.take 64)) (by rw [blockS_of]; exact addS_length _ _)
theorem small_blocks : ∀ (n : Nat) (s : List UInt8) (h : List Nat), Small h → Small (blocksS n s h)
  | 0, _, h, hh => hh
  | n + 1, s, h, _ => small_blocks n (s.drop 64) (blockS h (s.take 64)) (by rw [blockS_of]; exact small_add _ _)
theorem hSha_length : hSha.length = 8 := rfl
theorem hSha_row : rowW hSha 8 = #[.int .u32 1779033703, .int .u32 3144134277, .int .u32 1013904242, .int .u32 2773480762, .int .u32 1359893119, .int .u32 2600822924, .int .u32 528734635, .int .u32 1541459225] := rfl
theorem shaT_two {l a b : List UInt8} (ha : a = l.take (l.length / 64 * 64)) (hb : b = l.drop (l.length / 64 * 64) ++ padS l.length) : shaT l = outS (blocksS (b.length / 64) b (blocksS (a.length / 64) a hSha)) ∧ a.length % 64 = 0 ∧ b.length % 64 = 0 ∧ b.length ≤ 200 ∧ a.length ≤ l.length := by
  have hal : a.length = 64 * (l.length / 64) := by rw [ha, List.length_take]; omega
  have hbl : b.length = l.length % 64 + (padN l.length + 9) := by rw [hb, List.length_append, List.length_drop, padS_length]; omega
  have hb64 : b.length % 64 = 0 := by rw [hbl]; unfold padN; omega
  have hf : fillT l = a ++ b := by rw [fillT_pad, ha, hb, ← List.append_assoc, List.take_append_drop]
  have hp := padN_lt l.length
  refine ⟨?_, by omega, hb64, by omega, by omega⟩
  unfold shaT
  rw [hf, List.length_append, show (a.length + b.length) / 64 = l.length / 64 + b.length / 64 by omega, blocksS_append _ _ _ _ _ hal, show a.length / 64 = l.length / 64 by omega]
attribute [local irreducible] rowW rotT kSha hSha blocksS outS padS
set_option maxHeartbeats 4000000 in
theorem psum_any (w : World) {l : List UInt8} (hl : l.length ≤ 100000000) (hG : GK w) :
    Calls Tryd.prog 7 #[.string (strL l)] w fun e w' => e = .returned (.string (strL (shaT l))) ∧ But [] w w' := by
  obtain ⟨n, hn⟩ : ∃ n, n = l.length := ⟨_, rfl⟩
  obtain ⟨q, hq⟩ : ∃ q, q = n / 64 := ⟨_, rfl⟩
  obtain ⟨m, hm⟩ : ∃ m, m = q * 64 := ⟨_, rfl⟩
  obtain ⟨a, ha⟩ : ∃ a, a = l.take m := ⟨_, rfl⟩
  obtain ⟨c, hc⟩ : ∃ a, a = l.drop m := ⟨_, rfl⟩
  obtain ⟨b, hb⟩ : ∃ b, b = c ++ padS n := ⟨_, rfl⟩
  obtain ⟨ht, ha64, hb64, hbl, hal⟩ := shaT_two (l := l) (a := a) (b := b) (by rw [ha, hm, hq, hn]) (by rw [hb, hc, hm, hq, hn])
  obtain ⟨h1, hh1⟩ : ∃ h, h = blocksS (a.length / 64) a hSha := ⟨_, rfl⟩
  obtain ⟨h2, hh2⟩ : ∃ h, h = blocksS (b.length / 64) b h1 := ⟨_, rfl⟩
  have l1 : h1.length = 8 := by rw [hh1]; exact blocksS_length _ _ _ hSha_length
  have l2 : h2.length = 8 := by rw [hh2]; exact blocksS_length _ _ _ l1
  have s1 : Small h1 := by rw [hh1]; exact small_blocks _ _ _ small_hSha
  have s2 : Small h2 := by rw [hh2]; exact small_blocks _ _ _ s1
  have HT : Hid (shaT l = outS h2) := Lib.hid (by rw [ht, hh2, hh1])
  rw [HT.out]
  have HC1 : Hid (∀ W, GK W → Calls Tryd.prog 12 #[.agg (rowW hSha 8), .string (strL a)] W fun e w' => e = .returned (.agg (rowW h1 8)) ∧ But [] W w') := Lib.hid fun W hG => by
    rw [hh1]; exact pbehind_any W hSha_length small_hSha ha64 (by omega) hG
  have HC2 : Hid (∀ W, GK W → Calls Tryd.prog 12 #[.agg (rowW h1 8), .string (strL b)] W fun e w' => e = .returned (.agg (rowW h2 8)) ∧ But [] W w') := Lib.hid fun W hG => by
    rw [hh2]; exact pbehind_any W l1 s1 hb64 (by omega) hG
  have HTx := Lib.hid fun W => ptext_any W l2 s2
  have HP := Lib.hid fun W => ppadding_any W (n := n) (by omega)
  have k1 : ∀ W, (Instr.slice 9 (.string (strL l)) none (some (.int .i64 (m : Int))) none).run Tryd.prog W = .ok (.string (strL a)) W := fun W => by rw [ha]; exact cut_toH l W (by omega)
  have k2 : ∀ W, (Instr.slice 9 (.string (strL l)) (some (.int .i64 (m : Int))) none none).run Tryd.prog W = .ok (.string (strL c)) W := fun W => by rw [hc]; exact cut_fromH l W (by omega)
  have HB : Hid (strL c ++ strL (padS n) = strL b) := Lib.hid (by rw [hb, strL_append])
  have hcs : (strL c).size + (strL (padS n)).size ≤ 200 := by rw [strL_size, strL_size, ← List.length_append, ← hb]; exact hbl
  obtain ⟨Y, hY⟩ : ∃ Y, Y = strL l := ⟨_, rfl⟩
  obtain ⟨A, hA⟩ : ∃ Y, Y = strL a := ⟨_, rfl⟩
  obtain ⟨C, hC⟩ : ∃ Y, Y = strL c := ⟨_, rfl⟩
  obtain ⟨D, hD⟩ : ∃ Y, Y = strL (padS n) := ⟨_, rfl⟩
  obtain ⟨B, hBB⟩ : ∃ Y, Y = strL b := ⟨_, rfl⟩
  have hys : Y.size = n := by rw [hY, strL_size, hn]
  simp only [← hY, ← hA] at k1
  simp only [← hY, ← hC] at k2
  rw [← hC, ← hD, ← hBB] at HB
  rw [← hC, ← hD] at hcs
  rw [← hA] at HC1
  rw [← hBB] at HC2
  rw [← hD] at HP
  rw [← hY]
  have kf : (9223372036854775807 < C.size + D.size) = False := by simp; omega
  have f1 : (n : Int) / 64 = (q : Int) := by omega
  have f2 : (n : Int).tdiv 64 = (q : Int) := by rw [Int.tdiv_eq_ediv_of_nonneg (by omega)]; omega
  have f3 : (q : Int) * 64 = (m : Int) := by omega
  have v1 := wrapI_in (show q < 1000000000000000 by omega)
  have v2 := wrapI_in (show m < 1000000000000000 by omega)
  have z0 : (rowW hSha 8).size = 8 := rowW_size (by rw [hSha_length]; decide)
  have z1 : (rowW h1 8).size = 8 := rowW_size (by omega)
  have z2 : (rowW h2 8).size = 8 := rowW_size (by omega)
  obtain ⟨w0, hw0⟩ : ∃ W, W = w.alloc (.cells #[.int .u32 1779033703, .int .u32 3144134277, .int .u32 1013904242, .int .u32 2773480762, .int .u32 1359893119, .int .u32 2600822924, .int .u32 528734635, .int .u32 1541459225] 30) := ⟨_, rfl⟩
  obtain ⟨g3, hg3⟩ : ∃ g, g = w.heap.size := ⟨_, rfl⟩
  have HI0 : Hid (Is w0 g3 30 (rowW hSha 8)) := Lib.hid (by rw [hw0, hg3, hSha_row]; exact Is.fresh _ _ _)
  have HB0 : Hid (But [] w w0) := Lib.hid (by rw [hw0]; exact (But.refl [] w).alloc _)
  have HL3 : Hid (w.heap.size ≤ g3) := Lib.hid (by omega)
  have HG := Lib.hid hG
  clear hn hq hm ha hc hb ht ha64 hb64 hbl hal hh1 hh2 l1 l2 s1 s2 hY hA hC hD hBB hcs hG hl HT
  go_enter Tryd.func7, Tryd.ntmps7
  go_upto_region 3 with (fail)
  rw [← hw0, ← hg3]
  clear hw0 hg3
  refine wp_region_z (z := 5) (S := fun v => But [] w0 v) (R := fun v v' => But [] v v') (fun w => But.refl [] w) (by kernel_rfl) (But.refl [] w0).drew ?_
  refine rzq 0 (.agg (rowW hSha 8)) (fun W hS => exec_load_is 30 _ rfl rfl (by rw [z0]; exact agg8) (HI0.out.but hS (by simp))) ?_
  refine rzk 1 (.string Y) ?_
  refine rzk 2 (.int .i64 (m : Int)) ?_
  refine rzk 3 (.string A) ?_
  refine wpZ_take (fun w => But.refl [] w) (fun x y z h k => h.trans k) (i := 4) (v := .agg (rowW h1 8)) rfl (by kernel_rfl) (by decide) (by kernel_rfl) (by kernel_rfl) (by kernel_rfl) (fun _ _ _ h => h) (.inl ⟨?_, fun W hS => .inr ⟨_, _, ?_, (HC1.out W (HG.out.but (HB0.out.trans hS))).mono ?_⟩⟩) ?_
  · go_simp
  · go_simp
  · rintro e wy ⟨rfl, hB⟩; exact ⟨rfl, hS.trans hB, hB⟩
  refine wpZ_last rfl (by kernel_rfl) (by kernel_rfl) fun w1 hR1 hS1 K' hK => ?_
  have hst := storeCells_is (HI0.out.but hS1 (by simp)) (cs := rowW h1 8) (by rw [z0, z1]) rowW_one
  go_simp
  refine hK _ _ ?_
  clear hst
  have HI1 := Lib.hid ((HI0.out.but hS1 (by simp)).row (rowW h1 8))
  have HB1 := Lib.hid ((HB0.out.trans hS1).setRow (b := g3) (.inr HL3.out) (rowW h1 8))
  obtain ⟨W1, hW1⟩ : ∃ W, W = w1.setRow g3 (rowW h1 8) := ⟨_, rfl⟩
  rw [← hW1] at HI1 HB1 ⊢
  clear hR1 hS1 hW1 HI0 HB0 hK K'
  go_simp
  go_upto_region 4 with (fail)
  refine wp_region_z (z := 9) (S := fun v => But [] W1 v) (R := fun v v' => But [] v v') (fun w => But.refl [] w) (by kernel_rfl) (But.refl [] W1).drew ?_
  refine rzq 0 (.agg (rowW h1 8)) (fun W hS => exec_load_is 30 _ rfl rfl (by rw [z1]; exact agg8) (HI1.out.but hS (by simp))) ?_
  refine rzk 1 (.string Y) ?_
  refine rzk 2 (.int .i64 (m : Int)) ?_
  refine rzk 3 (.string C) ?_
  refine rzk 4 (.string Y) ?_
  refine rzk 5 (.int .i64 (n : Int)) ?_
  refine wpZ_take (fun w => But.refl [] w) (fun x y z h k => h.trans k) (i := 6) (v := .string D) rfl (by kernel_rfl) (by decide) (by kernel_rfl) (by kernel_rfl) (by kernel_rfl) (fun _ _ _ h => h) (.inl ⟨?_, fun W hS => .inr ⟨_, _, ?_, (HP.out W).mono ?_⟩⟩) ?_
  · go_simp
  · go_simp
  · rintro e wy ⟨rfl, hB⟩; exact ⟨rfl, hS.trans hB, hB⟩
  refine rzk 7 (.string (C ++ D)) ?_
  rw [HB.out]
  refine wpZ_take (fun w => But.refl [] w) (fun x y z h k => h.trans k) (i := 8) (v := .agg (rowW h2 8)) rfl (by kernel_rfl) (by decide) (by kernel_rfl) (by kernel_rfl) (by kernel_rfl) (fun _ _ _ h => h) (.inl ⟨?_, fun W hS => .inr ⟨_, _, ?_, (HC2.out W (HG.out.but (HB1.out.trans hS))).mono ?_⟩⟩) ?_
  · go_simp
  · go_simp
  · rintro e wy ⟨rfl, hB⟩; exact ⟨rfl, hS.trans hB, hB⟩
  refine wpZ_last rfl (by kernel_rfl) (by kernel_rfl) fun w1 hR1 hS1 K' hK => ?_
  have hst := storeCells_is (HI1.out.but hS1 (by simp)) (cs := rowW h2 8) (by rw [z1, z2]) rowW_one
  go_simp
  refine hK _ _ ?_
  clear hst
  have HI2 := Lib.hid ((HI1.out.but hS1 (by simp)).row (rowW h2 8))
  have HB2 := Lib.hid ((HB1.out.trans hS1).setRow (b := g3) (.inr HL3.out) (rowW h2 8))
  obtain ⟨W2, hW2⟩ : ∃ W, W = w1.setRow g3 (rowW h2 8) := ⟨_, rfl⟩
  rw [← hW2] at HI2 HB2 ⊢
  clear hR1 hS1 hW2 HI1 HB1 hK K'
  go_simp
  go_wp2_with (refine wpList_load_is 30 rfl _ rfl rfl (by rw [z2]; exact agg8) HI2.out ?_)
  refine (HTx.out _).mono ?_
  rintro e W3 ⟨rfl, hB3⟩
  have HB3 := Lib.hid (HB2.out.trans hB3)
  clear hB3 HB2
  go_wp2
  go_ret
  exact ⟨rfl, HB3.out⟩
end Go.Proofs.YtgemmidkfeebfaaDoor
