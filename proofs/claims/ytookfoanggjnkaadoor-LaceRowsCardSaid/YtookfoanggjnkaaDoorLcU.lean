/- The program's bytes of an image. -/
import Derived.Test.YtookfoanggjnkaaDoorLcS
import Derived.Test.YtookfoanggjnkaaDoorRegZ
set_option maxRecDepth 100000
set_option linter.unusedVariables false
namespace Go.Proofs.YtookfoanggjnkaaDoor
set_option maxRecDepth 100000
open Go Go.RowKit Go.Shelf
attribute [local go_sem] Oper.semAt_some
/-- The sum while the passes are told. -/
def SizI (w : World) (bz : Nat) (Z : Nat → Nat) (k : Nat) (W : World) : Prop := But [bz] w W ∧ Is W bz 3 #[.int .i64 (Z k : Nat)]
theorem sizI_next {w W W1 : World} {bz k z : Nat} {Z : Nat → Nat} (hB : But [bz] w W) (hI : Is W bz 3 #[.int .i64 (Z k : Nat)]) (h1 : But [] W W1) (hz : Z (k + 1) = z) :
    KeepsOthers W (W1.setCell ⟨bz, 0, none⟩ (.int .i64 (z : Nat))) ∧ KeptS (fun b => b < w.heap.size ∧ b ≠ bz) W (W1.setCell ⟨bz, 0, none⟩ (.int .i64 (z : Nat))) ∧ SizI w bz Z (k + 1) (W1.setCell ⟨bz, 0, none⟩ (.int .i64 (z : Nat))) := by
  have h2 : But [bz] W (W1.setCell ⟨bz, 0, none⟩ (.int .i64 (z : Nat))) := (h1.more (by simp)).setCell (.inl (by simp)) _
  have h3 := (hI.but h1 (by simp)).put 0 (.int .i64 (z : Nat))
  refine ⟨(show KeepsOthers W W1 from ⟨h1.size, fun k o hk _ => (h1.block k (Array.getElem?_eq_some_iff.1 hk).1 (by simp)).trans hk⟩).trans (KeepsOthers.setCell _ _ _), ⟨h2.size, fun b hb => h2.block b (Nat.lt_of_lt_of_le hb.1 hB.size) (by simpa using hb.2)⟩, hB.trans h2, ?_⟩
  rw [hz]
  simpa using h3
set_option maxHeartbeats 1000000 in
theorem lsize_in {F : Fence} {N : Nat} (hFW : F = Fence.wide) (hro : F.round = none) (hN : 3 ≤ N) (w : World) (hG : GP w) (a b d c l : Int) :
    CallsIn F N Tryd.prog 16 #[.agg #[.int .i64 a, .int .i64 b, .int .i64 d, .int .i64 c, .int .i64 l]] w fun e w' => e = .returned (.int .i64 (sizeA a b d c l : Nat)) ∧ But [] w w' := by
  have h1 : 1 ≤ N := by omega
  have hd : 1 ≤ N - 1 - 1 := by omega
  have f16 : F.fn 16 := by rw [hFW]; trivial
  have f14 : F.fn 14 := by rw [hFW]; trivial
  have f18 : F.fn 18 := by rw [hFW]; trivial
  have f24 : F.fn 24 := by rw [hFW]; trivial
  have hcl : ∀ W, GP W → But [] w W → Is W (w.heap.size + 1 + 1) 23 #[.int .i64 a, .int .i64 b, .int .i64 d, .int .i64 c, .int .i64 l] → RoundsB F (N - 1) Tryd.prog 24 #[.pointer (some ⟨w.heap.size + 1 + 1, 0, none⟩)] (encP (passA a b d c l)) (KeptS fun b => b < W.heap.size ∧ b ≠ w.heap.size + 1) (passA a b d c l).length W := fun W hGW hBW hIW =>
    passes_closure hFW f24 hro (by omega) hIW hGW ⟨hIW.lt, by omega⟩ ⟨(hGW 0 _ rfl).2, by have := (hG 0 _ rfl).2; omega⟩ (fun b hb => hb.1)
  have HRW := Lib.hid fun v n => lrow_any v a b d c l n
  obtain ⟨M, hM⟩ : ∃ M, M = passA a b d c l := ⟨_, rfl⟩
  have hM7 : M.length ≤ 7 := by rw [hM]; exact passA_len a b d c l
  have HSM : Hid (∀ p, p ∈ M → (p.1 ≤ 7 ∧ p.2.1 ≤ 7) ∧ (1 ≤ p.2.2.1 ∧ p.2.2.1 ≤ 8) ∧ (1 ≤ p.2.2.2.1 ∧ p.2.2.2.1 ≤ 8) ∧ (1 ≤ p.2.2.2.2.1 ∧ p.2.2.2.2.1 ≤ 1024) ∧ 1 ≤ p.2.2.2.2.2 ∧ p.2.2.2.2.2 ≤ 1024) := Lib.hid fun p hp => passA_small (by rw [← hM]; exact hp)
  have HR : Hid (sizeA a b d c l = sizeL a b d c l M) := Lib.hid (by rw [hM]; rfl)
  rw [HR.out]
  rw [← hM] at hcl
  obtain ⟨R, hR⟩ : ∃ R : P6 → Nat, R = fun p => rowA a b d c l (p.2.2.2.2.1 : Nat) := ⟨_, rfl⟩
  have HRL : Hid (∀ p, R p ≤ 8192) := Lib.hid fun p => by rw [hR]; exact rowA_le _ _ _ _ _ _
  have HRR : Hid (∀ p v, Calls Tryd.prog 14 #[.agg #[.int .i64 a, .int .i64 b, .int .i64 d, .int .i64 c, .int .i64 l], .int .i64 (p.2.2.2.2.1 : Nat)] v fun e w' => e = .returned (.int .i64 (R p : Nat)) ∧ But [] v w') := Lib.hid fun p v => by rw [hR]; exact HRW.out v _
  obtain ⟨Z, hZ⟩ : ∃ Z : Nat → Nat, Z = fun k => sizeL a b d c l (M.take k) := ⟨_, rfl⟩
  have HZN : Hid (∀ k p, M[k]? = some p → Z (k + 1) = Z k + p.2.2.2.2.2 * (1 + R p)) := Lib.hid fun k p hp => by rw [hZ, hR]; dsimp only; rw [take_nextP hp]; exact sizeL_snoc _ _ _ _ _ _ _
  have HZ0 : Hid (Z 0 = 0) := Lib.hid (by rw [hZ]; rfl)
  have HZE : Hid (sizeL a b d c l M = Z M.length) := Lib.hid (by rw [hZ]; dsimp only; rw [List.take_length])
  have HZL : Hid (∀ i, Z i ≤ 58727424) := Lib.hid fun i => by
    have h := sizeL_le (a := a) (b := b) (d := d) (c := c) (l := l) (L := M.take i) (fun p hp => ((HSM.out p) (List.mem_of_mem_take hp)).2.2.2.2.2)
    have h2 : (M.take i).length ≤ 7 := by rw [List.length_take]; omega
    rw [hZ]
    dsimp only
    omega
  rw [HZE.out]
  have hI := Is.fresh w 23 #[.int .i64 a, .int .i64 b, .int .i64 d, .int .i64 c, .int .i64 l]
  have c0 := hI.cell 0
  have c1 := hI.cell 1
  have c2 := hI.cell 2
  have c3 := hI.cell 3
  have c4 := hI.cell 4
  have HG := Lib.hid hG
  have HCL := Lib.hid hcl
  have HFW := Lib.hid hFW
  clear hM hI hG hcl hFW hR hZ HRW HR
  refine callsIn_of_wp_marks Tryd.func16 rfl f16 ?_ hro
  simp only [Tryd.ntmps16, List.size_toArray, List.length_cons, List.length_nil, Nat.reduceAdd, Nat.reduceSub, Array.replicate_succ, Array.replicate_zero, List.push_toArray, List.append_toArray, List.nil_append, List.cons_append]
  gi_wp2_with (gi_at_call 18; refine (callsIn_any HFW.out (passes_any _ _ rfl)).mono ?_; rintro e w' ⟨rfl, rfl⟩)
  clear c0 c1 c2 c3 c4
  obtain ⟨b0, hb0⟩ : ∃ g, g = w.heap.size := ⟨_, rfl⟩
  have hbl : But [] w (((w.alloc (.cells #[.int .i64 a, .int .i64 b, .int .i64 d, .int .i64 c, .int .i64 l] 23)).alloc (.cells #[.int .i64 0] 3)).alloc (.cells #[.int .i64 a, .int .i64 b, .int .i64 d, .int .i64 c, .int .i64 l] 23)) := (((But.refl [] w).alloc _).alloc _).alloc _
  have i0 := ((Is.fresh w 23 #[.int .i64 a, .int .i64 b, .int .i64 d, .int .i64 c, .int .i64 l]).alloc (.cells #[.int .i64 0] 3)).alloc (.cells #[.int .i64 a, .int .i64 b, .int .i64 d, .int .i64 c, .int .i64 l] 23)
  have i1 := (Is.fresh (w.alloc (.cells #[.int .i64 a, .int .i64 b, .int .i64 d, .int .i64 c, .int .i64 l] 23)) 3 #[.int .i64 0]).alloc (.cells #[.int .i64 a, .int .i64 b, .int .i64 d, .int .i64 c, .int .i64 l] 23)
  have i2 := Is.fresh ((w.alloc (.cells #[.int .i64 a, .int .i64 b, .int .i64 d, .int .i64 c, .int .i64 l] 23)).alloc (.cells #[.int .i64 0] 3)) 23 #[.int .i64 a, .int .i64 b, .int .i64 d, .int .i64 c, .int .i64 l]
  have isz : (((w.alloc (.cells #[.int .i64 a, .int .i64 b, .int .i64 d, .int .i64 c, .int .i64 l] 23)).alloc (.cells #[.int .i64 0] 3)).alloc (.cells #[.int .i64 a, .int .i64 b, .int .i64 d, .int .i64 c, .int .i64 l] 23)).heap.size = w.heap.size + 1 + 1 + 1 := by simp
  rw [World.size_alloc] at i1 i2
  rw [World.size_alloc] at i2
  generalize (((w.alloc (.cells #[.int .i64 a, .int .i64 b, .int .i64 d, .int .i64 c, .int .i64 l] 23)).alloc (.cells #[.int .i64 0] 3)).alloc (.cells #[.int .i64 a, .int .i64 b, .int .i64 d, .int .i64 c, .int .i64 l] 23)) = wL at *
  have hcl := HCL.out wL (HG.out.but hbl) hbl i2
  rw [← hb0] at hcl i0 i1 i2 isz ⊢
  have HB0 := Lib.hid hb0
  have HBL := Lib.hid hbl
  have HI0 := Lib.hid i0
  have HI1 := Lib.hid i1
  have ISZ := Lib.hid isz
  clear hb0 hbl i0 i1 i2 isz HCL
  refine range_rounds_b (Kp := KeptS fun b => b < wL.heap.size ∧ b ≠ b0 + 1) hro h1 (gf := 24) (lb := #[.pointer (some ⟨b0 + 1 + 1, 0, none⟩)]) rfl f24 (enters_of Tryd.func24 (by kernel_rfl) rfl) hcl
    (fun h k => KeptS.trans h k) (fun h => ⟨h.size, fun b hb => h.block b hb.1⟩) (fun k => rfl)
    (SizI wL (b0 + 1) Z) ?hI ?hstart
    (fun k g => { tmps := #[.agg #[.int .i64 a, .int .i64 b, .int .i64 d, .int .i64 c, .int .i64 l], .pointer (some ⟨b0, 0, none⟩), .int .i64 0, .pointer (some ⟨b0 + 1, 0, none⟩), .pointer (some ⟨g, 0, none⟩), .agg #[.int .i64 a, .int .i64 b, .int .i64 d, .int .i64 c, .int .i64 l], .func (.func 24) #[] #[.pointer (some ⟨b0 + 1 + 1, 0, none⟩)], p6Val (M.getD k (0, 0, 0, 0, 0, 0)), undef, undef, undef, undef, undef, undef, undef, undef, undef, undef, undef], defers := [] })
    34 (cellsP M) ?assign ?body ?done
  case hI => exact fun k W W' h hk => ⟨wide_but h.1 hk (fun b hb => by simp only [List.mem_cons, List.not_mem_nil, or_false] at hb; rcases hb with rfl | rfl <;> omega), h.2.but hk (by have := ISZ.out; simp; omega)⟩
  case hstart => exact ⟨But.refl _ _, by rw [HZ0.out]; exact HI1.out⟩
  case assign =>
    intro l k W K hk hK
    unfold encP
    unfold cellsP at hK
    generalize M.getD k (0, 0, 0, 0, 0, 0) = p at *
    obtain ⟨x, y, dx, dy, pw, ph⟩ := p
    unfold p6Val p6Cells at *
    dsimp only at *
    gi_wp2
    exact hK
  case body =>
    rintro ll k g W ⟨hB, hIz⟩ hk hg hIg hsz
    have hp : M[k]? = some (M.getD k (0, 0, 0, 0, 0, 0)) := by rw [List.getD_eq_getElem?_getD, List.getElem?_eq_getElem hk]; rfl
    unfold cellsP at hIg
    generalize M.getD k (0, 0, 0, 0, 0, 0) = p at *
    obtain ⟨x, y, dx, dy, pw, ph⟩ := p
    unfold p6Val
    unfold p6Cells at hIg
    dsimp only at hIg ⊢
    have hpm := HSM.out _ (List.mem_of_getElem? hp)
    dsimp only at hpm
    have hz := HZN.out k _ hp
    dsimp only at hz
    obtain ⟨r, hr⟩ : ∃ r, r = R (x, y, dx, dy, pw, ph) := ⟨_, rfl⟩
    have hr2 : r ≤ 8192 := by rw [hr]; exact HRL.out _
    have HRP : Hid (∀ v, Calls Tryd.prog 14 #[.agg #[.int .i64 a, .int .i64 b, .int .i64 d, .int .i64 c, .int .i64 l], .int .i64 (pw : Nat)] v fun e w' => e = .returned (.int .i64 (r : Nat)) ∧ But [] v w') := Lib.hid fun v => by
      have h := HRR.out (x, y, dx, dy, pw, ph) v
      dsimp only at h
      rw [← hr] at h
      exact h
    rw [← hr] at hz
    obtain ⟨m, hm⟩ : ∃ m, m = ph * (1 + r) := ⟨_, rfl⟩
    rw [← hm] at hz
    have hph2 : ph ≤ 1024 := hpm.2.2.2.2.2
    have hm2 : m ≤ 8389632 := by rw [hm]; show _ ≤ 1024 * 8193; exact Nat.mul_le_mul hph2 (by omega)
    have e1 : (ph : Int) * (1 + (r : Int)) = (m : Int) := by rw [hm, Int.natCast_mul, Int.natCast_add]; rfl
    have hn := HZL.out k
    obtain ⟨n, hn0⟩ : ∃ n, n = Z k := ⟨_, rfl⟩
    have HIZ := Lib.hid hIz
    rw [← hn0] at hz hn hIz
    have HZZ := Lib.hid hz
    have v1 : IntKind.i64.wrap (1 + (r : Int)) = 1 + (r : Int) := by rw [IntKind.wrap_i64]; omega
    have v2 : IntKind.i64.wrap (m : Int) = (m : Int) := by rw [IntKind.wrap_i64]; omega
    have v3 : IntKind.i64.wrap ((n : Int) + (m : Int)) = (n : Int) + (m : Int) := by rw [IntKind.wrap_i64]; omega
    have V4 : Hid ((n : Int) + (m : Int) = ((n + m : Nat) : Int)) := Lib.hid (by omega)
    have hIh : Is W b0 23 #[.int .i64 a, .int .i64 b, .int .i64 d, .int .i64 c, .int .i64 l] := HI0.out.but hB (by simp)
    have HC : Hid (∀ v, But [] W v → (v.cell? ⟨b0, 0, none⟩ = some (.int .i64 a) ∧ v.cell? ⟨b0, 1, none⟩ = some (.int .i64 b) ∧ v.cell? ⟨b0, 2, none⟩ = some (.int .i64 d) ∧ v.cell? ⟨b0, 3, none⟩ = some (.int .i64 c) ∧ v.cell? ⟨b0, 4, none⟩ = some (.int .i64 l)) ∧ v.cell? ⟨g, 4, none⟩ = some (.int .i64 pw) ∧ v.cell? ⟨g, 5, none⟩ = some (.int .i64 ph) ∧ v.cell? ⟨b0 + 1, 0, none⟩ = some (.int .i64 n) ∧ v.frozen? ⟨b0 + 1, 0, none⟩ = false) := Lib.hid fun v hv => by
      have hh := hIh.but hv (by simp)
      have hg := hIg.but hv (by simp)
      have hs := hIz.but hv (by simp)
      exact ⟨⟨hh.cell 0, hh.cell 1, hh.cell 2, hh.cell 3, hh.cell 4⟩, hg.cell 4, hg.cell 5, hs.cell 0, hs.free 0⟩
    have HB := Lib.hid hB
    clear hB hIz hp hpm hz hr hm hn0 hIh hIg hg hsz hcl
    refine wpIn_block ?_
    refine region_round_z HFW.out (S := fun v => But [] W v) (R := fun v v' => But [] v v') (z := 10) (fun w => But.refl [] w) (by kernel_rfl) (by kernel_rfl) (fun ⟨a, w, h⟩ => h) ((But.refl [] W).drew) ?_
    refine wpZ_take (fun w => But.refl [] w) (fun x y z h k => h.trans k) (i := 0) (v := .int .i64 (n : Nat)) rfl (by kernel_rfl) (by decide) (by kernel_rfl) (by kernel_rfl) (by kernel_rfl) (fun _ _ _ h => h) (YieldsR.read (fun w => But.refl [] w) ?_ fun w hS => ?_) ?_
    · go_simp
    · obtain ⟨⟨y0, y1, y2, y3, y4⟩, y5, y6, y7, y8⟩ := HC.out w hS; go_simp
    refine wpZ_take (fun w => But.refl [] w) (fun x y z h k => h.trans k) (i := 1) (v := .pointer (some ⟨g, 5, none⟩)) rfl (by kernel_rfl) (by decide) (by kernel_rfl) (by kernel_rfl) (by kernel_rfl) (fun _ _ _ h => h) (YieldsR.read (fun w => But.refl [] w) ?_ fun w hS => ?_) ?_
    · go_simp
    · go_simp
    refine wpZ_take (fun w => But.refl [] w) (fun x y z h k => h.trans k) (i := 2) (v := .int .i64 (ph : Nat)) rfl (by kernel_rfl) (by decide) (by kernel_rfl) (by kernel_rfl) (by kernel_rfl) (fun _ _ _ h => h) (YieldsR.read (fun w => But.refl [] w) ?_ fun w hS => ?_) ?_
    · go_simp
    · obtain ⟨⟨y0, y1, y2, y3, y4⟩, y5, y6, y7, y8⟩ := HC.out w hS; go_simp
    refine wpZ_take (fun w => But.refl [] w) (fun x y z h k => h.trans k) (i := 3) (v := .agg #[.int .i64 a, .int .i64 b, .int .i64 d, .int .i64 c, .int .i64 l]) rfl (by kernel_rfl) (by decide) (by kernel_rfl) (by kernel_rfl) (by kernel_rfl) (fun _ _ _ h => h) (YieldsR.read (fun w => But.refl [] w) ?_ fun w hS => ?_) ?_
    · go_simp
    · obtain ⟨⟨y0, y1, y2, y3, y4⟩, y5, y6, y7, y8⟩ := HC.out w hS; go_simp
    refine wpZ_take (fun w => But.refl [] w) (fun x y z h k => h.trans k) (i := 4) (v := .pointer (some ⟨g, 4, none⟩)) rfl (by kernel_rfl) (by decide) (by kernel_rfl) (by kernel_rfl) (by kernel_rfl) (fun _ _ _ h => h) (YieldsR.read (fun w => But.refl [] w) ?_ fun w hS => ?_) ?_
    · go_simp
    · go_simp
    refine wpZ_take (fun w => But.refl [] w) (fun x y z h k => h.trans k) (i := 5) (v := .int .i64 (pw : Nat)) rfl (by kernel_rfl) (by decide) (by kernel_rfl) (by kernel_rfl) (by kernel_rfl) (fun _ _ _ h => h) (YieldsR.read (fun w => But.refl [] w) ?_ fun w hS => ?_) ?_
    · go_simp
    · obtain ⟨⟨y0, y1, y2, y3, y4⟩, y5, y6, y7, y8⟩ := HC.out w hS; go_simp
    refine wpZ_take (fun w => But.refl [] w) (fun x y z h k => h.trans k) (i := 6) (v := .int .i64 (r : Nat)) rfl (by kernel_rfl) (by decide) (by kernel_rfl) (by kernel_rfl) (by kernel_rfl) (fun _ _ _ h => h) (.inl ⟨?_, fun w hS => .inr ⟨_, _, ?_, (HRP.out w).mono ?_⟩⟩) ?_
    · go_simp
    · go_simp
    · rintro e wy ⟨rfl, hB⟩; exact ⟨rfl, hS.trans hB, hB⟩
    refine wpZ_take (fun w => But.refl [] w) (fun x y z h k => h.trans k) (i := 7) (v := .int .i64 (1 + (r : Int))) rfl (by kernel_rfl) (by decide) (by kernel_rfl) (by kernel_rfl) (by kernel_rfl) (fun _ _ _ h => h) (YieldsR.read (fun w => But.refl [] w) ?_ fun w hS => ?_) ?_
    · go_simp
    · go_simp
    refine wpZ_take (fun w => But.refl [] w) (fun x y z h k => h.trans k) (i := 8) (v := .int .i64 (m : Nat)) rfl (by kernel_rfl) (by decide) (by kernel_rfl) (by kernel_rfl) (by kernel_rfl) (fun _ _ _ h => h) (YieldsR.read (fun w => But.refl [] w) ?_ fun w hS => ?_) ?_
    · go_simp
    · go_simp
    refine wpZ_take (fun w => But.refl [] w) (fun x y z h k => h.trans k) (i := 9) (v := .int .i64 ((n : Int) + (m : Int))) rfl (by kernel_rfl) (by decide) (by kernel_rfl) (by kernel_rfl) (by kernel_rfl) (fun _ _ _ h => h) (YieldsR.read (fun w => But.refl [] w) ?_ fun w hS => ?_) ?_
    · go_simp
    · go_simp
    refine wpZ_last rfl (by kernel_rfl) (by kernel_rfl) fun w1 hR1 hS1 K' hK => ?_
    have y7 := (HC.out w1 hS1).2.2.2.1
    have y8 := (HC.out w1 hS1).2.2.2.2
    have HS1 := Lib.hid hS1
    clear hR1 hS1
    go_simp
    refine hK _ _ ?_
    rw [V4.out]
    exact sizI_next HB.out HIZ.out HS1.out HZZ.out
  case done =>
    rintro W ⟨hB, hIz⟩ hlt hD
    have hB2 : But [] w (W.putObj wL.heap.size (.deferred none)) := by
      have h := wide_but hB (but_putObj (W := W) (l := wL.heap.size) (S := [wL.heap.size]) (.deferred none) (by simp)) (by simp)
      refine ⟨h.os.trans HBL.out.os, h.tape.trans HBL.out.tape, h.output.trans HBL.out.output, Nat.le_trans HBL.out.size h.size, fun b hb hS => ?_⟩
      rw [h.block b (Nat.lt_of_lt_of_le hb HBL.out.size) (by have := HB0.out; simp; omega)]
      exact HBL.out.block b hb (by simp)
    have c0 := hIz.cell 0
    have HB2 := Lib.hid hB2
    clear hB hB2 hcl hIz
    gi_wp2
    refine ⟨by simp, .inl ⟨_, _, rfl, run_takeDeferred hD, ?_⟩⟩
    exact ⟨.int .i64 (Z M.length : Nat), by simp [results, Tryd.results16, go_sem], ⟨rfl, HB2.out⟩⟩
theorem lsize_any (w : World) (hG : GP w) (a b d c l : Int) :
    Calls Tryd.prog 16 #[.agg #[.int .i64 a, .int .i64 b, .int .i64 d, .int .i64 c, .int .i64 l]] w fun e w' => e = .returned (.int .i64 (sizeA a b d c l : Nat)) ∧ But [] w w' :=
  (callsIn_wide (n := 3)).1 (lsize_in (F := .wide) (N := 3) rfl rfl (Nat.le_refl _) w hG a b d c l)
end Go.Proofs.YtookfoanggjnkaaDoor
