/- The program's chunk of a head. -/
import Derived.Test.YtedffeimcccobaaHpA
import Derived.Test.YtedffeimcccobaaHdB
set_option maxRecDepth 100000
set_option linter.unusedVariables false
namespace Go.Proofs.Ytedffeimcccobaa
set_option maxRecDepth 100000
open Go Go.RowKit
theorem pnumber_any (w : World) (n : Int) :
    Calls Try.prog 24 #[.int .i64 n] w fun e w' => e = .returned (.string (strL (fourI n))) ∧ But [] w w' := by
  have kc := fun W : World => conv_fourI W n
  have HB := Lib.hid ((But.refl [] w).alloc (.cells #[.int .u8 (IntKind.u8.wrap (n / 16777216)), .int .u8 (IntKind.u8.wrap (n / 65536)), .int .u8 (IntKind.u8.wrap (n / 256)), .int .u8 (IntKind.u8.wrap n)] 5))
  obtain ⟨a, ha⟩ : ∃ a, a = IntKind.u8.wrap (n / 16777216) := ⟨_, rfl⟩
  obtain ⟨b, hb⟩ : ∃ a, a = IntKind.u8.wrap (n / 65536) := ⟨_, rfl⟩
  obtain ⟨c, hc⟩ : ∃ a, a = IntKind.u8.wrap (n / 256) := ⟨_, rfl⟩
  obtain ⟨d, hd⟩ : ∃ a, a = IntKind.u8.wrap n := ⟨_, rfl⟩
  rw [← ha, ← hb, ← hc, ← hd] at HB
  simp only [← ha, ← hb, ← hc, ← hd] at kc
  have ea := ha.symm; have eb := hb.symm; have ec := hc.symm; have ed := hd.symm
  clear ha hb hc hd
  go_enter Try.func24, Try.ntmps24
  go_wp2
  go_ret
  exact ⟨rfl, HB.out⟩
attribute [local irreducible] strL fourL fourI byteI
def LayT (w : World) (g1 g2 : Nat) (a b d c l : Int) (v : World) : Prop := Is v g1 23 #[.int .i64 a, .int .i64 b, .int .i64 d, .int .i64 c, .int .i64 l] ∧ Is v g2 30 #[.string (strL []), .string (strL [])] ∧ But [] w v
theorem LayT.but {w v v' : World} {g1 g2 : Nat} {a b d c l : Int} (h : LayT w g1 g2 a b d c l v) (k : But [] v v') : LayT w g1 g2 a b d c l v' := ⟨h.1.but k (by simp), h.2.1.but k (by simp), h.2.2.trans k⟩
set_option maxHeartbeats 1000000 in
theorem play_head (w : World) (a b d c l : Int) :
    Calls Try.prog 14 #[.agg #[.int .i64 a, .int .i64 b, .int .i64 d, .int .i64 c, .int .i64 l]] w fun e w' => e = .returned (ckVal (layI a b d c l)) ∧ But [] w w' := by
  obtain ⟨F, hF⟩ : ∃ F : Int → ByteArray, ∀ n, F n = strL (fourI n) := ⟨fun n => strL (fourI n), fun _ => rfl⟩
  have H1 : Hid (∀ v n, Calls Try.prog 24 #[.int .i64 n] v fun e w' => e = .returned (.string (F n)) ∧ But [] v w') := Lib.hid (fun v n => by rw [hF]; exact pnumber_any v n)
  obtain ⟨w0, hw0⟩ : ∃ x, x = (w.alloc (.cells #[.int .i64 a, .int .i64 b, .int .i64 d, .int .i64 c, .int .i64 l] 23)).alloc (.cells #[.string ⟨#[]⟩, .string ⟨#[]⟩] 30) := ⟨_, rfl⟩
  have hB0 : But [] w w0 := by rw [hw0]; exact ((But.refl [] w).alloc _).alloc _
  have hI0 : Is w0 w.heap.size 23 #[.int .i64 a, .int .i64 b, .int .i64 d, .int .i64 c, .int .i64 l] := by rw [hw0]; exact (Is.fresh _ _ _).alloc _
  have hJ0 : Is w0 (w.heap.size + 1) 30 #[.string (strL []), .string (strL [])] := by
    have h := Is.fresh (w.alloc (.cells #[.int .i64 a, .int .i64 b, .int .i64 d, .int .i64 c, .int .i64 l] 23)) 30 #[.string (strL []), .string (strL [])]
    rw [show (w.alloc (.cells #[.int .i64 a, .int .i64 b, .int .i64 d, .int .i64 c, .int .i64 l] 23)).heap.size = w.heap.size + 1 by simp] at h
    rw [hw0]
    rw [strL_nilH] at h ⊢
    exact h
  have k5 : ∀ (W : World) (g : Nat), Is W g 5 #[.int .u8 (IntKind.u8.wrap d), .int .u8 (IntKind.u8.wrap c), .int .u8 0, .int .u8 0, .int .u8 (IntKind.u8.wrap l)] → (convert 48 9 (.slice (some ⟨g, 0, none⟩) 5 5)).run Try.prog W = .ok (.string (strL [byteI d, byteI c, 0, 0, byteI l])) W := fun W g h => conv_fiveAt d c l h
  obtain ⟨x1, hx1⟩ : ∃ x, x = IntKind.u8.wrap d := ⟨_, rfl⟩
  obtain ⟨x2, hx2⟩ : ∃ x, x = IntKind.u8.wrap c := ⟨_, rfl⟩
  obtain ⟨x3, hx3⟩ : ∃ x, x = IntKind.u8.wrap l := ⟨_, rfl⟩
  simp only [← hx1, ← hx2, ← hx3] at k5
  have q1 := hx1.symm
  have q2 := hx2.symm
  have q3 := hx3.symm
  obtain ⟨Y, hY⟩ : ∃ Y, Y = strL [byteI d, byteI c, 0, 0, byteI l] := ⟨_, rfl⟩
  have sY : Y.size = 5 := by rw [hY, strL_size]; rfl
  simp only [← hY] at k5
  have k6 : (convert 48 9 (.slice (some ⟨w.heap.size + 1 + 1, 0, none⟩) 5 5)).run Try.prog (((w.alloc (.cells #[.int .i64 a, .int .i64 b, .int .i64 d, .int .i64 c, .int .i64 l] 23)).alloc (.cells #[.string ⟨#[]⟩, .string ⟨#[]⟩] 30)).alloc (.cells #[.int .u8 x1, .int .u8 x2, .int .u8 0, .int .u8 0, .int .u8 x3] 5)) = .ok (.string Y) (((w.alloc (.cells #[.int .i64 a, .int .i64 b, .int .i64 d, .int .i64 c, .int .i64 l] 23)).alloc (.cells #[.string ⟨#[]⟩, .string ⟨#[]⟩] 30)).alloc (.cells #[.int .u8 x1, .int .u8 x2, .int .u8 0, .int .u8 0, .int .u8 x3] 5)) := by
    have h := Is.fresh ((w.alloc (.cells #[.int .i64 a, .int .i64 b, .int .i64 d, .int .i64 c, .int .i64 l] 23)).alloc (.cells #[.string ⟨#[]⟩, .string ⟨#[]⟩] 30)) 5 #[.int .u8 x1, .int .u8 x2, .int .u8 0, .int .u8 0, .int .u8 x3]
    rw [show ((w.alloc (.cells #[.int .i64 a, .int .i64 b, .int .i64 d, .int .i64 c, .int .i64 l] 23)).alloc (.cells #[.string ⟨#[]⟩, .string ⟨#[]⟩] 30)).heap.size = w.heap.size + 1 + 1 by simp] at h
    exact k5 _ _ h
  have sA : (F a).size = 4 := by rw [hF, strL_size, fourI_length]
  have sB : (F b).size = 4 := by rw [hF, strL_size, fourI_length]
  have HY := Lib.hid hY
  have HF := Lib.hid hF
  have HI0 := Lib.hid hI0
  have HJ0 := Lib.hid hJ0
  have HB0 := Lib.hid hB0
  have HW0 := Lib.hid hw0
  have n0 := hI0.cell 0
  have n1 := hI0.cell 1
  have n2 := hI0.cell 2
  have n3 := hI0.cell 3
  have n4 := hI0.cell 4
  rw [hw0] at n0 n1 n2 n3 n4
  clear k5 hw0 hB0 hI0 hJ0 hx1 hx2 hx3 hF hY
  go_enter Try.func14, Try.ntmps14
  go_upto_region 2 with (fail)
  rw [← HW0.out]
  clear n0 n1 n2 n3 n4 k6
  obtain ⟨g1, hg1⟩ : ∃ g, g = w.heap.size := ⟨_, rfl⟩
  obtain ⟨g2, hg2⟩ : ∃ g, g = w.heap.size + 1 := ⟨_, rfl⟩
  have HG1 := Lib.hid hg1
  have HG2 := Lib.hid hg2
  rw [← hg2] at HJ0 ⊢
  rw [← hg1] at HI0 ⊢
  clear hg1 hg2
  obtain ⟨w1, hw1⟩ : ∃ x, x = w0.alloc (.cells #[.int .u8 x1, .int .u8 x2, .int .u8 0, .int .u8 0, .int .u8 x3] 5) := ⟨_, rfl⟩
  rw [← hw1]
  have hS : LayT w g1 g2 a b d c l w1 := by rw [hw1]; exact LayT.but ⟨HI0.out, HJ0.out, HB0.out⟩ ((But.refl [] w0).alloc _)
  have hgg : w.heap.size ≤ g2 := by rw [HG2.out]; omega
  have hne : g1 ≠ g2 := by rw [HG1.out, HG2.out]; omega
  clear hw1 HI0 HJ0 HB0 HW0 HG1 HG2
  have c0 := hS.1.cell 0
  have c1 := hS.1.cell 1
  have e0 := hS.2.1.cell 0
  have e1 := hS.2.1.cell 1
  have f0 := hS.2.1.free 0
  have f1 := hS.2.1.free 1
  go_region_with (go_at_call 24; refine (H1.out _ _).mono ?_; rintro e wk ⟨rfl, hB⟩; (first | have hS := LayT.but hS hB | have hS := LayT.but hS ((But.refl [] _).drew.trans hB)); have c0 := hS.1.cell 0; have c1 := hS.1.cell 1; have e0 := hS.2.1.cell 0; have e1 := hS.2.1.cell 1; have f0 := hS.2.1.free 0; have f1 := hS.2.1.free 1; clear hB)
  all_goals
    have hI7 := (hS.2.1.put 0 (.string ⟨#[73, 72, 68, 82]⟩)).put 1 (.string (F a ++ F b ++ Y))
    have hB7 := (hS.2.2.setCell (p := ⟨g2, 0, none⟩) (.inr hgg) (.string ⟨#[73, 72, 68, 82]⟩)).setCell (p := ⟨g2, 1, none⟩) (.inr hgg) (.string (F a ++ F b ++ Y))
    have z0 := hI7.cell 0
    have z1 := hI7.cell 1
    go_wp2
    refine bodyPost_ret (v := .agg #[.string ⟨#[73, 72, 68, 82]⟩, .string (F a ++ F b ++ Y)]) (by simp [results, Try.results14, go_sem, z0, z1]) rfl ?_
    refine ⟨?_, hB7⟩
    unfold ckVal layI
    rw [HF.out, HF.out, HY.out]
    show _ = Ending.returned (.agg #[.string (strL tIHDR), .string (strL (fourI a ++ (fourI b ++ [byteI d, byteI c, 0, 0, byteI l])))])
    rw [strL_append, strL_append, show strL tIHDR = ⟨#[73, 72, 68, 82]⟩ from tIHDR_str, ByteArray.append_assoc]
end Go.Proofs.Ytedffeimcccobaa
