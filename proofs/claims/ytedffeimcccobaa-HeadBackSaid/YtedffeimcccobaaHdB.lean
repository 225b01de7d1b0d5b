/- The document's chunk of a head. -/
import Derived.Test.YtedffeimcccobaaHdA
import Derived.Test.YtedffeimcccobaaCkD
import Derived.BigRegion
import Derived.Deep.RegionWith
import Derived.Test.YtedffeimcccobaaRegM
import Derived.Test.YtedffeimcccobaaHdC
set_option maxRecDepth 100000
set_option linter.unusedVariables false
namespace Go.Proofs.Ytedffeimcccobaa
set_option maxRecDepth 100000
open Go Go.RowKit
/-- The four low bytes of whatever number, the highest one first. -/
def fourI (n : Int) : List UInt8 := fourL (n % 4294967296).toNat
def byteI (n : Int) : UInt8 := UInt8.ofNat (n % 256).toNat
theorem byteI_int (n : Int) : ((byteI n).toNat : Int) = IntKind.u8.wrap n := by
  unfold byteI
  rw [UInt8.toNat_ofNat', IntKind.wrap_u8]
  omega
theorem conv_fourI (W : World) (n : Int) :
    (convert 48 9 (.slice (some ⟨W.heap.size, 0, none⟩) 4 4)).run Try.prog (W.alloc (.cells #[.int .u8 (IntKind.u8.wrap (n / 16777216)), .int .u8 (IntKind.u8.wrap (n / 65536)), .int .u8 (IntKind.u8.wrap (n / 256)), .int .u8 (IntKind.u8.wrap n)] 5)) = .ok (.string (strL (fourI n))) (W.alloc (.cells #[.int .u8 (IntKind.u8.wrap (n / 16777216)), .int .u8 (IntKind.u8.wrap (n / 65536)), .int .u8 (IntKind.u8.wrap (n / 256)), .int .u8 (IntKind.u8.wrap n)] 5)) := by
  obtain ⟨m, hm⟩ : ∃ m, m = (n % 4294967296).toNat := ⟨_, rfl⟩
  have h1 : IntKind.u8.wrap (n / 16777216) = ((m / 16777216 % 256 : Nat) : Int) := by rw [IntKind.wrap_u8]; omega
  have h2 : IntKind.u8.wrap (n / 65536) = ((m / 65536 % 256 : Nat) : Int) := by rw [IntKind.wrap_u8]; omega
  have h3 : IntKind.u8.wrap (n / 256) = ((m / 256 % 256 : Nat) : Int) := by rw [IntKind.wrap_u8]; omega
  have h4 : IntKind.u8.wrap n = ((m % 256 : Nat) : Int) := by rw [IntKind.wrap_u8]; omega
  unfold fourI
  rw [h1, h2, h3, h4, ← hm]
  exact conv_fourZ W rfl rfl rfl rfl
theorem efourI_any (w : World) (n : Int) :
    Calls Try.prog 25 #[.int .i64 n] w fun e w' => e = .returned (.string (strL (fourI n))) ∧ But [] w w' := by
  have kc := fun W : World => conv_fourI W n
  have HB := Lib.hid ((But.refl [] w).alloc (.cells #[.int .u8 (IntKind.u8.wrap (n / 16777216)), .int .u8 (IntKind.u8.wrap (n / 65536)), .int .u8 (IntKind.u8.wrap (n / 256)), .int .u8 (IntKind.u8.wrap n)] 5))
  obtain ⟨a, ha⟩ : ∃ a, a = IntKind.u8.wrap (n / 16777216) := ⟨_, rfl⟩
  obtain ⟨b, hb⟩ : ∃ a, a = IntKind.u8.wrap (n / 65536) := ⟨_, rfl⟩
  obtain ⟨c, hc⟩ : ∃ a, a = IntKind.u8.wrap (n / 256) := ⟨_, rfl⟩
  obtain ⟨d, hd⟩ : ∃ a, a = IntKind.u8.wrap n := ⟨_, rfl⟩
  rw [← ha, ← hb, ← hc, ← hd] at HB
  simp only [← ha, ← hb, ← hc, ← hd] at kc
  have ea := ha.symm; have eb := hb.symm; have ec := hc.symm; have ed := hd.symm
  clear ha hb hc hd
  go_enter Try.func25, Try.ntmps25
  go_wp2
  go_ret
  exact ⟨rfl, HB.out⟩
/-- A head's chunk, of whatever numbers. -/
def layI (a b d c l : Int) : Ck := (tIHDR, fourI a ++ (fourI b ++ [byteI d, byteI c, 0, 0, byteI l]))
theorem conv_fiveAt {W : World} {g : Nat} (d c l : Int) (h : Is W g 5 #[.int .u8 (IntKind.u8.wrap d), .int .u8 (IntKind.u8.wrap c), .int .u8 0, .int .u8 0, .int .u8 (IntKind.u8.wrap l)]) :
    (convert 48 9 (.slice (some ⟨g, 0, none⟩) 5 5)).run Try.prog W = .ok (.string (strL [byteI d, byteI c, 0, 0, byteI l])) W := by
  rw [← byteI_int, ← byteI_int, ← byteI_int] at h
  refine conv_atZ (L := [byteI d, byteI c, 0, 0, byteI l]) (cap := 5) fun j hj => ?_
  rw [h.cell]
  match j, hj with
  | 0, _ => rfl
  | 1, _ => rfl
  | 2, _ => rfl
  | 3, _ => rfl
  | 4, _ => rfl
theorem fourI_length (n : Int) : (fourI n).length = 4 := rfl
theorem tIHDR_str : strL tIHDR = ⟨#[73, 72, 68, 82]⟩ := rfl
attribute [local irreducible] strL fourL fourI byteI
/-- What stands while a head's chunk is laid. -/
def LayS (w : World) (g1 g2 : Nat) (a b d c l : Int) (v : World) : Prop := Is v g1 23 #[.int .i64 a, .int .i64 b, .int .i64 d, .int .i64 c, .int .i64 l] ∧ (∃ x y, Is v g2 30 #[x, y]) ∧ But [] w v
section
variable {w v v' : World} {g1 g2 : Nat} {a b d c l : Int}
theorem LayS.but (h : LayS w g1 g2 a b d c l v) (k : But [] v v') : LayS w g1 g2 a b d c l v' := ⟨h.1.but k (by simp), h.2.1.imp fun x => Exists.imp fun y h => h.but k (by simp), h.2.2.trans k⟩
theorem LayS.alloc (h : LayS w g1 g2 a b d c l v) (o : Obj) : LayS w g1 g2 a b d c l (v.alloc o) := h.but ((But.refl [] v).alloc o)
end
set_option maxHeartbeats 1000000 in
theorem elay_any (w : World) (a b d c l : Int) :
    Calls Try.prog 15 #[.agg #[.int .i64 a, .int .i64 b, .int .i64 d, .int .i64 c, .int .i64 l]] w fun e w' => e = .returned (ckVal (layI a b d c l)) ∧ But [] w w' := by
  obtain ⟨F, hF⟩ : ∃ F : Int → ByteArray, ∀ n, F n = strL (fourI n) := ⟨fun n => strL (fourI n), fun _ => rfl⟩
  have H1 : Hid (∀ v n, Calls Try.prog 25 #[.int .i64 n] v fun e w' => e = .returned (.string (F n)) ∧ But [] v w') := Lib.hid (fun v n => by rw [hF]; exact efourI_any v n)
  go_enter Try.func15, Try.ntmps15
  go_upto_region 1 with (fail)
  obtain ⟨w0, hw0⟩ : ∃ x, x = (w.alloc (.cells #[.int .i64 a, .int .i64 b, .int .i64 d, .int .i64 c, .int .i64 l] 23)).alloc (.cells #[.string ⟨#[]⟩, .string ⟨#[]⟩] 30) := ⟨_, rfl⟩
  have hB0 : But [] w w0 := by rw [hw0]; exact ((But.refl [] w).alloc _).alloc _
  have hI0 : Is w0 w.heap.size 23 #[.int .i64 a, .int .i64 b, .int .i64 d, .int .i64 c, .int .i64 l] := by rw [hw0]; exact (Is.fresh _ _ _).alloc _
  have hJ0 : Is w0 (w.heap.size + 1) 30 #[.string (strL []), .string (strL [])] := by
    have h := Is.fresh (w.alloc (.cells #[.int .i64 a, .int .i64 b, .int .i64 d, .int .i64 c, .int .i64 l] 23)) 30 #[.string (strL []), .string (strL [])]
    rw [show (w.alloc (.cells #[.int .i64 a, .int .i64 b, .int .i64 d, .int .i64 c, .int .i64 l] 23)).heap.size = w.heap.size + 1 by simp] at h
    rw [hw0]
    rw [strL_nilH] at h ⊢
    exact h
  rw [← hw0]
  obtain ⟨g1, hg1⟩ : ∃ g, g = w.heap.size := ⟨_, rfl⟩
  obtain ⟨g2, hg2⟩ : ∃ g, g = w.heap.size + 1 := ⟨_, rfl⟩
  rw [← hg2] at hJ0 ⊢
  rw [← hg1] at hI0 ⊢
  have HG1 := Lib.hid hg1
  have HG2 := Lib.hid hg2
  have hS0 : LayS w g1 g2 a b d c l w0 := ⟨hI0, ⟨_, _, hJ0⟩, hB0⟩
  have HS0 := Lib.hid hS0
  have k5 : ∀ (W : World) (g : Nat), Is W g 5 #[.int .u8 (IntKind.u8.wrap d), .int .u8 (IntKind.u8.wrap c), .int .u8 0, .int .u8 0, .int .u8 (IntKind.u8.wrap l)] → (convert 48 9 (.slice (some ⟨g, 0, none⟩) 5 5)).run Try.prog W = .ok (.string (strL [byteI d, byteI c, 0, 0, byteI l])) W := fun W g h => conv_fiveAt d c l h
  obtain ⟨x1, hx1⟩ : ∃ x, x = IntKind.u8.wrap d := ⟨_, rfl⟩
  obtain ⟨x2, hx2⟩ : ∃ x, x = IntKind.u8.wrap c := ⟨_, rfl⟩
  obtain ⟨x3, hx3⟩ : ∃ x, x = IntKind.u8.wrap l := ⟨_, rfl⟩
  simp only [← hx1, ← hx2, ← hx3] at k5
  have q1 := hx1.symm
  have q2 := hx2.symm
  have q3 := hx3.symm
  have sA : (F a).size = 4 := by rw [hF, strL_size, fourI_length]
  have sB : (F b).size = 4 := by rw [hF, strL_size, fourI_length]
  obtain ⟨Y, hY⟩ : ∃ Y, Y = strL [byteI d, byteI c, 0, 0, byteI l] := ⟨_, rfl⟩
  have sY : Y.size = 5 := by rw [hY, strL_size]; rfl
  simp only [← hY] at k5
  have HY := Lib.hid hY
  have K5 := Lib.hid k5
  clear k5
  have HF := Lib.hid hF
  clear hw0 hB0 hI0 hJ0 hg1 hg2 hx1 hx2 hx3 hF hY hS0
  refine wp_region_m (S := LayS w g1 g2 a b d c l) (R := fun v v' => But [] v v') (fun w => But.refl [] w) (by kernel_rfl) (HS0.out.but ((But.refl [] w0).drew)) ?_
  refine wpM_take (fun w => But.refl [] w) (fun x y z h k => h.trans k) (i := 0) (v := .pointer (some ⟨g1, 0, none⟩)) rfl (by kernel_rfl) (by kernel_rfl) (by kernel_rfl) (fun _ _ _ h => h) (YieldsR.read (fun w => But.refl [] w) ?_ fun w hS => ?_) ?_
  · go_simp
  · go_simp
  refine wpM_take (fun w => But.refl [] w) (fun x y z h k => h.trans k) (i := 1) (v := .int .i64 a) rfl (by kernel_rfl) (by kernel_rfl) (by kernel_rfl) (fun _ _ _ h => h) (YieldsR.read (fun w => But.refl [] w) ?_ fun w hS => ?_) ?_
  · go_simp
  · have c := hS.1.cell 0; go_simp
  refine wpM_take (fun w => But.refl [] w) (fun x y z h k => h.trans k) (i := 3) (v := .pointer (some ⟨g1, 1, none⟩)) rfl (by kernel_rfl) (by kernel_rfl) (by kernel_rfl) (fun _ _ _ h => h) (YieldsR.read (fun w => But.refl [] w) ?_ fun w hS => ?_) ?_
  · go_simp
  · go_simp
  refine wpM_take (fun w => But.refl [] w) (fun x y z h k => h.trans k) (i := 4) (v := .int .i64 b) rfl (by kernel_rfl) (by kernel_rfl) (by kernel_rfl) (fun _ _ _ h => h) (YieldsR.read (fun w => But.refl [] w) ?_ fun w hS => ?_) ?_
  · go_simp
  · have c := hS.1.cell 1; go_simp
  refine wpM_take (fun w => But.refl [] w) (fun x y z h k => h.trans k) (i := 7) (v := .pointer (some ⟨g1, 2, none⟩)) rfl (by kernel_rfl) (by kernel_rfl) (by kernel_rfl) (fun _ _ _ h => h) (YieldsR.read (fun w => But.refl [] w) ?_ fun w hS => ?_) ?_
  · go_simp
  · go_simp
  refine wpM_take (fun w => But.refl [] w) (fun x y z h k => h.trans k) (i := 8) (v := .int .i64 d) rfl (by kernel_rfl) (by kernel_rfl) (by kernel_rfl) (fun _ _ _ h => h) (YieldsR.read (fun w => But.refl [] w) ?_ fun w hS => ?_) ?_
  · go_simp
  · have c := hS.1.cell 2; go_simp
  refine wpM_take (fun w => But.refl [] w) (fun x y z h k => h.trans k) (i := 9) (v := .int .u8 x1) rfl (by kernel_rfl) (by kernel_rfl) (by kernel_rfl) (fun _ _ _ h => h) (YieldsR.read (fun w => But.refl [] w) ?_ fun w hS => ?_) ?_
  · go_simp
  · go_simp
  refine wpM_take (fun w => But.refl [] w) (fun x y z h k => h.trans k) (i := 10) (v := .pointer (some ⟨g1, 3, none⟩)) rfl (by kernel_rfl) (by kernel_rfl) (by kernel_rfl) (fun _ _ _ h => h) (YieldsR.read (fun w => But.refl [] w) ?_ fun w hS => ?_) ?_
  · go_simp
  · go_simp
  refine wpM_take (fun w => But.refl [] w) (fun x y z h k => h.trans k) (i := 11) (v := .int .i64 c) rfl (by kernel_rfl) (by kernel_rfl) (by kernel_rfl) (fun _ _ _ h => h) (YieldsR.read (fun w => But.refl [] w) ?_ fun w hS => ?_) ?_
  · go_simp
  · have c := hS.1.cell 3; go_simp
  refine wpM_take (fun w => But.refl [] w) (fun x y z h k => h.trans k) (i := 12) (v := .int .u8 x2) rfl (by kernel_rfl) (by kernel_rfl) (by kernel_rfl) (fun _ _ _ h => h) (YieldsR.read (fun w => But.refl [] w) ?_ fun w hS => ?_) ?_
  · go_simp
  · go_simp
  refine wpM_take (fun w => But.refl [] w) (fun x y z h k => h.trans k) (i := 13) (v := .pointer (some ⟨g1, 4, none⟩)) rfl (by kernel_rfl) (by kernel_rfl) (by kernel_rfl) (fun _ _ _ h => h) (YieldsR.read (fun w => But.refl [] w) ?_ fun w hS => ?_) ?_
  · go_simp
  · go_simp
  refine wpM_take (fun w => But.refl [] w) (fun x y z h k => h.trans k) (i := 14) (v := .int .i64 l) rfl (by kernel_rfl) (by kernel_rfl) (by kernel_rfl) (fun _ _ _ h => h) (YieldsR.read (fun w => But.refl [] w) ?_ fun w hS => ?_) ?_
  · go_simp
  · have c := hS.1.cell 4; go_simp
  refine wpM_take (fun w => But.refl [] w) (fun x y z h k => h.trans k) (i := 15) (v := .int .u8 x3) rfl (by kernel_rfl) (by kernel_rfl) (by kernel_rfl) (fun _ _ _ h => h) (YieldsR.read (fun w => But.refl [] w) ?_ fun w hS => ?_) ?_
  · go_simp
  · go_simp
  refine wpM_take (fun w => But.refl [] w) (fun x y z h k => h.trans k) (i := 2) (v := .string (F a)) rfl (by kernel_rfl) (by kernel_rfl) (by kernel_rfl) (fun _ _ _ h => h) (.inl ⟨?_, fun w hS => .inr ⟨_, _, ?_, (H1.out w a).mono ?_⟩⟩) ?_
  · go_simp
  · go_simp
  · rintro e w1 ⟨rfl, hB⟩; exact ⟨rfl, hS.but hB, hB⟩
  refine wpM_take (fun w => But.refl [] w) (fun x y z h k => h.trans k) (i := 5) (v := .string (F b)) rfl (by kernel_rfl) (by kernel_rfl) (by kernel_rfl) (fun _ _ _ h => h) (.inl ⟨?_, fun w hS => .inr ⟨_, _, ?_, (H1.out w b).mono ?_⟩⟩) ?_
  · go_simp
  · go_simp
  · rintro e w1 ⟨rfl, hB⟩; exact ⟨rfl, hS.but hB, hB⟩
  refine wpM_take (fun w => But.refl [] w) (fun x y z h k => h.trans k) (i := 6) (v := .string (F a ++ F b)) rfl (by kernel_rfl) (by kernel_rfl) (by kernel_rfl) (fun _ _ _ h => h) (YieldsR.read (fun w => But.refl [] w) ?_ fun w hS => ?_) ?_
  · go_simp
  · go_simp
  refine wpM_one (i := 16) rfl (by kernel_rfl) fun w1 hR hS K' hK => ?_
  go_simp
  refine hK _ _ ⟨hS.alloc _, ?_⟩
  clear hK K'
  have hI5 := Is.fresh w1 5 #[.int .u8 x1, .int .u8 x2, .int .u8 0, .int .u8 0, .int .u8 x3]
  refine wpM_one (i := 17) rfl (by kernel_rfl) fun w2 hR2 hS2 K' hK => ?_
  have k5 := K5.out w2 _ (hI5.but hR2 (by simp))
  go_simp
  refine hK _ _ ⟨hS2, ?_⟩
  clear hK K' k5 hI5
  refine wpM_take (fun w => But.refl [] w) (fun x y z h k => h.trans k) (i := 18) (v := .string (F a ++ F b ++ Y)) rfl (by kernel_rfl) (by kernel_rfl) (by kernel_rfl) (fun _ _ _ h => h) (YieldsR.read (fun w => But.refl [] w) ?_ fun w hS => ?_) ?_
  · go_simp
  · go_simp
  refine wpM_take (fun w => But.refl [] w) (fun x y z h k => h.trans k) (i := 19) (v := .agg #[.string ⟨#[73, 72, 68, 82]⟩, .string (F a ++ F b ++ Y)]) rfl (by kernel_rfl) (by kernel_rfl) (by kernel_rfl) (fun _ _ _ h => h) (YieldsR.read (fun w => But.refl [] w) ?_ fun w hS => ?_) ?_
  · go_simp
  · go_simp
  refine wpM_one (i := 20) rfl (by kernel_rfl) fun w3 hR3 hS3 K' hK => ?_
  obtain ⟨h1, ⟨x, y, h2⟩, h3⟩ := hS3
  have e0 := h2.cell 0
  have e1 := h2.cell 1
  have f0 := h2.free 0
  have f1 := h2.free 1
  go_simp
  have hI6 := (h2.put 0 (.string ⟨#[73, 72, 68, 82]⟩)).put 1 (.string (F a ++ F b ++ Y))
  have hB6 := (h3.setCell (p := ⟨g2, 0, none⟩) (.inr (by rw [HG2.out]; dsimp only; omega)) (.string ⟨#[73, 72, 68, 82]⟩)).setCell (p := ⟨g2, 1, none⟩) (.inr (by rw [HG2.out]; dsimp only; omega)) (.string (F a ++ F b ++ Y))
  have hne : g1 ≠ g2 := by rw [HG1.out, HG2.out]; omega
  refine hK _ _ ⟨⟨(h1.far (by exact hne) _).far (by exact hne) _, ⟨_, _, hI6⟩, hB6⟩, ?_⟩
  clear hK K' e0 e1 f0 f1
  refine ⟨by kernel_rfl, fun w4 hR4 hS4 => ?_⟩
  have hI7 := hI6.but hR4 (by simp)
  have e0 := hI7.cell 0
  have e1 := hI7.cell 1
  go_wp2
  refine bodyPost_ret (v := .agg #[.string ⟨#[73, 72, 68, 82]⟩, .string (F a ++ F b ++ Y)]) (by simp [results, Try.results15, go_sem, e0, e1]) rfl ?_
  refine ⟨?_, hS4.2.2⟩
  unfold ckVal layI
  rw [HF.out, HF.out, HY.out]
  show _ = Ending.returned (.agg #[.string (strL tIHDR), .string (strL (fourI a ++ (fourI b ++ [byteI d, byteI c, 0, 0, byteI l])))])
  rw [strL_append, strL_append, show strL tIHDR = ⟨#[73, 72, 68, 82]⟩ from tIHDR_str, ByteArray.append_assoc]
end Go.Proofs.Ytedffeimcccobaa
