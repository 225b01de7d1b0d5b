/- The document's line that is filtered. -/
import Derived.Test.YtbhdbekkandbhaaFiB
set_option maxRecDepth 100000
set_option linter.unusedVariables false
namespace Go.Proofs.Ytbhdbekkandbhaa
set_option maxRecDepth 100000
open Go Go.RowKit
/-- A line that is filtered, of whatever arguments. -/
def doA (bpp kind : Int) (s t : ByteArray) : List UInt8 := if wrongF bpp kind s t = 0 then doF kind bpp.toNat s.data.toList t.data.toList else []
theorem doA_ok {n : Nat} {kind : Int} {s t : ByteArray} (h : wrongF (n : Int) kind s t = 0) : doA (n : Int) kind s t = doF kind n s.data.toList t.data.toList := by unfold doA; rw [if_pos h]; rfl
theorem doA_bad {bpp kind : Int} {s t : ByteArray} (h : wrongF bpp kind s t ≠ 0) : doA bpp kind s t = [] := by unfold doA; rw [if_neg h]
theorem doA_le (bpp kind : Int) (s t : ByteArray) : (doA bpp kind s t).length ≤ s.size := by
  unfold doA
  split
  · rw [doF_length, Array.length_toList]; exact Nat.le_refl _
  · exact Nat.zero_le _
theorem doF_take (kind : Int) (n : Nat) (l m : List UInt8) {k : Nat} (h : k < l.length) : (doF kind n l m).take (k + 1) = (doF kind n l m).take k ++ [l.getD k 0 - foreF kind n l m k] := by
  have hl : k < (doF kind n l m).length := by rw [doF_length]; exact h
  rw [List.take_succ_eq_append_getElem hl, ← getD_lt hl, doF_at _ _ _ _ h]
theorem byteF_run {s : ByteArray} {k : Nat} (hk : k < s.size) (w : World) : (Instr.index 9 (.string s) (.int .i64 (k : Int))).run Try.prog w = .ok (.int .u8 (s[k].toNat : Nat)) w := by
  simp [go_sem, Try.underlying9, hk]
set_option maxHeartbeats 1000000 in
theorem edo_any (w : World) (bpp kind : Int) (s t : ByteArray) (hs : s.size ≤ 140737488351232) (ht : t.size ≤ 140737488351232) :
    Calls Try.prog 11 #[.int .i64 bpp, .int .i64 kind, .string s, .string t] w fun e w' => e = .returned (.tuple #[.string (strL (doA bpp kind s t)), .int .i64 (wrongF bpp kind s t)]) ∧ But [] w w' := by
  have hW := fun v => ewrong_any v bpp kind s t (by omega) (by omega)
  by_cases h0 : wrongF bpp kind s t ≠ 0
  · obtain ⟨er, her⟩ : ∃ x, x = wrongF bpp kind s t := ⟨_, rfl⟩
    rw [doA_bad h0]
    have h1 : er = 1 ∨ er = 28 := by rcases wrongF_cases bpp kind s t with h | h | h <;> simp_all
    rw [← her]
    simp only [← her] at hW
    have HW := Lib.hid hW
    clear hW her h0
    rcases h1 with rfl | rfl
    · go_enter Try.func11, Try.ntmps11
      go_wp2_with fail
      refine (HW.out _).mono ?_
      rintro e w1 ⟨rfl, rfl⟩
      go_wp2
      go_ret2
      exact ⟨rfl, But.refl [] _⟩
    · go_enter Try.func11, Try.ntmps11
      go_wp2_with fail
      refine (HW.out _).mono ?_
      rintro e w1 ⟨rfl, rfl⟩
      go_wp2
      go_ret2
      exact ⟨rfl, But.refl [] _⟩
  have h0 : wrongF bpp kind s t = 0 := by simpa using h0
  obtain ⟨⟨hb1, hb8⟩, hts, hk0, hk4⟩ := wrongF_zero h0
  obtain ⟨n, rfl⟩ : ∃ n : Nat, bpp = (n : Int) := ⟨bpp.toNat, by omega⟩
  have hn1 : 1 ≤ n := by omega
  have hn8 : n ≤ 8 := by omega
  rw [doA_ok h0, h0]
  rw [h0] at hW
  have HW := Lib.hid hW
  have HH := Lib.hid h0
  have HTS := Lib.hid hts
  obtain ⟨R, hR⟩ : ∃ R, R = doF kind n s.data.toList t.data.toList := ⟨_, rfl⟩
  have hRl : R.length = s.size := by rw [hR, doF_length, Array.length_toList]; rfl
  rw [← hR]
  have HRl := Lib.hid hRl
  have HR := Lib.hid hR
  obtain ⟨i0, hi0, hz0, hz1, hz2⟩ := info_parts info_u8F
  clear hW h0 hts hR hRl hb1 hb8
  go_enter Try.func11, Try.ntmps11
  go_wp2_with fail
  refine (HW.out _).mono ?_
  rintro e w1 ⟨rfl, rfl⟩
  go_wp2_with fail
  go_loopw [11, 12] (fun ov kv wr => ∃ (k : Nat) (L : List UInt8), k ≤ s.size ∧ kv = .int .i64 k ∧ Hid (L = R.take k) ∧ Hid (OwnF wr w.heap.size ov L) ∧ Hid (But [] w wr)) (fun _ kv _ => s.size - (intOf kv).toNat)
  case atStart => exact ⟨0, [], Nat.zero_le _, rfl, Lib.hid (by rw [List.take_zero]), Lib.hid (OwnF.nil _ _), Lib.hid (But.refl [] _)⟩
  case round =>
    obtain ⟨k, L, hk, rfl, HL, HO, HB⟩ := hrel
    by_cases hlt : k < s.size
    · obtain ⟨A, c, rfl⟩ := HO.out.shape
      have hLl : L.length = k := by rw [HL.out, List.length_take, HRl.out]; omega
      have HLL := Lib.hid hLl
      rw [hLl]
      clear hLl
      have wkn : IntKind.i64.wrap ((k : Int) - (n : Int)) = (k : Int) - (n : Int) := by rw [IntKind.wrap_i64]; omega
      obtain ⟨b, hb⟩ : ∃ b, b = s[k].toNat := ⟨_, rfl⟩
      have kx : ∀ w, (Instr.index 9 (.string s) (.int .i64 (k : Int))).run Try.prog w = .ok (.int .u8 (b : Int)) w := fun w => by rw [hb]; exact byteF_run hlt w
      have hb256 : b < 256 := by rw [hb]; exact s[k].toNat_lt
      obtain ⟨qa, hqa⟩ : ∃ q, q = behindF s.data.toList n k := ⟨_, rfl⟩
      obtain ⟨qb, hqb⟩ : ∃ q, q = (t.data.toList.getD k 0).toNat := ⟨_, rfl⟩
      obtain ⟨qc, hqc⟩ : ∃ q, q = behindF t.data.toList n k := ⟨_, rfl⟩
      have la : qa < 256 := by rw [hqa, ← atF_behind]; exact atF_lt _ _
      have lb : qb < 256 := by rw [hqb]; exact UInt8.toNat_lt _
      have lc : qc < 256 := by rw [hqc, ← atF_behind]; exact atF_lt _ _
      have HA : Hid (∀ v, Calls Try.prog 20 #[.string s, .int .i64 ((k : Int) - (n : Int))] v fun e w' => e = .returned (.int .i64 (qa : Nat)) ∧ v = w') := Lib.hid fun v => by
        rw [hqa, ← atF_behind]; exact eat_any v s _ (by omega)
      have HQB : Hid (∀ v, Calls Try.prog 20 #[.string t, .int .i64 (k : Int)] v fun e w' => e = .returned (.int .i64 (qb : Nat)) ∧ v = w') := Lib.hid fun v => by
        rw [hqb, ← atF_nat]; exact eat_any v t _ (by omega)
      have HC : Hid (∀ v, Calls Try.prog 20 #[.string t, .int .i64 ((k : Int) - (n : Int))] v fun e w' => e = .returned (.int .i64 (qc : Nat)) ∧ v = w') := Lib.hid fun v => by
        rw [hqc, ← atF_behind]; exact eat_any v t _ (by omega)
      have hc0 : k < n → qc = 0 := fun h => by rw [hqc]; unfold behindF; rw [if_pos h]
      obtain ⟨p, hp⟩ : ∃ p, p = predF kind qa qb qc := ⟨_, rfl⟩
      have wb : IntKind.i64.wrap (b : Int) = (b : Int) := by rw [IntKind.wrap_i64]; omega
      have hp256 : p < 256 := by rw [hp]; exact predF_lt kind la lb lc
      have wbp : IntKind.i64.wrap ((b : Int) - (p : Int)) = (b : Int) - (p : Int) := by rw [IntKind.wrap_i64]; omega
      have HP : Hid (∀ v, Calls Try.prog 21 #[.int .i64 kind, .int .i64 (qa : Int), .int .i64 (qb : Int), .int .i64 (qc : Int)] v fun e w' => e = .returned (.int .i64 (p : Nat)) ∧ v = w') := Lib.hid fun v => by
        rw [hp]; exact etells_any v kind la lb lc
      obtain ⟨y, hy⟩ : ∃ y, y = s.data.toList.getD k 0 - foreF kind n s.data.toList t.data.toList k := ⟨_, rfl⟩
      have ew : IntKind.u8.wrap ((b : Int) - (p : Int)) = ((y.toNat : Nat) : Int) := by
        have hfo : (foreF kind n s.data.toList t.data.toList k).toNat = p := by
          unfold foreF
          rw [← hqa, ← hqb, ← hqc, ← hp, UInt8.toNat_ofNat']
          omega
        rw [hy, UInt8.toNat_sub, hfo, getD_byte s hlt, ← hb, IntKind.wrap_u8]
        omega
      have HN : Hid (L ++ [y] = R.take (k + 1)) := Lib.hid (by rw [HL.out, HR.out, doF_take _ _ _ _ (by rw [Array.length_toList]; exact hlt), hy])
      clear hb hqa hqb hqc hp hy
      by_cases hkn : k < n
      · obtain rfl : qc = 0 := hc0 hkn
        go_upto_region 11 with (fail)
        refine wp_region_m (S := fun v => But [] w v) (R := fun v v' => But [] v v') (fun w => But.refl [] w) (by kernel_rfl) (HB.out.drew) ?_
        refine wpM_take (fun w => But.refl [] w) (fun x y z h k => h.trans k) (i := 0) (v := .slice A k c) rfl (by kernel_rfl) (by kernel_rfl) (by kernel_rfl) (fun _ _ _ h => h) (YieldsR.read (fun w => But.refl [] w) ?_ fun w hS => ?_) ?_
        · go_simp
        · go_simp
        refine wpM_take (fun w => But.refl [] w) (fun x y z h k => h.trans k) (i := 1) (v := .string s) rfl (by kernel_rfl) (by kernel_rfl) (by kernel_rfl) (fun _ _ _ h => h) (YieldsR.read (fun w => But.refl [] w) ?_ fun w hS => ?_) ?_
        · go_simp
        · go_simp
        refine wpM_take (fun w => But.refl [] w) (fun x y z h k => h.trans k) (i := 2) (v := .int .i64 (k : Int)) rfl (by kernel_rfl) (by kernel_rfl) (by kernel_rfl) (fun _ _ _ h => h) (YieldsR.read (fun w => But.refl [] w) ?_ fun w hS => ?_) ?_
        · go_simp
        · go_simp
        refine wpM_take (fun w => But.refl [] w) (fun x y z h k => h.trans k) (i := 3) (v := .int .u8 (b : Int)) rfl (by kernel_rfl) (by kernel_rfl) (by kernel_rfl) (fun _ _ _ h => h) (YieldsR.read (fun w => But.refl [] w) ?_ fun w hS => ?_) ?_
        · go_simp
        · go_simp
        refine wpM_take (fun w => But.refl [] w) (fun x y z h k => h.trans k) (i := 4) (v := .int .i64 (b : Int)) rfl (by kernel_rfl) (by kernel_rfl) (by kernel_rfl) (fun _ _ _ h => h) (YieldsR.read (fun w => But.refl [] w) ?_ fun w hS => ?_) ?_
        · go_simp
        · go_simp
        refine wpM_take (fun w => But.refl [] w) (fun x y z h k => h.trans k) (i := 5) (v := .int .i64 kind) rfl (by kernel_rfl) (by kernel_rfl) (by kernel_rfl) (fun _ _ _ h => h) (YieldsR.read (fun w => But.refl [] w) ?_ fun w hS => ?_) ?_
        · go_simp
        · go_simp
        refine wpM_take (fun w => But.refl [] w) (fun x y z h k => h.trans k) (i := 6) (v := .string s) rfl (by kernel_rfl) (by kernel_rfl) (by kernel_rfl) (fun _ _ _ h => h) (YieldsR.read (fun w => But.refl [] w) ?_ fun w hS => ?_) ?_
        · go_simp
        · go_simp
        refine wpM_take (fun w => But.refl [] w) (fun x y z h k => h.trans k) (i := 7) (v := .int .i64 (k : Int)) rfl (by kernel_rfl) (by kernel_rfl) (by kernel_rfl) (fun _ _ _ h => h) (YieldsR.read (fun w => But.refl [] w) ?_ fun w hS => ?_) ?_
        · go_simp
        · go_simp
        refine wpM_take (fun w => But.refl [] w) (fun x y z h k => h.trans k) (i := 8) (v := .int .i64 (n : Int)) rfl (by kernel_rfl) (by kernel_rfl) (by kernel_rfl) (fun _ _ _ h => h) (YieldsR.read (fun w => But.refl [] w) ?_ fun w hS => ?_) ?_
        · go_simp
        · go_simp
        refine wpM_take (fun w => But.refl [] w) (fun x y z h k => h.trans k) (i := 9) (v := .int .i64 ((k : Int) - (n : Int))) rfl (by kernel_rfl) (by kernel_rfl) (by kernel_rfl) (fun _ _ _ h => h) (YieldsR.read (fun w => But.refl [] w) ?_ fun w hS => ?_) ?_
        · go_simp
        · go_simp
        refine wpM_take (fun w => But.refl [] w) (fun x y z h k => h.trans k) (i := 10) (v := .int .i64 (qa : Int)) rfl (by kernel_rfl) (by kernel_rfl) (by kernel_rfl) (fun _ _ _ h => h) (.inl ⟨?_, fun w hS => .inr ⟨_, _, ?_, (HA.out w).mono ?_⟩⟩) ?_
        · go_simp
        · go_simp
        · rintro e wy ⟨rfl, rfl⟩; exact ⟨rfl, hS, But.refl [] _⟩
        refine wpM_take (fun w => But.refl [] w) (fun x y z h k => h.trans k) (i := 11) (v := .string t) rfl (by kernel_rfl) (by kernel_rfl) (by kernel_rfl) (fun _ _ _ h => h) (YieldsR.read (fun w => But.refl [] w) ?_ fun w hS => ?_) ?_
        · go_simp
        · go_simp
        refine wpM_take (fun w => But.refl [] w) (fun x y z h k => h.trans k) (i := 12) (v := .int .i64 (k : Int)) rfl (by kernel_rfl) (by kernel_rfl) (by kernel_rfl) (fun _ _ _ h => h) (YieldsR.read (fun w => But.refl [] w) ?_ fun w hS => ?_) ?_
        · go_simp
        · go_simp
        refine wpM_take (fun w => But.refl [] w) (fun x y z h k => h.trans k) (i := 13) (v := .int .i64 (qb : Int)) rfl (by kernel_rfl) (by kernel_rfl) (by kernel_rfl) (fun _ _ _ h => h) (.inl ⟨?_, fun w hS => .inr ⟨_, _, ?_, (HQB.out w).mono ?_⟩⟩) ?_
        · go_simp
        · go_simp
        · rintro e wy ⟨rfl, rfl⟩; exact ⟨rfl, hS, But.refl [] _⟩
        refine wpM_take (fun w => But.refl [] w) (fun x y z h k => h.trans k) (i := 14) (v := .int .i64 0) rfl (by kernel_rfl) (by kernel_rfl) (by kernel_rfl) (fun _ _ _ h => h) (YieldsR.read (fun w => But.refl [] w) ?_ fun w hS => ?_) ?_
        · go_simp
        · go_simp
        refine wpM_take (fun w => But.refl [] w) (fun x y z h k => h.trans k) (i := 15) (v := .int .i64 (p : Int)) rfl (by kernel_rfl) (by kernel_rfl) (by kernel_rfl) (fun _ _ _ h => h) (.inl ⟨?_, fun w hS => .inr ⟨_, _, ?_, (HP.out w).mono ?_⟩⟩) ?_
        · go_simp
        · go_simp
        · rintro e wy ⟨rfl, rfl⟩; exact ⟨rfl, hS, But.refl [] _⟩
        refine wpM_take (fun w => But.refl [] w) (fun x y z h k => h.trans k) (i := 16) (v := .int .i64 ((b : Int) - (p : Int))) rfl (by kernel_rfl) (by kernel_rfl) (by kernel_rfl) (fun _ _ _ h => h) (YieldsR.read (fun w => But.refl [] w) ?_ fun w hS => ?_) ?_
        · go_simp
        · go_simp
        refine wpM_take (fun w => But.refl [] w) (fun x y z h k => h.trans k) (i := 17) (v := .int .u8 ((y.toNat : Nat) : Int)) rfl (by kernel_rfl) (by kernel_rfl) (by kernel_rfl) (fun _ _ _ h => h) (YieldsR.read (fun w => But.refl [] w) ?_ fun w hS => ?_) ?_
        · go_simp
        · go_simp
        refine wpM_one (i := 18) rfl (by kernel_rfl) fun w1 hR1 hS1 K' hK => ?_
        go_simp
        refine hK _ _ ⟨hS1.alloc _, ?_⟩
        clear hK K'
        have hI1 := Is.fresh w1 5 #[.int .u8 ((y.toNat : Nat) : Int)]
        have hO1 := HO.out.but (((But.refl [] wr).drew.trans hR1).alloc (.cells #[.int .u8 ((y.toNat : Nat) : Int)] 5))
        refine wpM_one (i := 19) rfl (by kernel_rfl) fun w2 hR2 hS2 K' hK => ?_
        refine step_append_f (w0 := w) w2 rfl _ _ rfl hi0 hz0 hz1 hz2 (.slice A L.length c) L (by rw [HLL.out]; rfl) (hO1.but hR2) hS2 y (by rfl) (hI1.but hR2 (by simp)) (by rw [HLL.out]; omega) ?_
        intro A2 c2 w3 M hM hO3 hB3
        refine hK _ _ ⟨hB3, ?_⟩
        clear hK K'
        refine wpM_take (fun w => But.refl [] w) (fun x y z h k => h.trans k) (i := 20) (v := .slice A2 M.length c2) rfl (by kernel_rfl) (by kernel_rfl) (by kernel_rfl) (fun _ _ _ h => h) (YieldsR.read (fun w => But.refl [] w) ?_ fun w hS => ?_) ?_
        · go_simp
        · go_simp
        refine ⟨by kernel_rfl, fun w4 hR4 hS4 => ?_⟩
        have HO4 := Lib.hid (hO3.but hR4)
        have HB4 := Lib.hid hS4
        have HM : Hid (M = R.take (k + 1)) := Lib.hid (by rw [hM]; exact HN.out)
        clear hR4 hS4 hO3 hB3 hM hI1 hO1 hR1 hS1 hR2 hS2
        go_simp
        go_wp2
        go_roundw
        case rel => exact ⟨k + 1, M, by omega, by go_num, HM, HO4, HB4⟩
        case measure => simp [intOf]; omega
      · go_upto_region 11 with (refine (HC.out _).mono ?_; rintro e w1 ⟨rfl, rfl⟩)
        refine wp_region_m (S := fun v => But [] w v) (R := fun v v' => But [] v v') (fun w => But.refl [] w) (by kernel_rfl) (HB.out.drew) ?_
        refine wpM_take (fun w => But.refl [] w) (fun x y z h k => h.trans k) (i := 0) (v := .slice A k c) rfl (by kernel_rfl) (by kernel_rfl) (by kernel_rfl) (fun _ _ _ h => h) (YieldsR.read (fun w => But.refl [] w) ?_ fun w hS => ?_) ?_
        · go_simp
        · go_simp
        refine wpM_take (fun w => But.refl [] w) (fun x y z h k => h.trans k) (i := 1) (v := .string s) rfl (by kernel_rfl) (by kernel_rfl) (by kernel_rfl) (fun _ _ _ h => h) (YieldsR.read (fun w => But.refl [] w) ?_ fun w hS => ?_) ?_
        · go_simp
        · go_simp
        refine wpM_take (fun w => But.refl [] w) (fun x y z h k => h.trans k) (i := 2) (v := .int .i64 (k : Int)) rfl (by kernel_rfl) (by kernel_rfl) (by kernel_rfl) (fun _ _ _ h => h) (YieldsR.read (fun w => But.refl [] w) ?_ fun w hS => ?_) ?_
        · go_simp
        · go_simp
        refine wpM_take (fun w => But.refl [] w) (fun x y z h k => h.trans k) (i := 3) (v := .int .u8 (b : Int)) rfl (by kernel_rfl) (by kernel_rfl) (by kernel_rfl) (fun _ _ _ h => h) (YieldsR.read (fun w => But.refl [] w) ?_ fun w hS => ?_) ?_
        · go_simp
        · go_simp
        refine wpM_take (fun w => But.refl [] w) (fun x y z h k => h.trans k) (i := 4) (v := .int .i64 (b : Int)) rfl (by kernel_rfl) (by kernel_rfl) (by kernel_rfl) (fun _ _ _ h => h) (YieldsR.read (fun w => But.refl [] w) ?_ fun w hS => ?_) ?_
        · go_simp
        · go_simp
        refine wpM_take (fun w => But.refl [] w) (fun x y z h k => h.trans k) (i := 5) (v := .int .i64 kind) rfl (by kernel_rfl) (by kernel_rfl) (by kernel_rfl) (fun _ _ _ h => h) (YieldsR.read (fun w => But.refl [] w) ?_ fun w hS => ?_) ?_
        · go_simp
        · go_simp
        refine wpM_take (fun w => But.refl [] w) (fun x y z h k => h.trans k) (i := 6) (v := .string s) rfl (by kernel_rfl) (by kernel_rfl) (by kernel_rfl) (fun _ _ _ h => h) (YieldsR.read (fun w => But.refl [] w) ?_ fun w hS => ?_) ?_
        · go_simp
        · go_simp
        refine wpM_take (fun w => But.refl [] w) (fun x y z h k => h.trans k) (i := 7) (v := .int .i64 (k : Int)) rfl (by kernel_rfl) (by kernel_rfl) (by kernel_rfl) (fun _ _ _ h => h) (YieldsR.read (fun w => But.refl [] w) ?_ fun w hS => ?_) ?_
        · go_simp
        · go_simp
        refine wpM_take (fun w => But.refl [] w) (fun x y z h k => h.trans k) (i := 8) (v := .int .i64 (n : Int)) rfl (by kernel_rfl) (by kernel_rfl) (by kernel_rfl) (fun _ _ _ h => h) (YieldsR.read (fun w => But.refl [] w) ?_ fun w hS => ?_) ?_
        · go_simp
        · go_simp
        refine wpM_take (fun w => But.refl [] w) (fun x y z h k => h.trans k) (i := 9) (v := .int .i64 ((k : Int) - (n : Int))) rfl (by kernel_rfl) (by kernel_rfl) (by kernel_rfl) (fun _ _ _ h => h) (YieldsR.read (fun w => But.refl [] w) ?_ fun w hS => ?_) ?_
        · go_simp
        · go_simp
        refine wpM_take (fun w => But.refl [] w) (fun x y z h k => h.trans k) (i := 10) (v := .int .i64 (qa : Int)) rfl (by kernel_rfl) (by kernel_rfl) (by kernel_rfl) (fun _ _ _ h => h) (.inl ⟨?_, fun w hS => .inr ⟨_, _, ?_, (HA.out w).mono ?_⟩⟩) ?_
        · go_simp
        · go_simp
        · rintro e wy ⟨rfl, rfl⟩; exact ⟨rfl, hS, But.refl [] _⟩
        refine wpM_take (fun w => But.refl [] w) (fun x y z h k => h.trans k) (i := 11) (v := .string t) rfl (by kernel_rfl) (by kernel_rfl) (by kernel_rfl) (fun _ _ _ h => h) (YieldsR.read (fun w => But.refl [] w) ?_ fun w hS => ?_) ?_
        · go_simp
        · go_simp
        refine wpM_take (fun w => But.refl [] w) (fun x y z h k => h.trans k) (i := 12) (v := .int .i64 (k : Int)) rfl (by kernel_rfl) (by kernel_rfl) (by kernel_rfl) (fun _ _ _ h => h) (YieldsR.read (fun w => But.refl [] w) ?_ fun w hS => ?_) ?_
        · go_simp
        · go_simp
        refine wpM_take (fun w => But.refl [] w) (fun x y z h k => h.trans k) (i := 13) (v := .int .i64 (qb : Int)) rfl (by kernel_rfl) (by kernel_rfl) (by kernel_rfl) (fun _ _ _ h => h) (.inl ⟨?_, fun w hS => .inr ⟨_, _, ?_, (HQB.out w).mono ?_⟩⟩) ?_
        · go_simp
        · go_simp
        · rintro e wy ⟨rfl, rfl⟩; exact ⟨rfl, hS, But.refl [] _⟩
        refine wpM_take (fun w => But.refl [] w) (fun x y z h k => h.trans k) (i := 14) (v := .int .i64 (qc : Int)) rfl (by kernel_rfl) (by kernel_rfl) (by kernel_rfl) (fun _ _ _ h => h) (YieldsR.read (fun w => But.refl [] w) ?_ fun w hS => ?_) ?_
        · go_simp
        · go_simp
        refine wpM_take (fun w => But.refl [] w) (fun x y z h k => h.trans k) (i := 15) (v := .int .i64 (p : Int)) rfl (by kernel_rfl) (by kernel_rfl) (by kernel_rfl) (fun _ _ _ h => h) (.inl ⟨?_, fun w hS => .inr ⟨_, _, ?_, (HP.out w).mono ?_⟩⟩) ?_
        · go_simp
        · go_simp
        · rintro e wy ⟨rfl, rfl⟩; exact ⟨rfl, hS, But.refl [] _⟩
        refine wpM_take (fun w => But.refl [] w) (fun x y z h k => h.trans k) (i := 16) (v := .int .i64 ((b : Int) - (p : Int))) rfl (by kernel_rfl) (by kernel_rfl) (by kernel_rfl) (fun _ _ _ h => h) (YieldsR.read (fun w => But.refl [] w) ?_ fun w hS => ?_) ?_
        · go_simp
        · go_simp
        refine wpM_take (fun w => But.refl [] w) (fun x y z h k => h.trans k) (i := 17) (v := .int .u8 ((y.toNat : Nat) : Int)) rfl (by kernel_rfl) (by kernel_rfl) (by kernel_rfl) (fun _ _ _ h => h) (YieldsR.read (fun w => But.refl [] w) ?_ fun w hS => ?_) ?_
        · go_simp
        · go_simp
        refine wpM_one (i := 18) rfl (by kernel_rfl) fun w1 hR1 hS1 K' hK => ?_
        go_simp
        refine hK _ _ ⟨hS1.alloc _, ?_⟩
        clear hK K'
        have hI1 := Is.fresh w1 5 #[.int .u8 ((y.toNat : Nat) : Int)]
        have hO1 := HO.out.but (((But.refl [] wr).drew.trans hR1).alloc (.cells #[.int .u8 ((y.toNat : Nat) : Int)] 5))
        refine wpM_one (i := 19) rfl (by kernel_rfl) fun w2 hR2 hS2 K' hK => ?_
        refine step_append_f (w0 := w) w2 rfl _ _ rfl hi0 hz0 hz1 hz2 (.slice A L.length c) L (by rw [HLL.out]; rfl) (hO1.but hR2) hS2 y (by rfl) (hI1.but hR2 (by simp)) (by rw [HLL.out]; omega) ?_
        intro A2 c2 w3 M hM hO3 hB3
        refine hK _ _ ⟨hB3, ?_⟩
        clear hK K'
        refine wpM_take (fun w => But.refl [] w) (fun x y z h k => h.trans k) (i := 20) (v := .slice A2 M.length c2) rfl (by kernel_rfl) (by kernel_rfl) (by kernel_rfl) (fun _ _ _ h => h) (YieldsR.read (fun w => But.refl [] w) ?_ fun w hS => ?_) ?_
        · go_simp
        · go_simp
        refine ⟨by kernel_rfl, fun w4 hR4 hS4 => ?_⟩
        have HO4 := Lib.hid (hO3.but hR4)
        have HB4 := Lib.hid hS4
        have HM : Hid (M = R.take (k + 1)) := Lib.hid (by rw [hM]; exact HN.out)
        clear hR4 hS4 hO3 hB3 hM hI1 hO1 hR1 hS1 hR2 hS2
        go_simp
        go_wp2
        go_roundw
        case rel => exact ⟨k + 1, M, by omega, by go_num, HM, HO4, HB4⟩
        case measure => simp [intOf]; omega
    · have HE : Hid (L = R) := Lib.hid (by rw [HL.out, List.take_of_length_le]; rw [HRl.out]; omega)
      have hct := HO.out.text
      rw [HE.out] at hct
      go_wp2
      go_ret2
      exact ⟨rfl, HB.out⟩
end Go.Proofs.Ytbhdbekkandbhaa
