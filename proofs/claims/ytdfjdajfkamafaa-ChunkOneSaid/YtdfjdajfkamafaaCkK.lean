/- The walk of the statement on one chunk's bytes. -/
import Derived.Test.YtdfjdajfkamafaaCkJ
set_option maxRecDepth 100000
set_option linter.unusedVariables false
namespace Go.Proofs.Ytdfjdajfkamafaa
set_option maxRecDepth 100000
open Go Go.RowKit
/-- The type that need not be known. -/
def tZZ : List UInt8 := [122, 122, 90, 90]
theorem ok_zz {d : List UInt8} (h : d.length ≤ 2147483647) : okC (tZZ, d) = true := (okC_iff (tZZ, d)).2 ⟨(by decide : rightT tZZ = true), h⟩
theorem zz_parts (d : List UInt8) : ((signL ++ encs [(tZZ, d)]).drop 8).take 8 = fourL d.length ++ tZZ ∧ ((signL ++ encs [(tZZ, d)]).drop 16).take d.length = d ∧ (signL ++ encs [(tZZ, d)]).length = 20 + d.length := by
  have e := one_file tZZ d
  have hz : tZZ.length = 4 := rfl
  have h8 : signL.length = 8 := rfl
  have e8 : (signL ++ encs [(tZZ, d)]).drop 8 = (fourL d.length ++ tZZ) ++ (d ++ fourL (crcSum (tZZ ++ d))) := by
    rw [e, drop_len h8]
    simp only [List.append_assoc]
  have e16 : (signL ++ encs [(tZZ, d)]).drop 16 = d ++ fourL (crcSum (tZZ ++ d)) := by
    rw [show 16 = 8 + 8 from rfl, ← List.drop_drop, e8, drop_len (by rw [List.length_append, fourL_length, hz])]
  refine ⟨?_, ?_, ?_⟩
  · rw [e8, take_len (by rw [List.length_append, fourL_length, hz])]
  · rw [e16, take_len rfl]
  · rw [e]
    simp only [List.length_append, fourL_length, hz, h8]
    omega
theorem four_small {m a b : Nat} (hm : m ≤ 10000) (ha : a = m / 256) (hb : b = m % 256) : fourL m = [0, 0, UInt8.ofNat a, UInt8.ofNat b] := by
  have e1 : m / 16777216 = 0 := by omega
  have e2 : m / 65536 = 0 := by omega
  unfold fourL
  rw [e1, e2, ← ha]
  have e3 : UInt8.ofNat m = UInt8.ofNat b := by
    apply UInt8.toNat_inj.1
    rw [UInt8.toNat_ofNat', UInt8.toNat_ofNat']
    omega
  rw [e3]
  rfl
theorem conv_zz (W : World) {m a b : Nat} (hm : m ≤ 10000) (ha : a = m / 256) (hb : b = m % 256) :
    (convert 36 9 (.slice (some ⟨W.heap.size, 0, none⟩) 4 4)).run Try.prog ((W.alloc (.cells #[.int .u8 0, .int .u8 0, .int .u8 a, .int .u8 b] 5)).drew) = .ok (.string (strL (fourL m))) ((W.alloc (.cells #[.int .u8 0, .int .u8 0, .int .u8 a, .int .u8 b] 5)).drew) := by
  rw [four_small hm ha hb]
  refine conv_atZ (L := [0, 0, UInt8.ofNat a, UInt8.ofNat b]) (cap := 4) fun j hj => ?_
  have a3 := UInt8.toNat_ofNat' (n := a)
  have a4 := UInt8.toNat_ofNat' (n := b)
  show (W.alloc (.cells #[.int .u8 0, .int .u8 0, .int .u8 a, .int .u8 b] 5)).cell? ⟨W.heap.size, j, none⟩ = _
  rw [World.cell?_alloc_mark]
  match j, hj with
  | 0, _ => rfl
  | 1, _ => rfl
  | 2, _ => show some (Value.int .u8 (a : Int)) = some (Value.int .u8 ((UInt8.ofNat a).toNat : Int)); rw [a3, Nat.mod_eq_of_lt (by omega)]
  | 3, _ => show some (Value.int .u8 (b : Int)) = some (Value.int .u8 ((UInt8.ofNat b).toNat : Int)); rw [a4, Nat.mod_eq_of_lt (by omega)]
attribute [local irreducible] strL fourL signL crcSum tZZ
set_option maxHeartbeats 1000000 in
theorem chunkOne_walk {s : ByteArray} {w : World} (hs : s.size ≤ 140737488351232) :
    Calls Try.prog 8 #[.string s] w fun e w' => e = .returned (.bool true) ∧ Below w.heap.size w w' := by
  have HA := Lib.hid (fun v => awake7_any v)
  by_cases h1 : 10000 < s.size
  · have d : decide ((10000 : Int) < (s.size : Int)) = true := by simp; omega
    clear h1
    go_enter Try.func8, Try.ntmps8
    go_wp2_with fail
    refine (HA.out _).mono ?_
    rintro e w1 ⟨rfl, hB⟩
    have HB1 := Lib.hid hB
    clear hB
    go_wp2
    go_ret
    exact ⟨rfl, HB1.out.belowC⟩
  · have d : decide ((10000 : Int) < (s.size : Int)) = false := by simp; omega
    obtain ⟨dd, hdd⟩ : ∃ d, d = s.data.toList := ⟨_, rfl⟩
    have hss : strL dd = s := by rw [hdd, strL_of]
    have hdl : dd.length = s.size := by rw [hdd]; simp
    obtain ⟨m, hm⟩ : ∃ m, m = s.size := ⟨_, rfl⟩
    have hm1 : m ≤ 10000 := by omega
    have hok := ok_zz (d := dd) (by omega)
    obtain ⟨p1, p2, p3⟩ := zz_parts dd
    have hsd : sizeD [(tZZ, dd)] ≤ 100000000 := by
      rw [sizeD_cons, show sizeD [] = 0 from rfl]
      split
      · dsimp only; omega
      · omega
    have hJ := pjoin_any _ (cap := 1) (one_ck w tZZ dd) hsd (by omega)
    rw [join_all (show [(tZZ, dd)].all okC = true by rw [List.all_cons, hok]; rfl)] at hJ
    unfold tellJ at hJ
    rw [hss] at hJ
    have hz : strL tZZ = ⟨#[122, 122, 90, 90]⟩ := by unfold strL tZZ; rfl
    rw [hz] at hJ
    obtain ⟨F, hF⟩ : ∃ F, F = signL ++ encs [(tZZ, dd)] := ⟨_, rfl⟩
    rw [← hF] at hJ p1 p2 p3
    rw [hdl, ← hm] at p1 p2 p3
    obtain ⟨a, ha⟩ : ∃ a, a = m / 256 := ⟨_, rfl⟩
    obtain ⟨b, hb⟩ : ∃ b, b = m % 256 := ⟨_, rfl⟩
    have kc := fun W : World => conv_zz W hm1 ha hb
    have k8 : ∀ W, (Instr.slice 9 (.string (strL F)) (some (.int .i64 8)) (some (.int .i64 16)) none).run Try.prog W = .ok (.string (strL (fourL m) ++ ⟨#[122, 122, 90, 90]⟩)) W := fun W => by
      have h := cut_mid F (i := 8) (j := 16) (by omega) W (by omega)
      rw [show 16 - 8 = 8 from rfl, p1, strL_append, hz] at h
      exact h
    have k16 : ∀ W, (Instr.slice 9 (.string (strL F)) (some (.int .i64 16)) (some (.int .i64 (16 + (m : Int)))) none).run Try.prog W = .ok (.string s) W := fun W => by
      have h := cut_mid F (i := 16) (j := 16 + m) (by omega) W (by omega)
      rw [show 16 + m - 16 = m by omega, p2, hss] at h
      simpa using h
    have hFs : (strL F).size = 20 + m := by rw [strL_size, p3]
    have f4 : (strL (fourL m)).size = 4 := by rw [strL_size, fourL_length]
    obtain ⟨Fz, hFz⟩ : ∃ Fz, Fz = strL F := ⟨_, rfl⟩
    obtain ⟨q, hq⟩ : ∃ q, q = strL (fourL m) := ⟨_, rfl⟩
    rw [← hFz] at hFs hJ
    simp only [← hFz] at k8 k16
    rw [← hq] at f4
    simp only [← hq] at kc k8
    obtain ⟨Z, hZ⟩ : ∃ Z, Z = q ++ ⟨#[122, 122, 90, 90]⟩ := ⟨_, rfl⟩
    simp only [← hZ] at k8
    have hcat : q ++ ⟨#[122, 122, 90, 90]⟩ = Z := hZ.symm
    obtain ⟨N, hN⟩ : ∃ N, N = 20 + m := ⟨_, rfl⟩
    rw [← hN] at hFs
    obtain ⟨n2, hn2⟩ : ∃ n, n = 16 + m := ⟨_, rfl⟩
    have b1 : (m : Int) / 256 = (a : Int) := by omega
    have b2 : IntKind.i64.wrap (a : Int) = (a : Int) := IntWalk.i64_in _ (by omega)
    have b3 : IntKind.u8.wrap (a : Int) = (a : Int) := by simp [IntKind.wrap_u8]; omega
    have b4 : (m : Int).tmod 256 = (b : Int) := by rw [Int.tmod_eq_emod_of_nonneg (by omega)]; omega
    have b4' : (m : Int) % 256 = (b : Int) := by omega
    have b5 : IntKind.u8.wrap (b : Int) = (b : Int) := by simp [IntKind.wrap_u8]; omega
    have b6 : (16 : Int) + (m : Int) = (n2 : Int) := by omega
    have b6' : IntKind.i64.wrap (n2 : Int) = (n2 : Int) := IntWalk.i64_in _ (by omega)
    have b7 : (20 : Int) + (m : Int) = (N : Int) := by omega
    have b7' : IntKind.i64.wrap (N : Int) = (N : Int) := IntWalk.i64_in _ (by omega)
    simp only [b6] at k16
    have hmz : s.size = m := hm.symm
    have HJ := Lib.hid hJ
    have HB0 := Lib.hid ((But.refl [] w).alloc (.cells #[.string ⟨#[122, 122, 90, 90]⟩, .string s] 35))
    clear hJ hF p1 p2 p3 hsd hok hss hdd hdl hm ha hb h1 hz hFz hq hZ hN hn2
    go_enter Try.func8, Try.ntmps8
    go_wp2_with fail
    refine HJ.out.mono ?_
    rintro e w1 ⟨rfl, hB⟩
    have HB1 := Lib.hid (HB0.out.trans hB)
    clear hB
    go_upto_region 5 with (fail)
    obtain ⟨W1, hW1⟩ : ∃ x, x = w1 := ⟨_, rfl⟩
    rw [← hW1] at HB1 ⊢
    clear hW1
    refine wp_region_any (by kernel_rfl) ?_
    refine wpAny_take (i := 0) (v := .int .i64 0) rfl (by kernel_rfl) (by kernel_rfl) (by kernel_rfl) (fun _ _ _ h => h) (Or.inl ⟨?_, fun w => ?_⟩) ?_
    · go_simp
    · go_simp
    refine wpAny_take (i := 1) (v := .bool true) rfl (by kernel_rfl) (by kernel_rfl) (by kernel_rfl) (fun _ _ _ h => h) (Or.inl ⟨?_, fun w => ?_⟩) ?_
    · go_simp
    · go_simp
    refine wpAny_take (i := 2) (v := .bool true) rfl (by kernel_rfl) (by kernel_rfl) (by kernel_rfl) (fun _ _ _ h => h) (Or.inl ⟨?_, fun w => ?_⟩) ?_
    · go_simp
    · go_simp
    refine wpAny_take (i := 3) (v := .string Fz) rfl (by kernel_rfl) (by kernel_rfl) (by kernel_rfl) (fun _ _ _ h => h) (Or.inl ⟨?_, fun w => ?_⟩) ?_
    · go_simp
    · go_simp
    refine wpAny_take (i := 4) (v := .int .i64 (N : Int)) rfl (by kernel_rfl) (by kernel_rfl) (by kernel_rfl) (fun _ _ _ h => h) (Or.inl ⟨?_, fun w => ?_⟩) ?_
    · go_simp
    · go_simp
    refine wpAny_take (i := 5) (v := .int .i64 (m : Int)) rfl (by kernel_rfl) (by kernel_rfl) (by kernel_rfl) (fun _ _ _ h => h) (Or.inl ⟨?_, fun w => ?_⟩) ?_
    · go_simp
    · go_simp
    refine wpAny_take (i := 6) (v := .int .i64 (N : Int)) rfl (by kernel_rfl) (by kernel_rfl) (by kernel_rfl) (fun _ _ _ h => h) (Or.inl ⟨?_, fun w => ?_⟩) ?_
    · go_simp
    · go_simp
    refine wpAny_take (i := 7) (v := .bool true) rfl (by kernel_rfl) (by kernel_rfl) (by kernel_rfl) (fun _ _ _ h => h) (Or.inl ⟨?_, fun w => ?_⟩) ?_
    · go_simp
    · go_simp
    refine wpAny_take (i := 8) (v := .bool true) rfl (by kernel_rfl) (by kernel_rfl) (by kernel_rfl) (fun _ _ _ h => h) (Or.inl ⟨?_, fun w => ?_⟩) ?_
    · go_simp
    · go_simp
    refine wpAny_take (i := 9) (v := .bool true) rfl (by kernel_rfl) (by kernel_rfl) (by kernel_rfl) (fun _ _ _ h => h) (Or.inl ⟨?_, fun w => ?_⟩) ?_
    · go_simp
    · go_simp
    refine wpAny_take (i := 10) (v := .string Fz) rfl (by kernel_rfl) (by kernel_rfl) (by kernel_rfl) (fun _ _ _ h => h) (Or.inl ⟨?_, fun w => ?_⟩) ?_
    · go_simp
    · go_simp
    refine wpAny_take (i := 11) (v := .string Z) rfl (by kernel_rfl) (by kernel_rfl) (by kernel_rfl) (fun _ _ _ h => h) (Or.inl ⟨?_, fun w => ?_⟩) ?_
    · go_simp
    · go_simp
    refine wpAny_take (i := 12) (v := .int .i64 (m : Int)) rfl (by kernel_rfl) (by kernel_rfl) (by kernel_rfl) (fun _ _ _ h => h) (Or.inl ⟨?_, fun w => ?_⟩) ?_
    · go_simp
    · go_simp
    refine wpAny_take (i := 13) (v := .int .i64 (a : Int)) rfl (by kernel_rfl) (by kernel_rfl) (by kernel_rfl) (fun _ _ _ h => h) (Or.inl ⟨?_, fun w => ?_⟩) ?_
    · go_simp
    · go_simp
    refine wpAny_take (i := 14) (v := .int .u8 (a : Int)) rfl (by kernel_rfl) (by kernel_rfl) (by kernel_rfl) (fun _ _ _ h => h) (Or.inl ⟨?_, fun w => ?_⟩) ?_
    · go_simp
    · go_simp
    refine wpAny_take (i := 15) (v := .int .i64 (m : Int)) rfl (by kernel_rfl) (by kernel_rfl) (by kernel_rfl) (fun _ _ _ h => h) (Or.inl ⟨?_, fun w => ?_⟩) ?_
    · go_simp
    · go_simp
    refine wpAny_take (i := 16) (v := .int .i64 (b : Int)) rfl (by kernel_rfl) (by kernel_rfl) (by kernel_rfl) (fun _ _ _ h => h) (Or.inl ⟨?_, fun w => ?_⟩) ?_
    · go_simp
    · go_simp
    refine wpAny_take (i := 17) (v := .int .u8 (b : Int)) rfl (by kernel_rfl) (by kernel_rfl) (by kernel_rfl) (fun _ _ _ h => h) (Or.inl ⟨?_, fun w => ?_⟩) ?_
    · go_simp
    · go_simp
    refine wpAny_ready (rs := [18]) (by kernel_rfl) (by decide) (AllReady.cons rfl (fun K' hK => ?_) AllReady.nil)
    go_simp
    refine hK _ _ ?_
    clear hK K'
    refine wpAny_ready (rs := [19]) (by kernel_rfl) (by decide) (AllReady.cons rfl (fun K' hK => ?_) AllReady.nil)
    go_simp
    refine hK _ _ ?_
    clear hK K'
    refine wpAny_take (i := 20) (v := .string Z) rfl (by kernel_rfl) (by kernel_rfl) (by kernel_rfl) (fun _ _ _ h => h) (Or.inl ⟨?_, fun w => ?_⟩) ?_
    · go_simp
    · go_simp
    refine wpAny_take (i := 21) (v := .bool true) rfl (by kernel_rfl) (by kernel_rfl) (by kernel_rfl) (fun _ _ _ h => h) (Or.inl ⟨?_, fun w => ?_⟩) ?_
    · go_simp
    · go_simp
    refine wpAny_take (i := 22) (v := .bool true) rfl (by kernel_rfl) (by kernel_rfl) (by kernel_rfl) (fun _ _ _ h => h) (Or.inl ⟨?_, fun w => ?_⟩) ?_
    · go_simp
    · go_simp
    refine wpAny_take (i := 23) (v := .bool true) rfl (by kernel_rfl) (by kernel_rfl) (by kernel_rfl) (fun _ _ _ h => h) (Or.inl ⟨?_, fun w => ?_⟩) ?_
    · go_simp
    · go_simp
    refine wpAny_take (i := 24) (v := .string Fz) rfl (by kernel_rfl) (by kernel_rfl) (by kernel_rfl) (fun _ _ _ h => h) (Or.inl ⟨?_, fun w => ?_⟩) ?_
    · go_simp
    · go_simp
    refine wpAny_take (i := 25) (v := .int .i64 (m : Int)) rfl (by kernel_rfl) (by kernel_rfl) (by kernel_rfl) (fun _ _ _ h => h) (Or.inl ⟨?_, fun w => ?_⟩) ?_
    · go_simp
    · go_simp
    refine wpAny_take (i := 26) (v := .int .i64 (n2 : Int)) rfl (by kernel_rfl) (by kernel_rfl) (by kernel_rfl) (fun _ _ _ h => h) (Or.inl ⟨?_, fun w => ?_⟩) ?_
    · go_simp
    · go_simp
    refine wpAny_take (i := 27) (v := .string s) rfl (by kernel_rfl) (by kernel_rfl) (by kernel_rfl) (fun _ _ _ h => h) (Or.inl ⟨?_, fun w => ?_⟩) ?_
    · go_simp
    · go_simp
    refine wpAny_take (i := 28) (v := .string s) rfl (by kernel_rfl) (by kernel_rfl) (by kernel_rfl) (fun _ _ _ h => h) (Or.inl ⟨?_, fun w => ?_⟩) ?_
    · go_simp
    · go_simp
    refine wpAny_take (i := 29) (v := .bool true) rfl (by kernel_rfl) (by kernel_rfl) (by kernel_rfl) (fun _ _ _ h => h) (Or.inl ⟨?_, fun w => ?_⟩) ?_
    · go_simp
    · go_simp
    refine wpAny_take (i := 30) (v := .bool true) rfl (by kernel_rfl) (by kernel_rfl) (by kernel_rfl) (fun _ _ _ h => h) (Or.inl ⟨?_, fun w => ?_⟩) ?_
    · go_simp
    · go_simp
    refine wpAny_take (i := 31) (v := .bool true) rfl (by kernel_rfl) (by kernel_rfl) (by kernel_rfl) (fun _ _ _ h => h) (Or.inl ⟨?_, fun w => ?_⟩) ?_
    · go_simp
    · go_simp
    refine wpAny_ready (rs := [32]) (by kernel_rfl) (by decide) (AllReady.cons rfl (fun K' hK => ?_) AllReady.nil)
    go_simp
    go_at_call 9
    refine (HA.out _).mono ?_
    rintro e w2 ⟨rfl, hB⟩
    have HB2 := Lib.hid ((((HB1.out.alloc (.cells #[.int .u8 0, .int .u8 0, .int .u8 a, .int .u8 b] 5))).drew).trans hB)
    clear hB
    go_simp
    refine hK _ _ ?_
    clear hK K'
    refine wpAny_take (i := 33) (v := .bool true) rfl (by kernel_rfl) (by kernel_rfl) (by kernel_rfl) (fun _ _ _ h => h) (Or.inl ⟨?_, fun w => ?_⟩) ?_
    · go_simp
    · go_simp
    refine wpAny_take (i := 34) (v := .bool true) rfl (by kernel_rfl) (by kernel_rfl) (by kernel_rfl) (fun _ _ _ h => h) (Or.inl ⟨?_, fun w => ?_⟩) ?_
    · go_simp
    · go_simp
    refine ⟨by kernel_rfl, ?_⟩
    go_wp2
    go_ret
    exact ⟨rfl, HB2.out.belowC⟩
end Go.Proofs.Ytdfjdajfkamafaa
