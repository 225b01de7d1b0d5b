/- The document's Inflate: the plain function, as far as the statement asks. -/
import Derived.Test.YtobmghjpfkdooaaDoorRfH
import Derived.Test.YtobmghjpfkdooaaDoorInf
set_option maxRecDepth 100000
set_option linter.unusedVariables false
namespace Go.Proofs.YtobmghjpfkdooaaDoor
set_option maxRecDepth 100000
open Go Go.RowKit
theorem rBits_step {n x p q : Nat} {s : ByteArray} (h : rBits n s p = .ok (x, q)) : q = p + n := by
  unfold rBits at h
  split at h
  · cases h
  · rename_i h0
    injection h with h; injection h with _ h
    subst h
    unfold bitsGo
    rw [if_pos (by simpa using h0)]; simp
theorem blk_open (M : Int) (F f : Nat) (L : List UInt8) : blkG M F (f + 1) L = rBind (rBits 1) fun last => rBind (rBits 2) fun kind => rBind (blockR M F kind L) fun out' => if last ≠ 0 then rPure out' else blkG M F f out' := rfl
/-- What the document's stream stands before. -/
def nxt (M : Int) (F f last : Nat) (L : List UInt8) : Rd (List UInt8) := if last ≠ 0 then rPure L else blkG M F f L
section
variable {w w' w1 : World} {b rb : Nat} {og : Option Nat} {s : ByteArray} {p q : Nat} {M er : Int} {L : List UInt8}
theorem blk_kind (M : Int) (F k : Nat) (L : List UInt8) : (k = 0 → blockR M F k L = storedR M L) ∧ (k = 1 → blockR M F k L = tablesR fixL fixD (symG fixL fixD M F L)) ∧ (k = 2 → blockR M F k L = dynR M F L) ∧ (3 ≤ k → blockR M F k L = rFail 13) := by
  unfold blockR
  refine ⟨fun h => if_pos h, fun h => ?_, fun h => ?_, fun h => ?_⟩
  · rw [if_neg (by omega), if_pos h]
  · rw [if_neg (by omega), if_neg (by omega), if_pos h]
  · rw [if_neg (by omega), if_neg (by omega), if_neg (by omega)]
theorem blk_after {R : Except Int (List UInt8 × Nat)} {F f k v1 q2 q3 : Nat} {e3 : Int} {L3 : List UInt8} (hR : R = run 0 (rBind (blockR M F k L) fun out' => nxt M F f v1 out') s q2) (hr : run 0 (blockR M F k L) s q2 = run e3 (rPure L3) s q3)
    (hq2 : q2 ≤ 8 * s.size) (hq : q < q2) (hg : 8 * s.size - q < f + 1) : R = run e3 (nxt M F f v1 L3) s q3 ∧ (e3 = 0 → 8 * s.size - q3 < f) := by
  refine ⟨hR.trans (run_bind hr), fun e => ?_⟩
  subst e
  have h : blockR M F k L s q2 = .ok (L3, q3) := hr
  have := blockR_adv M F k L s q2 L3 q3 hq2 h
  omega
/-- What the document's loop leaves. -/
def LeftI (w : World) (b rb : Nat) (s : ByteArray) (M : Int) (R : Except Int (List UInt8 × Nat)) (wx : World) : Prop :=
  ∃ (er : Int) (L : List UInt8) (q : Nat) (og : Option Nat), SR wx b rb og s q M L er ∧ Mv b rb w wx none og ∧ R = run er (rPure L) s q
theorem kinds (A : Option Addr) (n c : Nat) {l : List Int} {a : Addr} (hA : A = some a) (hn : n ≤ 1000) {wx : World} (hI : Ints wx A n l) (hf : a.block ∉ Foot b rb og) : HasL b rb og wx A n c l := by
  subst hA
  exact ⟨by omega, (fun e => by cases e), fun w2 hB => hI.but hB (fun k hk a2 e => by cases e; intro h; exact hf (h ▸ hk))⟩
set_option maxHeartbeats 2000000 in
theorem rinflate_any (w : World) {s : ByteArray} {M : Int} (hs : s.size ≤ 20000) (hM : M ≤ 100000) :
    Calls Tryd.prog 8 #[.string s, .int .i64 M] w fun e w' => e = tell (inflT s M) ∧ But [] w w' := by
  obtain ⟨F, hF⟩ : ∃ F, F = 8 * s.size + 1 := ⟨_, rfl⟩
  obtain ⟨R, hR⟩ : ∃ R, R = inflS s M := ⟨_, rfl⟩
  have hR2 : R = run 0 (blkG M F F []) s 0 := by rw [hR, hF]; rfl
  have hFR : FS (w.alloc (.cells #[.string s, .int .i64 0] 44)) w.heap.size s 0 := ⟨Nat.zero_le _, Is.fresh w _ _⟩
  have hI := Is.fresh (w.alloc (.cells #[.string s, .int .i64 0] 44)) 46 #[.pointer (some ⟨w.heap.size, 0, none⟩), .slice none 0 0, .int .i64 M, .int .i64 0]
  have hsz : (w.alloc (.cells #[.string s, .int .i64 0] 44)).heap.size = w.heap.size + 1 := by simp
  rw [hsz] at hI
  have hS : SR ((w.alloc (.cells #[.string s, .int .i64 0] 44)).alloc (.cells #[.pointer (some ⟨w.heap.size, 0, none⟩), .slice none 0 0, .int .i64 M, .int .i64 0] 46)) (w.heap.size + 1) w.heap.size none s 0 M [] 0 :=
    ⟨hFR.but (but_alloc _ _) (by simp), by omega, hs, hM, by simp; omega, .slice none 0 0, hI, World.ownsRow_nil _ _ _ _, rfl⟩
  have hB : But [] w ((w.alloc (.cells #[.string s, .int .i64 0] 44)).alloc (.cells #[.pointer (some ⟨w.heap.size, 0, none⟩), .slice none 0 0, .int .i64 M, .int .i64 0] 46)) := ((But.refl [] w).alloc _).alloc _
  have HR := Lib.hid hR
  have HR2 := Lib.hid hR2
  have HS := Lib.hid hS
  have HB := Lib.hid hB
  have HFE := Lib.hid hF
  have HFF : Hid (8 * s.size < F) := Lib.hid (by omega)
  clear hR hR2 hFR hI hsz hS hB hF
  go_enter Tryd.func8, Tryd.ntmps8
  go_upto_block 0 with (fail)
  generalize ((w.alloc (.cells #[.string s, .int .i64 0] 44)).alloc (.cells #[.pointer (some ⟨w.heap.size, 0, none⟩), .slice none 0 0, .int .i64 M, .int .i64 0] 46)) = w2 at *
  go_cut [] from 20 to 73 (fun wx => LeftI w2 (w.heap.size + 1) w.heap.size s M R wx)
  case first =>
    go_wp2_with fail
    go_loopg [8] F (fun f lv wr => ∃ (last q : Nat) (L : List UInt8) (og : Option Nat) (e1 : Int), lv = .int .i64 last ∧ Hid (SR wr (w.heap.size + 1) w.heap.size og s q M L e1) ∧ Hid (Mv (w.heap.size + 1) w.heap.size w2 wr none og) ∧ Hid (R = run e1 (nxt M F f last L) s q) ∧ Hid (e1 = 0 → 8 * s.size - q < f))
    case atStart => exact ⟨0, 0, [], none, 0, rfl, HS, Lib.hid (Mv.refl _ _ _ _), HR2, Lib.hid (fun _ => by have := HFF.out; omega)⟩
    case round =>
      obtain ⟨last, q, L, og, e1, rfl, HS1, HM1, HK1, HG1⟩ := hrel
      clear HS HR2
      have g3 := HS1.out.in3
      by_cases hend : last = 0 ∧ e1 = 0
      · obtain ⟨hl0, rfl⟩ := hend
        obtain ⟨f, rfl⟩ : ∃ f, gk = f + 1 := ⟨gk - 1, by have := HG1.out rfl; omega⟩
        have dl : ((last : Int) == 0) = true := by simp; omega
        have hk : R = run 0 (rBind (rBits 1) fun last => rBind (rBits 2) fun kind => rBind (blockR M F kind L) fun out' => nxt M F f last out') s q := by
          rw [HK1.out]; unfold nxt; rw [if_neg (by omega), blk_open]
        have hb1 := HS1.out.bits 1
        have HB1 := Lib.hid hb1
        have HK2 := Lib.hid hk
        have HGF : Hid (8 * s.size - q < f + 1) := Lib.hid (HG1.out (by trivial))
        clear hk hb1 HK1 HG1 hl0 HS1
        go_wp2_with fail
        refine HB1.out.mono ?_
        rintro e w3 ⟨v1, e2, q1, rfl, hS3, hM3, hr3, hv1, hq1, hz1⟩
        have hk3 := HK2.out.trans (run_bind hr3)
        have hst1 : e2 = 0 → q1 = q + 1 := fun e => by
          subst e
          exact rBits_step (n := 1) (s := s) (p := q) (x := v1) hr3
        have hb2 := hS3.bits 2
        have HB2 := Lib.hid hb2
        have HK3 := Lib.hid hk3
        have HM3 := Lib.hid (HM1.out.trans hM3)
        have HST1 := Lib.hid hst1
        clear hS3 hM3 hr3 hk3 hb2 hst1 HB1 HK2 HM1 g3
        go_wp2_with fail
        refine HB2.out.mono ?_
        rintro e w4 ⟨v2, e3, q2, rfl, hS4, hM4, hr4, hv2, hq2, hz2⟩
        have hk4 := HK3.out.trans (run_bind hr4)
        have HK4 := Lib.hid hk4
        have HM4 := Lib.hid (HM3.out.trans hM4)
        have HS4 := Lib.hid hS4
        have HZ2 := Lib.hid hz2
        have hv4 : v2 < 4 := hv2
        have g3 := hS4.in3
        clear hS4 hM4 hr4 hk4 hz2 hv2 HB2 HK3 HM3
        by_cases he3 : e3 = 0
        · subst he3
          have hq12 : q < q2 := by have := HST1.out (HZ2.out rfl); omega
          have hq8 := HS4.out.rs.1
          by_cases k0 : v2 = 0
          · have c0 : ((v2 : Int) == 0) = true := by simp; omega
            have hst := rstored_any HS4.out
            have HST := Lib.hid hst
            have HAF := Lib.hid (fun (e5 : Int) (L5 : List UInt8) (q5 : Nat) h => blk_after (e3 := e5) (L3 := L5) (q3 := q5) (q := q) HK4.out (by rw [(blk_kind M F v2 L).1 k0]; exact h) hq8 hq12 HGF.out)
            clear hst k0
            go_wp2_with fail
            refine HST.out.mono ?_
            rintro e w5 ⟨e5, L5, q5, og5, rfl, hS5, hM5, hr5⟩
            obtain ⟨r1, r2⟩ := HAF.out e5 L5 q5 hr5
            have R1 := Lib.hid r1
            have R2 := Lib.hid r2
            have HS5 := Lib.hid hS5
            have HM5 := Lib.hid (HM4.out.trans hM5)
            clear hS5 hM5 hr5 r1 r2 g3
            go_wp2
            go_roundg f
            case measure => omega
            case rel => exact ⟨v1, q5, L5, og5, e5, rfl, HS5, HM5, R1, R2⟩
          · have c0 : ((v2 : Int) == 0) = false := by simp; omega
            by_cases k1 : v2 = 1
            · have c1 : ((v2 : Int) == 1) = true := by simp; omega
              have HAF := Lib.hid (fun (e5 : Int) (L5 : List UInt8) (q5 : Nat) h => blk_after (e3 := e5) (L3 := L5) (q3 := q5) (q := q) HK4.out (by rw [(blk_kind M F v2 L).2.1 k1]; exact h) hq8 hq12 HGF.out)
              clear k1
              go_wp2_with fail
              refine (fixed_any w4).mono ?_
              rintro e w5 ⟨A1, A2, cc1, cc2, rfl, hI1, hI2, hB5, hz1', hz2'⟩
              have hS5 := HS4.out.but hB5 (by simp)
              have hL1 := kinds (b := w.heap.size + 1) (rb := w.heap.size) (og := og) (some A1) 288 cc1 rfl (by omega) hI1 (fun h => by have := HS4.out.foot _ h; omega)
              have hL2 := kinds (b := w.heap.size + 1) (rb := w.heap.size) (og := og) (some A2) 32 cc2 rfl (by omega) hI2 (fun h => by have := HS4.out.foot _ h; omega)
              have hsy := symbols_any hS5 (fun _ => hL1) (fun _ => hL2) F HFF.out
              have HSY := Lib.hid hsy
              have HM5 := Lib.hid (HM4.out.trans (Mv.of hB5 (by simp)))
              clear hI1 hI2 hB5 hz1' hz2' hS5 hL1 hL2 hsy g3
              go_wp2_with fail
              refine HSY.out.mono ?_
              rintro e w6 ⟨e5, L5, q5, og5, rfl, hS6, hM6, hr6⟩
              obtain ⟨r1, r2⟩ := HAF.out e5 L5 q5 hr6
              have R1 := Lib.hid r1
              have R2 := Lib.hid r2
              have HS6 := Lib.hid hS6
              have HM6 := Lib.hid (HM5.out.trans hM6)
              clear hS6 hM6 hr6 r1 r2
              go_wp2
              go_roundg f
              case measure => omega
              case rel => exact ⟨v1, q5, L5, og5, e5, rfl, HS6, HM6, R1, R2⟩
            · by_cases k2 : v2 = 2
              · have c1 : ((v2 : Int) == 1) = false := by simp; omega
                have c2 : ((v2 : Int) == 2) = true := by simp; omega
                have HAF := Lib.hid (fun (e5 : Int) (L5 : List UInt8) (q5 : Nat) (h : run 0 (dynR M F L) s q2 = run e5 (rPure L5) s q5) => blk_after (e3 := e5) (L3 := L5) (q3 := q5) (q := q) HK4.out (by rw [(blk_kind M F v2 L).2.2.1 k2]; exact h) hq8 hq12 HGF.out)
                have hln := lens_any HS4.out F HFF.out
                have HLN := Lib.hid hln
                clear hln k1 k2
                go_wp2_with fail
                refine HLN.out.mono ?_
                rintro e w5 ⟨A1, A2, n1, cc1, n2, cc2, l, d, e5, q5, rfl, hS5, hM5, hr5, hx5⟩
                have hrd : run 0 (dynR M F L) s q2 = run e5 (tablesR l d (symG l d M F L)) s q5 := by
                  rw [dynR_lens]; exact run_bind hr5
                have HRD := Lib.hid hrd
                have HM5 := Lib.hid (HM4.out.trans hM5)
                have HS5 := Lib.hid hS5
                have HX5 := Lib.hid hx5
                have g5 := hS5.in3
                clear hS5 hM5 hr5 hx5 hrd g3 HLN
                by_cases he5 : e5 = 0
                · subst he5
                  have hsy := symbols_any HS5.out (fun _ => (HX5.out (by trivial)).1) (fun _ => (HX5.out (by trivial)).2) F HFF.out
                  have HSY := Lib.hid hsy
                  clear hsy
                  go_wp2_with fail
                  refine HSY.out.mono ?_
                  rintro e w6 ⟨e6, L6, q6, og6, rfl, hS6, hM6, hr6⟩
                  obtain ⟨r1, r2⟩ := HAF.out e6 L6 q6 (HRD.out.trans hr6)
                  have R1 := Lib.hid r1
                  have R2 := Lib.hid r2
                  have HS6 := Lib.hid hS6
                  have HM6 := Lib.hid (HM5.out.trans hM6)
                  clear hS6 hM6 hr6 r1 r2 g5
                  go_wp2
                  go_roundg f
                  case measure => omega
                  case rel => exact ⟨v1, q6, L6, og6, e6, rfl, HS6, HM6, R1, R2⟩
                · have de5 : (e5 == 0) = false := by simpa using he5
                  obtain ⟨r1, r2⟩ := HAF.out e5 L q5 (by rw [HRD.out, run_off he5, run_off he5])
                  have R1 := Lib.hid r1
                  have R2 := Lib.hid r2
                  clear r1 r2 he5
                  go_wp2
                  go_roundg f
                  case measure => omega
                  case rel => exact ⟨v1, q5, L, og, e5, rfl, HS5, HM5, R1, R2⟩
              · have c1 : ((v2 : Int) == 1) = false := by simp; omega
                have c2 : ((v2 : Int) == 2) = false := by simp; omega
                have c3 : ((v2 : Int) == 3) = true := by simp; omega
                have hr13 : R = .error 13 := by
                  rw [HK4.out, run_on]
                  refine bind_err ?_
                  rw [(blk_kind M F v2 L).2.2.2 (by omega)]; rfl
                have R13 := Lib.hid hr13
                have f3 := HS4.out.free 3
                clear hr13
                go_wp2
                go_roundg f
                case measure => omega
                case rel => exact ⟨v1, q2, L, og, 13, rfl, Lib.hid (HS4.out.met 13).1, Lib.hid (HM4.out.trans (HS4.out.met 13).2), Lib.hid (by rw [R13.out]; rfl), Lib.hid (fun e => absurd e (by decide))⟩
        · have de : (e3 != 0) = true := by simpa using he3
          have HE3 := Lib.hid he3
          clear he3
          go_wp2
          go_meet
          exact ⟨e3, L, q2, og, HS4.out, HM4.out, by rw [HK4.out, run_off HE3.out, run_off HE3.out]⟩
      · have HLE : Hid (R = run e1 (rPure L) s q) := Lib.hid (by
          rw [HK1.out]
          by_cases e : e1 = 0
          · unfold nxt; rw [if_pos (fun h => hend ⟨h, e⟩)]
          · rw [run_off e, run_off e])
        by_cases hl0 : last = 0
        · have dl : ((last : Int) == 0) = true := by simp; omega
          have de : (e1 == 0) = false := by
            rw [beq_eq_false_iff_ne]; exact fun h => hend ⟨hl0, h⟩
          clear hend hl0
          go_wp2
          go_meet
          exact ⟨e1, L, q, og, HS1.out, HM1.out, HLE.out⟩
        · have dl : ((last : Int) == 0) = false := by simp; omega
          clear hend hl0
          go_wp2
          go_meet
          exact ⟨e1, L, q, og, HS1.out, HM1.out, HLE.out⟩
  case rest =>
  obtain ⟨er, L, q, og, hS, hM, hR⟩ := hcut
  have hBf := HB.out.fresh hM.but (fun i hi => by
    unfold Foot at hi
    simp at hi
    omega)
  obtain ⟨w3, rfl⟩ : ∃ w3 : World, w3 = wc := ⟨_, rfl⟩
  have HBF := Lib.hid hBf
  have HRR := Lib.hid hR
  have g3 := hS.in3
  clear hM hBf hR HS HB HR2
  by_cases her : er = 0
  · subst her
    obtain ⟨A, c, hi, hown, _⟩ := hS.at
    have k0 : w3.cell? ⟨w.heap.size + 1, 0, none⟩ = some (.pointer (some ⟨w.heap.size, 0, none⟩)) := hi.cell 0
    have k1 : w3.cell? ⟨w.heap.size + 1, 1, none⟩ = some (.slice A L.length c) := hi.cell 1
    have k2 : w3.cell? ⟨w.heap.size, 1, none⟩ = some (.int .i64 q) := hS.rs.2.cell 1
    have hcv : ∀ n, (convert 33 9 (.slice A L.length c)).run Tryd.prog (w3.drewN n) = .ok (.string ⟨L.toArray⟩) (w3.drewN n) := fun n => own_text (ownsRow_but hown ((But.refl [] w3).drewN n) (by simp))
    have hcv0 := hcv 0
    have hq8 := hS.rs.1
    obtain ⟨y, hy⟩ : ∃ y, y = q + 7 := ⟨_, rfl⟩
    obtain ⟨z, hz⟩ : ∃ z, z = y / 8 := ⟨_, rfl⟩
    have a1 : (q : Int) + 7 = (y : Int) := by omega
    have a2 : IntKind.i64.wrap (y : Int) = (y : Int) := IntWalk.i64_in _ (by omega)
    have a3 : (y : Int) / 8 = (z : Int) := by omega
    have a4 : IntKind.i64.wrap (z : Int) = (z : Int) := IntWalk.i64_in _ (by omega)
    have hok : inflT s M = (L, z, 0) := by
      rw [inflT_ok (a := L) (q := q) (by rw [← HR.out, HRR.out]; rfl), hz, hy]
    have HOK := Lib.hid hok
    clear hS hi hown hy hz hq8 hok HRR
    go_wp2
    go_quiet (fail)
    go_wp2
    go_ret3
    exact ⟨by rw [HOK.out]; rfl, HBF.out.drewN nq⟩
  · have d2 : (er != 0) = true := by simpa using her
    have herr : inflT s M = ([], 0, er) := inflT_err (by rw [← HR.out, HRR.out, run_off her])
    have HER := Lib.hid herr
    clear her herr HRR hS
    go_wp2
    go_quiet (fail)
    go_wp2
    go_ret3
    exact ⟨by rw [HER.out]; rfl, HBF.out.drewN nq⟩
end
end Go.Proofs.YtobmghjpfkdooaaDoor
