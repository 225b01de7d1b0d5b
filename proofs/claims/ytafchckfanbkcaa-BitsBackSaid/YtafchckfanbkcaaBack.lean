/- The walk of the stage's theorem: what is laid is read by the same calls. -/
import Derived.Test.YtafchckfanbkcaaTrace
import Derived.Deep.CutBlock
namespace Go.Proofs.Ytafchckfanbkcaa
open Go Go.RowKit

theorem WSome.keep {w w' : World} {base b X N : Nat} (h : WSome w base b X N) (hB : But [] w w') : WSome w' base b X N := by
  obtain ⟨og, hW, hg, hb, hs⟩ := h
  exact ⟨og, hW.but hB (by simp) (by simp), hg, hb, Nat.le_trans hs hB.size⟩
theorem wrap_pow (m : Nat) (hm : m ≤ 24) : IntKind.i64.wrap (2 ^ m) = 2 ^ m := by
  have hp : 2 ^ m ≤ 2 ^ 24 := Nat.pow_le_pow_right (by decide) hm
  have e : ((2 : Int) ^ m) = ((2 ^ m : Nat) : Int) := by simp
  rw [e]
  generalize 2 ^ m = q at *
  exact IntWalk.i64_in _ (by omega)
theorem wrap_pow' (m : Nat) (hm : m ≤ 24) : IntKind.i64.wrap (2 ^ m - 1) = 2 ^ m - 1 := by
  have hp : 2 ^ m ≤ 2 ^ 24 := Nat.pow_le_pow_right (by decide) hm
  have e : ((2 : Int) ^ m) = ((2 ^ m : Nat) : Int) := by simp
  rw [e]
  generalize 2 ^ m = q at *
  exact IntWalk.i64_in _ (by omega)
theorem trace_le (ops : List (Bool × Int × Int)) (k : Nat) (hk : k < ops.length) : (trace ops (k + 1)).2 ≤ (trace ops k).2 + 407 := by
  rw [trace_succ ops k hk]
  unfold step
  split
  · exact bytesN_le _ _ _
  · exact layN_le _ _

set_option maxRecDepth 100000 in
set_option maxHeartbeats 2000000 in
theorem bitsBack_walk {A : Option Addr} {len cap : Nat} {ops : List (Bool × Int × Int)} {w : World} (ho : IsOps w A len cap ops) :
    Calls Try.prog 7 #[.slice A len cap] w fun e w' => e = .returned (.bool true) ∧ Below w.heap.size w w' := by
  obtain ⟨hol, hlc, hcm, hoc, hob⟩ := ho
  unfold maxLen at hcm
  obtain ⟨K, hK1, hK2, hK3⟩ : ∃ K, K ≤ len ∧ K ≤ 300 ∧ min len 300 ≤ K := ⟨min len 300, by omega, by omega, Nat.le_refl _⟩
  have hKl : K ≤ ops.length := by omega
  go_enter Try.func7, Try.ntmps7
  go_wp2_with fail
  refine (new_at w w.heap.size _ rfl).mono ?_
  rintro e w1 ⟨rfl, hW1, hB1, hs1⟩
  have hS1 : WSome w1 w.heap.size w.heap.size 0 0 := ⟨none, hW1, (fun g e => by cases e), Nat.le_refl _, by omega⟩
  clear hW1
  go_upto_block 0 with (fail)
  go_cut [] (fun wx => WSome wx w.heap.size w.heap.size (trace ops K).1 (trace ops K).2 ∧ (trace ops K).2 ≤ 407 * K ∧ But [] w wx)
  case first =>
    go_wp2_with fail
    go_loopw [4] (fun i wr => ∃ k : Nat, k ≤ K ∧ i = .int .i64 k ∧ WSome wr w.heap.size w.heap.size (trace ops k).1 (trace ops k).2 ∧ (trace ops k).2 ≤ 407 * k ∧ But [] w wr) (fun i _ => K - (intOf i).toNat)
    case atStart => exact ⟨0, Nat.zero_le _, rfl, hS1, Nat.zero_le _, hB1⟩
    case round =>
      obtain ⟨k, hk, rfl, hS, hN, hB⟩ := hrel
      clear hS1 hB1
      by_cases hlt : k < K
      · obtain ⟨g, o, rfl, hg, hc⟩ := hoc (by omega)
        have hko : k < ops.length := by omega
        obtain ⟨c0, c1, c2⟩ := hc k hko
        have hle := trace_le ops k hko
        have hts := trace_succ ops k hko
        generalize ops[k]'hko = q at *
        obtain ⟨wh, n, v⟩ := q
        have HT := Lib.hid hts
        have hk0 : 0 ≤ (k : Int) := by omega
        have hkl : (k : Int) < (len : Int) := by omega
        have hk3 : (k : Int) < 300 := by omega
        have d0 := (hB.belowNew.cell hg).trans c0
        have d1 := (hB.belowNew.cell hg).trans c1
        have d2 := (hB.belowNew.cell hg).trans c2
        clear hc c0 c1 c2 hoc hob hts
        cases wh
        · go_upto_region 7 with (fail)
          have hS2 := hS.keep ((But.refl [] wr).drew)
          have hB2 := hB.drew
          refine wp_region_still_tail 11 (by kernel_rfl) (by kernel_rfl) ?_
          simp only [List.take_succ_cons, List.take_zero, List.drop_succ_cons, List.drop_zero]
          have d1' : wr.drew.cell? ⟨g, o + k * 3 + 1, none⟩ = some (.int .i64 n) := d1
          have d2' : wr.drew.cell? ⟨g, o + k * 3 + 2, none⟩ = some (.int .i64 v) := d2
          change wpStill _ _ wr.drew (fun a' => wpList _ _ _ _ a' wr.drew) _ _
          generalize wr.drew = W1 at *
          clear d0 d1 d2 hS hB
          repeat still_step
          refine wpStill_nil ?_
          go_wp2_with fail
          refine (hS2.bits_at (by omega) v n (trace ops (k + 1)).1 (trace ops (k + 1)).2 (by rw [HT.out]; rfl) (by rw [HT.out]; rfl)).mono ?_
          rintro e w2 ⟨rfl, hS3, S3, hB3, hk3'⟩
          have hB4 := hB2.fresh hB3 hk3'
          go_wp2_with fail
          go_roundw
          case rel => exact ⟨k + 1, by omega, by go_num, hS3, by omega, hB4⟩
          case measure => simp [intOf]; omega
        · go_wp2_with fail
          refine (up_text true n v wr).mono ?_
          rintro e w1 ⟨rfl, hB1⟩
          have hs50 : (upText n v).size ≤ 70368744177664 := by rw [upText_size]; have := upLen_le n; omega
          go_wp2_with fail
          have hS2 := hS.keep hB1
          have hB2 := hB.trans hB1
          refine (hS2.bytes_at (by omega) _ hs50 (trace ops (k + 1)).1 (trace ops (k + 1)).2 (by rw [HT.out]; rfl) (by rw [HT.out]; rfl)).mono ?_
          rintro e w2 ⟨rfl, hS3, S3, hB3, hk3'⟩
          have hB4 := hB2.fresh hB3 hk3'
          clear hS hB hB1 hS2 hB2 hB3 d0 d1 d2
          go_wp2_with fail
          go_roundw
          case rel => exact ⟨k + 1, by omega, by go_num, hS3, by omega, hB4⟩
          case measure => simp [intOf]; omega
      · obtain rfl : k = K := by omega
        go_wp2_with fail
        all_goals (go_meet; exact ⟨hS, hN, hB⟩)
  case rest =>
    obtain ⟨hS, hN, hB⟩ := hcut
    clear hS1 hB1
    have hT : (textOf (trace ops K).1 (trace ops K).2).size ≤ 140737488355328 := by rw [textOf_size]; omega
    go_wp2_with fail
    refine (hS.text_at (by omega) _ rfl).mono ?_
    rintro e w2 ⟨rfl, hB2⟩
    have hB3 := hB.trans hB2
    clear hS hB hB2
    go_wp2_with fail
    refine (bits_read _ _).mono ?_
    rintro e w3 ⟨rfl, hR, hB4, hs4⟩
    have hB5 := hB3.trans hB4
    have hws := hB3.size
    obtain ⟨d, hd⟩ : ∃ d, d = w2.heap.size := ⟨_, rfl⟩
    rw [← hd] at hR hws ⊢
    clear hB3 hB4 hs4 hd
    have hTn := num_text (trace ops K).1 (trace ops K).2 (trace_lt ops K hKl)
    have hbits : ∀ (k : Nat) (hk : k < ops.length) (n v : Int), k < K → ops[k] = (false, n, v) → 0 ≤ n → n ≤ 24 → bitsErr (textOf (trace ops K).1 (trace ops K).2) (trace ops k).2 n = 0 ∧ bitsVal (textOf (trace ops K).1 (trace ops K).2) (trace ops k).2 n = (v % 2 ^ n.toNat).toNat ∧ bitsGo (textOf (trace ops K).1 (trace ops K).2) (trace ops k).2 n = (trace ops (k + 1)).2 :=
      fun k hk n v h1 h2 h3 h4 => back_bits hk hKl h1 h2 h3 h4
    have hbyts : ∀ (k : Nat) (hk : k < ops.length) (n v : Int), k < K → ops[k] = (true, n, v) → bytesErr (textOf (trace ops K).1 (trace ops K).2) (trace ops k).2 ((upText n v).size : Int) = 0 ∧ bytesVal (textOf (trace ops K).1 (trace ops K).2) (trace ops k).2 ((upText n v).size : Int) = upText n v ∧ bytesGo (textOf (trace ops K).1 (trace ops K).2) (trace ops k).2 ((upText n v).size : Int) = (trace ops (k + 1)).2 :=
      fun k hk n v h1 h2 => back_bytes hk hKl h1 h2
    have hleft := back_left ops K hKl
    have HBI := Lib.hid hbits
    have HBY := Lib.hid hbyts
    have HLE := Lib.hid hleft
    clear hbits hbyts hleft
    generalize textOf (trace ops K).1 (trace ops K).2 = T at *
    go_upto_block 2 with (fail)
    go_cut [] (fun wx => RS wx (d + 1) d T (trace ops K).2 ∧ But [] w wx)
    case first =>
      go_wp2_with fail
      go_loopw [6] (fun i wr => ∃ k : Nat, k ≤ K ∧ i = .int .i64 k ∧ RS wr (d + 1) d T (trace ops k).2 ∧ But [] w wr) (fun i _ => K - (intOf i).toNat)
      case atStart => exact ⟨0, Nat.zero_le _, rfl, hR, hB5⟩
      case round =>
        obtain ⟨k, hk, rfl, hR2, hB⟩ := hrel
        clear hR hB5
        by_cases hlt : k < K
        · obtain ⟨g, o, rfl, hg, hc⟩ := hoc (by omega)
          have hko : k < ops.length := by omega
          obtain ⟨c0, c1, c2⟩ := hc k hko
          have hts := trace_succ ops k hko
          have hb1 := HBI.out k hko
          have hb2 := HBY.out k hko
          generalize ops[k]'hko = q at *
          obtain ⟨wh, n, v⟩ := q
          have HT := Lib.hid hts
          have HB1 := Lib.hid hb1
          have HB2 := Lib.hid hb2
          have hk0 : 0 ≤ (k : Int) := by omega
          have hkl : (k : Int) < (len : Int) := by omega
          have hk3 : (k : Int) < 300 := by omega
          have old : ∀ W : World, But [] w W → W.cell? ⟨g, o + k * 3, none⟩ = some (.bool wh) ∧ W.cell? ⟨g, o + k * 3 + 1, none⟩ = some (.int .i64 n) ∧ W.cell? ⟨g, o + k * 3 + 2, none⟩ = some (.int .i64 v) :=
            fun W hB => ⟨(hB.belowNew.cell hg).trans c0, (hB.belowNew.cell hg).trans c1, (hB.belowNew.cell hg).trans c2⟩
          have OLD := Lib.hid old
          clear hc hoc hob hts hb1 hb2 old c0 c1 c2
          obtain ⟨d0, d1, d2⟩ := OLD.out _ hB
          cases wh
          · by_cases hn : n < 0 ∨ 24 < n
            · have hsame : (trace ops (k + 1)).2 = (trace ops k).2 := by
                rw [HT.out]
                unfold step layN
                simp only [Bool.false_eq_true, if_false]
                rw [if_pos hn]
              have HS := Lib.hid hsame
              clear hsame
              rcases hn with hn | hn
              · go_wp2_with fail
                go_roundw
                case rel => exact ⟨k + 1, by omega, by go_num, by rw [HS.out]; exact hR2, hB⟩
                case measure => simp [intOf]; omega
              · have hn0 : ¬ n < 0 := by omega
                go_wp2_with fail
                go_roundw
                case rel => exact ⟨k + 1, by omega, by go_num, by rw [HS.out]; exact hR2, hB⟩
                case measure => simp [intOf]; omega
            · obtain ⟨m, rfl⟩ := Int.eq_ofNat_of_zero_le (show 0 ≤ n by omega)
              have hm : m ≤ 24 := by omega
              have hn0 : ¬ (m : Int) < 0 := by omega
              have hn1 : ¬ (24 : Int) < (m : Int) := by omega
              obtain ⟨f1, f2, f3⟩ := HB1.out (m : Int) v hlt rfl (by omega) (by omega)
              obtain ⟨y, hy⟩ : ∃ y : Nat, y = (v % 2 ^ m).toNat := ⟨_, rfl⟩
              have hyv : ((bitsVal T (trace ops k).2 (m : Int) : Nat) : Int) = (y : Int) := by rw [f2, hy]; rfl
              have q1 : IntKind.i64.wrap (2 ^ m) = 2 ^ m := wrap_pow m hm
              have q2 : IntKind.i64.wrap (2 ^ m - 1) = 2 ^ m - 1 := wrap_pow' m hm
              have q3 : Go.bits .and .i64 v (2 ^ m - 1) = (y : Int) := by
                rw [i64_mask v m (by omega), hy]
                have hpos := Nat.two_pow_pos m
                have e : ((2 : Int) ^ m) = ((2 ^ m : Nat) : Int) := by simp
                have := Int.emod_nonneg v (show (2 : Int) ^ m ≠ 0 by omega)
                omega
              have F1 := Lib.hid f1
              have F3 := Lib.hid f3
              have HYV := Lib.hid hyv
              clear f1 f2 f3 hyv hy
              go_wp2_with fail
              refine (hR2.bits_at hT (m : Int) _ _ _ HYV.out F1.out F3.out).mono ?_
              rintro e w4 ⟨rfl, hR3, hB6⟩
              have hB7 := hB.fresh hB6 (by simp; omega)
              clear d0 d1 d2 hR2 hB hB6
              obtain ⟨d0, d1, d2⟩ := OLD.out _ hB7
              go_wp2_with fail
              go_quiet (fail)
              go_wp2_with fail
              go_roundw
              case rel => exact ⟨k + 1, by omega, by go_num, hR3.but ((But.refl [] w4).drewN _) (by simp) (by simp), hB7.drewN _⟩
              case measure => simp [intOf]; omega
          · obtain ⟨f1, f2, f3⟩ := HB2.out n v hlt rfl
            have F1 := Lib.hid f1
            have F2 := Lib.hid f2
            have F3 := Lib.hid f3
            clear f1 f2 f3
            go_wp2_with fail
            refine (up_text true n v wr).mono ?_
            rintro e w4 ⟨rfl, hB6⟩
            have hR3 := hR2.but hB6 (by simp) (by simp)
            have hB7 := hB.trans hB6
            clear hR2 hB hB6 d0 d1 d2
            go_wp2_with fail
            refine (hR3.bytes_at hT ((upText n v).size : Int) _ _ _ F2.out F1.out F3.out).mono ?_
            rintro e w5 ⟨rfl, hR4, hB8⟩
            have hB9 := hB7.fresh hB8 (by simp; omega)
            clear hR3 hB7 hB8
            obtain ⟨d0, d1, d2⟩ := OLD.out _ hB9
            go_wp2_with fail
            refine (up_text true n v w5).mono ?_
            rintro e w6 ⟨rfl, hB10⟩
            have hR5 := hR4.but hB10 (by simp) (by simp)
            have hB11 := hB9.trans hB10
            go_wp2_with fail
            go_roundw
            case rel => exact ⟨k + 1, by omega, by go_num, hR5, hB11⟩
            case measure => simp [intOf]; omega
        · obtain rfl : k = K := by omega
          go_wp2_with fail
          all_goals (go_meet; exact ⟨hR2, hB⟩)
    case rest =>
      obtain ⟨hR2, hB⟩ := hcut
      clear hR hB5
      obtain ⟨l7, l1, l2⟩ := HLE.out
      have hl := hR2.left hT
      generalize 8 * T.size - (trace ops K).2 = L at *
      have L1 := Lib.hid l1
      have L2 : Hid (((bitsVal T (trace ops K).2 (L : Int) : Nat) : Int) = 0) := Lib.hid (by rw [l2]; rfl)
      clear l1 l2 HLE
      go_wp2_with fail
      refine hl.mono ?_
      rintro e w4 ⟨rfl, nq, rfl⟩
      have hR3 := hR2.but ((But.refl [] wc).drewN nq) (by simp) (by simp)
      have hB3 := hB.drewN nq
      generalize wc.drewN nq = w4 at *
      clear hR2 hB hl
      go_wp2_with fail
      refine (hR3.bits_at hT (L : Int) _ _ _ L2.out L1.out rfl).mono ?_
      rintro e w5 ⟨rfl, hR4, hB4⟩
      have hB5 := hB3.fresh hB4 (by simp; omega)
      go_wp2_with (go_at_call 12; refine (awake_any _).mono ?_; rintro e w' ⟨rfl, hB6⟩)
      go_ret
      exact ⟨rfl, (hB5.trans hB6).belowNew⟩
end Go.Proofs.Ytafchckfanbkcaa
