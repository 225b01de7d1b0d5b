/- What tokens say: the document's Expand. -/
import Derived.Test.YtbdackcfedcmkaaLzH
set_option maxRecDepth 100000
set_option linter.unusedVariables false
namespace Go.Proofs.Ytbdackcfedcmkaa
set_option maxRecDepth 100000
open Go Go.RowKit

theorem ex_zero {t : T3} (hr : rightTk t = true) (h : t.1 = 0) (ts : List T3) (out : List UInt8) : exG (t :: ts) out = exG ts (out ++ [UInt8.ofNat t.2.2.toNat]) := by
  rw [exG, if_neg (by rw [hr]; simp), if_pos h]
theorem ex_far' {t : T3} (hr : rightTk t = true) (h : t.1 ≠ 0) (ts : List T3) {out : List UInt8} (hf : (out.length : Int) < t.2.1) : exG (t :: ts) out = .error 15 := by
  rw [exG, if_neg (by rw [hr]; simp), if_neg h, if_pos hf]
theorem ex_mat' {t : T3} (hr : rightTk t = true) (h : t.1 ≠ 0) (ts : List T3) {out : List UInt8} (hf : ¬ (out.length : Int) < t.2.1) : exG (t :: ts) out = exG ts (lzCopy t.2.1.toNat t.1.toNat out) := by
  rw [exG, if_neg (by rw [hr]; simp), if_neg h, if_neg hf]
set_option maxHeartbeats 2000000 in
theorem rexpand_any {w : World} {A : Option Addr} {n c : Nat} {L : List T3} (hT : Tks w A n L) (hn : n ≤ 20000) :
    Calls Try.prog 12 #[.slice A n c] w fun e w' => e = .returned (exVal (exG L [])) ∧ But [] w w' := by
  obtain ⟨i0, hi0, hz0, hz1, hz2⟩ := info_parts info_u8'
  have HT := Lib.hid hT
  have HLN := Lib.hid hT.1
  clear hT
  go_enter Try.func12, Try.ntmps12
  go_wp2
  go_loopw [4, 5] (fun ov kv wr => ∃ (k : Nat) (out : List UInt8), k ≤ n ∧ kv = .int .i64 k ∧ out.length ≤ 258 * k ∧ Hid (exG (L.drop k) out = exG L []) ∧ Hid (OwnB wr w.heap.size ov out) ∧ Hid (But [] w wr)) (fun _ kv _ => n - (intOf kv).toNat)
  case atStart => exact ⟨0, [], Nat.zero_le _, rfl, Nat.le_refl _, Lib.hid rfl, Lib.hid (OwnB.nil _ _), Lib.hid (But.refl _ _)⟩
  case round =>
    obtain ⟨k, out, hk, rfl, hol, HE, HO, HB⟩ := hrel
    obtain ⟨wo, rfl⟩ : ∃ wo : World, wo = wr := ⟨_, rfl⟩
    by_cases hlt : k < n
    · obtain ⟨g, o, b, x, d, rfl, hg, c0, c1, c2, hlk⟩ := HT.out.at hlt
      have HDR := Lib.hid (drop_at hlk)
      have e0 := HB.out.cell c0 (by simp)
      have e1 := HB.out.cell c1 (by simp)
      have e2 := HB.out.cell c2 (by simp)
      have i0' : (0 : Int) ≤ (k : Int) := by omega
      have i1' : (k : Int) < (n : Int) := by omega
      have HB1 := Lib.hid (HB.out.alloc (.cells #[.int .i64 b, .int .i64 x, .int .i64 d] 34))
      have HO1 := Lib.hid (HO.out.but ((But.refl [] wo).alloc (.cells #[.int .i64 b, .int .i64 x, .int .i64 d] 34)))
      have HI1 := Lib.hid (Is.fresh wo 34 #[.int .i64 b, .int .i64 x, .int .i64 d])
      have hszw := HB.out.size
      clear c0 c1 c2 hlk
      go_wp2_with fail
      refine (right_any _ (x, d, b)).mono ?_
      rintro e w1 ⟨rfl, hB1⟩
      have HB2 := Lib.hid (HB1.out.fresh hB1 (by simp))
      have HO2 := Lib.hid (HO1.out.but hB1)
      have HI2 := Lib.hid (HI1.out.but hB1 (by simp))
      have hsz1 := HB1.out.size
      have hsz2 := hB1.size
      clear hB1 HB1 HO1 HI1 e0 e1 e2
      have c0 : w1.cell? ⟨wo.heap.size, 0, none⟩ = some (.int .i64 b) := HI2.out.cell 0
      have c1 : w1.cell? ⟨wo.heap.size, 1, none⟩ = some (.int .i64 x) := HI2.out.cell 1
      have c2 : w1.cell? ⟨wo.heap.size, 2, none⟩ = some (.int .i64 d) := HI2.out.cell 2
      by_cases hr : rightTk (x, d, b) = true
      · rw [hr]
        by_cases hx : x = 0
        · subst hx
          have hb : 0 ≤ b ∧ b ≤ 255 := by unfold rightTk at hr; simp at hr; exact hr.2
          have HX := Lib.hid (show exG (L.drop (k + 1)) (out ++ [UInt8.ofNat b.toNat]) = exG L [] by rw [← HE.out, HDR.out, ex_zero hr rfl])
          have hb8 := u8_of hb.1 hb.2
          obtain ⟨y, hy⟩ : ∃ y, y = UInt8.ofNat b.toNat := ⟨_, rfl⟩
          rw [← hy] at hb8 HX
          subst hb8
          have hyl := y.toNat_lt
          have hm8 : (y.toNat : Int) % 256 = (y.toNat : Int) := by omega
          clear hy hb hr
          go_wp2_with (at_builtin; refine wpList_append_own _ rfl _ _ 37 rfl w.heap.size 5 i0 (.int .u8 0) 1 1 Try.underlying37 hi0 hz0 hz1 hz2 rfl (by decide) _ out.length (bCells out) rfl (World.ownsRow.alloc HO2.out _) ⟨w1.heap.size, 0, none⟩ 1 1 [.int .u8 y.toNat] rfl rfl ?c1 ?c2 ?c3 ?c4 ?c5 ?_)
          case c1 => exact World.news_of_block (cs := #[.int .u8 y.toNat]) (t := 5) (fr := (0, 0)) (heap_alloc_new w1 _)
          case c2 => simp [Value.oneCell']
          case c3 => unfold maxLen; omega
          case c4 => omega
          case c5 => simp; omega
          intro v' w2 hown2 hgrow2 _
          have HP := Lib.hid (OwnB.pushed (x := y) HB2.out HO2.out hown2 hgrow2)
          clear hown2 hgrow2
          go_wp2
          go_roundw
          case rel => exact ⟨k + 1, out ++ [y], by omega, by go_num, by rw [List.length_append, List.length_singleton]; omega, HX, Lib.hid HP.out.1, Lib.hid HP.out.2⟩
          case measure => simp [intOf]; omega
        · have hb : b = 0 ∧ 3 ≤ x ∧ x ≤ 258 ∧ 1 ≤ d ∧ d ≤ 32768 := by unfold rightTk at hr; rw [if_neg hx] at hr; simpa using hr
          obtain ⟨h0, h1, h2, h3, h4⟩ := hb
          subst h0
          obtain ⟨AO, cO, rfl⟩ := HO.out.shape
          obtain ⟨X, rfl⟩ : ∃ X : Nat, x = X := ⟨x.toNat, by omega⟩
          obtain ⟨D, rfl⟩ : ∃ D : Nat, d = D := ⟨d.toNat, by omega⟩
          have dx : ((X : Int) == 0) = false := by simp; omega
          have hX1 : X ≤ 258 := by omega
          by_cases hf : out.length < D
          · have d1 : decide ((out.length : Int) < (D : Int)) = true := by simp; omega
            have d2 : decide (out.length < D) = true := by simpa using hf
            have HX := Lib.hid (show Except.error 15 = exG L [] by rw [← HE.out, HDR.out, ex_far' hr hx _ (by dsimp only; omega)])
            clear hr hx hf
            go_wp2
            go_ret2
            exact ⟨by rw [← HX.out]; rfl, HB2.out⟩
          · have d1 : decide ((out.length : Int) < (D : Int)) = false := by simp; omega
            have d2 : decide (out.length < D) = false := by simp; omega
            have HX := Lib.hid (show exG (L.drop (k + 1)) (lzCopy D X out) = exG L [] by rw [← HE.out, HDR.out, ex_mat' hr hx _ (by dsimp only; omega)]; simp)
            have HLC := Lib.hid (length_lzCopy D X out)
            have hD1 : 1 ≤ D := by omega
            have HF : D ≤ out.length := by omega
            clear hr hx hf
            go_wp2
            go_loopw [4, 7] (fun ov kv wr => ∃ (j : Nat) (L1 : List UInt8), j ≤ X ∧ kv = .int .i64 j ∧ L1.length = out.length + j ∧ Hid (lzCopy D (X - j) L1 = lzCopy D X out) ∧ Hid (OwnB wr w.heap.size ov L1) ∧ Hid (But [] w wr) ∧ Hid (Is wr wo.heap.size 34 #[.int .i64 0, .int .i64 X, .int .i64 D])) (fun _ kv _ => X - (intOf kv).toNat)
            case atStart => exact ⟨0, out, Nat.zero_le _, rfl, rfl, Lib.hid rfl, HO2, HB2, HI2⟩
            case round =>
              obtain ⟨j, L1, hj, rfl, hL1, HC, HO3, HB3, HI3⟩ := hrel
              have e1 : wr.cell? ⟨wo.heap.size, 1, none⟩ = some (.int .i64 X) := HI3.out.cell 1
              have e2 : wr.cell? ⟨wo.heap.size, 2, none⟩ = some (.int .i64 D) := HI3.out.cell 2
              clear HO2 HB2 HI2 c0 c1 c2
              by_cases hlt2 : j < X
              · obtain ⟨A3, c3, rfl⟩ := HO3.out.shape
                obtain ⟨i, hie⟩ : ∃ i, i = L1.length - D := ⟨_, rfl⟩
                obtain ⟨g3, rfl, hg3, hcell⟩ := HO3.out.byte (i := i) (by omega)
                obtain ⟨y, hy⟩ : ∃ y, y = L1.getD i 0 := ⟨_, rfl⟩
                rw [← hy] at hcell
                have ei : ((L1.length : Int) - (D : Int)) = (i : Int) := by omega
                have b0 : (0 : Int) ≤ (i : Int) := by omega
                have b1 : (i : Int) < (L1.length : Int) := by omega
                have hsz3 := HB3.out.size
                have HCN := Lib.hid (show lzCopy D (X - (j + 1)) (L1 ++ [y]) = lzCopy D X out by
                  rw [← HC.out, show X - j = (X - (j + 1)) + 1 by omega, lzCopy, ← hie, ← hy])
                have HL1 := Lib.hid hL1
                have HLb : L1.length ≤ 10000258 := by omega
                clear hy hie hL1
                go_wp2_with (at_builtin; refine wpList_append_own _ rfl _ _ 37 rfl w.heap.size 5 i0 (.int .u8 0) 1 1 Try.underlying37 hi0 hz0 hz1 hz2 rfl (by decide) _ L1.length (bCells L1) rfl (World.ownsRow.alloc HO3.out _) ⟨wr.heap.size, 0, none⟩ 1 1 [.int .u8 y.toNat] rfl rfl ?d1 ?d2 ?d3 ?d4 ?d5 ?_)
                case d1 => exact World.news_of_block (cs := #[.int .u8 y.toNat]) (t := 5) (fr := (0, 0)) (heap_alloc_new wr _)
                case d2 => simp [Value.oneCell']
                case d3 => unfold maxLen; omega
                case d4 => omega
                case d5 => simp; omega
                intro v' w2 hown2 hgrow2 _
                have HP := Lib.hid (OwnB.pushed (x := y) HB3.out HO3.out hown2 hgrow2)
                have HI4 := Lib.hid ((HI3.out.alloc _).grown hgrow2 (HO3.out.ne HI3.out))
                clear hown2 hgrow2 hcell e1 e2
                go_wp2
                go_roundw
                case rel => exact ⟨j + 1, L1 ++ [y], by omega, by go_num, by have := HL1.out; rw [List.length_append, List.length_singleton]; omega, HCN, Lib.hid HP.out.1, Lib.hid HP.out.2, HI4⟩
                case measure => simp [intOf]; omega
              · have HLJ := Lib.hid (show L1 = lzCopy D X out by
                  have h := HC.out
                  rw [show X - j = 0 by omega] at h
                  exact h)
                have dj : decide (j < X) = false := by simp; omega
                go_wp2
                go_roundw
                case rel => exact ⟨k + 1, lzCopy D X out, by omega, by go_num, by rw [HLC.out]; omega, HX, by rw [← HLJ.out]; exact HO3, HB3⟩
                case measure => simp [intOf]; omega
      · have hr' : rightTk (x, d, b) = false := by simpa using hr
        rw [hr']
        have HX := Lib.hid (show Except.error 1 = exG L [] by rw [← HE.out, HDR.out, ex_arg hr'])
        clear hr hr'
        go_wp2
        go_ret2
        exact ⟨by rw [← HX.out]; rfl, HB2.out⟩
    · have e : k = n := by omega
      have HX := Lib.hid (show Except.ok out = exG L [] by
        have h := HE.out
        rw [List.drop_of_length_le (by rw [HLN.out]; omega)] at h
        exact h)
      have hcv := own_text' HO.out
      clear e
      go_wp2
      go_ret2
      exact ⟨by rw [← HX.out]; rfl, HB.out⟩
end Go.Proofs.Ytbdackcfedcmkaa
