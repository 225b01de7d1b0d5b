/- What tokens say: the program's Expand. -/
import Derived.Test.YtbdackcfedcmkaaLzG
set_option maxRecDepth 100000
set_option linter.unusedVariables false
namespace Go.Proofs.Ytbdackcfedcmkaa
set_option maxRecDepth 100000
open Go Go.RowKit

theorem lit_mat {t : T3} (h : litTk t = true) : rightTk t = true := by rw [right_or, h]; rfl
theorem ex_li {t : T3} (h : litTk t = true) (ts : List T3) (out : List UInt8) : exG (t :: ts) out = exG ts (out ++ [UInt8.ofNat t.2.2.toNat]) := by
  have h0 : t.1 = 0 := by unfold litTk at h; simp at h; exact h.1
  rw [exG, if_neg (by rw [lit_mat h]; simp), if_pos h0]
theorem ex_arg {t : T3} (h : rightTk t = false) (ts : List T3) (out : List UInt8) : exG (t :: ts) out = .error 1 := by rw [exG, if_pos h]
theorem mat_not {t : T3} (h : matTk t = true) : t.1 ≠ 0 := by unfold matTk at h; simp at h; omega
theorem ex_fa {t : T3} (h : matTk t = true) (ts : List T3) {out : List UInt8} (hf : (out.length : Int) < t.2.1) : exG (t :: ts) out = .error 15 := by
  rw [exG, if_neg (by rw [right_or, h]; simp), if_neg (mat_not h), if_pos hf]
theorem ex_ma {t : T3} (h : matTk t = true) (ts : List T3) {out : List UInt8} (hf : ¬ (out.length : Int) < t.2.1) : exG (t :: ts) out = exG ts (lzCopy t.2.1.toNat t.1.toNat out) := by
  rw [exG, if_neg (by rw [right_or, h]; simp), if_neg (mat_not h), if_neg hf]
/-- What Expand hands out. -/
def exVal (r : Except Int (List UInt8)) : Value := match r with
  | .ok out => .tuple #[.string ⟨out.toArray⟩, .int .i64 0]
  | .error e => .tuple #[.string ⟨#[]⟩, .int .i64 e]
theorem own_text' {w : World} {base : Nat} {v : Value} {L : List UInt8} (h : OwnB w base v L) : (convert 37 9 v).run Try.prog w = .ok (.string ⟨L.toArray⟩) w := by
  obtain ⟨A, c, rfl⟩ := h.shape
  rcases A with _ | a
  · have h0 : L = [] := by
      unfold OwnB at h
      rcases h.2 with ⟨e, e2⟩ | ⟨g, cap, cur, e, _⟩
      · exact List.eq_nil_of_length_eq_zero e2
      · injection e with e1; cases e1
    subst h0
    exact run_convert_bytes_nil w 37 5 Try.underlying37 Try.underlying5 _ _ 9 Try.underlying9
  · refine run_convert_bytes_back w 37 9 5 a c L Try.underlying37 Try.underlying5 Try.underlying9 (fun j hj => ?_)
    obtain ⟨g, e, _, hcell⟩ := h.byte hj
    obtain rfl : a = ⟨g, 0, none⟩ := by injection e
    have e2 : (⟨g, 0, none⟩ : Addr).add j = ⟨g, j, none⟩ := by unfold Addr.add; split <;> simp_all
    rw [e2, hcell, List.getD_eq_getElem?_getD, List.getElem?_eq_getElem hj]; rfl
theorem drop_at {L : List T3} {k : Nat} {t : T3} (h : L[k]? = some t) : L.drop k = t :: L.drop (k + 1) := by
  obtain ⟨h1, h2⟩ := List.getElem?_eq_some_iff.1 h
  rw [List.drop_eq_getElem_cons h1, h2]
theorem u8_of {b : Int} (h0 : 0 ≤ b) (h1 : b ≤ 255) : ((UInt8.ofNat b.toNat).toNat : Int) = b := by
  have h := UInt8.toNat_ofNat' (n := b.toNat)
  omega
set_option maxHeartbeats 2000000 in
theorem expand_any {w : World} {A : Option Addr} {n c : Nat} {L : List T3} (hT : Tks w A n L) (hn : n ≤ 20000) :
    Calls Try.prog 11 #[.slice A n c] w fun e w' => e = .returned (exVal (exG L [])) ∧ But [] w w' := by
  obtain ⟨i0, hi0, hz0, hz1, hz2⟩ := info_parts info_u8'
  have HT := Lib.hid hT
  have HLN := Lib.hid hT.1
  clear hT
  go_enter Try.func11, Try.ntmps11
  go_wp2
  go_loopw [4, 9] (fun ov kv wr => ∃ (k : Nat) (out : List UInt8), k ≤ n ∧ kv = .int .i64 k ∧ out.length ≤ 258 * k ∧ Hid (exG (L.drop k) out = exG L []) ∧ Hid (OwnB wr w.heap.size ov out) ∧ Hid (But [] w wr)) (fun _ kv _ => n - (intOf kv).toNat)
  case atStart => exact ⟨0, [], Nat.zero_le _, rfl, Nat.le_refl _, Lib.hid rfl, Lib.hid (OwnB.nil _ _), Lib.hid (But.refl _ _)⟩
  case round =>
    obtain ⟨k, out, hk, rfl, hol, HE, HO, HB⟩ := hrel
    by_cases hlt : k < n
    · obtain ⟨g, o, b, x, d, rfl, hg, c0, c1, c2, hlk⟩ := HT.out.at hlt
      have HDR := Lib.hid (drop_at hlk)
      have e0 := HB.out.cell c0 (by simp)
      have e1 := HB.out.cell c1 (by simp)
      have e2 := HB.out.cell c2 (by simp)
      have i0' : (0 : Int) ≤ (k : Int) := by omega
      have i1' : (k : Int) < (n : Int) := by omega
      have HB1 := Lib.hid (HB.out.alloc (.cells #[.int .i64 b, .int .i64 x, .int .i64 d] 34))
      have HO1 := Lib.hid (HO.out.but ((But.refl [] wr).alloc (.cells #[.int .i64 b, .int .i64 x, .int .i64 d] 34)))
      have HI1 := Lib.hid (Is.fresh wr 34 #[.int .i64 b, .int .i64 x, .int .i64 d])
      clear c0 c1 c2 hlk
      go_wp2_with fail
      refine (lit_any _ (x, d, b)).mono ?_
      rintro e w1 ⟨rfl, hB1⟩
      have HB2 := Lib.hid (HB1.out.fresh hB1 (by simp))
      have HO2 := Lib.hid (HO1.out.but hB1)
      have HI2 := Lib.hid (HI1.out.but hB1 (by simp))
      have hsz1 := HB1.out.size
      have hsz2 := hB1.size
      clear hB1 HB1 HO1 HI1 e0 e1 e2
      by_cases hli : litTk (x, d, b) = true
      · have hb : 0 ≤ b ∧ b ≤ 255 := by unfold litTk at hli; simp at hli; exact hli.2.2
        have HX := Lib.hid (show exG (L.drop (k + 1)) (out ++ [UInt8.ofNat b.toNat]) = exG L [] by rw [← HE.out, HDR.out, ex_li hli])
        rw [hli]
        have c0 : w1.cell? ⟨wr.heap.size, 0, none⟩ = some (.int .i64 b) := HI2.out.cell 0
        have hb8 := u8_of hb.1 hb.2
        obtain ⟨y, hy⟩ : ∃ y, y = UInt8.ofNat b.toNat := ⟨_, rfl⟩
        rw [← hy] at hb8 HX
        subst hb8
        have hyl := y.toNat_lt
        have hm8 : (y.toNat : Int) % 256 = (y.toNat : Int) := by omega
        clear hy hb hli
        go_wp2_with (at_builtin; refine wpList_append_own _ rfl _ _ 37 rfl w.heap.size 5 i0 (.int .u8 0) 1 1 Try.underlying37 hi0 hz0 hz1 hz2 rfl (by decide) _ out.length (bCells out) rfl (World.ownsRow.alloc HO2.out _) ⟨w1.heap.size, 0, none⟩ 1 1 [.int .u8 y.toNat] rfl rfl ?c1 ?c2 ?c3 ?c4 ?c5 ?_)
        case c1 => exact World.news_of_block (cs := #[.int .u8 y.toNat]) (t := 5) (fr := (0, 0)) (heap_alloc_new w1 _)
        case c2 => simp [Value.oneCell']
        case c3 => unfold maxLen; omega
        case c4 => omega
        case c5 => simp; omega
        intro v' w2 hown2 hgrow2 _
        have HP := Lib.hid (OwnB.pushed (x := y) HB2.out HO2.out hown2 hgrow2)
        clear hown2 hgrow2
        go_wp2
        go_roundw
        case rel => exact ⟨k + 1, out ++ [y], by omega, by go_num, by rw [List.length_append, List.length_singleton]; omega, HX, Lib.hid HP.out.1, Lib.hid HP.out.2⟩
        case measure => simp [intOf]; omega
      · have hli' : litTk (x, d, b) = false := by simpa using hli
        rw [hli']
        have c0 : w1.cell? ⟨wr.heap.size, 0, none⟩ = some (.int .i64 b) := HI2.out.cell 0
        have c1 : w1.cell? ⟨wr.heap.size, 1, none⟩ = some (.int .i64 x) := HI2.out.cell 1
        have c2 : w1.cell? ⟨wr.heap.size, 2, none⟩ = some (.int .i64 d) := HI2.out.cell 2
        go_wp2_with fail
        refine (mat_any _ (x, d, b)).mono ?_
        rintro e w2 ⟨rfl, hB2⟩
        have HB3 := Lib.hid (HB2.out.fresh hB2 (by simp))
        have HO3 := Lib.hid (HO2.out.but hB2)
        have HI3 := Lib.hid (HI2.out.but hB2 (by simp))
        clear hB2 HB2 HO2 HI2 hli c0 c1 c2
        by_cases hma : matTk (x, d, b) = true
        · have hb : b = 0 ∧ 3 ≤ x ∧ x ≤ 258 ∧ 1 ≤ d ∧ d ≤ 32768 := by unfold matTk at hma; simpa using hma
          rw [hma]
          obtain ⟨h0, h1, h2, h3, h4⟩ := hb
          have c2 : w2.cell? ⟨wr.heap.size, 2, none⟩ = some (.int .i64 d) := HI3.out.cell 2
          obtain ⟨AO, cO, rfl⟩ := HO.out.shape
          by_cases hf : (out.length : Int) < d
          · have d1 : decide ((out.length : Int) < d) = true := by simpa using hf
            have HX := Lib.hid (show Except.error 15 = exG L [] by rw [← HE.out, HDR.out, ex_fa hma _ hf])
            clear hma hli' hf
            go_wp2
            go_ret2
            exact ⟨by rw [← HX.out]; rfl, HB3.out⟩
          · have d1 : decide ((out.length : Int) < d) = false := by simpa using hf
            obtain ⟨X, rfl⟩ : ∃ X : Nat, x = X := ⟨x.toNat, by omega⟩
            obtain ⟨D, rfl⟩ : ∃ D : Nat, d = D := ⟨d.toNat, by omega⟩
            have HX := Lib.hid (show exG (L.drop (k + 1)) (lzCopy D X out) = exG L [] by rw [← HE.out, HDR.out, ex_ma hma _ hf]; simp)
            have c0 : w2.cell? ⟨wr.heap.size, 0, none⟩ = some (.int .i64 b) := HI3.out.cell 0
            have c1 : w2.cell? ⟨wr.heap.size, 1, none⟩ = some (.int .i64 X) := HI3.out.cell 1
            have HF := Lib.hid hf
            have HLC := Lib.hid (length_lzCopy D X out)
            have d2 : decide (out.length < D) = false := by simp; omega
            subst h0
            have hX1 : X ≤ 258 := by omega
            clear hma hli' hf
            go_wp2_with fail
            refine (repeat_tk (n := X) (d := D) (b := 0) HB3.out HO3.out (by omega) (by omega) (by have := HF.out; omega) (by omega)).mono ?_
            rintro e w3 ⟨v', rfl, hO4, hB4⟩
            have HO4 := Lib.hid hO4
            have HB4 := Lib.hid hB4
            clear hO4 hB4 c0 c1 c2
            go_wp2
            go_roundw
            case rel => exact ⟨k + 1, lzCopy D X out, by omega, by go_num, by rw [HLC.out]; omega, HX, HO4, HB4⟩
            case measure => simp [intOf]; omega
        · have hma' : matTk (x, d, b) = false := by simpa using hma
          rw [hma']
          have HX := Lib.hid (show Except.error 1 = exG L [] by rw [← HE.out, HDR.out, ex_arg (by rw [right_or, hli', hma']; rfl)])
          clear hma hma' hli'
          go_wp2
          go_ret2
          exact ⟨by rw [← HX.out]; rfl, HB3.out⟩
    · have e : k = n := by omega
      have HX := Lib.hid (show Except.ok out = exG L [] by
        have h := HE.out
        rw [List.drop_of_length_le (by rw [HLN.out]; omega)] at h
        exact h)
      have hcv := own_text' HO.out
      clear e
      go_wp2
      go_ret2
      exact ⟨by rw [← HX.out]; rfl, HB.out⟩
end Go.Proofs.Ytbdackcfedcmkaa
