/- The document's filled bytes, layer 14. -/
import Derived.Test.YtgemmidkfeebfaaDoorHaJ
import Derived.Test.YtgemmidkfeebfaaDoorHaG
set_option maxRecDepth 100000
set_option linter.unusedVariables false
namespace Go.Proofs.YtgemmidkfeebfaaDoor
set_option maxRecDepth 100000
open Go Go.RowKit
theorem eight_at {z : Nat} (hz : z < 4294967296) : ∀ j, j < 8 → (eightL z).take (j + 1) = (eightL z).take j ++ [UInt8.ofNat (z / 2 ^ (8 * (7 - j)))] := by
  have h0 : ∀ q, 4294967296 ≤ q → z / q = 0 := fun q hq => Nat.div_eq_of_lt (by omega)
  have h1 : z / 4294967296 = 0 := h0 _ (Nat.le_refl _)
  intro j hj
  unfold eightL fourL
  rw [h1]
  match j, hj with
  | 0, _ => rw [h0 (2 ^ (8 * (7 - 0))) (by decide)]; rfl
  | 1, _ => rw [h0 (2 ^ (8 * (7 - 1))) (by decide)]; rfl
  | 2, _ => rw [h0 (2 ^ (8 * (7 - 2))) (by decide)]; rfl
  | 3, _ => rw [h0 (2 ^ (8 * (7 - 3))) (by decide)]; rfl
  | 4, _ => rfl
  | 5, _ => rfl
  | 6, _ => rfl
  | 7, _ => rw [show 2 ^ (8 * (7 - 7)) = 1 from rfl, Nat.div_one]; rfl
theorem eight_len (z : Nat) : (eightL z).length = 8 := by unfold eightL; rw [List.length_append, fourL_length, fourL_length]
/-- The bytes, 80, and so many noughts. -/
def preF (l : List UInt8) (q : Nat) : List UInt8 := l ++ (128 :: List.replicate q 0)
theorem preF_len (l : List UInt8) (q : Nat) : (preF l q).length = l.length + 1 + q := by unfold preF; rw [List.length_append, List.length_cons, List.length_replicate]; omega
theorem preF_next (l : List UInt8) (q : Nat) : preF l q ++ [0] = preF l (q + 1) := by
  unfold preF
  rw [List.replicate_succ', List.append_assoc, List.cons_append]
theorem preF_fill (l : List UInt8) : preF l (padN l.length) ++ (eightL (8 * l.length)).take 8 = fillT l := by
  rw [List.take_of_length_le (by rw [eight_len]; exact Nat.le_refl _)]
  unfold preF fillT
  rw [List.append_assoc, List.cons_append]
def lenV (v : Value) : Nat := match v with | .slice _ n _ => n | _ => 0
attribute [local irreducible] preF eightL padN
set_option maxHeartbeats 2000000 in
theorem efilled_any (w : World) (s : ByteArray) (hs : s.size ≤ 100000000) :
    Calls Tryd.prog 16 #[.string s] w fun e w' => ∃ g c, e = .returned (.slice (some ⟨g, 0, none⟩) (fillT s.data.toList).length c) ∧ w.heap.size ≤ g ∧ g < w'.heap.size ∧ (fillT s.data.toList).length ≤ c ∧ ByteRow w' (some ⟨g, 0, none⟩) (fillT s.data.toList).length (fillT s.data.toList) ∧ But [] w w' := by
  obtain ⟨hc1, hc2⟩ := OwnG.conv w s
  obtain ⟨c0, hc0⟩ : ∃ c, c = grownCap w s.size 0 5 := ⟨_, rfl⟩
  rw [← hc0] at hc1 hc2
  have hB1 := (But.refl [] w).drew.alloc (.cells (bytesRow s c0) 5 ((bytesRow s c0).size, (bytesRow s c0).size + 1))
  obtain ⟨W1, hW1⟩ : ∃ W, W = w.drew.alloc (.cells (bytesRow s c0) 5 ((bytesRow s c0).size, (bytesRow s c0).size + 1)) := ⟨_, rfl⟩
  rw [← hW1] at hc1 hc2 hB1
  obtain ⟨l, hl⟩ : ∃ l, l = s.data.toList := ⟨_, rfl⟩
  have hln : l.length = s.size := by rw [hl, Array.length_toList]; rfl
  rw [← hl] at hc2
  have HO := Lib.hid (hc2.but ((But.refl [] W1).alloc (.cells #[.int .u8 128] 5)))
  have HB := Lib.hid (hB1.alloc (.cells #[.int .u8 128] 5))
  have HLN := Lib.hid hln
  have HPL : Hid (∀ q, (preF l q).length = s.size + 1 + q) := Lib.hid fun q => by rw [preF_len, hln]
  have HPZ : Hid (l ++ [128] = preF l 0) := Lib.hid (by unfold preF; rfl)
  have HPF : Hid (preF l (padN s.size) ++ (eightL (8 * s.size)).take 8 = fillT l) := Lib.hid (by rw [← hln]; exact preF_fill l)
  have HFL : Hid ((fillT l).length = s.size + padN s.size + 9) := Lib.hid (by rw [(fillT_length l).2, hln])
  have HPD : Hid (∀ q, q ≤ padN s.size → ((s.size + 1 + q) % 64 = 56 ↔ q = padN s.size)) := Lib.hid fun q hq => by unfold padN at hq ⊢; omega
  have HP63 := Lib.hid (padN_lt s.size)
  have HE8 := Lib.hid (fun j hj => eight_at (z := 8 * s.size) (by omega) j hj)
  have HEL := Lib.hid (eight_len (8 * s.size))
  rw [← hl]
  clear hc0 hc2 hB1 hW1 hl hln
  go_enter Tryd.func16, Tryd.ntmps16
  go_wp2_with (at_builtin; refine wpList_append_gn (w0 := w) _ rfl _ _ rfl (.slice (some ⟨w.heap.size, 0, none⟩) s.size c0) s.size l rfl HLN.out HO.out HB.out 128 rfl (Is.fresh _ _ _) (by omega) ?_; intro g2 c2 w2 HO2 HB2)
  rw [HPZ.out] at HO2
  clear HO HB hc1
  go_loopw [3] (fun rv wr => ∃ (q m g c : Nat), Hid (q ≤ padN s.size) ∧ Hid (m = s.size + 1 + q) ∧ m ≤ 100000064 ∧ rv = .slice (some ⟨g, 0, none⟩) m c ∧ Hid (OwnG wr w.heap.size (.slice (some ⟨g, 0, none⟩) m c) (preF l q)) ∧ Hid (But [] w wr)) (fun rv _ => 100000164 - lenV rv)
  case atStart => exact ⟨0, s.size + 1, g2, c2, Lib.hid (Nat.zero_le _), Lib.hid rfl, by omega, rfl, HO2, HB2⟩
  case round =>
    clear HO2 HB2
    obtain ⟨q, m, g, c, HQ, HM, hm, rfl, HO, HB⟩ := hrel
    obtain ⟨r, hr⟩ : ∃ r, r = m % 64 := ⟨_, rfl⟩
    have e1 : (m : Int) % 64 = (r : Int) := by omega
    have e2 : (m : Int).tmod 64 = (r : Int) := by rw [Int.tmod_eq_emod_of_nonneg (by omega)]; omega
    have v1 := wrapI_in (show r < 1000000000000000 by omega)
    have HR := Lib.hid hr
    clear hr
    by_cases h56 : r = 56
    · have HQE : Hid (q = padN s.size) := Lib.hid ((HPD.out q HQ.out).1 (by rw [← HM.out, ← HR.out]; exact h56))
      have b1 : ((r : Int) == 56) = true := by rw [h56]; rfl
      have b2 : (r : Int) = 56 := by rw [h56]; rfl
      have HB2 := HB
      have HO2 : Hid (OwnG wr w.heap.size (.slice (some ⟨g, 0, none⟩) m c) (preF l (padN s.size) ++ (eightL (8 * s.size)).take 0)) := Lib.hid (by
        rw [List.take_zero, List.append_nil, ← HQE.out]; exact HO.out)
      have HM2 : Hid (m = s.size + 1 + padN s.size) := Lib.hid (by rw [← HQE.out]; exact HM.out)
      obtain ⟨z, hz⟩ : ∃ z, z = 8 * s.size := ⟨_, rfl⟩
      have ez : (8 : Int) * (s.size : Int) = (z : Int) := by omega
      have vz := wrapI_in (show z < 1000000000000000 by omega)
      have HZ := Lib.hid hz
      rw [← hz] at HO2 HE8 HEL HPF
      clear hz HO HQ HM HQE HPD
      go_upto_region 6 with (fail)
      clear b1 b2 h56 e1 e2 v1 ez vz HR
      have HBW := HB2
      obtain ⟨wv, rfl⟩ : ∃ W, W = wr := ⟨wr, rfl⟩
      go_loopw [3, 5] (fun rv iv wx => ∃ (j g c mm : Nat) (i : Int), j ≤ 8 ∧ iv = .int .i64 i ∧ Hid (i = 7 - (j : Int)) ∧ Hid (mm = m + j) ∧ mm ≤ 100000072 ∧ rv = .slice (some ⟨g, 0, none⟩) mm c ∧ Hid (OwnG wx w.heap.size (.slice (some ⟨g, 0, none⟩) mm c) (preF l (padN s.size) ++ (eightL z).take j)) ∧ Hid (But [] w wx)) (fun _ iv _ => (intOf iv + 1).toNat)
      case atStart => exact ⟨0, g, c, m, 7, Nat.zero_le _, rfl, Lib.hid rfl, Lib.hid rfl, by omega, rfl, HO2, HBW⟩
      case round =>
        clear HO2 HBW HB2 HB
        obtain ⟨j, g3, c3, mm, i, hj, rfl, HI, HMM, hmm, rfl, HO, HB⟩ := hrel
        by_cases hlt : j < 8
        · obtain ⟨i, rfl⟩ : ∃ k : Nat, i = (k : Int) := ⟨i.toNat, by have := HI.out; omega⟩
          have HIJ : Hid (i = 7 - j) := Lib.hid (by have := HI.out; omega)
          obtain ⟨e, he⟩ : ∃ e, e = 8 * i := ⟨_, rfl⟩
          have ee : (8 : Int) * (i : Int) = (e : Int) := by omega
          have hi7 : i ≤ 7 := by have := HIJ.out; omega
          have ve := wrapI_in (show e < 1000000000000000 by omega)
          obtain ⟨y, hy⟩ : ∃ y, y = z / 2 ^ e := ⟨_, rfl⟩
          obtain ⟨b, hb⟩ : ∃ b, b = UInt8.ofNat y := ⟨_, rfl⟩
          have f1 : (z : Int) / 2 ^ e = (y : Int) := by rw [hy]; simp
          have f2 : IntKind.u8.wrap (y : Int) = ((b.toNat : Nat) : Int) := by rw [hb, UInt8.toNat_ofNat', IntKind.wrap_u8]; omega
          have hz2 : z < 1000000000000000 := by have := HZ.out; omega
          have vy : IntKind.i64.wrap (y : Int) = (y : Int) := wrapI_in (by
            have : y ≤ z := by rw [hy]; exact Nat.div_le_self _ _
            omega)
          have HN : Hid ((preF l (padN s.size) ++ (eightL z).take j) ++ [b] = preF l (padN s.size) ++ (eightL z).take (j + 1)) := Lib.hid (by
            rw [HE8.out j hlt, hb, hy, he, HIJ.out, List.append_assoc])
          have HML : Hid ((preF l (padN s.size) ++ (eightL z).take j).length = mm) := Lib.hid (by
            rw [List.length_append, HPL.out, List.length_take, HEL.out, HMM.out, HM2.out]; omega)
          have hmm2 : mm + 1 ≤ 100000072 := by have h1 := HMM.out; have h2 := HM2.out; have h3 := HP63.out; omega
          have HI2 : Hid ((i : Int) - 1 = 7 - ((j + 1 : Nat) : Int)) := Lib.hid (by have := HI.out; omega)
          have HM3 : Hid (mm + 1 = m + (j + 1)) := Lib.hid (by rw [HMM.out]; omega)
          have HJ := Lib.hid hlt
          have HIw : Hid (0 ≤ (i : Int)) := Lib.hid (by omega)
          clear he hy hb hlt HI HMM
          go_wp2_with (at_builtin; refine wpList_append_gn (w0 := w) _ rfl _ _ rfl (.slice (some ⟨g3, 0, none⟩) mm c3) mm (preF l (padN s.size) ++ (eightL z).take j) rfl HML.out (HO.out.but ((But.refl [] wr).alloc _)) (HB.out.alloc _) b rfl (Is.fresh _ _ _) (by omega) ?_; intro g4 c4 w4 HO4 HB4)
          rw [HN.out] at HO4
          go_wp2
          go_roundw
          case rel => exact ⟨j + 1, g4, c4, mm + 1, (i : Int) - 1, by have := HJ.out; omega, rfl, HI2, HM3, hmm2, rfl, HO4, HB4⟩
          case measure => simp [intOf] <;> omega
        · have hj8 : j = 8 := by omega
          rw [hj8] at HO HI HMM
          have hi : i = -1 := by have := HI.out; omega
          have hneg : ¬ (0 : Int) ≤ i := by omega
          have HMF : Hid (mm = (fillT l).length) := Lib.hid (by rw [HMM.out, HM2.out, HFL.out]; omega)
          have HO5 : Hid (OwnG wr w.heap.size (.slice (some ⟨g3, 0, none⟩) mm c3) (fillT l)) := Lib.hid (by
            have h := HO.out
            rw [HPF.out] at h
            exact h)
          clear HI hi hj8 hlt HO
          go_wp2
          go_ret
          obtain ⟨g9, c9, e9, r1, r2, r3, r4⟩ := HO5.out.row
          rw [HMF.out] at e9 ⊢
          injection e9 with e1 e2 e3
          injection e1 with e1
          injection e1 with e1
          subst e1 e3
          exact ⟨g3, c3, rfl, r1, r2, r3, r4, HB.out⟩
    · have b1 : ((r : Int) == 56) = false := by simp; omega
      have b2 : ¬ (r : Int) = 56 := by omega
      have HQL : Hid (q + 1 ≤ padN s.size) := Lib.hid (by
        have h1 := HQ.out
        have h2 : ¬ q = padN s.size := fun e => h56 (by rw [HR.out, HM.out]; exact (HPD.out q h1).2 e)
        omega)
      have HMV : Hid (m + 1 = s.size + 1 + (q + 1)) := Lib.hid (by rw [HM.out]; omega)
      have hm2 : m + 1 ≤ 100000064 := by have h1 := HM.out; have h2 := HQL.out; have h3 := HP63.out; omega
      have HML : Hid ((preF l q).length = m) := Lib.hid (by rw [HPL.out, HM.out])
      go_wp2_with (at_builtin; refine wpList_append_gn (w0 := w) _ rfl _ _ rfl (.slice (some ⟨g, 0, none⟩) m c) m (preF l q) rfl HML.out (HO.out.but ((But.refl [] wr).alloc _)) (HB.out.alloc _) 0 rfl (Is.fresh _ _ _) (by omega) ?_; intro g3 c3 w3 HO3 HB3)
      rw [preF_next] at HO3
      go_wp2
      go_roundw
      case rel => exact ⟨q + 1, m + 1, g3, c3, HQL, HMV, hm2, rfl, HO3, HB3⟩
      case measure => simp [lenV] <;> omega
end Go.Proofs.YtgemmidkfeebfaaDoor
