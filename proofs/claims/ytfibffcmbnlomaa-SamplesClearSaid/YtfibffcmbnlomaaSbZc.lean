/- The walk of the statement on what is seen of a pixel. -/
import Derived.Test.YtfibffcmbnlomaaSbX
import Derived.Test.YtfibffcmbnlomaaRegZ
import Derived.BigQuiet
set_option maxRecDepth 100000
set_option linter.unusedVariables false
namespace Go.Proofs.Ytfibffcmbnlomaa
set_option maxRecDepth 100000
open Go Go.RowKit
/-- What the fourth number of a pixel of samples is. -/
def Seen (d c : Int) (has : Bool) (l : List Int) (al : Nat) : Prop :=
  (c = 0 ∨ c = 2) ∧ (al = 65535 ∨ al = 0 ∧ has = true) ∨ c = 3 ∧ (∃ t, t < 256 ∧ al = 257 * t ∧ (has = false → t = 255)) ∨ (c = 4 ∨ c = 6) ∧ 0 < l.length ∧ al = wideA (l.getD (l.length - 1) 0) d
theorem pixelA_seen (d c : Int) (pal tr : ByteArray) (has : Bool) (l : List Int) :
    pixelA d c pal tr has l = (⟨#[]⟩, 1) ∨ c = 3 ∧ pixelA d c pal tr has l = (⟨#[]⟩, 29) ∨ ∃ x y z al, al < 65536 ∧ pixelA d c pal tr has l = (px4 x y z al, 0) ∧ Seen d c has l al := by
  by_cases hb : samplesI c ≠ (l.length : Int) ∨ l.length = 0 ∨ depB d = false ∨ inR d.toNat l = false
  · exact .inl (pixelA_bad hb)
  right
  have h1 : samplesI c = (l.length : Int) := Classical.not_not.1 fun h => hb (.inl h)
  have h2 : 0 < l.length := Nat.pos_of_ne_zero fun h => hb (.inr (.inl h))
  have hd : depB d = true := by cases h : depB d; exact absurd (Or.inr (Or.inr (Or.inl h))) hb; rfl
  have hi : inR d.toNat l = true := by cases h : inR d.toNat l; exact absurd (Or.inr (Or.inr (Or.inr h))) hb; rfl
  obtain ⟨D, rfl, _, _, _⟩ := depB_nat hd
  have he := pixelA_ok (c := c) (pal := pal) (tr := tr) (has := has) rfl h1 h2 hd hi
  rw [he]
  have hal : alphaA D tr has l = 65535 ∨ alphaA D tr has l = 0 ∧ has = true := by
    unfold alphaA
    by_cases h : sameS D tr has l = true
    · rw [if_pos h]
      refine .inr ⟨rfl, ?_⟩
      cases has
      · rw [sameS_no (.inl rfl)] at h; cases h
      · rfl
    · rw [if_neg h]; exact .inl rfl
  have hal2 : alphaA D tr has l < 65536 := by omega
  rcases samplesI_cases h1 h2 with ⟨rfl, hn⟩ | ⟨rfl, hn⟩ | ⟨rfl, hn⟩ | ⟨rfl, hn⟩ | ⟨rfl, hn⟩
  · right
    refine ⟨wideA (l.getD 0 0) (D : Int), wideA (l.getD 0 0) (D : Int), wideA (l.getD 0 0) (D : Int), _, hal2, ?_, .inl ⟨.inl rfl, hal⟩⟩
    unfold pixA
    rw [if_pos rfl]
  · right
    refine ⟨wideA (l.getD 0 0) (D : Int), wideA (l.getD 1 0) (D : Int), wideA (l.getD 2 0) (D : Int), _, hal2, ?_, .inl ⟨.inr rfl, hal⟩⟩
    unfold pixA
    rw [if_neg (by decide), if_pos rfl]
  · by_cases hs : pal.size < 3 * (l.getD 0 0).toNat + 3
    · left
      refine ⟨rfl, ?_⟩
      unfold pixA
      rw [if_neg (by decide), if_neg (by decide), if_neg (by decide), if_neg (by decide), if_pos hs]
    · right
      have hp : ∃ t, t < 256 ∧ alphaP tr has (l.getD 0 0).toNat = 257 * t ∧ (has = false → t = 255) := by
        unfold alphaP
        by_cases h : has = true ∧ (l.getD 0 0).toNat < tr.size
        · rw [if_pos h]
          exact ⟨_, (tr.data.toList.getD (l.getD 0 0).toNat 0).toNat_lt, rfl, fun h3 => by rw [h3] at h; cases h.1⟩
        · rw [if_neg h]
          exact ⟨255, by decide, rfl, fun _ => rfl⟩
      refine ⟨257 * (pal.data.toList.getD (3 * (l.getD 0 0).toNat) 0).toNat, 257 * (pal.data.toList.getD (3 * (l.getD 0 0).toNat + 1) 0).toNat, 257 * (pal.data.toList.getD (3 * (l.getD 0 0).toNat + 2) 0).toNat, alphaP tr has (l.getD 0 0).toNat, ?_, ?_, .inr (.inl ⟨rfl, hp⟩)⟩
      · obtain ⟨t, h1, h2, _⟩ := hp; omega
      · unfold pixA
        rw [if_neg (by decide), if_neg (by decide), if_neg (by decide), if_neg (by decide), if_neg hs]
  · right
    refine ⟨wideA (l.getD 0 0) (D : Int), wideA (l.getD 0 0) (D : Int), wideA (l.getD 0 0) (D : Int), wideA (l.getD (l.length - 1) 0) (D : Int), wideA_lt _ _, ?_, .inr (.inr ⟨.inl rfl, h2, rfl⟩)⟩
    unfold pixA
    rw [if_neg (by decide), if_neg (by decide), if_pos rfl, hn]
  · right
    refine ⟨wideA (l.getD 0 0) (D : Int), wideA (l.getD 1 0) (D : Int), wideA (l.getD 2 0) (D : Int), wideA (l.getD (l.length - 1) 0) (D : Int), wideA_lt _ _, ?_, .inr (.inr ⟨.inr rfl, h2, rfl⟩)⟩
    unfold pixA
    rw [if_neg (by decide), if_neg (by decide), if_neg (by decide), if_pos rfl, hn]
theorem px4_size (x y z al : Nat) : (px4 x y z al).size = 8 := by unfold px4; rw [strL_size]; rfl
theorem px4_drop (x y z al : Nat) : (px4 x y z al).data.toList.drop 6 = twoB al := by unfold px4; rw [strL_list]; rfl
attribute [local irreducible] packA pixelA px4 wideA
set_option maxHeartbeats 4000000 in
theorem samplesClear_walk (haw : Awk11) {a b c d e0 : Int} {pal tr : ByteArray} {has : Bool} {A : Option Addr} {len cap : Nat} {l : List Int} {w : World} (hp : pal.size ≤ 140737488351232) (ht : tr.size ≤ 140737488351232) (hl : Zs w A len l) (hb : len * 8 ≤ 140737488351232) (hcap : len ≤ cap) (hnil : A = none → cap = 0) (hf : ZFit l) :
    Calls Try.prog 9 #[.agg #[.int .i64 a, .int .i64 b, .int .i64 d, .int .i64 c, .int .i64 e0, .string pal, .string tr, .bool has], .slice A len cap] w fun e w' => e = .returned (.bool true) ∧ Below w.heap.size w w' := by
  have HA := Lib.hid haw
  obtain ⟨b0, hb0⟩ : ∃ g, g = w.heap.size := ⟨_, rfl⟩
  have hB := (But.refl [] w).alloc (.cells #[.int .i64 a, .int .i64 b, .int .i64 d, .int .i64 c, .int .i64 e0, .string pal, .string tr, .bool has] 38)
  obtain ⟨w1, hw1⟩ : ∃ X, X = w.alloc (.cells #[.int .i64 a, .int .i64 b, .int .i64 d, .int .i64 c, .int .i64 e0, .string pal, .string tr, .bool has] 38) := ⟨_, rfl⟩
  have hI : Is w1 b0 38 #[.int .i64 a, .int .i64 b, .int .i64 d, .int .i64 c, .int .i64 e0, .string pal, .string tr, .bool has] := by rw [hw1, hb0]; exact Is.fresh _ _ _
  rw [← hw1] at hB
  have HB := Lib.hid hB
  have HC : Hid (∀ v, But [] w1 v → v.cell? ⟨b0, 0, none⟩ = some (.int .i64 a) ∧ v.cell? ⟨b0, 1, none⟩ = some (.int .i64 b) ∧ v.cell? ⟨b0, 2, none⟩ = some (.int .i64 d) ∧ v.cell? ⟨b0, 3, none⟩ = some (.int .i64 c) ∧ v.cell? ⟨b0, 4, none⟩ = some (.int .i64 e0) ∧ v.cell? ⟨b0, 5, none⟩ = some (.string pal) ∧ v.cell? ⟨b0, 6, none⟩ = some (.string tr) ∧ v.cell? ⟨b0, 7, none⟩ = some (.bool has) ∧ b0 < v.heap.size) := Lib.hid fun v hv => by
    have hh := hI.but hv (by simp)
    exact ⟨hh.cell 0, hh.cell 1, hh.cell 2, hh.cell 3, hh.cell 4, hh.cell 5, hh.cell 6, hh.cell 7, hh.lt⟩
  have HL : Hid (∀ v, But [] w1 v → Zs v A len l) := Lib.hid fun v hv => hl.but (hB.trans hv)
  have HLN := Lib.hid hl.1
  have c0 := hI.cell 0
  clear haw
  by_cases hbig : 100 < len
  · clear hl hnil hf hw1 hB hI hb0 c0
    go_enter Try.func9, Try.ntmps9
    go_wp2_with fail
    refine (HA.out.use _).mono ?_
    rintro e w4 ⟨rfl, hB4⟩
    have HB4 := Lib.hid (((But.refl [] w).alloc _).trans hB4)
    clear hB4
    go_wp2
    go_ret
    exact ⟨rfl, HB4.out.belowS⟩
  have HP0 : Hid (∀ v, But [] w1 v → Calls Try.prog 19 #[.agg #[.int .i64 a, .int .i64 b, .int .i64 d, .int .i64 c, .int .i64 e0, .string pal, .string tr, .bool has], .slice A len cap] v fun e w' => e = .returned (.tuple #[.string (pixelA d c pal tr has l).1, .int .i64 (pixelA d c pal tr has l).2]) ∧ But [] v w') := Lib.hid fun v h => ppixel_any v (HL.out v h) (by omega) hcap hp ht
  have hcases := pixelA_seen d c pal tr has l
  obtain ⟨r, hr⟩ : ∃ r, r = pixelA d c pal tr has l := ⟨_, rfl⟩
  rw [← hr] at HP0 hcases
  clear hr hf hl hB hI hnil
  rcases hcases with h | ⟨rfl, h⟩ | ⟨x, y, z, al, hal, h, hseen⟩
  · subst h
    go_enter Try.func9, Try.ntmps9
    go_upto_region 1 with (fail)
    rw [← hw1, ← hb0]
    clear c0 hw1 hb0
    obtain ⟨c0, c1, c2, c3, c4, c5, c6, c7, hgl⟩ := HC.out w1 (But.refl [] _)
    go_wp2_with fail
    refine (HP0.out _ (But.refl [] _)).mono ?_
    rintro e w2 ⟨rfl, hB2⟩
    have HB2 := Lib.hid hB2
    clear hB2 c0 c1 c2 c3 c4 c5 c6 c7 hgl
    obtain ⟨c0, c1, c2, c3, c4, c5, c6, c7, hgl⟩ := HC.out w2 HB2.out
    go_wp2_with fail
    refine (HA.out.use _).mono ?_
    rintro e w4 ⟨rfl, hB4⟩
    have HB4 := Lib.hid (HB.out.trans (HB2.out.trans hB4))
    clear hB4
    go_wp2
    go_ret
    exact ⟨rfl, HB4.out.belowS⟩
  · subst h
    go_enter Try.func9, Try.ntmps9
    go_upto_region 1 with (fail)
    rw [← hw1, ← hb0]
    clear c0 hw1 hb0
    obtain ⟨c0, c1, c2, c3, c4, c5, c6, c7, hgl⟩ := HC.out w1 (But.refl [] _)
    go_wp2_with fail
    refine (HP0.out _ (But.refl [] _)).mono ?_
    rintro e w2 ⟨rfl, hB2⟩
    have HB2 := Lib.hid hB2
    clear hB2 c0 c1 c2 c3 c4 c5 c6 c7 hgl
    obtain ⟨c0, c1, c2, c3, c4, c5, c6, c7, hgl⟩ := HC.out w2 HB2.out
    go_wp2_with fail
    refine (HA.out.use _).mono ?_
    rintro e w4 ⟨rfl, hB4⟩
    have HB4 := Lib.hid (HB.out.trans (HB2.out.trans hB4))
    clear hB4
    go_wp2
    go_ret
    exact ⟨rfl, HB4.out.belowS⟩
  · obtain ⟨p, hpx⟩ : ∃ p, p = px4 x y z al := ⟨_, rfl⟩
    have hps : p.size = 8 := by rw [hpx]; exact px4_size _ _ _ _
    obtain ⟨E, hE⟩ : ∃ E, E = strL (twoB al) := ⟨_, rfl⟩
    have kc : ∀ W, (Instr.slice 9 (.string p) (some (.int .i64 6)) none none).run Try.prog W = .ok (.string E) W := fun W => by
      have h := cut_fromS p (i := 6) W (by rw [hps]; decide)
      rw [hpx, px4_drop, ← hpx, ← hE] at h
      exact h
    have hEs : E.size = 2 := by rw [hE, strL_size]; rfl
    obtain ⟨y0, hy0⟩ : ∃ z, z = al / 256 := ⟨_, rfl⟩
    obtain ⟨y1, hy1⟩ : ∃ z, z = al % 256 := ⟨_, rfl⟩
    have y0l : y0 < 256 := by omega
    have y1l : y1 < 256 := by omega
    have i0 : ∀ W, (Instr.index 9 (.string E) (.int .i64 0)).run Try.prog W = .ok (.int .u8 (y0 : Nat)) W := fun W => by
      have h := byteR_run (s := E) (k := 0) (by rw [hEs]; decide) W
      rw [← getD_byte E (k := 0) (by rw [hEs]; decide), hE, strL_list, ← hE] at h
      have e : ((twoB al).getD 0 0).toNat = y0 := by show (UInt8.ofNat (al / 256)).toNat = y0; rw [UInt8.toNat_ofNat', hy0]; omega
      rw [e] at h
      exact h
    have i1 : ∀ W, (Instr.index 9 (.string E) (.int .i64 1)).run Try.prog W = .ok (.int .u8 (y1 : Nat)) W := fun W => by
      have h := byteR_run (s := E) (k := 1) (by rw [hEs]; decide) W
      rw [← getD_byte E (k := 1) (by rw [hEs]; decide), hE, strL_list, ← hE] at h
      have e : ((twoB al).getD 1 0).toNat = y1 := by show (UInt8.ofNat al).toNat = y1; rw [UInt8.toNat_ofNat', hy1]
      rw [e] at h
      exact h
    have wy0 := wrapI_in (show y0 < 1000000000000000 by omega)
    have wy1 := wrapI_in (show y1 < 1000000000000000 by omega)
    rw [← hpx] at h
    subst h
    have HE := Lib.hid hE
    have HY0 := Lib.hid hy0
    have HY1 := Lib.hid hy1
    have HALL := Lib.hid hal
    clear hpx hE hy0 hy1 hal
    rcases hseen with ⟨hc, ha⟩ | ⟨rfl, tt, htt, hat, hh⟩ | ⟨hc, hl0, ha⟩
    · rcases ha with rfl | ⟨rfl, rfl⟩
      · obtain rfl : (⟨#[255, 255]⟩ : ByteArray) = E := by rw [HE.out]; decide
        clear i0 i1 wy0 wy1 HY0 HY1 HE hEs
        rcases hc with rfl | rfl
        · go_enter Try.func9, Try.ntmps9
          go_upto_region 1 with (fail)
          rw [← hw1, ← hb0]
          clear c0 hw1 hb0
          obtain ⟨c0, c1, c2, c3, c4, c5, c6, c7, hgl⟩ := HC.out w1 (But.refl [] _)
          go_wp2_with fail
          refine (HP0.out _ (But.refl [] _)).mono ?_
          rintro e w2 ⟨rfl, hB2⟩
          have HB2 := Lib.hid hB2
          clear hB2 c0 c1 c2 c3 c4 c5 c6 c7 hgl
          obtain ⟨c0, c1, c2, c3, c4, c5, c6, c7, hgl⟩ := HC.out w2 HB2.out
          go_wp2_with fail
          refine (HA.out.use _).mono ?_
          rintro e w4 ⟨rfl, hB4⟩
          have HB4 := Lib.hid (HB.out.trans (HB2.out.trans hB4))
          clear hB4
          go_wp2
          go_ret
          exact ⟨rfl, HB4.out.belowS⟩
        · go_enter Try.func9, Try.ntmps9
          go_upto_region 1 with (fail)
          rw [← hw1, ← hb0]
          clear c0 hw1 hb0
          obtain ⟨c0, c1, c2, c3, c4, c5, c6, c7, hgl⟩ := HC.out w1 (But.refl [] _)
          go_wp2_with fail
          refine (HP0.out _ (But.refl [] _)).mono ?_
          rintro e w2 ⟨rfl, hB2⟩
          have HB2 := Lib.hid hB2
          clear hB2 c0 c1 c2 c3 c4 c5 c6 c7 hgl
          obtain ⟨c0, c1, c2, c3, c4, c5, c6, c7, hgl⟩ := HC.out w2 HB2.out
          go_wp2_with fail
          refine (HA.out.use _).mono ?_
          rintro e w4 ⟨rfl, hB4⟩
          have HB4 := Lib.hid (HB.out.trans (HB2.out.trans hB4))
          clear hB4
          go_wp2
          go_ret
          exact ⟨rfl, HB4.out.belowS⟩
      · obtain rfl : (⟨#[0, 0]⟩ : ByteArray) = E := by rw [HE.out]; decide
        clear i0 i1 wy0 wy1 HY0 HY1 HE hEs
        rcases hc with rfl | rfl
        · go_enter Try.func9, Try.ntmps9
          go_upto_region 1 with (fail)
          rw [← hw1, ← hb0]
          clear c0 hw1 hb0
          obtain ⟨c0, c1, c2, c3, c4, c5, c6, c7, hgl⟩ := HC.out w1 (But.refl [] _)
          go_wp2_with fail
          refine (HP0.out _ (But.refl [] _)).mono ?_
          rintro e w2 ⟨rfl, hB2⟩
          have HB2 := Lib.hid hB2
          clear hB2 c0 c1 c2 c3 c4 c5 c6 c7 hgl
          obtain ⟨c0, c1, c2, c3, c4, c5, c6, c7, hgl⟩ := HC.out w2 HB2.out
          go_wp2_with fail
          refine (HA.out.use _).mono ?_
          rintro e w4 ⟨rfl, hB4⟩
          have HB4 := Lib.hid (HB.out.trans (HB2.out.trans hB4))
          clear hB4
          go_wp2
          go_ret
          exact ⟨rfl, HB4.out.belowS⟩
        · go_enter Try.func9, Try.ntmps9
          go_upto_region 1 with (fail)
          rw [← hw1, ← hb0]
          clear c0 hw1 hb0
          obtain ⟨c0, c1, c2, c3, c4, c5, c6, c7, hgl⟩ := HC.out w1 (But.refl [] _)
          go_wp2_with fail
          refine (HP0.out _ (But.refl [] _)).mono ?_
          rintro e w2 ⟨rfl, hB2⟩
          have HB2 := Lib.hid hB2
          clear hB2 c0 c1 c2 c3 c4 c5 c6 c7 hgl
          obtain ⟨c0, c1, c2, c3, c4, c5, c6, c7, hgl⟩ := HC.out w2 HB2.out
          go_wp2_with fail
          refine (HA.out.use _).mono ?_
          rintro e w4 ⟨rfl, hB4⟩
          have HB4 := Lib.hid (HB.out.trans (HB2.out.trans hB4))
          clear hB4
          go_wp2
          go_ret
          exact ⟨rfl, HB4.out.belowS⟩
    · obtain rfl : tt = y0 := by rw [HY0.out, hat]; omega
      obtain rfl : tt = y1 := by rw [HY1.out, hat]; omega
      cases has with
      | true =>
        clear hh
        go_enter Try.func9, Try.ntmps9
        go_upto_region 1 with (fail)
        rw [← hw1, ← hb0]
        clear c0 hw1 hb0
        obtain ⟨c0, c1, c2, c3, c4, c5, c6, c7, hgl⟩ := HC.out w1 (But.refl [] _)
        go_wp2_with fail
        refine (HP0.out _ (But.refl [] _)).mono ?_
        rintro e w2 ⟨rfl, hB2⟩
        have HB2 := Lib.hid hB2
        clear hB2 c0 c1 c2 c3 c4 c5 c6 c7 hgl
        obtain ⟨c0, c1, c2, c3, c4, c5, c6, c7, hgl⟩ := HC.out w2 HB2.out
        go_upto_region 14 with (fail)
        refine wp_region_m (S := fun v => But [] w2 v) (R := fun v v' => But [] v v') (fun w => But.refl [] w) (by kernel_rfl) ((But.refl [] w2).drew) ?_
        refine wpM_take (fun w => But.refl [] w) (fun x y z h k => h.trans k) (i := 0) (v := .string E) rfl (by kernel_rfl) (by kernel_rfl) (by kernel_rfl) (fun _ _ _ h => h) (YieldsR.read (fun w => But.refl [] w) ?_ fun w hS => ?_) ?_
        · go_simp
        · go_simp
        refine wpM_take (fun w => But.refl [] w) (fun x y z h k => h.trans k) (i := 1) (v := .int .u8 (tt : Nat)) rfl (by kernel_rfl) (by kernel_rfl) (by kernel_rfl) (fun _ _ _ h => h) (YieldsR.read (fun w => But.refl [] w) ?_ fun w hS => ?_) ?_
        · go_simp
        · go_simp
        refine wpM_take (fun w => But.refl [] w) (fun x y z h k => h.trans k) (i := 2) (v := .string E) rfl (by kernel_rfl) (by kernel_rfl) (by kernel_rfl) (fun _ _ _ h => h) (YieldsR.read (fun w => But.refl [] w) ?_ fun w hS => ?_) ?_
        · go_simp
        · go_simp
        refine wpM_take (fun w => But.refl [] w) (fun x y z h k => h.trans k) (i := 3) (v := .int .u8 (tt : Nat)) rfl (by kernel_rfl) (by kernel_rfl) (by kernel_rfl) (fun _ _ _ h => h) (YieldsR.read (fun w => But.refl [] w) ?_ fun w hS => ?_) ?_
        · go_simp
        · go_simp
        refine wpM_take (fun w => But.refl [] w) (fun x y z h k => h.trans k) (i := 4) (v := .bool true) rfl (by kernel_rfl) (by kernel_rfl) (by kernel_rfl) (fun _ _ _ h => h) (YieldsR.read (fun w => But.refl [] w) ?_ fun w hS => ?_) ?_
        · go_simp
        · go_simp
        refine wpM_take (fun w => But.refl [] w) (fun x y z h k => h.trans k) (i := 5) (v := .bool true) rfl (by kernel_rfl) (by kernel_rfl) (by kernel_rfl) (fun _ _ _ h => h) (YieldsR.read (fun w => But.refl [] w) ?_ fun w hS => ?_) ?_
        · go_simp
        · go_simp
        refine wpM_take (fun w => But.refl [] w) (fun x y z h k => h.trans k) (i := 6) (v := .pointer (some ⟨b0, 7, none⟩)) rfl (by kernel_rfl) (by kernel_rfl) (by kernel_rfl) (fun _ _ _ h => h) (YieldsR.read (fun w => But.refl [] w) ?_ fun w hS => ?_) ?_
        · go_simp
        · go_simp
        refine wpM_take (fun w => But.refl [] w) (fun x y z h k => h.trans k) (i := 7) (v := .bool true) rfl (by kernel_rfl) (by kernel_rfl) (by kernel_rfl) (fun _ _ _ h => h) (YieldsR.read (fun w => But.refl [] w) ?_ fun w hS => ?_) ?_
        · go_simp
        · have y := (HC.out w (HB2.out.trans hS)).2.2.2.2.2.2.2.1; go_simp
        refine wpM_take (fun w => But.refl [] w) (fun x y z h k => h.trans k) (i := 8) (v := .bool true) rfl (by kernel_rfl) (by kernel_rfl) (by kernel_rfl) (fun _ _ _ h => h) (YieldsR.read (fun w => But.refl [] w) ?_ fun w hS => ?_) ?_
        · go_simp
        · go_simp
        refine wpM_take (fun w => But.refl [] w) (fun x y z h k => h.trans k) (i := 9) (v := undef) rfl (by kernel_rfl) (by kernel_rfl) (by kernel_rfl) (fun _ _ _ h => h) (.inr ⟨by kernel_rfl, rfl⟩) ?_
        refine wpM_take (fun w => But.refl [] w) (fun x y z h k => h.trans k) (i := 10) (v := undef) rfl (by kernel_rfl) (by kernel_rfl) (by kernel_rfl) (fun _ _ _ h => h) (.inr ⟨by kernel_rfl, rfl⟩) ?_
        refine wpM_take (fun w => But.refl [] w) (fun x y z h k => h.trans k) (i := 11) (v := .bool true) rfl (by kernel_rfl) (by kernel_rfl) (by kernel_rfl) (fun _ _ _ h => h) (YieldsR.read (fun w => But.refl [] w) ?_ fun w hS => ?_) ?_
        · go_simp
        · go_simp
        refine wpM_take (fun w => But.refl [] w) (fun x y z h k => h.trans k) (i := 12) (v := .bool true) rfl (by kernel_rfl) (by kernel_rfl) (by kernel_rfl) (fun _ _ _ h => h) (YieldsR.read (fun w => But.refl [] w) ?_ fun w hS => ?_) ?_
        · go_simp
        · go_simp
        refine wpM_take (fun w => But.refl [] w) (fun x y z h k => h.trans k) (i := 13) (v := .bool true) rfl (by kernel_rfl) (by kernel_rfl) (by kernel_rfl) (fun _ _ _ h => h) (YieldsR.read (fun w => But.refl [] w) ?_ fun w hS => ?_) ?_
        · go_simp
        · go_simp
        refine wpM_take (fun w => But.refl [] w) (fun x y z h k => h.trans k) (i := 14) (v := .bool true) rfl (by kernel_rfl) (by kernel_rfl) (by kernel_rfl) (fun _ _ _ h => h) (.inl ⟨?_, fun w hS => .inr ⟨_, _, ?_, (HA.out.use w).mono ?_⟩⟩) ?_
        · go_simp
        · go_simp
        · rintro e wy ⟨rfl, hB⟩; exact ⟨rfl, hS.trans hB, hB⟩
        refine wpM_take (fun w => But.refl [] w) (fun x y z h k => h.trans k) (i := 15) (v := .bool true) rfl (by kernel_rfl) (by kernel_rfl) (by kernel_rfl) (fun _ _ _ h => h) (YieldsR.read (fun w => But.refl [] w) ?_ fun w hS => ?_) ?_
        · go_simp
        · go_simp
        refine wpM_take (fun w => But.refl [] w) (fun x y z h k => h.trans k) (i := 16) (v := .bool true) rfl (by kernel_rfl) (by kernel_rfl) (by kernel_rfl) (fun _ _ _ h => h) (YieldsR.read (fun w => But.refl [] w) ?_ fun w hS => ?_) ?_
        · go_simp
        · go_simp
        refine ⟨by kernel_rfl, fun w9 hR9 hS9 => ?_⟩
        have HB9 := Lib.hid (HB.out.trans (HB2.out.trans hS9))
        clear hR9 hS9
        go_simp
        go_wp2
        go_ret
        exact ⟨rfl, HB9.out.belowS⟩
      | false =>
        obtain rfl : 255 = tt := (hh rfl).symm
        obtain rfl : 65535 = al := by rw [hat]
        obtain rfl : (⟨#[255, 255]⟩ : ByteArray) = E := by rw [HE.out]; decide
        clear hh
        go_enter Try.func9, Try.ntmps9
        go_upto_region 1 with (fail)
        rw [← hw1, ← hb0]
        clear c0 hw1 hb0
        obtain ⟨c0, c1, c2, c3, c4, c5, c6, c7, hgl⟩ := HC.out w1 (But.refl [] _)
        go_wp2_with fail
        refine (HP0.out _ (But.refl [] _)).mono ?_
        rintro e w2 ⟨rfl, hB2⟩
        have HB2 := Lib.hid hB2
        clear hB2 c0 c1 c2 c3 c4 c5 c6 c7 hgl
        obtain ⟨c0, c1, c2, c3, c4, c5, c6, c7, hgl⟩ := HC.out w2 HB2.out
        go_upto_region 14 with (fail)
        refine wp_region_m (S := fun v => But [] w2 v) (R := fun v v' => But [] v v') (fun w => But.refl [] w) (by kernel_rfl) ((But.refl [] w2).drew) ?_
        refine wpM_take (fun w => But.refl [] w) (fun x y z h k => h.trans k) (i := 0) (v := .string ⟨#[255, 255]⟩) rfl (by kernel_rfl) (by kernel_rfl) (by kernel_rfl) (fun _ _ _ h => h) (YieldsR.read (fun w => But.refl [] w) ?_ fun w hS => ?_) ?_
        · go_simp
        · go_simp
        refine wpM_take (fun w => But.refl [] w) (fun x y z h k => h.trans k) (i := 1) (v := .int .u8 255) rfl (by kernel_rfl) (by kernel_rfl) (by kernel_rfl) (fun _ _ _ h => h) (YieldsR.read (fun w => But.refl [] w) ?_ fun w hS => ?_) ?_
        · go_simp
        · go_simp
        refine wpM_take (fun w => But.refl [] w) (fun x y z h k => h.trans k) (i := 2) (v := .string ⟨#[255, 255]⟩) rfl (by kernel_rfl) (by kernel_rfl) (by kernel_rfl) (fun _ _ _ h => h) (YieldsR.read (fun w => But.refl [] w) ?_ fun w hS => ?_) ?_
        · go_simp
        · go_simp
        refine wpM_take (fun w => But.refl [] w) (fun x y z h k => h.trans k) (i := 3) (v := .int .u8 255) rfl (by kernel_rfl) (by kernel_rfl) (by kernel_rfl) (fun _ _ _ h => h) (YieldsR.read (fun w => But.refl [] w) ?_ fun w hS => ?_) ?_
        · go_simp
        · go_simp
        refine wpM_take (fun w => But.refl [] w) (fun x y z h k => h.trans k) (i := 4) (v := .bool true) rfl (by kernel_rfl) (by kernel_rfl) (by kernel_rfl) (fun _ _ _ h => h) (YieldsR.read (fun w => But.refl [] w) ?_ fun w hS => ?_) ?_
        · go_simp
        · go_simp
        refine wpM_take (fun w => But.refl [] w) (fun x y z h k => h.trans k) (i := 5) (v := .bool true) rfl (by kernel_rfl) (by kernel_rfl) (by kernel_rfl) (fun _ _ _ h => h) (YieldsR.read (fun w => But.refl [] w) ?_ fun w hS => ?_) ?_
        · go_simp
        · go_simp
        refine wpM_take (fun w => But.refl [] w) (fun x y z h k => h.trans k) (i := 6) (v := .pointer (some ⟨b0, 7, none⟩)) rfl (by kernel_rfl) (by kernel_rfl) (by kernel_rfl) (fun _ _ _ h => h) (YieldsR.read (fun w => But.refl [] w) ?_ fun w hS => ?_) ?_
        · go_simp
        · go_simp
        refine wpM_take (fun w => But.refl [] w) (fun x y z h k => h.trans k) (i := 7) (v := .bool false) rfl (by kernel_rfl) (by kernel_rfl) (by kernel_rfl) (fun _ _ _ h => h) (YieldsR.read (fun w => But.refl [] w) ?_ fun w hS => ?_) ?_
        · go_simp
        · have y := (HC.out w (HB2.out.trans hS)).2.2.2.2.2.2.2.1; go_simp
        refine wpM_take (fun w => But.refl [] w) (fun x y z h k => h.trans k) (i := 8) (v := .bool false) rfl (by kernel_rfl) (by kernel_rfl) (by kernel_rfl) (fun _ _ _ h => h) (YieldsR.read (fun w => But.refl [] w) ?_ fun w hS => ?_) ?_
        · go_simp
        · go_simp
        refine wpM_take (fun w => But.refl [] w) (fun x y z h k => h.trans k) (i := 9) (v := .string ⟨#[255, 255]⟩) rfl (by kernel_rfl) (by kernel_rfl) (by kernel_rfl) (fun _ _ _ h => h) (YieldsR.read (fun w => But.refl [] w) ?_ fun w hS => ?_) ?_
        · go_simp
        · go_simp
        refine wpM_take (fun w => But.refl [] w) (fun x y z h k => h.trans k) (i := 10) (v := .bool true) rfl (by kernel_rfl) (by kernel_rfl) (by kernel_rfl) (fun _ _ _ h => h) (YieldsR.read (fun w => But.refl [] w) ?_ fun w hS => ?_) ?_
        · go_simp
        · go_simp
        refine wpM_take (fun w => But.refl [] w) (fun x y z h k => h.trans k) (i := 11) (v := .bool true) rfl (by kernel_rfl) (by kernel_rfl) (by kernel_rfl) (fun _ _ _ h => h) (YieldsR.read (fun w => But.refl [] w) ?_ fun w hS => ?_) ?_
        · go_simp
        · go_simp
        refine wpM_take (fun w => But.refl [] w) (fun x y z h k => h.trans k) (i := 12) (v := .bool true) rfl (by kernel_rfl) (by kernel_rfl) (by kernel_rfl) (fun _ _ _ h => h) (YieldsR.read (fun w => But.refl [] w) ?_ fun w hS => ?_) ?_
        · go_simp
        · go_simp
        refine wpM_take (fun w => But.refl [] w) (fun x y z h k => h.trans k) (i := 13) (v := .bool true) rfl (by kernel_rfl) (by kernel_rfl) (by kernel_rfl) (fun _ _ _ h => h) (YieldsR.read (fun w => But.refl [] w) ?_ fun w hS => ?_) ?_
        · go_simp
        · go_simp
        refine wpM_take (fun w => But.refl [] w) (fun x y z h k => h.trans k) (i := 14) (v := .bool true) rfl (by kernel_rfl) (by kernel_rfl) (by kernel_rfl) (fun _ _ _ h => h) (.inl ⟨?_, fun w hS => .inr ⟨_, _, ?_, (HA.out.use w).mono ?_⟩⟩) ?_
        · go_simp
        · go_simp
        · rintro e wy ⟨rfl, hB⟩; exact ⟨rfl, hS.trans hB, hB⟩
        refine wpM_take (fun w => But.refl [] w) (fun x y z h k => h.trans k) (i := 15) (v := .bool true) rfl (by kernel_rfl) (by kernel_rfl) (by kernel_rfl) (fun _ _ _ h => h) (YieldsR.read (fun w => But.refl [] w) ?_ fun w hS => ?_) ?_
        · go_simp
        · go_simp
        refine wpM_take (fun w => But.refl [] w) (fun x y z h k => h.trans k) (i := 16) (v := .bool true) rfl (by kernel_rfl) (by kernel_rfl) (by kernel_rfl) (fun _ _ _ h => h) (YieldsR.read (fun w => But.refl [] w) ?_ fun w hS => ?_) ?_
        · go_simp
        · go_simp
        refine ⟨by kernel_rfl, fun w9 hR9 hS9 => ?_⟩
        have HB9 := Lib.hid (HB.out.trans (HB2.out.trans hS9))
        clear hR9 hS9
        go_simp
        go_wp2
        go_ret
        exact ⟨rfl, HB9.out.belowS⟩
    · obtain ⟨last, hlast⟩ : ∃ z, z = len - 1 := ⟨_, rfl⟩
      have hlen := HLN.out
      have el : (len : Int) - 1 = (last : Int) := by omega
      have vl := wrapI_in (show last < 1000000000000000 by omega)
      obtain ⟨x', hx'⟩ : ∃ x', l[last]? = some x' := ⟨_, List.getElem?_eq_getElem (by rw [hlen]; omega)⟩
      have ha2 : al = wideA x' d := by rw [ha, hlen, ← hlast, getD_of hx']
      have HW : Hid (∀ W, Calls Try.prog 17 #[.int .i64 x', .int .i64 d] W fun e w' => e = .returned (.int .i64 (al : Nat)) ∧ w' = W) := Lib.hid fun W => by
        rw [ha2]
        exact (swide_any W x' d).mono fun _ _ ⟨h1, h2⟩ => ⟨h1, h2.symm⟩
      have HEL : Hid (∀ v, But [] w1 v → ∃ g o, A = some ⟨g, o, none⟩ ∧ v.cell? ⟨g, o + last, none⟩ = some (.int .i64 x')) := Lib.hid fun v hv => by
        obtain ⟨g, o, y', hA0, hg, hy', k0⟩ := (HL.out v hv).at (i := last) (by omega)
        rw [hx'] at hy'
        obtain rfl : x' = y' := Option.some.inj hy'
        exact ⟨g, o, hA0, k0⟩
      obtain ⟨g, o, hA0, _⟩ := HEL.out w1 (But.refl [] _)
      subst hA0
      have HEC : Hid (∀ v, But [] w1 v → v.cell? ⟨g, o + last, none⟩ = some (.int .i64 x')) := Lib.hid fun v hv => by
        obtain ⟨g', o', e, h⟩ := HEL.out v hv
        injection e with e
        injection e with e1 e2
        rw [e1, e2]
        exact h
      have j0 : (0 : Int) ≤ (last : Int) := by omega
      have j1 : (last : Int) < (len : Int) := by omega
      have q0 : (al : Int).tdiv 256 = (y0 : Int) := by rw [Int.tdiv_eq_ediv_of_nonneg (by omega), HY0.out]; simp
      have q1 : (al : Int) / 256 = (y0 : Int) := by rw [HY0.out]; simp
      have q2 : (al : Int).tmod 256 = (y1 : Int) := by rw [Int.tmod_eq_emod_of_nonneg (by omega), HY1.out]; simp
      have q3 : (al : Int) % 256 = (y1 : Int) := by rw [HY1.out]; simp
      clear ha ha2 hx' hlast hlen hl0 HEL
      rcases hc with rfl | rfl
      · go_enter Try.func9, Try.ntmps9
        go_upto_region 1 with (fail)
        rw [← hw1, ← hb0]
        clear c0 hw1 hb0
        obtain ⟨c0, c1, c2, c3, c4, c5, c6, c7, hgl⟩ := HC.out w1 (But.refl [] _)
        go_wp2_with fail
        refine (HP0.out _ (But.refl [] _)).mono ?_
        rintro e w2 ⟨rfl, hB2⟩
        have HB2 := Lib.hid hB2
        clear hB2 c0 c1 c2 c3 c4 c5 c6 c7 hgl
        obtain ⟨c0, c1, c2, c3, c4, c5, c6, c7, hgl⟩ := HC.out w2 HB2.out
        have kx := HEC.out _ HB2.out
        go_upto_region 15 with (fail)
        go_quiet ((go_at_call 17; exact Calls.quiet_of_same (HW.out _)))
        go_wp2_with fail
        refine (HA.out.use _).mono ?_
        rintro e w4 ⟨rfl, hB4⟩
        have HB4 := Lib.hid (HB.out.trans ((HB2.out.drewN _).trans hB4))
        clear hB4
        go_wp2
        go_ret
        exact ⟨rfl, HB4.out.belowS⟩
      · go_enter Try.func9, Try.ntmps9
        go_upto_region 1 with (fail)
        rw [← hw1, ← hb0]
        clear c0 hw1 hb0
        obtain ⟨c0, c1, c2, c3, c4, c5, c6, c7, hgl⟩ := HC.out w1 (But.refl [] _)
        go_wp2_with fail
        refine (HP0.out _ (But.refl [] _)).mono ?_
        rintro e w2 ⟨rfl, hB2⟩
        have HB2 := Lib.hid hB2
        clear hB2 c0 c1 c2 c3 c4 c5 c6 c7 hgl
        obtain ⟨c0, c1, c2, c3, c4, c5, c6, c7, hgl⟩ := HC.out w2 HB2.out
        have kx := HEC.out _ HB2.out
        go_upto_region 15 with (fail)
        go_quiet ((go_at_call 17; exact Calls.quiet_of_same (HW.out _)))
        go_wp2_with fail
        refine (HA.out.use _).mono ?_
        rintro e w4 ⟨rfl, hB4⟩
        have HB4 := Lib.hid (HB.out.trans ((HB2.out.drewN _).trans hB4))
        clear hB4
        go_wp2
        go_ret
        exact ⟨rfl, HB4.out.belowS⟩
end Go.Proofs.Ytfibffcmbnlomaa
