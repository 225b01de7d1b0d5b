/- The document's stored blocks. -/
import Derived.Test.YtobmghjpfkdooaaDoorRfA
import Derived.Handy
import Derived.BigQuiet
namespace Go.Proofs.YtobmghjpfkdooaaDoor
set_option maxRecDepth 100000
open Go Go.RowKit

theorem wordOf_at {a : ByteArray} (h : a.size = 2) : wordOf a = (a[0]'(by omega)).toNat + 256 * (a[1]'(by omega)).toNat := by
  unfold wordOf
  have hz : a.data.toList.length = a.size := Array.length_toList
  rw [List.getD_eq_getElem?_getD, List.getD_eq_getElem?_getD, List.getElem?_eq_getElem (show 0 < a.data.toList.length by omega), List.getElem?_eq_getElem (show 1 < a.data.toList.length by omega), byte_at a 0 (by omega), byte_at a 1 (by omega)]
  simp only [Option.getD_some]
theorem wordOf_lt (a : ByteArray) : wordOf a < 65536 := by
  unfold wordOf
  have h1 := (a.data.toList.getD 0 0).toNat_lt
  have h2 := (a.data.toList.getD 1 0).toNat_lt
  omega
theorem parts_nat {x y n : Nat} (hx : x < 256) (hy : y < 256) (hn : n = x + 256 * y) : ∃ z : Nat, wrap64 (256 * (y : Int)) = (z : Int) ∧ wrap64 ((x : Int) + (z : Int)) = (n : Int) := by
  obtain ⟨z, hz⟩ : ∃ z : Nat, z = 256 * y := ⟨_, rfl⟩
  rw [← hz] at hn
  have e : (z : Int) = 256 * (y : Int) := by omega
  refine ⟨z, ?_, ?_⟩
  · rw [← e]; exact IntWalk.wrap64_in _ ⟨by omega, by omega⟩
  · exact (IntWalk.wrap64_in _ ⟨by omega, by omega⟩).trans (by omega)
theorem word_parts (a : ByteArray) (ha : a.size = 2) : ∃ z0 z1 zz n : Nat, wordOf a = n ∧ n < 65536 ∧ wrap64 (((a[0]'(by omega)).toNat : Nat) : Int) = (z0 : Int) ∧ wrap64 (((a[1]'(by omega)).toNat : Nat) : Int) = (z1 : Int) ∧
    wrap64 (256 * (z1 : Int)) = (zz : Int) ∧ wrap64 ((z0 : Int) + (zz : Int)) = (n : Int) := by
  have h := wordOf_at ha
  have hlt := wordOf_lt a
  have x0 := (a[0]'(by omega)).toNat_lt
  have x1 := (a[1]'(by omega)).toNat_lt
  obtain ⟨z, h1, h2⟩ := parts_nat x0 x1 h
  exact ⟨(a[0]'(by omega)).toNat, (a[1]'(by omega)).toNat, z, wordOf a, rfl, hlt, IntWalk.wrap64_in _ ⟨by omega, by omega⟩, IntWalk.wrap64_in _ ⟨by omega, by omega⟩, h1, h2⟩
theorem ne_word {m n : Nat} (hn : n < 65536) (h : m ≠ 65535 - n) : ((m : Int) != 65535 - (n : Int)) = true := by simp; omega
theorem eq_word {m n : Nat} (hn : n < 65536) (h : ¬ m ≠ 65535 - n) : ((m : Int) != 65535 - (n : Int)) = false := by simp; omega
attribute [local irreducible] wordOf
section
variable {w w' w1 : World} {b rb : Nat} {og : Option Nat} {s : ByteArray} {p q : Nat} {M er : Int} {L : List UInt8}
/-- The stream when its bytes have grown. -/
theorem SR.put (h : SR w b rb og s p M L er) {A A2 : Option Addr} {c k c2 : Nat} {w1 w2 : World} {L2 : List UInt8} (hB1 : But [] w w1)
    (hi : Is w b 46 #[.pointer (some ⟨rb, 0, none⟩), .slice A L.length c, .int .i64 M, .int .i64 er]) (hog : (Value.slice A L.length c).ownBlock = og)
    (hg : w1.grownBy w2 (Value.slice A L.length c).ownBlock) (ho : w2.ownsRow (b + 1) 5 1 (.slice A2 k c2) k (cellsOf L2)) (hk : L2.length = k)
    (hat : ∀ g, (Value.slice A2 k c2).ownBlock = some g → (Value.slice A L.length c).ownBlock = some g ∨ w.heap.size ≤ g) (hL2 : (L2.length : Int) ≤ max M 0) :
    SR (w2.setCell ⟨b, 1, none⟩ (.slice A2 k c2)) b rb (Value.slice A2 k c2).ownBlock s p M L2 er ∧ Mv b rb w (w2.setCell ⟨b, 1, none⟩ (.slice A2 k c2)) og (Value.slice A2 k c2).ownBlock := by
  have hout := h.out
  have hlt := h.lt
  have hr := h.hr
  subst hk
  have hB2 : But (b :: rb :: og.toList) w w2 := (hB1.more (by simp)).grown hg (fun g e => .inl (by rw [hog] at e; simp [e]))
  have hB3 : But og.toList w w2 := (hB1.more (by simp)).grown hg (fun g e => .inl (by rw [hog] at e; simp [e]))
  have hfar : ∀ x, x ≤ b → x ∉ og.toList := fun x hx hm => by
    have := (hout x (by simpa using hm)).1; omega
  have hB4 : But (b :: rb :: og.toList) w (w2.setCell ⟨b, 1, none⟩ (.slice A2 L2.length c2)) := hB2.setCell (.inl (by simp)) _
  have hB5 : But (b :: og.toList) w (w2.setCell ⟨b, 1, none⟩ (.slice A2 L2.length c2)) := (hB3.more (fun k hk => List.mem_cons_of_mem _ hk)).setCell (.inl (by simp)) _
  have hnb : ∀ x, x < b → x ∉ b :: og.toList := fun x hx hm => by
    rcases List.mem_cons.1 hm with e | e
    · omega
    · exact hfar x (by omega) e
  refine ⟨⟨h.rs.but hB5 (hnb rb hr), hr, h.hs, h.hM, hL2, _, ?_, ?_, rfl⟩, ⟨hB4, fun g e => ?_⟩⟩
  · simpa using (hi.but hB3 (hfar b (Nat.le_refl _))).put 1 (.slice A2 L2.length c2)
  · exact ownsRow_setCell_other ho (a := ⟨b, 1, none⟩) (out_neR ho) _
  · rcases hat g e with h1 | h1
    · exact .inl (hog ▸ h1)
    · exact .inr h1
/-- A method that tells nothing: what stands behind it. -/
def GotRU (w : World) (b rb : Nat) (og : Option Nat) (s : ByteArray) (p : Nat) (M : Int) (er : Int) (m : Rd (List UInt8)) (e : Ending) (w' : World) : Prop :=
  ∃ (er' : Int) (L' : List UInt8) (q : Nat) (og' : Option Nat), e = .returned (.tuple #[]) ∧ SR w' b rb og' s q M L' er' ∧ Mv b rb w w' og og' ∧ run er m s p = run er' (rPure L') s q
set_option maxHeartbeats 1000000 in
theorem rstored_any (h : SR w b rb og s p M L er) :
    Calls Tryd.prog 13 #[.pointer (some ⟨b, 0, none⟩)] w (GotRU w b rb og s p M er (storedR M L)) := by
  obtain ⟨R, hR⟩ : ∃ R, R = run er (storedR M L) s p := ⟨_, rfl⟩
  have hb := h.bytes 2 (by omega)
  have HR := Lib.hid hR
  have HB := Lib.hid hb
  clear hR hb h
  go_enter Tryd.func13, Tryd.ntmps13
  go_wp2_with fail
  refine HB.out.mono ?_
  rintro e w1 ⟨a, er1, q1, rfl, hS1, hM1, hr1, hz1⟩
  have hb := hS1.bytes 2 (by omega)
  have HB := Lib.hid hb
  have HM1 := Lib.hid hM1
  have HR1 := Lib.hid hr1
  have HZ1 := Lib.hid hz1
  clear hM1 hr1 hz1 hS1 hb
  go_wp2_with fail
  refine HB.out.mono ?_
  rintro e w2 ⟨c, er2, q2, rfl, hS2, hM2, hr2, hz2⟩
  have hk : R = run er2 (rWhen (wordOf c ≠ 65535 - wordOf a) 14 (rBind (rBytes (wordOf a)) fun x => rWhen (M < (L.length : Int) + (wordOf a : Nat)) 5 (rPure (L ++ x.data.toList)))) s q2 := by
    rw [HR.out]; exact (run_bind HR1.out).trans (run_bind hr2)
  have HM2 := Lib.hid (HM1.out.trans hM2)
  have HK := Lib.hid hk
  have h3 := hS2.in3
  by_cases her2 : er2 = 0
  · subst her2
    have her1 := hz2 rfl
    subst her1
    have her := HZ1.out rfl
    subst her
    have ha : a.size = 2 := by
      have h := HR1.out
      rw [run_on, run_on] at h
      have := bytes_len h
      rw [← this]; exact Array.length_toList.symm
    have hc : c.size = 2 := by
      rw [run_on, run_on] at hr2
      have := bytes_len hr2
      rw [← this]; exact Array.length_toList.symm
    obtain ⟨z0, z1, zz, n, hn, hna, f0, f1, f2, f3⟩ := word_parts a ha
    obtain ⟨v0, v1, vv, m, hm, hnc, g0, g1, g2, g3⟩ := word_parts c hc
    have HN := Lib.hid hn
    have HMM := Lib.hid hm
    have hk2 : R = run 0 (rWhen (m ≠ 65535 - n) 14 (rBind (rBytes n) fun x => rWhen (M < (L.length : Int) + (n : Nat)) 5 (rPure (L ++ x.data.toList)))) s q2 := by
      subst hn hm
      exact hk
    have HK := Lib.hid hk2
    clear hk2 hn hm hr2 hz2 hk hM2
    have e1 : wrap64 (65535 - (n : Int)) = 65535 - (n : Int) := IntWalk.wrap64_in _ ⟨by omega, by omega⟩
    by_cases hne : m ≠ 65535 - n
    · have d := ne_word hna hne
      have hk3 : R = .error 14 := by rw [HK.out, run_on, when_yes hne]
      have HK3 := Lib.hid hk3
      have HS2 := Lib.hid hS2
      have fr := hS2.free 3
      clear hne hk3 hS2 HR1 HZ1 HN HMM HK HB
      go_wp2
      go_quiet (fail)
      go_wp2
      go_quiet (fail)
      go_wp2
      go_returns
      exact ⟨14, L, q2, og, rfl, ((HS2.out.drewN _).met 14).1, (HM2.out.trans (Mv.drewN _)).trans ((HS2.out.drewN _).met 14).2, by rw [← HR.out, HK3.out]; rfl⟩
    · have d := eq_word hna hne
      have hk3 : R = run 0 (rBind (rBytes n) fun x => rWhen (M < (L.length : Int) + (n : Nat)) 5 (rPure (L ++ x.data.toList))) s q2 := by rw [HK.out, run_on, run_on, when_not hne]
      have HK3 := Lib.hid hk3
      have HS2 := Lib.hid hS2
      clear hne hk3 hS2 HR1 HZ1 HN HMM HK HB
      go_wp2
      go_quiet (fail)
      go_wp2
      go_quiet (fail)
      go_wp2_with fail
      refine ((HS2.out.drewN _).bytes n (by omega)).mono ?_
      rintro e w3 ⟨x, er3, q3, rfl, hS3, hM3, hr3, hz3⟩
      have hk4 : R = run er3 (rWhen (M < (L.length : Int) + (n : Nat)) 5 (rPure (L ++ x.data.toList))) s q3 := by
        rw [HK3.out]; exact run_bind hr3
      have HM3 := Lib.hid ((HM2.out.trans (Mv.drewN _)).trans hM3)
      have HK4 := Lib.hid hk4
      have h1 := hS3.in3
      have h2 := hS3.in2
      obtain ⟨A, cA, hi, hown, hog⟩ := hS3.at
      have h0 : w3.cell? ⟨b, 1, none⟩ = some (.slice A L.length cA) := hi.cell 1
      have fr := hS3.free 3
      have hLb : L.length ≤ 100000 := by have := hS3.hL; have := hS3.hM; omega
      have hLL := hS3.hL
      clear hM3 hk4 f0 f1 f2 g0 g1 g2 g3 e1 d HM2 HK3 HS2 h3
      by_cases her3 : er3 = 0
      · subst her3
        have hzx : x.size = n := by
          rw [run_on, run_on] at hr3
          have := bytes_len hr3
          rw [← this]; exact Array.length_toList.symm
        have HXL := Lib.hid hzx
        have hxb : x.size ≤ 65536 := by omega
        have e2 : wrap64 ((L.length : Int) + (n : Int)) = (L.length : Int) + (n : Int) := IntWalk.wrap64_in _ ⟨by omega, by omega⟩
        have HS3 := Lib.hid hS3
        clear hr3 hz3 hzx
        by_cases hbig : M < (L.length : Int) + (n : Int)
        · have d : decide (M < (L.length : Int) + (n : Int)) = true := by simpa using hbig
          have hk5 : R = .error 5 := by rw [HK4.out, run_on, when_yes hbig]
          have HK5 := Lib.hid hk5
          clear hbig hk5 hS3 hi hown hog HK4
          go_wp2
          go_quiet (fail)
          go_wp2
          go_returns
          exact ⟨5, L, q3, og, rfl, ((HS3.out.drewN _).met 5).1, (HM3.out.trans (Mv.drewN _)).trans ((HS3.out.drewN _).met 5).2, by rw [← HR.out, HK5.out]; rfl⟩
        · have d : decide (M < (L.length : Int) + (n : Int)) = false := by simpa using hbig
          have hk5 : R = run 0 (rPure (L ++ x.data.toList)) s q3 := by rw [HK4.out, run_on, run_on, when_not hbig]
          have HK5 := Lib.hid hk5
          have HBIG := Lib.hid hbig
          clear hbig hk5 hS3 hi hown hog HK4 h0 h1 h2 fr
          have h1' : ∀ k, (w3.drewN k).cell? ⟨b, 3, none⟩ = some (.int .i64 0) := fun k => (HS3.out.drewN k).in3
          have h1 := HS3.out.in3
          have h2 := HS3.out.in2
          obtain ⟨A, cA, hi, hown, hog⟩ := HS3.out.at
          have h0 : w3.cell? ⟨b, 1, none⟩ = some (.slice A L.length cA) := hi.cell 1
          have hlt := HS3.out.lt
          clear h1'
          have HI := Lib.hid hi
          have HOG := Lib.hid hog
          have HNE := Lib.hid (out_neR hown)
          have HOWN0 := Lib.hid hown
          clear hi hog hown
          go_wp2
          go_quiet (fail)
          have hS4 := HS3.out.drewN nq
          have HM4 := Lib.hid (HM3.out.trans (Mv.drewN nq))
          have HI4 := Lib.hid (HI.out.drewN nq)
          have hown : (w3.drewN nq).ownsRow (b + 1) 5 1 (.slice A L.length cA) L.length (cellsOf L) := HOWN0.out
          have k0 : (w3.drewN nq).cell? ⟨b, 1, none⟩ = some (.slice A L.length cA) := HI4.out.cell 1
          have k3 : (w3.drewN nq).cell? ⟨b, 3, none⟩ = some (.int .i64 0) := HI4.out.cell 3
          have hlt := hS4.lt
          have HS4 := Lib.hid hS4
          clear hS4 h0 h1 h2 HS3 HI HOWN0 HM3
          generalize w3.drewN nq = w4 at *
          obtain ⟨i0, hi0, hz0, hz1, hz2⟩ := info_parts info_u8
          go_wp2_with (at_builtin; go_loud (refine wpList_append_str _ rfl _ _ 33 9 rfl (b + 1) 5 i0 Tryd.underlying33 Tryd.underlying9 hi0 hz0 hz1 hz2 (.slice A L.length cA) L.length (cellsOf L) rfl hown x rfl (by omega) hlt ?_; intro A2 c2 w5 hown2 hgrow hat; have hi2 := HI4.out.grown hgrow (Ne.symm HNE.out); have g0 : w5.cell? ⟨b, 1, none⟩ = some (.slice A L.length cA) := hi2.cell 1; have g1 : w5.frozen? ⟨b, 1, none⟩ = false := hi2.free 1; have HOWN := Lib.hid hown2; have HGROW := Lib.hid hgrow; have HAT := Lib.hid hat; clear hi2 hown2 hgrow hat))
          go_returns
          have hl2 : (L ++ x.data.toList).length = L.length + x.size := by rw [List.length_append]; rfl
          have hp := HS4.out.put (L2 := L ++ x.data.toList) (But.refl [] _) HI4.out HOG.out HGROW.out (by rw [cellsOf_append]; exact HOWN.out) hl2 HAT.out (by have := HBIG.out; rw [hl2, HXL.out]; omega)
          exact ⟨0, _, q3, _, rfl, hp.1, HM4.out.trans hp.2, by rw [← HR.out, HK5.out]⟩
      · have d : (er3 == 0) = false := by simpa using her3
        have hk5 : R = .error er3 := by rw [HK4.out, run_off her3]
        have HK5 := Lib.hid hk5
        have HER := Lib.hid her3
        have HS3 := Lib.hid hS3
        clear her3 hk5 hS3 hi hown hog HK4 hr3 hz3
        go_wp2
        go_quiet (fail)
        go_wp2
        go_returns
        exact ⟨er3, L, q3, og, rfl, HS3.out.drewN _, HM3.out.trans (Mv.drewN _), by rw [← HR.out, HK5.out, run_off HER.out]⟩
  · have d : (er2 != 0) = true := by simpa using her2
    have HER := Lib.hid her2
    have HS2 := Lib.hid hS2
    clear her2 hS2 hr2 hz2 hk hM2
    go_wp2
    go_returns
    exact ⟨er2, L, q2, og, rfl, HS2.out, HM2.out, by rw [← HR.out, HK.out, run_off HER.out, run_off HER.out]⟩
end
end Go.Proofs.YtobmghjpfkdooaaDoor
