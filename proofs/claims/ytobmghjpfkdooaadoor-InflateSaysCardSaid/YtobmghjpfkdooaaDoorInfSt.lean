/- The program's stored blocks. -/
import Derived.Test.YtobmghjpfkdooaaDoorInfZ
import Derived.Deep.RegionLaw
import Derived.Lib.AppendStr
import Derived.OwnWalk
namespace Go.Proofs.YtobmghjpfkdooaaDoor
set_option maxRecDepth 100000
open Go Go.RowKit

section
variable {w w' : World} {b rb db : Nat} {og : Option Nat} {s : ByteArray} {p : Nat} {M : Int} {L : List UInt8} {fs fd : Option Nat}
/-- A step told bytes, or an error. -/
def GotB (w : World) (b rb db : Nat) (og : Option Nat) (s : ByteArray) (M : Int) (L : List UInt8) (fs fd : Option Nat) (r : Except Int (ByteArray × Nat)) (e : Ending) (w' : World) : Prop :=
  ∃ (v : ByteArray) (er : Int) (q : Nat), e = .returned (.tuple #[.string v, .int .i64 er]) ∧ Mv b rb w w' og og ∧ (er ≠ 0 → r = .error er) ∧ (er = 0 → r = .ok (v, q) ∧ SS w' b rb db og s q M L fs fd)
theorem SS.bytes (h : SS w b rb db og s p M L fs fd) (n : Nat) :
    Calls Tryd.prog 39 #[.pointer (some ⟨rb, 0, none⟩), .int .i64 n] w (GotB w b rb db og s M L fs fd (rBytes n s p)) := by
  refine (h.rs.bytes (by have := h.hs; omega) (n : Int)).mono ?_
  rintro e w' ⟨rfl, hR, hB⟩
  refine ⟨_, _, bytesGo s p n, rfl, Mv.of hB rb_foot, fun he => rBytes_err he, fun he => ⟨rBytes_val he, h.read hR hB fun k hk => .inl (by simpa using hk)⟩⟩
/-- A step told an error, or the stream with its new bytes. -/
def GotE (w : World) (b rb db : Nat) (og : Option Nat) (s : ByteArray) (M : Int) (fs fd : Option Nat) (r : Except Int (List UInt8 × Nat)) (e : Ending) (w' : World) : Prop :=
  ∃ (er : Int) (L' : List UInt8) (q : Nat) (og' : Option Nat), e = .returned (.int .i64 er) ∧ Mv b rb w w' og og' ∧ (er ≠ 0 → r = .error er) ∧ (er = 0 → r = .ok (L', q) ∧ SS w' b rb db og' s q M L' fs fd)
theorem GotE.of {r : Except Int (List UInt8 × Nat)} {er : Int} {L' : List UInt8} {q : Nat} {og' : Option Nat} {e : Ending} (he : e = .returned (.int .i64 er)) (hM : Mv b rb w w' og og') (h1 : er ≠ 0 → r = .error er)
    (h2 : er = 0 → r = .ok (L', q) ∧ SS w' b rb db og' s q M L' fs fd) : GotE w b rb db og s M fs fd r e w' := ⟨er, L', q, og', he, hM, h1, h2⟩

theorem word_at (v : ByteArray) (i : Nat) (h : i + 1 < v.size) : Go.bits .or .i64 (wrap64 ((v[i]'(by omega)).toNat : Int)) (wrap64 (wrap64 ((v[i + 1]'h).toNat : Int) * 256)) = (wordAt v i : Int) := by
  have e1 : wordAt v i = (v[i]'(by omega)).toNat + (v[i + 1]'h).toNat * 2 ^ 8 := by
    unfold wordAt
    have hz : v.data.toList.length = v.size := Array.length_toList
    rw [List.getD_eq_getElem?_getD, List.getD_eq_getElem?_getD, List.getElem?_eq_getElem (show i < v.data.toList.length by omega), List.getElem?_eq_getElem (show i + 1 < v.data.toList.length by omega), byte_at v i (by omega), byte_at v (i + 1) h]
    show _ + 256 * _ = _ + _ * 2 ^ 8
    rw [Nat.mul_comm]; rfl
  rw [e1]
  have h1 := (v[i]'(by omega)).toNat_lt
  have h2 := (v[i + 1]'h).toNat_lt
  generalize (v[i]'(by omega)).toNat = x at *
  generalize (v[i + 1]'h).toNat = y at *
  have ex : wrap64 (x : Int) = (x : Int) := IntWalk.wrap64_in _ ⟨by omega, by omega⟩
  have ey : wrap64 (y : Int) = (y : Int) := IntWalk.wrap64_in _ ⟨by omega, by omega⟩
  have e3 : (y : Int) * 256 = ((y * 2 ^ 8 : Nat) : Int) := by simp
  have ez : wrap64 ((y * 2 ^ 8 : Nat) : Int) = ((y * 2 ^ 8 : Nat) : Int) := IntWalk.wrap64_in _ ⟨by omega, by omega⟩
  rw [ex, ey, e3, ez]
  exact i64_join _ _ 8 (by omega) (by omega) (Nat.mul_mod_left y (2 ^ 8)) (by omega)
theorem wordAt_lt (v : ByteArray) (i : Nat) : wordAt v i < 65536 := by
  unfold wordAt
  have h1 := (v.data.toList.getD i 0).toNat_lt
  have h2 := (v.data.toList.getD (i + 1) 0).toNat_lt
  omega
theorem out_ne {A : Option Addr} {k c : Nat} {cs : Array Value} {t : TypeId} {xs : List Value} (h : w.ownsRow (b + 1) 5 1 (.slice A k c) k xs) (_hi : Is w b t cs) : (Value.slice A k c).ownBlock ≠ some b := fun e => by
  have := (h.lt b e).1; omega
/-- The stream when its bytes have grown. -/
theorem SS.put (h : SS w b rb db og s p M L fs fd) {A A2 : Option Addr} {c k c2 : Nat} {w1 w2 : World} {L2 : List UInt8} (hB1 : But [] w w1)
    (hi : Is w b 38 #[.pointer (some ⟨rb, 0, none⟩), .slice A L.length c, .int .i64 M, ptr fs, ptr fd]) (hog : (Value.slice A L.length c).ownBlock = og)
    (hg : w1.grownBy w2 (Value.slice A L.length c).ownBlock) (ho : w2.ownsRow (b + 1) 5 1 (.slice A2 k c2) k (cellsOf L2)) (hk : L2.length = k)
    (hat : ∀ g, (Value.slice A2 k c2).ownBlock = some g → (Value.slice A L.length c).ownBlock = some g ∨ w.heap.size ≤ g) (hL2 : (L2.length : Int) ≤ max M 0) :
    SS (w2.setCell ⟨b, 1, none⟩ (.slice A2 k c2)) b rb db (Value.slice A2 k c2).ownBlock s p M L2 fs fd ∧ Mv b rb w (w2.setCell ⟨b, 1, none⟩ (.slice A2 k c2)) og (Value.slice A2 k c2).ownBlock := by
  have hout := h.out
  have hlt := h.lt
  have hd := h.hd
  have hr := h.hr
  subst hk
  have hB2 : But (b :: rb :: og.toList) w w2 := (hB1.more (by simp)).grown hg (fun g e => .inl (by rw [hog] at e; simp [e]))
  have hB3 : But og.toList w w2 := (hB1.more (by simp)).grown hg (fun g e => .inl (by rw [hog] at e; simp [e]))
  have hfar : ∀ x, x ≤ b → x ∉ og.toList := fun x hx hm => by
    have := (hout x (by simpa using hm)).1; omega
  have hne2 := out_ne ho (hi.but hB3 (hfar b (Nat.le_refl _)))
  have hB4 : But (b :: rb :: og.toList) w (w2.setCell ⟨b, 1, none⟩ (.slice A2 L2.length c2)) := hB2.setCell (.inl (by simp)) _
  have hB5 : But (b :: og.toList) w (w2.setCell ⟨b, 1, none⟩ (.slice A2 L2.length c2)) := (hB3.more (fun k hk => List.mem_cons_of_mem _ hk)).setCell (.inl (by simp)) _
  have hnb : ∀ x, x < b → x ∉ b :: og.toList := fun x hx hm => by
    rcases List.mem_cons.1 hm with e | e
    · omega
    · exact hfar x (by omega) e
  refine ⟨⟨h.rs.but hB5 (hnb rb hr) (hnb db hd), hd, hr, h.hs, h.hM, hL2, _, ?_, ?_, rfl⟩, ⟨hB4, fun g e => ?_⟩⟩
  · simpa using (hi.but hB3 (hfar b (Nat.le_refl _))).put 1 (.slice A2 L2.length c2)
  · exact ownsRow_setCell_other ho (a := ⟨b, 1, none⟩) hne2 _
  · rcases hat g e with h1 | h1
    · exact .inl (hog ▸ h1)
    · exact .inr h1
theorem stored_any (h : SS w b rb db og s p M L fs fd) :
    Calls Tryd.prog 28 #[.pointer (some ⟨b, 0, none⟩)] w (GotE w b rb db og s M fs fd (storedR M L s p)) := by
  have hr : storedR M L s p = rBind (rBytes 4) (fun h => rWhen (wordAt h 2 ≠ 65535 - wordAt h 0) 14 (storedK M L (wordAt h 0))) s p := by rw [stored_head]
  have hin := h.inCell
  have hb := h.bytes 4
  have HR := Lib.hid hr
  have HB := Lib.hid hb
  have H := Lib.hid h
  clear hr hb h
  go_enter Tryd.func28, Tryd.ntmps28
  go_wp2_with fail
  refine HB.out.mono ?_
  rintro e w1 ⟨v, er, q, rfl, hMv, he1, he2⟩
  have HM := Lib.hid hMv
  have HE1 := Lib.hid he1
  have HE2 := Lib.hid he2
  clear hMv he1 he2
  by_cases her : er = 0
  · obtain ⟨hr, hS⟩ := HE2.out her
    have hlen := bytes_len hr
    have hin2 := hS.inCell
    have HRR := Lib.hid hr
    have HS := Lib.hid hS
    clear hr hS HE1 HE2 hin
    subst her
    have hz : v.size = 4 := by rw [← hlen]; exact Array.length_toList.symm
    have hw0 := word_at v 0 (by omega)
    have hw2 := word_at v 2 (by omega)
    have hn := wordAt_lt v 0
    have hm := wordAt_lt v 2
    clear hlen
    obtain ⟨n, hn0⟩ : ∃ n, n = wordAt v 0 := ⟨_, rfl⟩
    obtain ⟨m, hm0⟩ : ∃ m, m = wordAt v 2 := ⟨_, rfl⟩
    rw [← hn0] at hw0 hn
    rw [← hm0] at hw2 hm
    have HN := Lib.hid hn0.symm
    have HM0 := Lib.hid hm0.symm
    have e1 : wrap64 (65535 - (n : Int)) = 65535 - (n : Int) := IntWalk.wrap64_in _ ⟨by omega, by omega⟩
    clear hn0 hm0
    by_cases hne : m ≠ 65535 - n
    · have d : ((m : Int) != 65535 - (n : Int)) = true := by simp; omega
      have HNE := Lib.hid hne
      clear hne
      go_wp2
      go_quiet (fail)
      go_wp2
      go_quiet (fail)
      go_wp2
      go_ret
      exact GotE.of (L' := []) (q := 0) rfl ((HM.out.trans (Mv.drewN _)).trans (Mv.drewN _)) (fun _ => by rw [HR.out, bind_val HRR.out, HN.out, HM0.out, when_yes HNE.out]) (fun e => absurd e (by decide))
    · have d : ((m : Int) != 65535 - (n : Int)) = false := by simp; omega
      have HNE := Lib.hid hne
      clear hne
      go_wp2
      go_quiet (fail)
      go_wp2
      go_quiet (fail)
      go_wp2_with fail
      refine ((HS.out.drewN _).bytes n).mono ?_
      rintro e w2 ⟨x, er, q2, rfl, hMv, he1, he2⟩
      have hM2 := (HM.out.trans (Mv.drewN _)).trans hMv
      have HM2 := Lib.hid hM2
      have HE1 := Lib.hid he1
      have HE2 := Lib.hid he2
      have hr2 : storedR M L s p = storedK M L n s q := by rw [HR.out, bind_val HRR.out, HN.out, HM0.out, when_not HNE.out]
      have HR2 := Lib.hid hr2
      clear hMv he1 he2 hM2 hr2 HR hw0 hw2 e1 d hin2
      by_cases her : er = 0
      · obtain ⟨hrx, hS2⟩ := HE2.out her
        have hxl := bytes_len hrx
        have hzx : x.size = n := by rw [← hxl]; exact Array.length_toList.symm
        have hr3 : storedK M L n s q = rWhen (M < (L.length : Int) + (n : Int)) 5 (rPure (L ++ x.data.toList)) s q2 := bind_val hrx
        have hrm := hS2.room n (by omega)
        have HS2 := Lib.hid hS2
        have HR3 := Lib.hid hr3
        have HXL := Lib.hid hxl
        have HZX := Lib.hid hzx
        have hzb : x.size ≤ 65535 := by omega
        clear hrx hS2 hxl hr3 HE1 HE2 hzx
        subst her
        by_cases hbig : M < (L.length : Int) + (n : Int)
        · rw [if_pos hbig] at hrm
          have HRM := Lib.hid hrm
          have HBIG := Lib.hid hbig
          clear hrm hbig
          go_wp2_with fail
          refine HRM.out.mono ?_
          rintro e w3 ⟨rfl, nq3, rfl⟩
          go_wp2
          go_ret
          exact GotE.of (L' := []) (q := 0) rfl (HM2.out.trans (Mv.drewN _)) (fun _ => by rw [HR2.out, HR3.out, when_yes HBIG.out]) (fun e => absurd e (by decide))
        · rw [if_neg hbig] at hrm
          have HRM := Lib.hid hrm
          have HBIG := Lib.hid hbig
          clear hrm
          have hLM := HS2.out.hM
          have hLb : L.length ≤ 1099511627776 := by omega
          clear hbig hLM
          go_wp2_with fail
          refine HRM.out.mono ?_
          rintro e w3 ⟨rfl, nq3, rfl⟩
          have hS3 := HS2.out.drewN nq3
          obtain ⟨A, c, hi, hown, hog⟩ := hS3.at
          have h1 : (w2.drewN nq3).cell? ⟨b, 1, none⟩ = some (.slice A L.length c) := hi.cell 1
          have hne := out_ne hown hi
          have hlt := hS3.lt
          have HS3 := Lib.hid hS3
          have HI := Lib.hid hi
          have HOG := Lib.hid hog
          have HNE := Lib.hid hne
          clear hS3 hi hog hne
          obtain ⟨i0, hi0, hz0, hz1, hz2⟩ := info_parts info_u8
          go_wp2_with (at_builtin; go_loud (refine wpList_append_str _ rfl _ _ 33 9 rfl (b + 1) 5 i0 Tryd.underlying33 Tryd.underlying9 hi0 hz0 hz1 hz2 (.slice A L.length c) L.length (cellsOf L) rfl hown x rfl (by omega) hlt ?_; intro A2 c2 w4 hown2 hgrow hat; have hi2 := HI.out.grown hgrow (Ne.symm HNE.out); have g0 : w4.cell? ⟨b, 1, none⟩ = some (.slice A L.length c) := hi2.cell 1; have g1 : w4.frozen? ⟨b, 1, none⟩ = false := hi2.free 1; have HOWN := Lib.hid hown2; have HGROW := Lib.hid hgrow; have HAT := Lib.hid hat; clear hi2 hown2 hgrow hat))
          go_ret
          have hl2 : (L ++ x.data.toList).length = L.length + x.size := by rw [List.length_append, HXL.out, HZX.out]
          have hp := HS3.out.put (L2 := L ++ x.data.toList) (But.refl [] _) HI.out HOG.out HGROW.out (by rw [cellsOf_append]; exact HOWN.out) hl2 HAT.out (by have := HBIG.out; rw [hl2, HZX.out]; omega)
          exact GotE.of rfl ((HM2.out.trans (Mv.drewN _)).trans hp.2) (fun e => absurd rfl e) (fun _ => ⟨by rw [HR2.out, HR3.out, when_not (by have := HBIG.out; omega)]; rfl, hp.1⟩)
      · have d2 : (er != 0) = true := by simpa using her
        have HER := Lib.hid her
        clear her
        go_wp2
        go_ret
        exact GotE.of (L' := []) (q := 0) rfl HM2.out (fun _ => by rw [HR2.out]; exact bind_err (HE1.out HER.out)) (fun e => absurd e HER.out)
  · have d2 : (er != 0) = true := by simpa using her
    have HER := Lib.hid her
    clear her
    go_wp2
    go_ret
    exact GotE.of (L' := []) (q := 0) rfl HM.out (fun _ => by rw [HR.out, bind_err (HE1.out HER.out)]) (fun e => absurd e HER.out)
end
end Go.Proofs.YtobmghjpfkdooaaDoor
