/- Several texts in one: InfZ, InfSt, InfPr, RfC, Rep (what Unwraps, Wraps reach of them). -/
import Derived.Test.YtghegmbafbpnjaaGreatDoorPm01
import Derived.Test.YtghegmbafbpnjaaGreatDoorPm02
import Derived.Test.YtghegmbafbpnjaaGreatDoorPm03
import Derived.Test.YtghegmbafbpnjaaGreatDoorPm04
import Derived.Test.YtghegmbafbpnjaaGreatDoorPm05
import Derived.Test.YtghegmbafbpnjaaGreatDoorPm06
import Derived.Test.YtghegmbafbpnjaaGreatDoorPm07
import Derived.Test.YtghegmbafbpnjaaGreatDoorPm08
import Derived.Test.YtghegmbafbpnjaaGreatDoorPm09
import Derived.Test.YtghegmbafbpnjaaGreatDoorPm10
import Derived.Below
import Derived.BigQuiet
import Derived.BigRegion
import Derived.Deep.AppendLies
import Derived.Deep.CutRange
import Derived.Deep.DeepCutAuto
import Derived.Deep.Draws
import Derived.Deep.LoopGhost
import Derived.Deep.QuietTactic
import Derived.Deep.RegionLaw
import Derived.Deep.RegionWith
import Derived.Deep.Slices
import Derived.Laws.BitsAllLaws
import Derived.Laws.BitsLemmas
import Derived.Laws.CopyOwn
import Derived.Laws.IdiomStrings
import Derived.Laws.OwnMore
import Derived.Laws.Rows
import Derived.Lib.AppendStr
import Derived.Lib.Hide
import Derived.Lib.Strings
import Derived.LoopIn
import Derived.LoopNIn
import Derived.OneCell
import Derived.OpenShut
import Derived.Outline
import Derived.OwnWalk
import Derived.OwnWalkIn
import Derived.ProofKit
import Derived.RangeFuncBound
import Derived.RangeFuncCalls
import Derived.RangeFuncLeaves
import Derived.RangeFuncNested
import Derived.RegionTactic
import Derived.Shelf.Abstract
import Derived.Shelf.RegionOpen
import Derived.Shelf.SlSortCmp.QuietGrown
import Derived.StillTailTactics
import Derived.TacticsInMore
import Derived.Test.YtghegmbafbpnjaaGreatDoorChecked
import Derived.WalkKit
import Derived.WalkLawsBesides
import Derived.WalkSpells
set_option maxRecDepth 100000
set_option linter.unusedVariables false
namespace Go.Proofs.YtghegmbafbpnjaaGreatDoor
set_option maxRecDepth 100000
open Go Go.RowKit
section
variable {w w' : World} {b rb db : Nat} {og : Option Nat} {s : ByteArray} {p : Nat} {M : Int} {L : List UInt8} {fs fd : Option Nat}
theorem ext4I (h : SS w b rb db og s p M L fs fd) {i : Int} (k : Nat) (hi : i = k) (hk : k < 30) :
    Calls Tryz.prog 126 #[.pointer (some ⟨b, 0, none⟩), .int .i64 i, .int .i64 4] w (GotN w b rb db og s M L fs fd (rExt k 4 s p)) := by
  subst hi; exact ext4 h k hk
theorem rExt_le {k g v q : Nat} (h : rExt k g s p = .ok (v, q)) (hk : k < 30) (hg : g = 2 ∨ g = 4) : v < 65536 := by
  unfold rExt at h
  obtain ⟨⟨x, q1⟩, h1, h2⟩ := ok_bind h
  have hb : extBits k g ≤ 13 := by unfold extBits; split <;> rcases hg with rfl | rfl <;> omega
  have hx := rBits_lt h1
  have hx2 : x < 2 ^ 13 := Nat.lt_of_lt_of_le hx (Nat.pow_le_pow_right (by decide) hb)
  unfold rPure at h2
  injection h2 with h2
  injection h2 with h2 _
  subst h2
  unfold extVal
  unfold extBits at hb
  split
  · rcases hg with rfl | rfl <;> omega
  · rename_i hn
    rw [if_neg hn] at hb
    have h3 : 2 ^ (k / g - 1) ≤ 2 ^ 13 := Nat.pow_le_pow_right (by decide) hb
    have h4 : g + k % g ≤ 7 := by rcases hg with rfl | rfl <;> omega
    have h5 := Nat.mul_le_mul h4 h3
    show (g + k % g) * 2 ^ (k / g - 1) + x < 65536
    omega

set_option maxHeartbeats 1000000 in
theorem matchLen_any (h : SS w b rb db og s p M L fs fd) (t : Nat) (h1 : 256 < t) :
    Calls Tryz.prog 113 #[.pointer (some ⟨b, 0, none⟩), .int .i64 t] w (GotN w b rb db og s M L fs fd (rLen t s p)) := by
  by_cases h2 : 285 < t
  · have d : decide ((285 : Int) < (t : Int)) = true := by simp; omega
    have hr : rLen t s p = .error 12 := by rw [rLen_far h2]; rfl
    have HR := Lib.hid hr
    clear hr h h1 h2
    go_enter Tryz.func113, Tryz.ntmps113
    go_wp2
    go_ret2
    exact GotN.of (v := 0) (q := 0) rfl (Mv.refl _ _ _ _) (fun _ => HR.out) (fun e => absurd e (by decide))
  · have d : decide ((285 : Int) < (t : Int)) = false := by simp; omega
    by_cases h3 : t = 285
    · subst h3
      have hr : rLen 285 s p = .ok (258, p) := by rw [rLen_top]; rfl
      have HR := Lib.hid hr
      have H := Lib.hid h
      clear hr h h1 h2
      go_enter Tryz.func113, Tryz.ntmps113
      go_wp2
      go_ret2
      exact GotN.of (v := 258) (q := p) rfl (Mv.refl _ _ _ _) (fun e => absurd rfl e) (fun _ => ⟨HR.out, H.out⟩)
    · have d2 : ((t : Int) == 285) = false := by simp; omega
      have hr : rLen t s p = rBind (rExt (t - 257) 4) (fun n => rPure (3 + n)) s p := by rw [ext_len h1 (by omega)]
      have hx := ext4I h (i := (t : Int) - 256 - 1) (t - 257) (by omega) (by omega)
      have HR := Lib.hid hr
      have HX := Lib.hid hx
      have HT := Lib.hid h2
      clear hr hx h h2 h3
      have ht2 : t ≤ 285 := by have := HT.out; omega
      go_enter Tryz.func113, Tryz.ntmps113
      go_wp2_with fail
      refine HX.out.mono ?_
      rintro e w1 ⟨v, er, q, rfl, hMv, he1, he2⟩
      have HM := Lib.hid hMv
      have HE1 := Lib.hid he1
      have HE2 := Lib.hid he2
      clear hMv he1 he2
      by_cases her : er = 0
      · obtain ⟨hr, hS⟩ := HE2.out her
        have hv := rExt_le hr (by omega) (.inr rfl)
        have HRR := Lib.hid hr
        have HS := Lib.hid hS
        clear hr hS HE1 HE2
        subst her
        go_wp2
        go_ret2
        exact GotN.of (v := 3 + v) (ret_num (by omega)) HM.out (fun e => absurd rfl e) (fun _ => ⟨by rw [HR.out, bind_val HRR.out]; rfl, HS.out⟩)
      · have d2 : (er != 0) = true := by simpa using her
        have HER := Lib.hid her
        clear her
        go_wp2
        go_ret2
        exact GotN.of (v := 0) (q := 0) rfl HM.out (fun _ => by rw [HR.out, bind_err (HE1.out HER.out)]) (fun e => absurd e HER.out)

theorem SS.alloc (h : SS w b rb db og s p M L fs fd) (o : Obj) : SS (w.alloc o) b rb db og s p M L fs fd := h.but ((But.refl [] w).alloc o) (by simp)
theorem SS.drew (h : SS w b rb db og s p M L fs fd) : SS w.drew b rb db og s p M L fs fd := h.but ((But.refl [] w).drew) (by simp)
theorem Mv.alloc {og : Option Nat} (o : Obj) : Mv b rb w (w.alloc o) og og := Mv.of ((But.refl [] w).alloc o) (by simp)
theorem Mv.drew {og : Option Nat} : Mv b rb w w.drew og og := Mv.of ((But.refl [] w).drew) (by simp)
/-- A block that a call has just made. -/
theorem box_cell (w : World) (cs : Array Value) (t : TypeId) (i : Nat) : (w.alloc (.cells cs t)).cell? ⟨w.heap.size, i, none⟩ = cs[i]? := (Is.fresh w t cs).cell i

set_option maxHeartbeats 1000000 in
theorem matchDist_any {d : List Int} {bd : Nat} {x : Option Addr} (h : SS w b rb db og s p M L fs fd) (hc : chk d = 0) (hT : Keep (Foot b rb og) w fun w' => TT w' bd d) :
    Calls Tryz.prog 114 #[.pointer (some ⟨b, 0, none⟩), .agg #[.pointer x, .pointer (some ⟨bd, 0, none⟩)]] w (GotN w b rb db og s M L fs fd (rDst d s p)) := by
  have hr : rDst d s p = rBind (rNext d) (fun u => rWhen (29 < u) 12 (rBind (rExt u 2) fun n => rPure (1 + n))) s p := by rw [ext_dst]
  have h1 := (h.alloc (.cells #[.pointer x, .pointer (some ⟨bd, 0, none⟩)] 46)).drew
  have m1 := (Mv.alloc (b := b) (rb := rb) (w := w) (og := og) (.cells #[.pointer x, .pointer (some ⟨bd, 0, none⟩)] 46)).trans Mv.drew
  have hn := h1.next hc (m1.keep hT)
  have hin := h1.inCell
  have hbx : (w.alloc (.cells #[.pointer x, .pointer (some ⟨bd, 0, none⟩)] 46)).drew.cell? ⟨w.heap.size, 1, none⟩ = some (.pointer (some ⟨bd, 0, none⟩)) := box_cell w _ _ 1
  have HR := Lib.hid hr
  have HN := Lib.hid hn
  have HM1 := Lib.hid m1
  have HIN := Lib.hid hin
  have HBX := Lib.hid hbx
  clear hr hn m1 h1 hT hc h hin hbx
  go_enter Tryz.func114, Tryz.ntmps114
  go_upto_region 1 with (fail)
  go_cut [6, 7] (fun v6 v7 wc => ∃ (u : Nat) (er : Int) (q : Nat), v6 = .int .i64 u ∧ v7 = .int .i64 er ∧ Hid (Mv b rb w wc og og) ∧ Hid (er ≠ 0 → rNext d s p = .error er) ∧ Hid (er = 0 → rNext d s p = .ok (u, q) ∧ SS wc b rb db og s q M L fs fd))
  case first =>
    have hin := HIN.out
    have hbx := HBX.out
    go_region_with (go_at_call 62; refine HN.out.mono ?_; rintro e w1 ⟨v, er, q, rfl, hMv, he1, he2⟩; have HMV := Lib.hid hMv; have HE1 := Lib.hid he1; have HE2 := Lib.hid he2; clear hMv he1 he2)
    all_goals
      (try go_wp2)
      go_meet
      exact ⟨_, _, _, rfl, rfl, HM1.out.trans HMV.out, HE1.out, HE2.out⟩
  case rest =>
    obtain ⟨u, er, q, rfl, rfl, HMV, HE1, HE2⟩ := hcut
    obtain ⟨w1, rfl⟩ : ∃ w1 : World, w1 = wc := ⟨_, rfl⟩
    clear HN HIN HBX HM1
    by_cases her : er = 0
    · obtain ⟨hr, hS⟩ := HE2.out her
      have HRR := Lib.hid hr
      clear hr HE1 HE2
      subst her
      by_cases hu : 29 < u
      · have d : decide ((29 : Int) < (u : Int)) = true := by simp; omega
        have HU := Lib.hid hu
        clear hS hu
        go_wp2
        go_ret2
        exact GotN.of (v := 0) (q := 0) rfl HMV.out (fun _ => by rw [HR.out, bind_val HRR.out, when_yes HU.out]) (fun e => absurd e (by decide))
      · have d : decide ((29 : Int) < (u : Int)) = false := by simp; omega
        have hx := ext2 hS u (by omega)
        have HX := Lib.hid hx
        have HU := Lib.hid hu
        clear hS hu hx
        go_wp2_with fail
        refine HX.out.mono ?_
        rintro e w2 ⟨v, er, q2, rfl, hMv, he1, he2⟩
        have HM2 := Lib.hid hMv
        have HE1 := Lib.hid he1
        have HE2 := Lib.hid he2
        clear hMv he1 he2
        by_cases her : er = 0
        · obtain ⟨hr, hS⟩ := HE2.out her
          have hv := rExt_le hr (by have := HU.out; omega) (.inl rfl)
          have HR2 := Lib.hid hr
          have HS := Lib.hid hS
          clear hr hS HE1 HE2
          subst her
          go_wp2
          go_ret2
          exact GotN.of (v := 1 + v) (ret_num (by omega)) (HMV.out.trans HM2.out) (fun e => absurd rfl e) (fun _ => ⟨by rw [HR.out, bind_val HRR.out, when_not HU.out, bind_val HR2.out]; rfl, HS.out⟩)
        · have d2 : (er != 0) = true := by simpa using her
          have HER := Lib.hid her
          clear her
          go_wp2
          go_ret2
          exact GotN.of (v := 0) (q := 0) rfl (HMV.out.trans HM2.out) (fun _ => by rw [HR.out, bind_val HRR.out, when_not HU.out, bind_err (HE1.out HER.out)]) (fun e => absurd e HER.out)
    · have d2 : (er != 0) = true := by simpa using her
      have HER := Lib.hid her
      clear her
      go_wp2
      go_ret2
      exact GotN.of (v := 0) (q := 0) rfl HMV.out (fun _ => by rw [HR.out, bind_err (HE1.out HER.out)]) (fun e => absurd e HER.out)
end
end Go.Proofs.YtghegmbafbpnjaaGreatDoor
namespace Go.Proofs.YtghegmbafbpnjaaGreatDoor
set_option maxRecDepth 100000
open Go Go.RowKit
section
variable {w w' : World} {b rb db : Nat} {og : Option Nat} {s : ByteArray} {p : Nat} {M : Int} {L : List UInt8} {fs fd : Option Nat}
/-- A step told bytes, or an error. -/
def GotB (w : World) (b rb db : Nat) (og : Option Nat) (s : ByteArray) (M : Int) (L : List UInt8) (fs fd : Option Nat) (r : Except Int (ByteArray × Nat)) (e : Ending) (w' : World) : Prop :=
  ∃ (v : ByteArray) (er : Int) (q : Nat), e = .returned (.tuple #[.string v, .int .i64 er]) ∧ Mv b rb w w' og og ∧ (er ≠ 0 → r = .error er) ∧ (er = 0 → r = .ok (v, q) ∧ SS w' b rb db og s q M L fs fd)
theorem SS.bytes (h : SS w b rb db og s p M L fs fd) (n : Nat) :
    Calls Tryz.prog 108 #[.pointer (some ⟨rb, 0, none⟩), .int .i64 n] w (GotB w b rb db og s M L fs fd (rBytes n s p)) := by
  refine (h.rs.bytes_w (by have := h.hs; omega) (n : Int)).mono ?_
  rintro e w' ⟨rfl, hR, hB⟩
  refine ⟨_, _, bytesGo s p n, rfl, Mv.of hB rb_foot, fun he => rBytes_err he, fun he => ⟨rBytes_val he, h.read hR hB fun k hk => .inl (by simpa using hk)⟩⟩
/-- A step told an error, or the stream with its new bytes. -/
def GotE (w : World) (b rb db : Nat) (og : Option Nat) (s : ByteArray) (M : Int) (fs fd : Option Nat) (r : Except Int (List UInt8 × Nat)) (e : Ending) (w' : World) : Prop :=
  ∃ (er : Int) (L' : List UInt8) (q : Nat) (og' : Option Nat), e = .returned (.int .i64 er) ∧ Mv b rb w w' og og' ∧ (er ≠ 0 → r = .error er) ∧ (er = 0 → r = .ok (L', q) ∧ SS w' b rb db og' s q M L' fs fd)
theorem GotE.of {r : Except Int (List UInt8 × Nat)} {er : Int} {L' : List UInt8} {q : Nat} {og' : Option Nat} {e : Ending} (he : e = .returned (.int .i64 er)) (hM : Mv b rb w w' og og') (h1 : er ≠ 0 → r = .error er)
    (h2 : er = 0 → r = .ok (L', q) ∧ SS w' b rb db og' s q M L' fs fd) : GotE w b rb db og s M fs fd r e w' := ⟨er, L', q, og', he, hM, h1, h2⟩

theorem word_at (v : ByteArray) (i : Nat) (h : i + 1 < v.size) : Go.bits .or .i64 (wrap64 ((v[i]'(by omega)).toNat : Int)) (wrap64 (wrap64 ((v[i + 1]'h).toNat : Int) * 256)) = (wordAt v i : Int) := by
  have e1 : wordAt v i = (v[i]'(by omega)).toNat + (v[i + 1]'h).toNat * 2 ^ 8 := by
    unfold wordAt
    have hz : v.data.toList.length = v.size := Array.length_toList
    rw [List.getD_eq_getElem?_getD, List.getD_eq_getElem?_getD, List.getElem?_eq_getElem (show i < v.data.toList.length by omega), List.getElem?_eq_getElem (show i + 1 < v.data.toList.length by omega), byte_at v i (by omega), byte_at v (i + 1) h]
    show _ + 256 * _ = _ + _ * 2 ^ 8
    rw [Nat.mul_comm]; rfl
  rw [e1]
  have h1 := (v[i]'(by omega)).toNat_lt
  have h2 := (v[i + 1]'h).toNat_lt
  generalize (v[i]'(by omega)).toNat = x at *
  generalize (v[i + 1]'h).toNat = y at *
  have ex : wrap64 (x : Int) = (x : Int) := IntWalk.wrap64_in _ ⟨by omega, by omega⟩
  have ey : wrap64 (y : Int) = (y : Int) := IntWalk.wrap64_in _ ⟨by omega, by omega⟩
  have e3 : (y : Int) * 256 = ((y * 2 ^ 8 : Nat) : Int) := by simp
  have ez : wrap64 ((y * 2 ^ 8 : Nat) : Int) = ((y * 2 ^ 8 : Nat) : Int) := IntWalk.wrap64_in _ ⟨by omega, by omega⟩
  rw [ex, ey, e3, ez]
  exact i64_join _ _ 8 (by omega) (by omega) (Nat.mul_mod_left y (2 ^ 8)) (by omega)
theorem wordAt_lt (v : ByteArray) (i : Nat) : wordAt v i < 65536 := by
  unfold wordAt
  have h1 := (v.data.toList.getD i 0).toNat_lt
  have h2 := (v.data.toList.getD (i + 1) 0).toNat_lt
  omega
theorem out_ne {A : Option Addr} {k c : Nat} {cs : Array Value} {t : TypeId} {xs : List Value} (h : w.ownsRow (b + 1) 5 1 (.slice A k c) k xs) (_hi : Is w b t cs) : (Value.slice A k c).ownBlock ≠ some b := fun e => by
  have := (h.lt b e).1; omega
/-- The stream when its bytes have grown. -/
theorem SS.put (h : SS w b rb db og s p M L fs fd) {A A2 : Option Addr} {c k c2 : Nat} {w1 w2 : World} {L2 : List UInt8} (hB1 : But [] w w1)
    (hi : Is w b 48 #[.pointer (some ⟨rb, 0, none⟩), .slice A L.length c, .int .i64 M, ptr fs, ptr fd]) (hog : (Value.slice A L.length c).ownBlock = og)
    (hg : w1.grownBy w2 (Value.slice A L.length c).ownBlock) (ho : w2.ownsRow (b + 1) 5 1 (.slice A2 k c2) k (cellsOf L2)) (hk : L2.length = k)
    (hat : ∀ g, (Value.slice A2 k c2).ownBlock = some g → (Value.slice A L.length c).ownBlock = some g ∨ w.heap.size ≤ g) (hL2 : (L2.length : Int) ≤ max M 0) :
    SS (w2.setCell ⟨b, 1, none⟩ (.slice A2 k c2)) b rb db (Value.slice A2 k c2).ownBlock s p M L2 fs fd ∧ Mv b rb w (w2.setCell ⟨b, 1, none⟩ (.slice A2 k c2)) og (Value.slice A2 k c2).ownBlock := by
  have hout := h.out
  have hlt := h.lt
  have hd := h.hd
  have hr := h.hr
  subst hk
  have hB2 : But (b :: rb :: og.toList) w w2 := (hB1.more (by simp)).grown hg (fun g e => .inl (by rw [hog] at e; simp [e]))
  have hB3 : But og.toList w w2 := (hB1.more (by simp)).grown hg (fun g e => .inl (by rw [hog] at e; simp [e]))
  have hfar : ∀ x, x ≤ b → x ∉ og.toList := fun x hx hm => by
    have := (hout x (by simpa using hm)).1; omega
  have hne2 := out_ne ho (hi.but hB3 (hfar b (Nat.le_refl _)))
  have hB4 : But (b :: rb :: og.toList) w (w2.setCell ⟨b, 1, none⟩ (.slice A2 L2.length c2)) := hB2.setCell (.inl (by simp)) _
  have hB5 : But (b :: og.toList) w (w2.setCell ⟨b, 1, none⟩ (.slice A2 L2.length c2)) := (hB3.more (fun k hk => List.mem_cons_of_mem _ hk)).setCell (.inl (by simp)) _
  have hnb : ∀ x, x < b → x ∉ b :: og.toList := fun x hx hm => by
    rcases List.mem_cons.1 hm with e | e
    · omega
    · exact hfar x (by omega) e
  refine ⟨⟨h.rs.but hB5 (hnb rb hr) (hnb db hd), hd, hr, h.hs, h.hM, hL2, _, ?_, ?_, rfl⟩, ⟨hB4, fun g e => ?_⟩⟩
  · simpa using (hi.but hB3 (hfar b (Nat.le_refl _))).put 1 (.slice A2 L2.length c2)
  · exact ownsRow_setCell_other ho (a := ⟨b, 1, none⟩) hne2 _
  · rcases hat g e with h1 | h1
    · exact .inl (hog ▸ h1)
    · exact .inr h1
set_option maxHeartbeats 1000000 in
theorem stored_any (h : SS w b rb db og s p M L fs fd) :
    Calls Tryz.prog 88 #[.pointer (some ⟨b, 0, none⟩)] w (GotE w b rb db og s M fs fd (storedR M L s p)) := by
  have hr : storedR M L s p = rBind (rBytes 4) (fun h => rWhen (wordAt h 2 ≠ 65535 - wordAt h 0) 14 (storedK M L (wordAt h 0))) s p := by rw [stored_head]
  have hin := h.inCell
  have hb := h.bytes 4
  have HR := Lib.hid hr
  have HB := Lib.hid hb
  have H := Lib.hid h
  clear hr hb h
  go_enter Tryz.func88, Tryz.ntmps88
  go_wp2_with fail
  refine HB.out.mono ?_
  rintro e w1 ⟨v, er, q, rfl, hMv, he1, he2⟩
  have HM := Lib.hid hMv
  have HE1 := Lib.hid he1
  have HE2 := Lib.hid he2
  clear hMv he1 he2
  by_cases her : er = 0
  · obtain ⟨hr, hS⟩ := HE2.out her
    have hlen := bytes_len hr
    have hin2 := hS.inCell
    have HRR := Lib.hid hr
    have HS := Lib.hid hS
    clear hr hS HE1 HE2 hin
    subst her
    have hz : v.size = 4 := by rw [← hlen]; exact Array.length_toList.symm
    have hw0 := word_at v 0 (by omega)
    have hw2 := word_at v 2 (by omega)
    have hn := wordAt_lt v 0
    have hm := wordAt_lt v 2
    clear hlen
    obtain ⟨n, hn0⟩ : ∃ n, n = wordAt v 0 := ⟨_, rfl⟩
    obtain ⟨m, hm0⟩ : ∃ m, m = wordAt v 2 := ⟨_, rfl⟩
    rw [← hn0] at hw0 hn
    rw [← hm0] at hw2 hm
    have HN := Lib.hid hn0.symm
    have HM0 := Lib.hid hm0.symm
    have e1 : wrap64 (65535 - (n : Int)) = 65535 - (n : Int) := IntWalk.wrap64_in _ ⟨by omega, by omega⟩
    clear hn0 hm0
    by_cases hne : m ≠ 65535 - n
    · have d : ((m : Int) != 65535 - (n : Int)) = true := by simp; omega
      have HNE := Lib.hid hne
      clear hne
      go_wp2
      go_quiet (fail)
      go_wp2
      go_quiet (fail)
      go_wp2
      go_ret
      exact GotE.of (L' := []) (q := 0) rfl ((HM.out.trans (Mv.drewN _)).trans (Mv.drewN _)) (fun _ => by rw [HR.out, bind_val HRR.out, HN.out, HM0.out, when_yes HNE.out]) (fun e => absurd e (by decide))
    · have d : ((m : Int) != 65535 - (n : Int)) = false := by simp; omega
      have HNE := Lib.hid hne
      clear hne
      go_wp2
      go_quiet (fail)
      go_wp2
      go_quiet (fail)
      go_wp2_with fail
      refine ((HS.out.drewN _).bytes n).mono ?_
      rintro e w2 ⟨x, er, q2, rfl, hMv, he1, he2⟩
      have hM2 := (HM.out.trans (Mv.drewN _)).trans hMv
      have HM2 := Lib.hid hM2
      have HE1 := Lib.hid he1
      have HE2 := Lib.hid he2
      have hr2 : storedR M L s p = storedK M L n s q := by rw [HR.out, bind_val HRR.out, HN.out, HM0.out, when_not HNE.out]
      have HR2 := Lib.hid hr2
      clear hMv he1 he2 hM2 hr2 HR hw0 hw2 e1 d hin2
      by_cases her : er = 0
      · obtain ⟨hrx, hS2⟩ := HE2.out her
        have hxl := bytes_len hrx
        have hzx : x.size = n := by rw [← hxl]; exact Array.length_toList.symm
        have hr3 : storedK M L n s q = rWhen (M < (L.length : Int) + (n : Int)) 5 (rPure (L ++ x.data.toList)) s q2 := bind_val hrx
        have hrm := hS2.room n (by omega)
        have HS2 := Lib.hid hS2
        have HR3 := Lib.hid hr3
        have HXL := Lib.hid hxl
        have HZX := Lib.hid hzx
        have hzb : x.size ≤ 65535 := by omega
        clear hrx hS2 hxl hr3 HE1 HE2 hzx
        subst her
        by_cases hbig : M < (L.length : Int) + (n : Int)
        · rw [if_pos hbig] at hrm
          have HRM := Lib.hid hrm
          have HBIG := Lib.hid hbig
          clear hrm hbig
          go_wp2_with fail
          refine HRM.out.mono ?_
          rintro e w3 ⟨rfl, nq3, rfl⟩
          go_wp2
          go_ret
          exact GotE.of (L' := []) (q := 0) rfl (HM2.out.trans (Mv.drewN _)) (fun _ => by rw [HR2.out, HR3.out, when_yes HBIG.out]) (fun e => absurd e (by decide))
        · rw [if_neg hbig] at hrm
          have HRM := Lib.hid hrm
          have HBIG := Lib.hid hbig
          clear hrm
          have hLM := HS2.out.hM
          have hLb : L.length ≤ 1099511627776 := by omega
          clear hbig hLM
          go_wp2_with fail
          refine HRM.out.mono ?_
          rintro e w3 ⟨rfl, nq3, rfl⟩
          have hS3 := HS2.out.drewN nq3
          obtain ⟨A, c, hi, hown, hog⟩ := hS3.at
          have h1 : (w2.drewN nq3).cell? ⟨b, 1, none⟩ = some (.slice A L.length c) := hi.cell 1
          have hne := out_ne hown hi
          have hlt := hS3.lt
          have HS3 := Lib.hid hS3
          have HI := Lib.hid hi
          have HOG := Lib.hid hog
          have HNE := Lib.hid hne
          clear hS3 hi hog hne
          obtain ⟨i0, hi0, hz0, hz1, hz2⟩ := info_parts info_u8
          go_wp2_with (at_builtin; go_loud (refine wpList_append_str _ rfl _ _ 40 9 rfl (b + 1) 5 i0 Tryz.underlying40 Tryz.underlying9 hi0 hz0 hz1 hz2 (.slice A L.length c) L.length (cellsOf L) rfl hown x rfl (by omega) hlt ?_; intro A2 c2 w4 hown2 hgrow hat; have hi2 := HI.out.grown hgrow (Ne.symm HNE.out); have g0 : w4.cell? ⟨b, 1, none⟩ = some (.slice A L.length c) := hi2.cell 1; have g1 : w4.frozen? ⟨b, 1, none⟩ = false := hi2.free 1; have HOWN := Lib.hid hown2; have HGROW := Lib.hid hgrow; have HAT := Lib.hid hat; clear hi2 hown2 hgrow hat))
          go_ret
          have hl2 : (L ++ x.data.toList).length = L.length + x.size := by rw [List.length_append, HXL.out, HZX.out]
          have hp := HS3.out.put (L2 := L ++ x.data.toList) (But.refl [] _) HI.out HOG.out HGROW.out (by rw [cellsOf_append]; exact HOWN.out) hl2 HAT.out (by have := HBIG.out; rw [hl2, HZX.out]; omega)
          exact GotE.of rfl ((HM2.out.trans (Mv.drewN _)).trans hp.2) (fun e => absurd rfl e) (fun _ => ⟨by rw [HR2.out, HR3.out, when_not (by have := HBIG.out; omega)]; rfl, hp.1⟩)
      · have d2 : (er != 0) = true := by simpa using her
        have HER := Lib.hid her
        clear her
        go_wp2
        go_ret
        exact GotE.of (L' := []) (q := 0) rfl HM2.out (fun _ => by rw [HR2.out]; exact bind_err (HE1.out HER.out)) (fun e => absurd e HER.out)
  · have d2 : (er != 0) = true := by simpa using her
    have HER := Lib.hid her
    clear her
    go_wp2
    go_ret
    exact GotE.of (L' := []) (q := 0) rfl HM.out (fun _ => by rw [HR.out, bind_err (HE1.out HER.out)]) (fun e => absurd e HER.out)
end
end Go.Proofs.YtghegmbafbpnjaaGreatDoor
namespace Go.Proofs.YtghegmbafbpnjaaGreatDoor
set_option maxRecDepth 100000
open Go Go.RowKit
theorem matchOut_succ (far : Nat) : ∀ n L, matchOut far (n + 1) L = matchOut far n L ++ [(matchOut far n L).getD ((matchOut far n L).length - far) 0]
  | 0, _ => rfl
  | n + 1, L => by
    rw [matchOut, matchOut_succ far n, matchOut]
section
variable {w w' : World} {b rb db : Nat} {og : Option Nat} {s : ByteArray} {p : Nat} {M : Int} {L : List UInt8} {fs fd : Option Nat}
theorem out_byte {A : Option Addr} {c : Nat} (h : w.ownsRow (b + 1) 5 1 (.slice A L.length c) L.length (cellsOf L)) {i : Nat} (hi : i < L.length) :
    ∃ g, A = some ⟨g, 0, none⟩ ∧ b < g ∧ g < w.heap.size ∧ w.cell? ⟨g, i, none⟩ = some (.int .u8 ((L.getD i 0).toNat : Int)) := by
  obtain ⟨g, cap, e, h1, h2⟩ := h.form (by omega)
  injection e with e1 e2 e3
  subst e1 e3
  refine ⟨g, rfl, by omega, h2, ?_⟩
  have hc := World.ownsRow.cells h (g := g) rfl i (.int .u8 (L[i].toNat : Int)) (by simp [cellsOf, hi])
  have e2 : (⟨g, 0, none⟩ : Addr).add i = ⟨g, i, none⟩ := by unfold Addr.add; split <;> simp_all
  rw [e2] at hc
  rw [hc, List.getD_eq_getElem?_getD, List.getElem?_eq_getElem hi]; rfl

theorem SS.room1 (h : SS w b rb db og s p M L fs fd) :
    Calls Tryz.prog 92 #[.pointer (some ⟨b, 0, none⟩), .int .i64 1] w fun e w' => e = .returned (.int .i64 (if M < (L.length : Int) + 1 then 5 else 0)) ∧ ∃ nq, w' = w.drewN nq := h.room 1 (by omega)
set_option maxHeartbeats 1000000 in
theorem produce_lit {tv : Value} {x y : Option Addr} (h : SS w b rb db og s p M L fs fd) {d : List Int} (t : Nat) (ht : t < 256) (htv : tv = .agg #[.pointer x, .pointer y]) :
    Calls Tryz.prog 63 #[.pointer (some ⟨b, 0, none⟩), .int .i64 t, tv] w (GotE w b rb db og s M fs fd (rProd d M t L s p)) := by
  subst htv
  have hr : rProd d M t L s p = rWhen (M < (L.length : Int) + 1) 5 (rPure (L ++ [UInt8.ofNat t])) s p := by unfold rProd; rw [if_neg (by omega)]
  have h1 := h.alloc (.cells #[.pointer x, .pointer y] 46)
  have m1 := Mv.alloc (b := b) (rb := rb) (w := w) (og := og) (.cells #[.pointer x, .pointer y] 46)
  have hrm := h1.room1
  have d1 : decide ((256 : Int) < (t : Int)) = false := by simp; omega
  have HS := Lib.hid h1
  have HM := Lib.hid m1
  have HR := Lib.hid hr
  clear h hr m1 h1
  by_cases hbig : M < (L.length : Int) + 1
  · rw [if_pos hbig] at hrm
    have HRM := Lib.hid hrm
    have HBIG := Lib.hid hbig
    clear hrm hbig
    go_enter Tryz.func63, Tryz.ntmps63
    go_wp2_with fail
    refine HRM.out.mono ?_
    rintro e w3 ⟨rfl, nq3, rfl⟩
    go_wp2
    go_ret
    exact GotE.of (L' := []) (q := 0) rfl (HM.out.trans (Mv.drewN _)) (fun _ => by rw [HR.out, when_yes (by have := HBIG.out; omega)]) (fun e => absurd e (by decide))
  · rw [if_neg hbig] at hrm
    have HRM := Lib.hid hrm
    have HBIG := Lib.hid hbig
    have hLb : L.length ≤ 1099511627776 := by have := HS.out.hM; omega
    clear hrm hbig
    have hS3 := fun n => HS.out.drewN n
    go_enter Tryz.func63, Tryz.ntmps63
    go_wp2_with fail
    refine HRM.out.mono ?_
    rintro e w3 ⟨rfl, nq3, rfl⟩
    have hS := hS3 nq3
    clear hS3
    have HM3 := Lib.hid (HM.out.trans (Mv.drewN nq3))
    generalize ((w.alloc (.cells #[.pointer x, .pointer y] 46)).drewN nq3) = W at *
    obtain ⟨A, c, hi, hown, hog⟩ := hS.at
    have k1 : W.cell? ⟨b, 1, none⟩ = some (.slice A L.length c) := hi.cell 1
    have hne := out_ne hown hi
    have hlt := hS.lt
    have HS3 := Lib.hid hS
    have HI := Lib.hid hi
    have HOG := Lib.hid hog
    have HNE := Lib.hid hne
    have HOWN0 := Lib.hid hown
    clear hS hi hog hne hown HS HM
    obtain ⟨i0, hi0, hz0, hz1, hz2⟩ := info_parts info_u8
    go_wp2_with (at_builtin; go_loud (refine wpList_append_lies _ rfl _ _ 40 rfl (b + 1) 5 i0 _ 1 1 Tryz.underlying40 hi0 hz0 hz1 hz2 rfl (by omega) (.slice A L.length c) L.length (cellsOf L) rfl (HOWN0.out.alloc _) ⟨W.heap.size, 0, none⟩ 1 1 [.int .u8 (t : Int)] rfl rfl (World.news_of_block (cs := #[.int .u8 (t : Int)]) (t := 5) (fr := (0, 0)) (heap_alloc_new W _)) (by simp [Value.oneCell']) (by omega) (by unfold maxLen; omega) (by omega) (by simp; omega) (W.heap.size + 1) (by simp) ?_; intro gg cap w4 hown2 hgrow hat _; have hi2 := ((HI.out.alloc (.cells #[.int .u8 (t : Int)] 5)).grown hgrow (Ne.symm HNE.out)); have g0 : w4.cell? ⟨b, 1, none⟩ = some (.slice A L.length c) := hi2.cell 1; have g1 : w4.frozen? ⟨b, 1, none⟩ = false := hi2.free 1; have HOWN := Lib.hid hown2; have HGROW := Lib.hid hgrow; have HAT := Lib.hid hat; clear hi2 hown2 hgrow hat))
    go_ret
    have hl2 : (L ++ [UInt8.ofNat t]).length = L.length + 1 := by simp
    have hc2 : cellsOf L ++ [Value.int .u8 (t : Int)] = cellsOf (L ++ [UInt8.ofNat t]) := by
      have h8 : (UInt8.ofNat t).toNat = t := by
        have h := UInt8.toNat_ofNat' (n := t)
        omega
      rw [cellsOf_snoc, h8]
    have hp := HS3.out.put (L2 := L ++ [UInt8.ofNat t]) ((But.refl [] W).alloc _) HI.out HOG.out HGROW.out (by rw [← hc2]; exact HOWN.out) hl2 (fun g e => by
      rcases HAT.out with h | h
      · left; rw [h]; exact e
      · right
        have : gg = g := by simpa [Value.ownBlock] using e
        omega) (by have := HBIG.out; rw [hl2]; omega)
    exact GotE.of rfl (HM3.out.trans hp.2) (fun e => absurd rfl e) (fun _ => ⟨by rw [HR.out, when_not (by have := HBIG.out; omega)]; rfl, hp.1⟩)

theorem rLen_le {t n q : Nat} (h : rLen t s p = .ok (n, q)) (ht : 256 < t) : 3 ≤ n ∧ n ≤ 258 := by
  unfold rLen at h
  obtain ⟨h1, h2⟩ := ok_when h
  obtain ⟨⟨x, q1⟩, h3, h4⟩ := ok_bind h2
  have hx := rBits_lt h3
  have hl := lenBase_le ht (by omega)
  unfold rPure at h4
  injection h4 with h4
  injection h4 with h4 _
  subst h4
  dsimp only
  omega
theorem rDst_le {d : List Int} {n q : Nat} (h : rDst d s p = .ok (n, q)) : 1 ≤ n ∧ n ≤ 32768 := by
  unfold rDst at h
  obtain ⟨⟨u, q1⟩, h1, h2⟩ := ok_bind h
  obtain ⟨hu, h3⟩ := ok_when h2
  obtain ⟨⟨x, q2⟩, h4, h5⟩ := ok_bind h3
  have hx := rBits_lt h4
  have hl := dstBase_le (u := u) (by dsimp only at hu; omega)
  unfold rPure at h5
  injection h5 with h5
  injection h5 with h5 _
  subst h5
  dsimp only at hx ⊢
  omega
theorem bits_byte (x : UInt8) : IntKind.u8.wrap (x.toNat : Int) = (x.toNat : Int) := by
  have := x.toNat_lt
  rw [IntKind.wrap_u8]; omega
set_option maxHeartbeats 1000000 in
theorem match_any {d : List Int} {bd : Nat} {x : Option Addr} {tv : Value} (h : SS w b rb db og s p M L fs fd) (hc : chk d = 0) (hT : Keep (Foot b rb og) w fun w' => TT w' bd d) (t : Nat) (ht : 256 < t)
    (htv : tv = .agg #[.pointer x, .pointer (some ⟨bd, 0, none⟩)]) :
    Calls Tryz.prog 91 #[.pointer (some ⟨b, 0, none⟩), .int .i64 t, tv] w (GotE w b rb db og s M fs fd (rMatch d M t L s p)) := by
  subst htv
  have h1 := h.alloc (.cells #[.pointer x, .pointer (some ⟨bd, 0, none⟩)] 46)
  have m1 := Mv.alloc (b := b) (rb := rb) (w := w) (og := og) (.cells #[.pointer x, .pointer (some ⟨bd, 0, none⟩)] 46)
  have hlen := matchLen_any h1 t ht
  have hI := Is.fresh w 46 #[.pointer x, .pointer (some ⟨bd, 0, none⟩)]
  have hwb := h.lt
  have hft : w.heap.size ∉ Foot b rb og := fun hk => by
    have h2 := h.hr
    unfold Foot at hk
    rcases List.mem_cons.1 hk with e | hk
    · omega
    rcases List.mem_cons.1 hk with e | hk
    · omega
    have := h.out w.heap.size (by simpa using hk)
    omega
  have HFT := Lib.hid hft
  have HL := Lib.hid hlen
  clear hft
  have HM1 := Lib.hid m1
  have HT := Lib.hid (m1.keep hT)
  have HC := Lib.hid hc
  have HI := Lib.hid hI
  clear h h1 m1 hlen hT hc hI
  go_enter Tryz.func91, Tryz.ntmps91
  go_wp2_with fail
  refine HL.out.mono ?_
  rintro e w1 ⟨n, er, q, rfl, hMv, he1, he2⟩
  have hI1 := HI.out.but hMv.but (fun hk => by
    rcases hMv.foot _ hk with h | h <;> rcases List.mem_cons.1 hk with h2 | h2
    all_goals first | omega | exact HFT.out hk)
  have HI1 := Lib.hid hI1
  have HM := Lib.hid (HM1.out.trans hMv)
  have HT1 := Lib.hid (hMv.keep HT.out)
  have HE1 := Lib.hid he1
  have HE2 := Lib.hid he2
  have k0 : w1.cell? ⟨w.heap.size, 0, none⟩ = some (.pointer x) := hI1.cell 0
  have k1 : w1.cell? ⟨w.heap.size, 1, none⟩ = some (.pointer (some ⟨bd, 0, none⟩)) := hI1.cell 1
  clear hI1 hMv he1 he2 HI
  by_cases her : er = 0
  · obtain ⟨hr, hS⟩ := HE2.out her
    have hdst := matchDist_any (x := x) hS HC.out HT1.out
    have HRR := Lib.hid hr
    have HD := Lib.hid hdst
    clear hr hS HE1 HE2 hdst
    subst her
    go_wp2_with fail
    refine HD.out.mono ?_
    rintro e w2 ⟨far, er, q2, rfl, hMv, he1, he2⟩
    have HM2 := Lib.hid (HM.out.trans hMv)
    have HE1 := Lib.hid he1
    have HE2 := Lib.hid he2
    have hr2 : rMatch d M t L s p = rBind (rDst d) (fun far => rWhen (L.length < far) 15 (rWhen (M < (L.length : Int) + (n : Nat)) 5 (rPure (matchOut far n L)))) s q := by unfold rMatch; exact bind_val HRR.out
    have HR2 := Lib.hid hr2
    have hn := rLen_le HRR.out ht
    clear hMv he1 he2 hr2 k0 k1 HD HI1 HT1
    by_cases her : er = 0
    · obtain ⟨hr, hS⟩ := HE2.out her
      have hf := rDst_le hr
      have hr3 : rMatch d M t L s p = rWhen (L.length < far) 15 (rWhen (M < (L.length : Int) + (n : Nat)) 5 (rPure (matchOut far n L))) s q2 := by rw [HR2.out]; exact bind_val hr
      have HR3 := Lib.hid hr3
      have HS := Lib.hid hS
      have hLb : L.length ≤ 1099511627776 := by have := hS.hM; have := hS.hL; omega
      obtain ⟨A, c, hi, _, _⟩ := hS.at
      have k1 : w2.cell? ⟨b, 1, none⟩ = some (.slice A L.length c) := hi.cell 1
      have hrm := hS.room n (by omega)
      have HRM := Lib.hid hrm
      clear hr hS hr3 HE1 HE2 hrm hi
      subst her
      by_cases hfar : L.length < far
      · have HFAR := Lib.hid hfar
        have d1 : decide (L.length < far) = true := by simpa using hfar
        clear hfar
        go_wp2
        go_ret
        exact GotE.of (L' := []) (q := 0) rfl HM2.out (fun _ => by rw [HR3.out, when_yes HFAR.out]) (fun e => absurd e (by decide))
      · have HFAR := Lib.hid hfar
        have d1 : decide (L.length < far) = false := by simpa using hfar
        clear hfar
        by_cases hbig : M < (L.length : Int) + (n : Int)
        · have HBIG := Lib.hid hbig
          have hrm := HRM.out
          rw [if_pos hbig] at hrm
          have HRM := Lib.hid hrm
          clear hrm hbig
          go_wp2_with fail
          refine HRM.out.mono ?_
          rintro e w3 ⟨rfl, nq3, rfl⟩
          go_wp2
          go_ret
          exact GotE.of (L' := []) (q := 0) rfl (HM2.out.trans (Mv.drewN _)) (fun _ => by rw [HR3.out, when_not (by have := HFAR.out; omega), when_yes (by have := HBIG.out; omega)]) (fun e => absurd e (by decide))
        · have HBIG := Lib.hid hbig
          have hrm := HRM.out
          rw [if_neg hbig] at hrm
          have HRM := Lib.hid hrm
          clear hrm hbig
          go_wp2_with fail
          refine HRM.out.mono ?_
          rintro e w3 ⟨rfl, nq3, rfl⟩
          have HS3 := Lib.hid (HS.out.drewN nq3)
          have HM3 := Lib.hid (HM2.out.trans (Mv.drewN nq3))
          clear k1 d1
          generalize w2.drewN nq3 = w3 at *
          go_wp2
          go_loopw [45] (fun iv wr => ∃ (j : Nat) (og1 : Option Nat), j ≤ n ∧ iv = .int .i64 j ∧ SS wr b rb db og1 s q2 M (matchOut far j L) fs fd ∧ Mv b rb w wr og og1) (fun iv _ => n - (intOf iv).toNat)
          case atStart => exact ⟨0, og, Nat.zero_le _, rfl, HS3.out, HM3.out⟩
          case round =>
            obtain ⟨j, og1, hj, rfl, hS, hMv⟩ := hrel
            clear HS3 HM3 HRM HS HM HM2 HM1
            have HMV := Lib.hid hMv
            clear hMv
            by_cases hlt : j < n
            · have hms := matchOut_succ far j L
              have hml := length_matchOut far j L
              generalize hL1 : matchOut far j L = L1 at *
              have HMS := Lib.hid hms
              have HL1 := Lib.hid hL1
              have hk1 : far ≤ L1.length := by have := HFAR.out; omega
              have hk2 : L1.length ≤ 1099511627776 + 258 := by omega
              obtain ⟨i, hie⟩ : ∃ i, i = L1.length - far := ⟨_, rfl⟩
              obtain ⟨A, c, hi, hown, hog⟩ := hS.at
              obtain ⟨g, rfl, hbg, hgl, hcell⟩ := out_byte hown (i := i) (by omega)
              have k1 : wr.cell? ⟨b, 1, none⟩ = some (.slice (some ⟨g, 0, none⟩) L1.length c) := hi.cell 1
              have hne := out_ne hown hi
              have hblt := hS.lt
              have hby := bits_byte (L1.getD i 0)
              obtain ⟨y, hy⟩ : ∃ y, y = L1.getD i 0 := ⟨_, rfl⟩
              rw [← hy] at hcell hby
              have HY := Lib.hid hy
              have HS := Lib.hid hS
              have HI := Lib.hid hi
              have HOG := Lib.hid hog
              have HNE := Lib.hid hne
              have HOWN0 := Lib.hid hown
              have HML := Lib.hid hml
              have ei : ((L1.length : Int) - (far : Int)) = (i : Int) := by omega
              have ew : IntKind.i64.wrap (i : Int) = (i : Int) := IntWalk.i64_in _ (by omega)
              have b0 : (0 : Int) ≤ (i : Int) := by omega
              have b1 : (i : Int) < (L1.length : Int) := by omega
              have HIE := Lib.hid hie
              clear hms hL1 hS hi hog hne hown hy hml hie
              obtain ⟨i0, hi0, hz0, hz1, hz2⟩ := info_parts info_u8
              go_wp2
              go_region_law (go_loud (refine step_append_lies _ (by rfl) _ _ _ (by rfl) (b + 1) 5 i0 _ 1 1 Tryz.underlying40 hi0 hz0 hz1 hz2 rfl (by omega) (.slice (some ⟨g, 0, none⟩) L1.length c) L1.length (cellsOf L1) (by rfl) ((HOWN0.out.alloc _).drew) ⟨wr.heap.size, 0, none⟩ 1 1 [.int .u8 (y.toNat : Int)] (by rfl) (by rfl) (World.news_of_block (cs := #[.int .u8 (y.toNat : Int)]) (t := 5) (fr := (0, 0)) (heap_alloc_new wr _)) (by simp [Value.oneCell']) (by omega) (by unfold maxLen; omega) (by omega) (by simp; omega) (wr.heap.size + 1) (by simp) ?_; intro gg cap w4 hown2 hgrow hat _; have hi2 := (((HI.out.alloc (.cells #[.int .u8 (y.toNat : Int)] 5)).drew).grown hgrow (Ne.symm HNE.out)); have g0 : w4.cell? ⟨b, 1, none⟩ = some (.slice (some ⟨g, 0, none⟩) L1.length c) := hi2.cell 1; have g1 : w4.frozen? ⟨b, 1, none⟩ = false := hi2.free 1; have HOWN := Lib.hid hown2; have HGROW := Lib.hid hgrow; have HAT := Lib.hid hat; clear hi2 hown2 hgrow hat))
              all_goals
                go_wp2
                go_roundw
                case rel =>
                  have hp := HS.out.put (L2 := L1 ++ [y]) (((But.refl [] wr).alloc _).drew) HI.out HOG.out HGROW.out (by rw [cellsOf_snoc]; exact HOWN.out) (by simp) (fun g e => by
                    rcases HAT.out with h | h
                    · left; rw [h]; exact e
                    · right
                      have : gg = g := by simpa [Value.ownBlock] using e
                      omega) (by have := HBIG.out; have := HML.out; simp; omega)
                  refine ⟨j + 1, _, by omega, by go_num, ?_, HMV.out.trans hp.2⟩
                  rw [HMS.out, ← HIE.out, ← HY.out]
                  exact hp.1
                case measure => simp [intOf]; omega
            · obtain rfl : j = n := by omega
              have HS := Lib.hid hS
              clear hS
              go_wp2
              go_ret
              exact GotE.of rfl HMV.out (fun e => absurd rfl e) (fun _ => ⟨by rw [HR3.out, when_not (by have := HFAR.out; omega), when_not (by have := HBIG.out; omega)]; rfl, HS.out⟩)
    · have d2 : (er != 0) = true := by simpa using her
      have HER := Lib.hid her
      clear her
      go_wp2
      go_ret
      exact GotE.of (L' := []) (q := 0) rfl HM2.out (fun _ => by rw [HR2.out]; exact bind_err (HE1.out HER.out)) (fun e => absurd e HER.out)
  · have d2 : (er != 0) = true := by simpa using her
    have HER := Lib.hid her
    clear her
    go_wp2
    go_ret
    exact GotE.of (L' := []) (q := 0) rfl HM.out (fun _ => by unfold rMatch; exact bind_err (HE1.out HER.out)) (fun e => absurd e HER.out)
end
end Go.Proofs.YtghegmbafbpnjaaGreatDoor
namespace Go.Proofs.YtghegmbafbpnjaaGreatDoor
set_option maxRecDepth 100000
open Go Go.RowKit
theorem ret_one {a b : Int} (h : a = b) : Ending.returned (.int .i64 a) = .returned (.int .i64 b) := by rw [h]
set_option maxHeartbeats 1000000 in
theorem lengthBits_any {w : World} (t : Nat) (ht : t ≤ 100000) :
    Calls Tryz.prog 96 #[.int .i64 t] w fun e w' => e = .returned (.int .i64 (lenBits t : Nat)) ∧ w = w' := by
  by_cases h1 : t < 265
  · have d1 : decide ((t : Int) < 265) = true := by simp; omega
    have hr : lenBits t = 0 := if_pos (.inl h1)
    have HR := Lib.hid hr
    clear hr h1
    go_enter Tryz.func96, Tryz.ntmps96
    go_wp2
    go_ret
    exact ⟨by rw [HR.out]; rfl, rfl⟩
  · have d1 : decide ((t : Int) < 265) = false := by simp; omega
    by_cases h2 : t = 285
    · subst h2
      have hr : lenBits 285 = 0 := if_pos (.inr rfl)
      have HR := Lib.hid hr
      clear hr h1
      go_enter Tryz.func96, Tryz.ntmps96
      go_wp2
      go_ret
      exact ⟨by rw [HR.out]; rfl, rfl⟩
    · have d2 : ((t : Int) == 285) = false := by simp; omega
      have hr : lenBits t = (t - 261) / 4 := if_neg (by omega)
      obtain ⟨m, hm⟩ : ∃ m, m = t - 261 := ⟨_, rfl⟩
      rw [← hm] at hr
      have e1 : wrap64 ((t : Int) - 261) = (m : Int) := by rw [IntWalk.wrap64_in _ ⟨by omega, by omega⟩]; omega
      have HR := Lib.hid hr
      have HM := Lib.hid (show m = t - 261 ∧ 265 ≤ t from ⟨hm, by omega⟩)
      clear hr h1 h2 hm
      go_enter Tryz.func96, Tryz.ntmps96
      go_wp2
      go_ret
      exact ⟨ret_one (by rw [HR.out, Int.tdiv_eq_ediv_of_nonneg (by have := HM.out; omega)]; have := HM.out; omega), rfl⟩
set_option maxHeartbeats 1000000 in
theorem distanceBits_any {w : World} (t : Nat) (ht : t ≤ 100000) :
    Calls Tryz.prog 97 #[.int .i64 t] w fun e w' => e = .returned (.int .i64 (dstBits t : Nat)) ∧ w = w' := by
  by_cases h1 : t < 4
  · have d1 : decide ((t : Int) < 4) = true := by simp; omega
    have hr : dstBits t = 0 := if_pos h1
    have HR := Lib.hid hr
    clear hr h1
    go_enter Tryz.func97, Tryz.ntmps97
    go_wp2
    go_ret
    exact ⟨by rw [HR.out]; rfl, rfl⟩
  · have d1 : decide ((t : Int) < 4) = false := by simp; omega
    have hr : dstBits t = t / 2 - 1 := if_neg h1
    have HR := Lib.hid hr
    have H1 := Lib.hid h1
    clear hr h1
    go_enter Tryz.func97, Tryz.ntmps97
    go_wp2
    go_ret
    exact ⟨ret_one (by rw [HR.out]; have := H1.out; omega), rfl⟩

/-- The least length below symbol 257 + k. -/
def lenSum (k : Nat) : Nat := 3 + ((List.range k).map fun k => 2 ^ lenBits (257 + k)).sum
theorem lenSum_succ (k : Nat) : lenSum (k + 1) = lenSum k + 2 ^ lenBits (257 + k) := by unfold lenSum; rw [List.range_succ, List.map_append, List.sum_append]; simp; omega
def dstSum (k : Nat) : Nat := 1 + ((List.range k).map fun k => 2 ^ dstBits k).sum
theorem dstSum_succ (k : Nat) : dstSum (k + 1) = dstSum k + 2 ^ dstBits k := by unfold dstSum; rw [List.range_succ, List.map_append, List.sum_append]; simp; omega
theorem lenB5 {k : Nat} (h : k ≤ 28) : lenBits (257 + k) ≤ 5 := by unfold lenBits; split <;> omega
theorem dstB13 {k : Nat} (h : k ≤ 29) : dstBits k ≤ 13 := by unfold dstBits; split <;> omega
theorem pow5 {b : Nat} (h : b ≤ 13) : 2 ^ b ≤ 8192 := Nat.pow_le_pow_right (n := 2) (by decide) h
theorem two_pow (b : Nat) : (2 : Int) ^ b = ((2 ^ b : Nat) : Int) := by simp
theorem shl_one {b : Nat} (h : b ≤ 13) : wrap64 ((2 : Int) ^ b) = ((2 ^ b : Nat) : Int) := by
  have := pow5 h
  rw [two_pow]
  generalize 2 ^ b = z at *
  rw [IntWalk.wrap64_in _ ⟨by omega, by omega⟩]
set_option maxHeartbeats 1000000 in
theorem length_any {w : World} (t : Nat) (h1 : 257 ≤ t) (h2 : t ≤ 285) :
    Calls Tryz.prog 68 #[.int .i64 t] w fun e w' => e = .returned (.tuple #[.int .i64 (lenBase t : Nat), .int .i64 (lenBits t : Nat)]) ∧ w = w' := by
  by_cases h3 : t = 285
  · subst h3
    have hr : lenBits 285 = 0 := if_pos (.inr rfl)
    have hb : lenBase 285 = 258 := if_pos rfl
    have HR := Lib.hid hr
    have HB := Lib.hid hb
    clear hr hb h1 h2
    go_enter Tryz.func68, Tryz.ntmps68
    go_wp2
    go_ret2
    exact ⟨by rw [HR.out, HB.out]; rfl, rfl⟩
  · have d : ((t : Int) == 285) = false := by simp; omega
    have hb : lenBase t = lenSum (t - 257) := if_neg h3
    have HB := Lib.hid hb
    clear hb h3
    go_enter Tryz.func68, Tryz.ntmps68
    go_wp2
    go_loopw [4, 5] (fun nv sv wr => ∃ k : Nat, 257 + k ≤ t ∧ nv = .int .i64 (lenSum k : Nat) ∧ sv = .int .i64 ((257 + k : Nat) : Int) ∧ lenSum k ≤ 3 + k * 32 ∧ w = wr) (fun _ sv _ => t - (intOf sv).toNat)
    case atStart => exact ⟨0, by omega, rfl, rfl, by decide, rfl⟩
    case round =>
      obtain ⟨k, hk, rfl, rfl, hle, rfl⟩ := hrel
      obtain ⟨u, hu⟩ : ∃ u, u = 257 + k := ⟨_, rfl⟩
      rw [← hu]
      by_cases hlt : u < t
      · have hs := lenSum_succ k
        have hbb := lenB5 (k := k) (by omega)
        have hc := lengthBits_any (w := w) u (by omega)
        rw [← hu] at hs hbb
        generalize hB : lenBits u = B at *
        have hp : 2 ^ B ≤ 32 := Nat.pow_le_pow_right (n := 2) (by decide) hbb
        have e1 := shl_one (b := B) (by omega)
        generalize hX : lenSum k = X at *
        have HS := Lib.hid hs
        have HC := Lib.hid hc
        have HU := Lib.hid hu
        have e1b := two_pow B
        generalize 2 ^ B = P at *
        have e2 : wrap64 ((X : Int) + (P : Int)) = (X : Int) + (P : Int) := IntWalk.wrap64_in _ ⟨by omega, by omega⟩
        have hB13 : (B : Int) < 64 := by omega
        clear hs hc hu hB hX
        go_wp2_with fail
        refine HC.out.mono ?_
        rintro e w2 ⟨rfl, rfl⟩
        go_wp2
        go_roundw
        case rel => exact ⟨k + 1, by have := HU.out; omega, by rw [HS.out]; go_num, by have := HU.out; go_num, by rw [HS.out]; omega, by trivial⟩
        case measure => simp [intOf]; have := HU.out; omega
      · obtain rfl : u = t := by omega
        have hc := lengthBits_any (w := w) u (by omega)
        have HC := Lib.hid hc
        have HU := Lib.hid hu
        clear hc hu
        go_wp2_with fail
        refine HC.out.mono ?_
        rintro e w2 ⟨rfl, rfl⟩
        go_wp2
        go_ret2
        have e : lenBase u = lenSum k := HB.out.trans (by rw [HU.out, Nat.add_sub_cancel_left])
        exact ⟨by rw [e]; rfl, rfl⟩
set_option maxHeartbeats 1000000 in
theorem distance_any {w : World} (t : Nat) (h2 : t ≤ 29) :
    Calls Tryz.prog 69 #[.int .i64 t] w fun e w' => e = .returned (.tuple #[.int .i64 (dstBase t : Nat), .int .i64 (dstBits t : Nat)]) ∧ w = w' := by
  have hb : dstBase t = dstSum t := rfl
  have HB := Lib.hid hb
  clear hb
  go_enter Tryz.func69, Tryz.ntmps69
  go_wp2
  go_loopw [4, 5] (fun nv sv wr => ∃ k : Nat, k ≤ t ∧ nv = .int .i64 (dstSum k : Nat) ∧ sv = .int .i64 k ∧ dstSum k ≤ 1 + k * 8192 ∧ w = wr) (fun _ sv _ => t - (intOf sv).toNat)
  case atStart => exact ⟨0, by omega, rfl, rfl, by decide, rfl⟩
  case round =>
    obtain ⟨k, hk, rfl, rfl, hle, rfl⟩ := hrel
    by_cases hlt : k < t
    · have hs := dstSum_succ k
      have hbb := dstB13 (k := k) (by omega)
      have hc := distanceBits_any (w := w) k (by omega)
      generalize hB : dstBits k = B at *
      have hp := pow5 (b := B) (by omega)
      have e1 := shl_one (b := B) (by omega)
      generalize hX : dstSum k = X at *
      have HS := Lib.hid hs
      have HC := Lib.hid hc
      have e1b := two_pow B
      generalize 2 ^ B = P at *
      have e2 : wrap64 ((X : Int) + (P : Int)) = (X : Int) + (P : Int) := IntWalk.wrap64_in _ ⟨by omega, by omega⟩
      have hB13 : (B : Int) < 64 := by omega
      clear hs hc hB hX
      go_wp2_with fail
      refine HC.out.mono ?_
      rintro e w2 ⟨rfl, rfl⟩
      go_wp2
      go_roundw
      case rel => exact ⟨k + 1, by omega, by rw [HS.out]; go_num, by go_num, by rw [HS.out]; omega, by trivial⟩
      case measure => simp [intOf]; omega
    · obtain rfl : k = t := by omega
      have hc := distanceBits_any (w := w) k (by omega)
      have HC := Lib.hid hc
      clear hc
      go_wp2_with fail
      refine HC.out.mono ?_
      rintro e w2 ⟨rfl, rfl⟩
      go_wp2
      go_ret2
      exact ⟨by rw [HB.out]; rfl, rfl⟩
end Go.Proofs.YtghegmbafbpnjaaGreatDoor
namespace Go.Proofs.YtghegmbafbpnjaaGreatDoor
set_option maxRecDepth 100000
open Go Go.RowKit
theorem and_low (n : Nat) (h : n ≤ 100000) : Go.bits .and .u64 (n : Int) 4294967295 = (n : Int) := by
  have h1 := u64_and_nat n 4294967295 (by omega) (by decide)
  have h2 : n &&& 4294967295 = n := by
    have := Nat.and_two_pow_sub_one_eq_mod n 32
    rw [show (4294967295 : Nat) = 2 ^ 32 - 1 from rfl, this]
    exact Nat.mod_eq_of_lt (by omega)
  rw [h2] at h1
  exact h1
theorem u64_low (n : Nat) (h : n ≤ 100000) : IntKind.u64.wrap (n : Int) = (n : Int) := by
  rw [IntKind.wrap_u64]; omega
set_option maxHeartbeats 1000000 in
theorem mul64_one (n : Nat) (h : n ≤ 100000) (w : World) :
    Calls Tryz.prog 117 #[.int .u64 1, .int .u64 n] w fun e w' => e = .returned (.tuple #[.int .u64 0, .int .u64 n]) ∧ w = w' := by
  have e1 := and_low n h
  have e2 : (n : Int) / 4294967296 = 0 := by omega
  have e3 : Go.bits .and .u64 1 4294967295 = 1 := and_low 1 (by omega)
  have e4 := u64_low n h
  have e5 : Go.bits .and .u64 0 4294967295 = 0 := and_low 0 (by omega)
  go_enter Tryz.func117, Tryz.ntmps117
  go_wp2
  go_ret2
  exact ⟨rfl, rfl⟩
set_option maxHeartbeats 1000000 in
theorem mul_one (n : Nat) (h : n ≤ 100000) (w : World) :
    Calls Tryz.prog 98 #[.int .u64 1, .int .u64 n] w fun e w' => e = .returned (.tuple #[.int .u64 0, .int .u64 n]) ∧ w = w' := by
  have e4 := u64_low n h
  have HM := Lib.hid (mul64_one n h w)
  clear h
  go_enter Tryz.func98, Tryz.ntmps98
  go_wp2_with fail
  refine HM.out.mono ?_
  rintro e w' ⟨rfl, rfl⟩
  go_wp2
  go_ret2
  exact ⟨rfl, rfl⟩

/-- A row of numbers that is known whole. -/
def Whole (w : World) (g : Nat) (l : List Int) : Prop := Is w g 3 (l.map (Value.int .i64)).toArray
theorem OwnI.whole {w : World} {base g n : Nat} {l : List Int} (h : OwnI w base (.slice (some ⟨g, 0, none⟩) n n) l) (hl : l.length = n) : Whole w g l ∧ base ≤ g := by
  unfold OwnI at h
  rcases h.2 with ⟨e, _⟩ | ⟨g', cap, cur, e, hb, hh, h1, h2, h3, h4⟩
  · cases e
  · injection e with e1 e2 e3
    injection e1 with e1
    injection e1 with e1
    subst e1 e3
    refine ⟨?_, hb⟩
    unfold Whole Is
    have : cur = (l.map (Value.int .i64)).toArray := by
      apply Array.ext'
      rw [← h4, List.take_of_length_le (by rw [Array.length_toList, h3, hl]; omega)]
    rw [← this]; exact hh
theorem Whole.own {w : World} {base g n : Nat} {l : List Int} (h : Whole w g l) (hl : l.length = n) (hb : base ≤ g) (hn : n ≤ 100000) : OwnI w base (.slice (some ⟨g, 0, none⟩) n n) l := by
  unfold OwnI
  refine ⟨by simp, .inr ⟨g, n, (l.map (Value.int .i64)).toArray, by rw [hl], hb, h, by omega, by unfold maxLen; omega, by simp; omega, by rw [List.take_of_length_le (by simp)]⟩⟩
/-- The cells of a row that is filled up to k. -/
def fillC (x : Int) (k n : Nat) : List Value := List.replicate k (.int .i64 x) ++ List.replicate (n - k) (.int .i64 0)
theorem length_fillC (x : Int) {k n : Nat} (h : k ≤ n) : (fillC x k n).length = n := by unfold fillC; simp; omega
theorem splice_fill (x : Int) (k n m : Nat) (h : k + m ≤ n) : splice (fillC x k n) k (List.replicate m (Value.int .i64 x)) = fillC x (k + m) n := by
  unfold splice fillC
  rw [List.take_append_of_le_length (by simp), List.take_of_length_le (by simp), List.length_replicate, List.drop_append]
  simp only [List.length_replicate, List.drop_replicate]
  rw [show k - (k + m) = 0 from by omega, show n - k - (k + m - k) = n - (k + m) from by omega, List.replicate_zero, List.nil_append, ← List.append_assoc, List.replicate_append_replicate]
theorem fill_at (x : Int) {k n j : Nat} (h : j < k) : (fillC x k n)[j]? = some (.int .i64 x) := by
  unfold fillC
  rw [List.getElem?_append_left (by simp; exact h), List.getElem?_replicate, if_pos h]
def Fill (w : World) (g : Nat) (x : Int) (k n : Nat) : Prop := Is w g 3 (fillC x k n).toArray
theorem fill_start {w : World} {g n : Nat} (x : Int) (h : Whole w g (List.replicate n 0)) : Fill w g x 0 n := by
  unfold Whole at h
  unfold Fill fillC
  rw [List.map_replicate] at h
  simpa using h
theorem fill_end {w : World} {g n : Nat} {x : Int} (h : Fill w g x n n) : Whole w g (List.replicate n x) := by
  unfold Fill fillC at h
  unfold Whole
  rw [List.map_replicate]
  simpa using h

theorem but_of_below {w w' : World} (h : Below w.heap.size w w') : But [] w w' := ⟨h.os, h.tape, h.output, h.size, fun k hk _ => h.block k hk⟩
theorem fill_src {w : World} {g k n m j : Nat} {x : Int} {v : Value} (h : Fill w g x k n) (hv : (List.replicate m (Value.int .i64 x))[j]? = some v) (hm : m ≤ k) : w.drew.cell? ((⟨g, 0, none⟩ : Addr).add j) = some v := by
  have hj : j < m := by
    have := (List.getElem?_eq_some_iff.1 hv).1
    simpa using this
  rw [List.getElem?_replicate, if_pos hj] at hv
  have e2 : (⟨g, 0, none⟩ : Addr).add j = ⟨g, j, none⟩ := by unfold Addr.add; split <;> simp_all
  rw [e2]
  have hc : w.cell? ⟨g, j, none⟩ = (fillC x k n).toArray[j]? := h.cell j
  show w.cell? _ = _
  rw [hc, List.getElem?_toArray, fill_at x (by omega)]
  exact hv
attribute [local irreducible] fillC
set_option maxHeartbeats 1000000 in
theorem repeat_any (x : Int) {g c n : Nat} {w : World} (hg : w.cell? ⟨g, 0, none⟩ = some (.int .i64 x)) (hn0 : 0 < n) (hn : n ≤ 100000) :
    Calls Tryz.prog 74 #[.slice (some ⟨g, 0, none⟩) 1 c, .int .i64 n] w fun e w' => ∃ gg cc, e = .returned (.slice (some ⟨gg, 0, none⟩) n cc) ∧ OwnI w' w.heap.size (.slice (some ⟨gg, 0, none⟩) n cc) (List.replicate n x) ∧ But [] w w' := by
  obtain ⟨i0, hi0, hz0, hz1, hz2⟩ := info_parts info_int
  have e4 := u64_low n hn
  have e6 : decide ((9223372036854775807 : Int) < (n : Int)) = false := by simp; omega
  have HM := Lib.hid (mul_one n hn w)
  have HG := Lib.hid hg
  clear hg
  go_enter Tryz.func74, Tryz.ntmps74
  go_wp2_with fail
  refine HM.out.mono ?_
  rintro e w' ⟨rfl, rfl⟩
  have hsz : (Tryz.prog.info? 3).map (·.size) = some 1 := by rw [hi0]; simp [hz1]
  go_wp2_with (first
    | (at_make; refine wpList_make_full _ rfl _ _ 58 rfl w.heap.size 3 i0 _ 1 Tryz.underlying58 hi0 hz0 hz1 _ _ _ _ n rfl rfl (by omega) (by omega) (by rw [hz2]; omega) (by unfold maxLen; omega) (by simp) ?_; intro w1 hown hgrow; have HW := Lib.hid (fill_start x (OwnI.whole (OwnI.made hown) (by simp)).1); have HB := Lib.hid ((But.refl [] w).grown hgrow (fun g e => by cases e)); clear hown hgrow)
    | ((with_reducible show wpList _ _ _ _ _ _); refine wpList_copy_splice (o := ⟨some 33, _, _, _, _, _⟩) rfl (.tmp 31) (.tmp 32) 58 58 rfl 3 Tryz.underlying58 hsz _ _ _ _ _ _ rfl rfl w.heap.size 0 (fillC x 0 n) 3 HW.out [.int .i64 x] ?c1 ?c2 ?c3 ?c4 w.heap.size w HB.out.belowNew (Nat.le_refl _) ?_))
  case c1 => show 1 = min 1 n; omega
  case c2 =>
    intro j v hv
    rcases j with _ | j
    · obtain rfl : Value.int .i64 x = v := by simpa using hv
      exact HB.out.cell HG.out (by simp)
    · simp at hv
  case c3 => rw [length_fillC x (by omega)]; simp; omega
  case c4 => intro v hv; simp at hv; subst hv; rfl
  intro w2 hH hB2
  have hH2 : Hid (Fill w2 w.heap.size x 1 n) := by
    have h1 := hH.out
    have h2 := splice_fill x 0 n 1 (by omega)
    rw [show [Value.int .i64 x] = List.replicate 1 (Value.int .i64 x) from rfl, h2] at h1
    exact h1
  have HB2 := Lib.hid hB2
  clear hH hB2 HW HB HM HG
  go_wp2
  go_loopw [8] (fun kv wr => ∃ k : Nat, 1 ≤ k ∧ k ≤ n ∧ kv = .int .i64 k ∧ Fill wr w.heap.size x k n ∧ Below w.heap.size w wr) (fun kv _ => n - (intOf kv).toNat)
  case atStart => exact ⟨1, Nat.le_refl _, hn0, rfl, hH2.out, HB2.out⟩
  case round =>
    obtain ⟨k, hk1, hkn, rfl, hWr, hBr⟩ := hrel
    clear hH2 HB2
    have HWR := Lib.hid hWr
    have HBR := Lib.hid hBr
    clear hWr hBr
    by_cases hlt : k < n
    · obtain ⟨m, hm⟩ : ∃ m, m = min k (n - k) := ⟨_, rfl⟩
      have hm1 : 1 ≤ m := by omega
      have hm2 : k + m ≤ n := by omega
      have HMM := Lib.hid hm
      clear hm
      have hnk : ¬ n = k := by omega
      have hwr : IntKind.i64.wrap ((k : Int) + (m : Int)) = ((k + m : Nat) : Int) := IntWalk.i64_in _ (by omega)
      have dnk : decide (n < k) = false := by simp; omega
      go_wp2
      go_region_law ((refine step_copy_splice (by rfl) _ _ _ _ (by rfl) 3 Tryz.underlying58 hsz (some ⟨w.heap.size, k, none⟩) (some ⟨w.heap.size, 0, none⟩) (n - k) (n - k) k n ?e1 ?e2 w.heap.size k (fillC x k n) 3 (show wr.drew.heap[w.heap.size]? = _ from HWR.out) (List.replicate m (.int .i64 x)) (show (List.replicate m (Value.int .i64 x)).length = min k (n - k) by rw [List.length_replicate]; exact HMM.out) (fun _ => ⟨rfl, (⟨w.heap.size, 0, none⟩ : Addr), rfl, fun j v hv => fill_src HWR.out hv (by have := HMM.out; omega)⟩) (by rw [length_fillC x hkn, List.length_replicate]; exact hm2) (fun v hv => by rw [List.eq_of_mem_replicate hv]; rfl) w.heap.size w (HBR.out.drew) (Nat.le_refl _) ?_); (case e1 => go_simp); (case e2 => go_simp); intro w3 hH hB3; have hH3 : Hid (Fill w3 w.heap.size x (k + m) n) := (by have h1 := hH.out; rw [splice_fill x k n m hm2] at h1; exact h1); have HB3 := Lib.hid hB3; clear hH hB3)
      all_goals
        go_simp
        go_wp2
        go_roundw
        case rel => exact ⟨k + m, by omega, hm2, by go_num, hH3.out, HB3.out⟩
        case measure => simp [intOf]; omega
    · obtain rfl : k = n := by omega
      go_wp2
      go_ret
      exact ⟨w.heap.size, k, rfl, (fill_end HWR.out).own (by simp) (Nat.le_refl _) hn, but_of_below HBR.out⟩

theorem own_some {w : World} {base : Nat} {v : Value} {l : List Int} (h : OwnI w base v l) (hl : 0 < l.length) : ∃ A c, v = .slice (some A) l.length c ∧ Ints w (some A) l.length l := by
  obtain ⟨A, c, rfl, hI, _⟩ := h.open
  obtain ⟨g, o, rfl, _⟩ := hI.2 hl
  exact ⟨_, c, rfl, hI⟩
set_option maxHeartbeats 1000000 in
/-- The program's repeated. -/
theorem repeated_any (x : Int) {n : Nat} (w : World) (hn0 : 0 < n) (hn : n ≤ 100000) :
    Calls Tryz.prog 109 #[.int .i64 x, .int .i64 n] w fun e w' => ∃ gg cc, e = .returned (.slice (some ⟨gg, 0, none⟩) n cc) ∧ OwnI w' w.heap.size (.slice (some ⟨gg, 0, none⟩) n cc) (List.replicate n x) ∧ But [] w w' := by
  have hr := repeat_any x (c := 1) (w := w.alloc (.cells #[.int .i64 x] 3)) (g := w.heap.size) ((Is.fresh w 3 #[.int .i64 x]).cell 0) hn0 hn
  have HR := Lib.hid hr
  clear hr
  go_enter Tryz.func109, Tryz.ntmps109
  go_wp2_with fail
  refine HR.out.mono ?_
  rintro e w' ⟨gg, cc, rfl, hO, hB⟩
  have HO := Lib.hid hO
  have HB := Lib.hid hB
  clear hO hB
  go_wp2
  go_ret
  refine ⟨gg, cc, rfl, ?_, ((But.refl [] w).alloc _).trans HB.out⟩
  have h := HO.out
  unfold OwnI at h ⊢
  refine ⟨h.1, ?_⟩
  rcases h.2 with h2 | ⟨g, cap, cur, h1, h2, h3⟩
  · exact .inl h2
  · exact .inr ⟨g, cap, cur, h1, by simp at h2; omega, h3⟩
end Go.Proofs.YtghegmbafbpnjaaGreatDoor
