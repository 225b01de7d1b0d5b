/- The program's lengths and distances of matches. -/
import Derived.Test.YtobmghjpfkdooaaDoorInfY
import Derived.Deep.RegionWith
namespace Go.Proofs.YtobmghjpfkdooaaDoor
set_option maxRecDepth 100000
open Go Go.RowKit

section
variable {w w' : World} {b rb db : Nat} {og : Option Nat} {s : ByteArray} {p : Nat} {M : Int} {L : List UInt8} {fs fd : Option Nat}
theorem ext4I (h : SS w b rb db og s p M L fs fd) {i : Int} (k : Nat) (hi : i = k) (hk : k < 30) :
    Calls Tryd.prog 53 #[.pointer (some ⟨b, 0, none⟩), .int .i64 i, .int .i64 4] w (GotN w b rb db og s M L fs fd (rExt k 4 s p)) := by
  subst hi; exact ext4 h k hk
theorem rExt_le {k g v q : Nat} (h : rExt k g s p = .ok (v, q)) (hk : k < 30) (hg : g = 2 ∨ g = 4) : v < 65536 := by
  unfold rExt at h
  obtain ⟨⟨x, q1⟩, h1, h2⟩ := ok_bind h
  have hb : extBits k g ≤ 13 := by unfold extBits; split <;> rcases hg with rfl | rfl <;> omega
  have hx := rBits_lt h1
  have hx2 : x < 2 ^ 13 := Nat.lt_of_lt_of_le hx (Nat.pow_le_pow_right (by decide) hb)
  unfold rPure at h2
  injection h2 with h2
  injection h2 with h2 _
  subst h2
  unfold extVal
  unfold extBits at hb
  split
  · rcases hg with rfl | rfl <;> omega
  · rename_i hn
    rw [if_neg hn] at hb
    have h3 : 2 ^ (k / g - 1) ≤ 2 ^ 13 := Nat.pow_le_pow_right (by decide) hb
    have h4 : g + k % g ≤ 7 := by rcases hg with rfl | rfl <;> omega
    have h5 := Nat.mul_le_mul h4 h3
    show (g + k % g) * 2 ^ (k / g - 1) + x < 65536
    omega

theorem matchLen_any (h : SS w b rb db og s p M L fs fd) (t : Nat) (h1 : 256 < t) :
    Calls Tryd.prog 45 #[.pointer (some ⟨b, 0, none⟩), .int .i64 t] w (GotN w b rb db og s M L fs fd (rLen t s p)) := by
  by_cases h2 : 285 < t
  · have d : decide ((285 : Int) < (t : Int)) = true := by simp; omega
    have hr : rLen t s p = .error 12 := by rw [rLen_far h2]; rfl
    have HR := Lib.hid hr
    clear hr h h1 h2
    go_enter Tryd.func45, Tryd.ntmps45
    go_wp2
    go_ret2
    exact GotN.of (v := 0) (q := 0) rfl (Mv.refl _ _ _ _) (fun _ => HR.out) (fun e => absurd e (by decide))
  · have d : decide ((285 : Int) < (t : Int)) = false := by simp; omega
    by_cases h3 : t = 285
    · subst h3
      have hr : rLen 285 s p = .ok (258, p) := by rw [rLen_top]; rfl
      have HR := Lib.hid hr
      have H := Lib.hid h
      clear hr h h1 h2
      go_enter Tryd.func45, Tryd.ntmps45
      go_wp2
      go_ret2
      exact GotN.of (v := 258) (q := p) rfl (Mv.refl _ _ _ _) (fun e => absurd rfl e) (fun _ => ⟨HR.out, H.out⟩)
    · have d2 : ((t : Int) == 285) = false := by simp; omega
      have hr : rLen t s p = rBind (rExt (t - 257) 4) (fun n => rPure (3 + n)) s p := by rw [ext_len h1 (by omega)]
      have hx := ext4I h (i := (t : Int) - 256 - 1) (t - 257) (by omega) (by omega)
      have HR := Lib.hid hr
      have HX := Lib.hid hx
      have HT := Lib.hid h2
      clear hr hx h h2 h3
      have ht2 : t ≤ 285 := by have := HT.out; omega
      go_enter Tryd.func45, Tryd.ntmps45
      go_wp2_with fail
      refine HX.out.mono ?_
      rintro e w1 ⟨v, er, q, rfl, hMv, he1, he2⟩
      have HM := Lib.hid hMv
      have HE1 := Lib.hid he1
      have HE2 := Lib.hid he2
      clear hMv he1 he2
      by_cases her : er = 0
      · obtain ⟨hr, hS⟩ := HE2.out her
        have hv := rExt_le hr (by omega) (.inr rfl)
        have HRR := Lib.hid hr
        have HS := Lib.hid hS
        clear hr hS HE1 HE2
        subst her
        go_wp2
        go_ret2
        exact GotN.of (v := 3 + v) (ret_num (by omega)) HM.out (fun e => absurd rfl e) (fun _ => ⟨by rw [HR.out, bind_val HRR.out]; rfl, HS.out⟩)
      · have d2 : (er != 0) = true := by simpa using her
        have HER := Lib.hid her
        clear her
        go_wp2
        go_ret2
        exact GotN.of (v := 0) (q := 0) rfl HM.out (fun _ => by rw [HR.out, bind_err (HE1.out HER.out)]) (fun e => absurd e HER.out)

theorem SS.alloc (h : SS w b rb db og s p M L fs fd) (o : Obj) : SS (w.alloc o) b rb db og s p M L fs fd := h.but ((But.refl [] w).alloc o) (by simp)
theorem SS.drew (h : SS w b rb db og s p M L fs fd) : SS w.drew b rb db og s p M L fs fd := h.but ((But.refl [] w).drew) (by simp)
theorem Mv.alloc {og : Option Nat} (o : Obj) : Mv b rb w (w.alloc o) og og := Mv.of ((But.refl [] w).alloc o) (by simp)
theorem Mv.drew {og : Option Nat} : Mv b rb w w.drew og og := Mv.of ((But.refl [] w).drew) (by simp)
/-- A block that a call has just made. -/
theorem box_cell (w : World) (cs : Array Value) (t : TypeId) (i : Nat) : (w.alloc (.cells cs t)).cell? ⟨w.heap.size, i, none⟩ = cs[i]? := (Is.fresh w t cs).cell i

theorem matchDist_any {d : List Int} {bd : Nat} {x : Option Addr} (h : SS w b rb db og s p M L fs fd) (hc : chk d = 0) (hT : Keep (Foot b rb og) w fun w' => TT w' bd d) :
    Calls Tryd.prog 46 #[.pointer (some ⟨b, 0, none⟩), .agg #[.pointer x, .pointer (some ⟨bd, 0, none⟩)]] w (GotN w b rb db og s M L fs fd (rDst d s p)) := by
  have hr : rDst d s p = rBind (rNext d) (fun u => rWhen (29 < u) 12 (rBind (rExt u 2) fun n => rPure (1 + n))) s p := by rw [ext_dst]
  have h1 := (h.alloc (.cells #[.pointer x, .pointer (some ⟨bd, 0, none⟩)] 36)).drew
  have m1 := (Mv.alloc (b := b) (rb := rb) (w := w) (og := og) (.cells #[.pointer x, .pointer (some ⟨bd, 0, none⟩)] 36)).trans Mv.drew
  have hn := h1.next hc (m1.keep hT)
  have hin := h1.inCell
  have hbx : (w.alloc (.cells #[.pointer x, .pointer (some ⟨bd, 0, none⟩)] 36)).drew.cell? ⟨w.heap.size, 1, none⟩ = some (.pointer (some ⟨bd, 0, none⟩)) := box_cell w _ _ 1
  have HR := Lib.hid hr
  have HN := Lib.hid hn
  have HM1 := Lib.hid m1
  have HIN := Lib.hid hin
  have HBX := Lib.hid hbx
  clear hr hn m1 h1 hT hc h hin hbx
  go_enter Tryd.func46, Tryd.ntmps46
  go_upto_region 1 with (fail)
  go_cut [6, 7] (fun v6 v7 wc => ∃ (u : Nat) (er : Int) (q : Nat), v6 = .int .i64 u ∧ v7 = .int .i64 er ∧ Hid (Mv b rb w wc og og) ∧ Hid (er ≠ 0 → rNext d s p = .error er) ∧ Hid (er = 0 → rNext d s p = .ok (u, q) ∧ SS wc b rb db og s q M L fs fd))
  case first =>
    have hin := HIN.out
    have hbx := HBX.out
    go_region_with (go_at_call 18; refine HN.out.mono ?_; rintro e w1 ⟨v, er, q, rfl, hMv, he1, he2⟩; have HMV := Lib.hid hMv; have HE1 := Lib.hid he1; have HE2 := Lib.hid he2; clear hMv he1 he2)
    all_goals
      (try go_wp2)
      go_meet
      exact ⟨_, _, _, rfl, rfl, HM1.out.trans HMV.out, HE1.out, HE2.out⟩
  case rest =>
    obtain ⟨u, er, q, rfl, rfl, HMV, HE1, HE2⟩ := hcut
    obtain ⟨w1, rfl⟩ : ∃ w1 : World, w1 = wc := ⟨_, rfl⟩
    clear HN HIN HBX HM1
    by_cases her : er = 0
    · obtain ⟨hr, hS⟩ := HE2.out her
      have HRR := Lib.hid hr
      clear hr HE1 HE2
      subst her
      by_cases hu : 29 < u
      · have d : decide ((29 : Int) < (u : Int)) = true := by simp; omega
        have HU := Lib.hid hu
        clear hS hu
        go_wp2
        go_ret2
        exact GotN.of (v := 0) (q := 0) rfl HMV.out (fun _ => by rw [HR.out, bind_val HRR.out, when_yes HU.out]) (fun e => absurd e (by decide))
      · have d : decide ((29 : Int) < (u : Int)) = false := by simp; omega
        have hx := ext2 hS u (by omega)
        have HX := Lib.hid hx
        have HU := Lib.hid hu
        clear hS hu hx
        go_wp2_with fail
        refine HX.out.mono ?_
        rintro e w2 ⟨v, er, q2, rfl, hMv, he1, he2⟩
        have HM2 := Lib.hid hMv
        have HE1 := Lib.hid he1
        have HE2 := Lib.hid he2
        clear hMv he1 he2
        by_cases her : er = 0
        · obtain ⟨hr, hS⟩ := HE2.out her
          have hv := rExt_le hr (by have := HU.out; omega) (.inl rfl)
          have HR2 := Lib.hid hr
          have HS := Lib.hid hS
          clear hr hS HE1 HE2
          subst her
          go_wp2
          go_ret2
          exact GotN.of (v := 1 + v) (ret_num (by omega)) (HMV.out.trans HM2.out) (fun e => absurd rfl e) (fun _ => ⟨by rw [HR.out, bind_val HRR.out, when_not HU.out, bind_val HR2.out]; rfl, HS.out⟩)
        · have d2 : (er != 0) = true := by simpa using her
          have HER := Lib.hid her
          clear her
          go_wp2
          go_ret2
          exact GotN.of (v := 0) (q := 0) rfl (HMV.out.trans HM2.out) (fun _ => by rw [HR.out, bind_val HRR.out, when_not HU.out, bind_err (HE1.out HER.out)]) (fun e => absurd e HER.out)
    · have d2 : (er != 0) = true := by simpa using her
      have HER := Lib.hid her
      clear her
      go_wp2
      go_ret2
      exact GotN.of (v := 0) (q := 0) rfl HMV.out (fun _ => by rw [HR.out, bind_err (HE1.out HER.out)]) (fun e => absurd e HER.out)
end
end Go.Proofs.YtobmghjpfkdooaaDoor
