/- How the program begins a block. -/
import Derived.Test.YtobmghjpfkdooaaDoorDyT
import Derived.Test.YtobmghjpfkdooaaDoorFixT
import Derived.Test.YtobmghjpfkdooaaDoorInfPr
namespace Go.Proofs.YtobmghjpfkdooaaDoor
set_option maxRecDepth 100000
open Go Go.RowKit

/-- A block's beginning: whether it is the last one; a stored block's bytes; the tables of another one. -/
def rBegin (M : Int) (F : Nat) (L : List UInt8) : Rd (Nat × List UInt8 × Option (List Int × List Int)) := rBind (rBits 3) fun h =>
  if h / 2 = 0 then rBind (storedR M L) fun L' => rPure (h % 2, L', none) else if h / 2 = 1 then rPure (h % 2, L, some (fixL, fixD)) else if h / 2 = 2 then rBind (dynTabs F) fun x => rPure (h % 2, L, some x) else rFail 13
/-- What follows a block's beginning. -/
def blkN (M : Int) (F f : Nat) (x : Nat × List UInt8 × Option (List Int × List Int)) : Rd (List UInt8) := match x with
  | (last, L, none) => if last ≠ 0 then rPure L else blkG M F f L
  | (last, L, some (l, d)) => rBind (symG l d M F L) fun L2 => if last ≠ 0 then rPure L2 else blkG M F f L2
theorem blk_begin (M : Int) (F f : Nat) (L : List UInt8) : blkG M F (f + 1) L = rBind (rBegin M F L) (blkN M F f) := by
  rw [blk_head]
  unfold rBegin
  rw [bind_bind]
  congr 1
  funext h
  unfold blkK
  by_cases h0 : h / 2 = 0
  · rw [if_pos h0, bind_bind, h0]
    have e : blockR M F 0 L = storedR M L := by funext s p; exact block_stored
    rw [e]; rfl
  · rw [if_neg h0]
    by_cases h1 : h / 2 = 1
    · rw [if_pos h1, h1, bind_pure]
      have e : blockR M F 1 L = symG fixL fixD M F L := by funext s p; exact block_fixed
      rw [e]; rfl
    · rw [if_neg h1]
      by_cases h2 : h / 2 = 2
      · rw [if_pos h2, h2, bind_bind]
        have e : blockR M F 2 L = dynR M F L := by funext s p; exact block_dyn
        rw [e, dyn_tabs, bind_bind]; rfl
      · rw [if_neg h2, bind_fail]
        unfold blockR
        rw [if_neg h0, if_neg h1, if_neg h2, bind_fail]
section
variable {w w' : World} {b rb db : Nat} {og : Option Nat} {s : ByteArray} {p : Nat} {M : Int} {L : List UInt8} {fs fd : Option Nat}
/-- A block's tables in memory. -/
def HasT (w : World) (F : List Nat) (p1 p2 : Option Addr) : Option (List Int × List Int) → Prop
  | none => p1 = none ∧ p2 = none
  | some (l, d) => chk l = 0 ∧ chk d = 0 ∧ ∃ b1 b2, p1 = some ⟨b1, 0, none⟩ ∧ p2 = some ⟨b2, 0, none⟩ ∧ Keep F w (fun x => TT x b1 l) ∧ Keep F w (fun x => TT x b2 d)
theorem HasT.step {F F' : List Nat} {p1 p2 : Option Addr} {o : Option (List Int × List Int)} (h : HasT w F p1 p2 o) (hB : But F w w') (hF : ∀ i ∈ F', i ∈ F ∨ w.heap.size ≤ i) : HasT w' F' p1 p2 o := by
  match o, h with
  | none, h => exact h
  | some (l, d), ⟨h1, h2, b1, b2, e1, e2, k1, k2⟩ => exact ⟨h1, h2, b1, b2, e1, e2, k1.step hB hF, k2.step hB hF⟩
def GotBg (X : List Nat) (w : World) (b rb db : Nat) (og : Option Nat) (s : ByteArray) (M : Int) (r : Except Int ((Nat × List UInt8 × Option (List Int × List Int)) × Nat)) (e : Ending) (w' : World) : Prop :=
  ∃ (l : Nat) (p1 p2 : Option Addr) (er : Int) (og' : Option Nat), e = .returned (.tuple #[.bool (decide (l = 1)), .agg #[.pointer p1, .pointer p2], .int .i64 er]) ∧ Mv b rb w w' og og' ∧ (er ≠ 0 → r = .error er) ∧
    (er = 0 → ∃ (q : Nat) (L' : List UInt8) (o : Option (List Int × List Int)) (fs' fd' : Option Nat), r = .ok ((l, L', o), q) ∧ l < 2 ∧ SS w' b rb db og' s q M L' fs' fd' ∧ FX w' (X ++ Foot b rb og') fs' fd' ∧ HasT w' (X ++ Foot b rb og') p1 p2 o)
theorem bg_done {X : List Nat} {w2 : World} {og' : Option Nat} {r : Except Int ((Nat × List UInt8 × Option (List Int × List Int)) × Nat)} {l : Nat} {er : Int} {p1 p2 : Option Addr} {x y : Value} {t : TypeId}
    (hfl : ∀ k ∈ Foot b rb og, k < w.heap.size) (hd : db < b) (hM : Mv b rb w w2 og og') (hI : Is w2 w.heap.size t #[x, y]) (ht : 5 ≠ t) (hl : l < 2) (h1 : er ≠ 0 → r = .error er)
    (h2 : er = 0 → ∃ (q : Nat) (L' : List UInt8) (o : Option (List Int × List Int)) (fs' fd' : Option Nat), r = .ok ((l, L', o), q) ∧ SS w2 b rb db og' s q M L' fs' fd' ∧ FX w2 (w.heap.size :: X ++ Foot b rb og') fs' fd' ∧ HasT w2 (w.heap.size :: X ++ Foot b rb og') p1 p2 o) :
    GotBg X w b rb db og s M r (.returned (.tuple #[.bool (decide (l = 1)), .agg #[.pointer p1, .pointer p2], .int .i64 er])) ((w2.setCell ⟨w.heap.size, 0, none⟩ (.pointer p1)).setCell ⟨w.heap.size, 1, none⟩ (.pointer p2)).drew := by
  have hbl := hfl b (by simp [Foot])
  have hrl := hfl rb (by simp [Foot])
  have hB : But [w.heap.size] w2 ((w2.setCell ⟨w.heap.size, 0, none⟩ (.pointer p1)).setCell ⟨w.heap.size, 1, none⟩ (.pointer p2)).drew := (((But.refl [w.heap.size] w2).setCell (.inl (by simp)) _).setCell (.inl (by simp)) _).drew
  refine ⟨l, p1, p2, er, og', rfl, ⟨((hM.but.setCell (.inr (Nat.le_refl _)) _).setCell (.inr (Nat.le_refl _)) _).drew, hM.own⟩, h1, fun e => ?_⟩
  obtain ⟨q, L', o, fs', fd', e1, e2, e3, e4⟩ := h2 e
  have hns : w.heap.size ∉ Foot b rb og' := fun hk => by
    unfold Foot at hk
    rcases List.mem_cons.1 hk with e | hk
    · omega
    rcases List.mem_cons.1 hk with e | hk
    · omega
    obtain ⟨ov, c1, c2, c3⟩ := e2.cells
    exact own_ne c2 hI ht (by rw [c3]; simpa using hk)
  refine ⟨q, L', o, fs', fd', e1, hl, e2.away hB (fun k hk => ?_), e3.step (hB.more (by simp)) (fun i hi => .inl (by simp at hi ⊢; exact .inr hi)), e4.step (hB.more (by simp)) (fun i hi => .inl (by simp at hi ⊢; exact .inr hi))⟩
  obtain rfl : k = w.heap.size := by simpa using hk
  exact ⟨hns, by omega⟩
theorem and1 (v : Nat) : Go.bits .and .i64 (v : Int) 1 = ((v % 2 : Nat) : Int) := by
  have := i64_mask (v : Int) 1 (by omega)
  simpa using this

theorem GotD.pt {r : Except Int ((List Int × List Int) × Nat)} {e : Ending} (h : GotD w b rb db og s M L fs fd r e w') :
    ∃ (x1 x2 : Option Addr) (er : Int), e = .returned (.tuple #[.agg #[.pointer x1, .pointer x2], .int .i64 er]) ∧ Mv b rb w w' og og ∧ (er ≠ 0 → r = .error er) ∧
      (er = 0 → ∃ q l d, r = .ok ((l, d), q) ∧ SS w' b rb db og s q M L fs fd ∧ ∀ F, (∀ k ∈ F, k < w.heap.size) → HasT w' F x1 x2 (some (l, d))) := by
  obtain ⟨p1, p2, er, q, l, d, rfl, hM, h1, h2⟩ := h
  by_cases her : er = 0
  · obtain ⟨r1, r2, c1, c2, b1, b2, rfl, rfl, k1, k2⟩ := h2 her
    exact ⟨_, _, er, rfl, hM, fun e => absurd her e, fun _ => ⟨q, l, d, r1, r2, fun F hF => ⟨c1, c2, b1, b2, rfl, rfl, k1 F hF, k2 F hF⟩⟩⟩
  · obtain ⟨r1, rfl, rfl⟩ := h1 her
    exact ⟨none, none, er, rfl, hM, fun _ => r1, fun e => absurd e her⟩
theorem FX.hasT {F : List Nat} {f1 f2 : Nat} (h : FX w F (some f1) (some f2)) : HasT w F (some ⟨f1, 0, none⟩) (some ⟨f2, 0, none⟩) (some (fixL, fixD)) := by
  rcases h with ⟨h, _⟩ | ⟨g1, g2, h1, h2, h3, h4⟩
  · cases h
  · injection h1 with h1
    injection h2 with h2
    subst h1 h2
    exact ⟨chk_fixL, chk_fixD, f1, f2, rfl, rfl, h3, h4⟩
theorem HasT.mv {X : List Nat} {og og' : Option Nat} {p1 p2 : Option Addr} {o : Option (List Int × List Int)} (h : HasT w (X ++ Foot b rb og) p1 p2 o) (hM : Mv b rb w w' og og') : HasT w' (X ++ Foot b rb og') p1 p2 o := by
  match o, h with
  | none, h => exact h
  | some (l, d), ⟨h1, h2, b1, b2, e1, e2, k1, k2⟩ => exact ⟨h1, h2, b1, b2, e1, e2, hM.keepX k1, hM.keepX k2⟩

set_option maxHeartbeats 2000000 in
theorem begin_any {X : List Nat} (h : SS w b rb db og s p M L fs fd) (hG : Keep (Foot b rb og) w GL) (hX : ∀ k ∈ X, k < w.heap.size) (hF : FX w (X ++ Foot b rb og) fs fd) {F : Nat} (hFu : 8 * s.size - p < F) :
    Calls Tryd.prog 17 #[.pointer (some ⟨b, 0, none⟩)] w (GotBg X w b rb db og s M (rBegin M F L s p)) := by
  have h1 := h.alloc (.cells #[.pointer none, .pointer none] 36)
  have m1 := Mv.alloc (b := b) (rb := rb) (w := w) (og := og) (.cells #[.pointer none, .pointer none] 36)
  have hI := Is.fresh w 36 #[.pointer none, .pointer none]
  have hin := h1.inCell
  have hbt := h1.bits 3
  have hfl := foot_lt h
  have hft := foot_ne h
  have hdb := h.hd
  have hp8 := h.rs.1
  have hFX0 : FX (w.alloc (.cells #[.pointer none, .pointer none] 36)) ((w.heap.size :: X) ++ Foot b rb og) fs fd := hF.step ((but_alloc w _).more (by simp)) (fun i hi => by
    rcases List.mem_cons.1 hi with e | e
    · right; omega
    · exact .inl e)
  have HBT := Lib.hid hbt
  have HM := Lib.hid m1
  have HI := Lib.hid hI
  have HG := Lib.hid hG
  have HFX := Lib.hid hFX0
  have HFL := Lib.hid hfl
  have HFT := Lib.hid hft
  have HP8 := Lib.hid hp8
  have HFU := Lib.hid hFu
  have HX := Lib.hid hX
  clear h h1 m1 hI hbt hfl hft hG hp8 hF hFu hFX0 hX
  go_enter Tryd.func17, Tryd.ntmps17
  go_wp2_with fail
  refine HBT.out.mono ?_
  rintro e w1 ⟨v, er, q, rfl, hMv, he1, he2⟩
  have hI1 := HI.out.but hMv.but HFT.out
  have hMW := HM.out.trans hMv
  have hFX1 := HFX.out.mv hMv
  have g0 : w1.cell? ⟨w.heap.size, 0, none⟩ = some (.pointer none) := hI1.cell 0
  have g1 : w1.cell? ⟨w.heap.size, 1, none⟩ = some (.pointer none) := hI1.cell 1
  have f0 : w1.frozen? ⟨w.heap.size, 0, none⟩ = false := hI1.free 0
  have f1 : w1.frozen? ⟨w.heap.size, 1, none⟩ = false := hI1.free 1
  have HE1 := Lib.hid he1
  have HE2 := Lib.hid he2
  have HI1 := Lib.hid hI1
  have HMW := Lib.hid hMW
  have HFX1 := Lib.hid hFX1
  clear hMv he1 he2 hI1 hMW HBT HM HI hFX1 HFX
  by_cases her : er = 0
  · obtain ⟨hr, hS⟩ := HE2.out her
    have hv8 : v < 8 := rBits_lt hr
    have hadv := rBits_adv 3 s p v q HP8.out hr
    obtain ⟨k, hk⟩ : ∃ k, k = v / 2 := ⟨_, rfl⟩
    obtain ⟨l, hl⟩ : ∃ l, l = v % 2 := ⟨_, rfl⟩
    have a1 := and1 v
    rw [← hl] at a1
    have a2 : (v : Int) / 2 = (k : Int) := by omega
    have hrb : rBegin M F L s p = (if k = 0 then rBind (storedR M L) fun L' => rPure (l, L', none) else if k = 1 then rPure (l, L, some (fixL, fixD)) else if k = 2 then rBind (dynTabs F) fun x => rPure (l, L, some x) else rFail 13) s q := by
      rw [hk, hl]; exact bind_val hr
    have hl2 : l < 2 := by omega
    have hk4 : k < 4 := by omega
    have bl : ((l : Int) == 1) = decide (l = 1) := by
      by_cases e : l = 1
      · subst e; rfl
      · rw [decide_eq_false e]; simp; omega
    have HRB := Lib.hid hrb
    have HADV := Lib.hid hadv
    have hrl := HI1.out.lt
    have h2 := hS.alloc (.cells #[.pointer none, .pointer none] 36)
    have m2 := Mv.alloc (b := b) (rb := rb) (w := w1) (og := og) (.cells #[.pointer none, .pointer none] 36)
    have hI7 := Is.fresh w1 36 #[.pointer none, .pointer none]
    have hft7 := foot_ne hS
    have hFX2 : FX (w1.alloc (.cells #[.pointer none, .pointer none] 36)) ((w1.heap.size :: w.heap.size :: X) ++ Foot b rb og) fs fd := HFX1.out.step ((but_alloc w1 _).more (by simp)) (fun i hi => by
      rcases List.mem_cons.1 hi with e | e
      · right; omega
      · exact .inl e)
    have hXl : ∀ k ∈ w1.heap.size :: w.heap.size :: X, k < (w1.alloc (.cells #[.pointer none, .pointer none] 36)).heap.size := fun k hk => by
      rw [World.size_alloc]
      rcases List.mem_cons.1 hk with e | hk
      · omega
      rcases List.mem_cons.1 hk with e | hk
      · omega
      have := HX.out k hk; omega
    have HFX2 := Lib.hid hFX2
    have HXL := Lib.hid hXl
    have HM2 := Lib.hid (HMW.out.trans m2)
    have HS2 := Lib.hid h2
    have HI7 := Lib.hid hI7
    have HI2 := Lib.hid (HI1.out.alloc (.cells #[.pointer none, .pointer none] 36))
    have HFT7 := Lib.hid hft7
    have hrne : w.heap.size ≠ w1.heap.size := by omega
    clear hr hS hadv hk hl hrb HE1 HE2 h2 m2 hI7 hft7 hFX2 hXl
    subst her
    by_cases k0 : k = 0
    · subst k0
      have hrb0 : rBegin M F L s p = rBind (storedR M L) (fun L' => rPure (l, L', none)) s q := by rw [HRB.out, if_pos rfl]
      have HRB0 := Lib.hid hrb0
      have hst := stored_any HS2.out
      have HST := Lib.hid hst
      clear hst hrb0 HRB
      go_wp2_with fail
      refine HST.out.mono ?_
      rintro e w2 ⟨er, L', q2, og', rfl, hMv, he1, he2⟩
      have hI2 := HI2.out.but hMv.but HFT.out
      have hI72 := HI7.out.but hMv.but HFT7.out
      have g0 : w2.cell? ⟨w.heap.size, 0, none⟩ = some (.pointer none) := hI2.cell 0
      have g1 : w2.cell? ⟨w.heap.size, 1, none⟩ = some (.pointer none) := hI2.cell 1
      have f0 : w2.frozen? ⟨w.heap.size, 0, none⟩ = false := hI2.free 0
      have f1 : w2.frozen? ⟨w.heap.size, 1, none⟩ = false := hI2.free 1
      have t0 : w2.cell? ⟨w1.heap.size, 0, none⟩ = some (.pointer none) := hI72.cell 0
      have t1 : w2.cell? ⟨w1.heap.size, 1, none⟩ = some (.pointer none) := hI72.cell 1
      have v0 : w2.frozen? ⟨w1.heap.size, 0, none⟩ = false := hI72.free 0
      have v1 : w2.frozen? ⟨w1.heap.size, 1, none⟩ = false := hI72.free 1
      have HI3 := Lib.hid hI2
      have HM3 := Lib.hid (HM2.out.trans hMv)
      have hFX3 := HFX2.out.mv hMv
      have hend1 : er ≠ 0 → rBegin M F L s p = .error er := fun e => by rw [HRB0.out]; exact bind_err (he1 e)
      have hend2 : er = 0 → ∃ (q : Nat) (L' : List UInt8) (o : Option (List Int × List Int)) (fs' fd' : Option Nat), rBegin M F L s p = .ok ((l, L', o), q) ∧ SS w2 b rb db og' s q M L' fs' fd' ∧ FX w2 (w.heap.size :: X ++ Foot b rb og') fs' fd' ∧ HasT w2 (w.heap.size :: X ++ Foot b rb og') none none o := fun e => by
        obtain ⟨r1, r2⟩ := he2 e
        exact ⟨q2, L', none, fs, fd, by rw [HRB0.out]; exact bind_val r1, r2, hFX3.step (But.refl _ _) (fun i hi => .inl (List.mem_cons_of_mem _ hi)), rfl, rfl⟩
      have HEND1 := Lib.hid hend1
      have HEND2 := Lib.hid hend2
      clear hMv he1 he2 hI2 hI72 hFX3 hend1 hend2 HST HRB0
      go_wp2
      go_region
      all_goals
        go_wp2
        have hend := bg_done (X := X) (s := s) (M := M) (r := rBegin M F L s p) (l := l) (er := er) (p1 := none) (p2 := none) HFL.out hdb HM3.out HI3.out (by decide) hl2 (fun e => (HEND1.out e)) (fun e => (HEND2.out e))
        have c := pair_in (p1 := .pointer none) (p2 := .pointer none) HI3.out
        have c2 := c.1.drew
        generalize ((w2.setCell ⟨w.heap.size, 0, none⟩ (.pointer none)).setCell ⟨w.heap.size, 1, none⟩ (.pointer none)).drew = wf at *
        have c0 : wf.cell? ⟨w.heap.size, 0, none⟩ = some (.pointer none) := c2.cell 0
        have c1 : wf.cell? ⟨w.heap.size, 1, none⟩ = some (.pointer none) := c2.cell 1
        exact bodyPost_ret (v := .tuple #[.bool (decide (l = 1)), .agg #[.pointer none, .pointer none], .int .i64 (er)]) (by simp [results, Tryd.results17, go_sem, c0, c1]) rfl hend
    · by_cases k1 : k = 1
      · subst k1
        have hrb0 : rBegin M F L s p = .ok ((l, L, some (fixL, fixD)), q) := by rw [HRB.out, if_neg k0, if_pos rfl]; rfl
        have HRB0 := Lib.hid hrb0
        have hst := fixedTables_any HS2.out HXL.out HFX2.out
        have HST := Lib.hid hst
        have d0 : (((1 : Nat) : Int) == 0) = false := by decide
        clear hst hrb0 HRB k0
        go_wp2_with fail
        refine HST.out.mono ?_
        rintro e w2 ⟨a1', a2', he, hMv, hS3, hFX3⟩
        obtain rfl : e = .returned (.tuple #[.agg #[.pointer (some ⟨a1', 0, none⟩), .pointer (some ⟨a2', 0, none⟩)], .int .i64 0]) := he
        have hI2 := HI2.out.but hMv.but HFT.out
        have hI72 := HI7.out.but hMv.but HFT7.out
        have g0 : w2.cell? ⟨w.heap.size, 0, none⟩ = some (.pointer none) := hI2.cell 0
        have g1 : w2.cell? ⟨w.heap.size, 1, none⟩ = some (.pointer none) := hI2.cell 1
        have f0 : w2.frozen? ⟨w.heap.size, 0, none⟩ = false := hI2.free 0
        have f1 : w2.frozen? ⟨w.heap.size, 1, none⟩ = false := hI2.free 1
        have t0 : w2.cell? ⟨w1.heap.size, 0, none⟩ = some (.pointer none) := hI72.cell 0
        have t1 : w2.cell? ⟨w1.heap.size, 1, none⟩ = some (.pointer none) := hI72.cell 1
        have v0 : w2.frozen? ⟨w1.heap.size, 0, none⟩ = false := hI72.free 0
        have v1 : w2.frozen? ⟨w1.heap.size, 1, none⟩ = false := hI72.free 1
        have hb7 : But [w1.heap.size] w2 ((w2.setCell ⟨w1.heap.size, 0, none⟩ (.pointer (some ⟨a1', 0, none⟩))).setCell ⟨w1.heap.size, 1, none⟩ (.pointer (some ⟨a2', 0, none⟩))) := ((But.refl [w1.heap.size] w2).setCell (.inl (by simp)) _).setCell (.inl (by simp)) _
        have hs7 := hS3.away hb7 (fun k hk => by
          have hk' : k = w1.heap.size := by simpa using hk
          subst hk'
          have := HFL.out b (by simp [Foot])
          exact ⟨HFT7.out, by omega⟩)
        have hf7 : FX ((w2.setCell ⟨w1.heap.size, 0, none⟩ (.pointer (some ⟨a1', 0, none⟩))).setCell ⟨w1.heap.size, 1, none⟩ (.pointer (some ⟨a2', 0, none⟩))) ((w.heap.size :: X) ++ Foot b rb og) (some a1') (some a2') := hFX3.step (hb7.more (by simp)) (fun i hi => .inl (List.mem_cons_of_mem _ hi))
        have hi7 := hI2.but hb7 (by simp; omega)
        have hm7 : Mv b rb w ((w2.setCell ⟨w1.heap.size, 0, none⟩ (.pointer (some ⟨a1', 0, none⟩))).setCell ⟨w1.heap.size, 1, none⟩ (.pointer (some ⟨a2', 0, none⟩))) og og := ⟨(((HM2.out.trans hMv).but.setCell (.inr (by show w.heap.size ≤ w1.heap.size; omega)) _).setCell (.inr (by show w.heap.size ≤ w1.heap.size; omega)) _), (HM2.out.trans hMv).own⟩
        have HI3 := Lib.hid hi7
        have HM3 := Lib.hid hm7
        have hend2 : ∃ (q : Nat) (L' : List UInt8) (o : Option (List Int × List Int)) (fs' fd' : Option Nat), rBegin M F L s p = .ok ((l, L', o), q) ∧ SS ((w2.setCell ⟨w1.heap.size, 0, none⟩ (.pointer (some ⟨a1', 0, none⟩))).setCell ⟨w1.heap.size, 1, none⟩ (.pointer (some ⟨a2', 0, none⟩))) b rb db og s q M L' fs' fd' ∧ FX ((w2.setCell ⟨w1.heap.size, 0, none⟩ (.pointer (some ⟨a1', 0, none⟩))).setCell ⟨w1.heap.size, 1, none⟩ (.pointer (some ⟨a2', 0, none⟩))) (w.heap.size :: X ++ Foot b rb og) fs' fd' ∧ HasT ((w2.setCell ⟨w1.heap.size, 0, none⟩ (.pointer (some ⟨a1', 0, none⟩))).setCell ⟨w1.heap.size, 1, none⟩ (.pointer (some ⟨a2', 0, none⟩))) (w.heap.size :: X ++ Foot b rb og) (some ⟨a1', 0, none⟩) (some ⟨a2', 0, none⟩) o :=
          ⟨q, L, some (fixL, fixD), some a1', some a2', HRB0.out, hs7, hf7, hf7.hasT⟩
        have HEND2 := Lib.hid hend2
        clear hMv hI2 hI72 hFX3 hend2 HST HRB0 hb7 hs7 hf7 hi7 hm7 hS3
        go_wp2
        go_region
        all_goals
          go_wp2
          have hend := bg_done (X := X) (s := s) (M := M) (r := rBegin M F L s p) (l := l) (er := 0) (p1 := (some ⟨a1', 0, none⟩)) (p2 := (some ⟨a2', 0, none⟩)) HFL.out hdb HM3.out HI3.out (by decide) hl2 (fun e => absurd rfl e) (fun _ => HEND2.out)
          have c := pair_in (p1 := .pointer (some ⟨a1', 0, none⟩)) (p2 := .pointer (some ⟨a2', 0, none⟩)) HI3.out
          have c2 := c.1.drew
          generalize ((((w2.setCell ⟨w1.heap.size, 0, none⟩ (.pointer (some ⟨a1', 0, none⟩))).setCell ⟨w1.heap.size, 1, none⟩ (.pointer (some ⟨a2', 0, none⟩))).setCell ⟨w.heap.size, 0, none⟩ (.pointer (some ⟨a1', 0, none⟩))).setCell ⟨w.heap.size, 1, none⟩ (.pointer (some ⟨a2', 0, none⟩))).drew = wf at *
          have c0 : wf.cell? ⟨w.heap.size, 0, none⟩ = some (.pointer (some ⟨a1', 0, none⟩)) := c2.cell 0
          have c1 : wf.cell? ⟨w.heap.size, 1, none⟩ = some (.pointer (some ⟨a2', 0, none⟩)) := c2.cell 1
          exact bodyPost_ret (v := .tuple #[.bool (decide (l = 1)), .agg #[.pointer (some ⟨a1', 0, none⟩), .pointer (some ⟨a2', 0, none⟩)], .int .i64 (0)]) (by simp [results, Tryd.results17, go_sem, c0, c1]) rfl hend
      · by_cases k2 : k = 2
        · subst k2
          have hrb0 : rBegin M F L s p = rBind (dynTabs F) (fun x => rPure (l, L, some x)) s q := by rw [HRB.out, if_neg k0, if_neg k1, if_pos rfl]
          have HRB0 := Lib.hid hrb0
          have hst := dynamicTables_any HS2.out (HM2.out.keep HG.out) (F := F) (by have := HADV.out; have := HFU.out; omega)
          have HST := Lib.hid hst
          have d0 : (((2 : Nat) : Int) == 0) = false := by decide
          have d1 : (((2 : Nat) : Int) == 1) = false := by decide
          clear hst hrb0 HRB k0 k1
          go_wp2_with fail
          refine HST.out.mono ?_
          intro e w2 hgot
          obtain ⟨x1, x2, er, he, hMv, hIX⟩ := hgot.pt
          subst he
          have hI2 := HI2.out.but hMv.but HFT.out
          have hI72 := HI7.out.but hMv.but HFT7.out
          have g0 : w2.cell? ⟨w.heap.size, 0, none⟩ = some (.pointer none) := hI2.cell 0
          have g1 : w2.cell? ⟨w.heap.size, 1, none⟩ = some (.pointer none) := hI2.cell 1
          have f0 : w2.frozen? ⟨w.heap.size, 0, none⟩ = false := hI2.free 0
          have f1 : w2.frozen? ⟨w.heap.size, 1, none⟩ = false := hI2.free 1
          have t0 : w2.cell? ⟨w1.heap.size, 0, none⟩ = some (.pointer none) := hI72.cell 0
          have t1 : w2.cell? ⟨w1.heap.size, 1, none⟩ = some (.pointer none) := hI72.cell 1
          have v0 : w2.frozen? ⟨w1.heap.size, 0, none⟩ = false := hI72.free 0
          have v1 : w2.frozen? ⟨w1.heap.size, 1, none⟩ = false := hI72.free 1
          have hb7 : But [w1.heap.size] w2 ((w2.setCell ⟨w1.heap.size, 0, none⟩ (.pointer x1)).setCell ⟨w1.heap.size, 1, none⟩ (.pointer x2)) := ((But.refl [w1.heap.size] w2).setCell (.inl (by simp)) _).setCell (.inl (by simp)) _
          have hi7 := hI2.but hb7 (by simp; omega)
          have hm7 : Mv b rb w ((w2.setCell ⟨w1.heap.size, 0, none⟩ (.pointer x1)).setCell ⟨w1.heap.size, 1, none⟩ (.pointer x2)) og og := ⟨(((HM2.out.trans hMv).but.setCell (.inr (by show w.heap.size ≤ w1.heap.size; omega)) _).setCell (.inr (by show w.heap.size ≤ w1.heap.size; omega)) _), (HM2.out.trans hMv).own⟩
          have hFX3 := HFX2.out.mv hMv
          have hend1 : er ≠ 0 → rBegin M F L s p = .error er := fun e => by rw [HRB0.out]; exact bind_err (hIX.1 e)
          have hend2 : er = 0 → ∃ (q : Nat) (L' : List UInt8) (o : Option (List Int × List Int)) (fs' fd' : Option Nat), rBegin M F L s p = .ok ((l, L', o), q) ∧ SS ((w2.setCell ⟨w1.heap.size, 0, none⟩ (.pointer x1)).setCell ⟨w1.heap.size, 1, none⟩ (.pointer x2)) b rb db og s q M L' fs' fd' ∧ FX ((w2.setCell ⟨w1.heap.size, 0, none⟩ (.pointer x1)).setCell ⟨w1.heap.size, 1, none⟩ (.pointer x2)) (w.heap.size :: X ++ Foot b rb og) fs' fd' ∧ HasT ((w2.setCell ⟨w1.heap.size, 0, none⟩ (.pointer x1)).setCell ⟨w1.heap.size, 1, none⟩ (.pointer x2)) (w.heap.size :: X ++ Foot b rb og) x1 x2 o := fun e => by
            obtain ⟨q2, l2, d2, r1, r2, r3⟩ := hIX.2 e
            refine ⟨q2, L, some (l2, d2), fs, fd, by rw [HRB0.out]; exact bind_val r1, r2.away hb7 (fun k hk => ?_), hFX3.step (hb7.more (by simp)) (fun i hi => .inl (List.mem_cons_of_mem _ hi)), (r3 ((w1.heap.size :: w.heap.size :: X) ++ Foot b rb og) (fun k hk => ?_)).step (hb7.more (by simp)) (fun i hi => .inl (List.mem_cons_of_mem _ hi))⟩
            · have hk' : k = w1.heap.size := by simpa using hk
              subst hk'
              have := HFL.out b (by simp [Foot])
              exact ⟨HFT7.out, by omega⟩
            · rcases List.mem_append.1 hk with hk | hk
              · exact HXL.out k hk
              · have := HFL.out k hk
                rw [World.size_alloc]; omega
          have HI3 := Lib.hid hi7
          have HM3 := Lib.hid hm7
          have HEND1 := Lib.hid hend1
          have HEND2 := Lib.hid hend2
          clear hMv hI2 hI72 hFX3 hend1 hend2 HST HRB0 hb7 hi7 hm7 hIX hgot
          go_wp2
          go_region
          all_goals
            go_wp2
            have hend := bg_done (X := X) (s := s) (M := M) (r := rBegin M F L s p) (l := l) (er := er) (p1 := x1) (p2 := x2) HFL.out hdb HM3.out HI3.out (by decide) hl2 (fun e => HEND1.out e) (fun e => HEND2.out e)
            have c := pair_in (p1 := .pointer x1) (p2 := .pointer x2) HI3.out
            have c2 := c.1.drew
            generalize ((((w2.setCell ⟨w1.heap.size, 0, none⟩ (.pointer x1)).setCell ⟨w1.heap.size, 1, none⟩ (.pointer x2)).setCell ⟨w.heap.size, 0, none⟩ (.pointer x1)).setCell ⟨w.heap.size, 1, none⟩ (.pointer x2)).drew = wf at *
            have c0 : wf.cell? ⟨w.heap.size, 0, none⟩ = some (.pointer x1) := c2.cell 0
            have c1 : wf.cell? ⟨w.heap.size, 1, none⟩ = some (.pointer x2) := c2.cell 1
            exact bodyPost_ret (v := .tuple #[.bool (decide (l = 1)), .agg #[.pointer x1, .pointer x2], .int .i64 (er)]) (by simp [results, Tryd.results17, go_sem, c0, c1]) rfl hend
        · obtain rfl : k = 3 := by omega
          have hrb0 : rBegin M F L s p = .error 13 := by rw [HRB.out, if_neg k0, if_neg k1, if_neg k2]; rfl
          have HRB0 := Lib.hid hrb0
          have d0 : (((3 : Nat) : Int) == 0) = false := by decide
          have d1 : (((3 : Nat) : Int) == 1) = false := by decide
          have d2 : (((3 : Nat) : Int) == 2) = false := by decide
          have hI2 := HI2.out
          have hI72 := HI7.out
          have hmf : Mv b rb w ((w1.alloc (.cells #[.pointer none, .pointer none] 36))) og og := HM2.out
          have HI3 := Lib.hid hI2
          have HM3 := Lib.hid hmf
          clear hrb0 HRB k0 k1 k2 hmf HFX2 HXL HS2 HM2 HI2 HI7
          go_wp2
          generalize (w1.alloc (.cells #[.pointer none, .pointer none] 36)) = w2 at *
          have g0 : w2.cell? ⟨w.heap.size, 0, none⟩ = some (.pointer none) := hI2.cell 0
          have g1 : w2.cell? ⟨w.heap.size, 1, none⟩ = some (.pointer none) := hI2.cell 1
          have f0 : w2.frozen? ⟨w.heap.size, 0, none⟩ = false := hI2.free 0
          have f1 : w2.frozen? ⟨w.heap.size, 1, none⟩ = false := hI2.free 1
          have t0 : w2.cell? ⟨w1.heap.size, 0, none⟩ = some (.pointer none) := hI72.cell 0
          have t1 : w2.cell? ⟨w1.heap.size, 1, none⟩ = some (.pointer none) := hI72.cell 1
          clear hI2 hI72
          go_region
          all_goals
            go_wp2
            have hend := bg_done (X := X) (s := s) (M := M) (r := rBegin M F L s p) (l := l) (er := 13) (p1 := none) (p2 := none) HFL.out hdb HM3.out HI3.out (by decide) hl2 (fun _ => HRB0.out) (fun e => absurd e (by decide))
            have c := pair_in (p1 := .pointer none) (p2 := .pointer none) HI3.out
            have c2 := c.1.drew
            generalize ((w2.setCell ⟨w.heap.size, 0, none⟩ (.pointer none)).setCell ⟨w.heap.size, 1, none⟩ (.pointer none)).drew = wf at *
            have c0 : wf.cell? ⟨w.heap.size, 0, none⟩ = some (.pointer none) := c2.cell 0
            have c1 : wf.cell? ⟨w.heap.size, 1, none⟩ = some (.pointer none) := c2.cell 1
            exact bodyPost_ret (v := .tuple #[.bool (decide (l = 1)), .agg #[.pointer none, .pointer none], .int .i64 (13)]) (by simp [results, Tryd.results17, go_sem, c0, c1]) rfl hend
  · have d2 : (er != 0) = true := by simpa using her
    have HER := Lib.hid her
    clear her
    go_wp2
    have c := pair_in (p1 := .pointer none) (p2 := .pointer none) HI1.out
    have hm : Mv b rb w ((w1.setCell ⟨w.heap.size, 0, none⟩ (.pointer none)).setCell ⟨w.heap.size, 1, none⟩ (.pointer none)) og og := ⟨(HMW.out.but.setCell (.inr (Nat.le_refl _)) _).setCell (.inr (Nat.le_refl _)) _, HMW.out.own⟩
    generalize ((w1.setCell ⟨w.heap.size, 0, none⟩ (.pointer none)).setCell ⟨w.heap.size, 1, none⟩ (.pointer none)) = wf at *
    have c0 : wf.cell? ⟨w.heap.size, 0, none⟩ = some (.pointer none) := c.1.cell 0
    have c1 : wf.cell? ⟨w.heap.size, 1, none⟩ = some (.pointer none) := c.1.cell 1
    refine bodyPost_ret (v := .tuple #[.bool false, .agg #[.pointer none, .pointer none], .int .i64 er]) (by simp [results, Tryd.results17, go_sem, c0, c1]) rfl ?_
    exact ⟨0, none, none, er, og, rfl, hm, fun _ => bind_err (HE1.out HER.out), fun e => absurd e HER.out⟩
end
end Go.Proofs.YtobmghjpfkdooaaDoor
