/- The program's header of an IHDR's data. -/
import Derived.Test.YtedffeimcccobaaHpD
import Derived.Test.YtedffeimcccobaaHdD
import Derived.Test.YtedffeimcccobaaCkP
set_option maxRecDepth 100000
set_option linter.unusedVariables false
namespace Go.Proofs.Ytedffeimcccobaa
set_option maxRecDepth 100000
open Go Go.RowKit
/-- The number that i bytes from k on are. -/
def valAt (D : List UInt8) (k i : Nat) : Nat := ofL ((D.drop k).take i)
theorem valAt_zero (D : List UInt8) (k : Nat) : valAt D k 0 = 0 := rfl
theorem valAt_next {D : List UInt8} {k i : Nat} (h : k + i < D.length) : valAt D k (i + 1) = valAt D k i * 256 + (D.getD (k + i) 0).toNat := by
  unfold valAt
  rw [List.take_add_one, List.getElem?_drop, List.getElem?_eq_getElem h, List.getD_eq_getElem?_getD, List.getElem?_eq_getElem h]
  unfold ofL
  rw [List.foldl_append]
  simp only [Option.toList_some, List.foldl_cons, List.foldl_nil, Option.getD_some]
  omega
theorem ofL_step : ∀ (l : List UInt8) (a : Nat), l.foldl (fun n b => 256 * n + b.toNat) a < (a + 1) * 256 ^ l.length
  | [], a => by simp
  | b :: l, a => by
    have h := ofL_step l (256 * a + b.toNat)
    have hb := b.toNat_lt
    rw [List.foldl_cons, List.length_cons, Nat.pow_succ]
    refine Nat.lt_of_lt_of_le h ?_
    rw [Nat.mul_comm (256 ^ l.length) 256, ← Nat.mul_assoc]
    exact Nat.mul_le_mul_right _ (by omega)
theorem valAt_lt {D : List UInt8} {k i : Nat} (h : i ≤ 3) : valAt D k i < 16777216 := by
  have h1 := ofL_step ((D.drop k).take i) 0
  have h2 : ((D.drop k).take i).length ≤ 3 := by rw [List.length_take]; omega
  have h3 : 256 ^ ((D.drop k).take i).length ≤ 256 ^ 3 := Nat.pow_le_pow_right (by decide) h2
  unfold valAt ofL
  omega
/-- What a block apart from those of the call's beginning may have had written. -/
theorem But.over {w v v' : World} {b : Nat} (h : But [] w v) (k : But [b] v v') (hb : w.heap.size ≤ b) : But [] w v' :=
  ⟨k.os.trans h.os, k.tape.trans h.tape, k.output.trans h.output, Nat.le_trans h.size k.size, fun i hi _ => (k.block i (Nat.lt_of_lt_of_le hi h.size) (by simp; omega)).trans (h.block i hi (by simp))⟩
attribute [local irreducible] strL valAt
theorem pnext_any (w : World) {D : List UInt8} {bs ba k n : Nat} (hD : Is w bs 9 #[.string (strL D)]) (hA : Is w ba 3 #[.int .i64 (k : Int)]) (hne : bs ≠ ba) (hl : D.length = 13) (hk : k + n ≤ 13) (hn : n ≤ 4) :
    Calls Try.prog 31 #[.int .i64 (n : Int), .pointer (some ⟨bs, 0, none⟩), .pointer (some ⟨ba, 0, none⟩)] w fun e w' => e = .returned (.int .i64 (valAt D k n : Nat)) ∧ Is w' ba 3 #[.int .i64 ((k + n : Nat) : Int)] ∧ But [ba] w w' := by
  obtain ⟨r, hr⟩ : ∃ r, r = valAt D k n := ⟨_, rfl⟩
  have HR := Lib.hid hr
  rw [← hr]
  obtain ⟨q, hq⟩ : ∃ q, q = k + n := ⟨_, rfl⟩
  have HQ := Lib.hid hq
  rw [← hq]
  have HX := Lib.hid fun p (hp : p < D.length) => (byteD_run (D := D) (k := p) hp)
  obtain ⟨S, hS⟩ : ∃ S, S = strL D := ⟨_, rfl⟩
  rw [← hS] at hD HX
  have HD := Lib.hid hD
  have HA := Lib.hid hA
  have HL := Lib.hid hl
  have HK := Lib.hid hk
  clear hr hq hS hD hA hl hk
  go_enter Try.func31, Try.ntmps31
  go_wp2
  go_loopw [5, 7] (fun nv iv wr => ∃ i p m : Nat, i ≤ n ∧ nv = .int .i64 (m : Int) ∧ iv = .int .i64 (i : Int) ∧ Hid (m = valAt D k i) ∧ Hid (p = k + i) ∧ Hid (Is wr bs 9 #[.string S]) ∧ Hid (Is wr ba 3 #[.int .i64 (p : Int)]) ∧ Hid (But [ba] w wr)) (fun _ iv _ => n - (intOf iv).toNat)
  case atStart => exact ⟨0, k, 0, Nat.zero_le _, rfl, rfl, Lib.hid (valAt_zero D k).symm, Lib.hid rfl, HD, HA, Lib.hid (But.refl _ _)⟩
  case round =>
    obtain ⟨i, p, m, hi, rfl, rfl, HM, HP, HDr, HAr, HB⟩ := hrel
    by_cases hlt : i < n
    · have hp : p < 13 := by have := HK.out; have := HP.out; omega
      have kx := HX.out p (by rw [HL.out]; exact hp)
      obtain ⟨x, hx⟩ : ∃ x, x = (D.getD p 0).toNat := ⟨_, rfl⟩
      have hx8 : x < 256 := by rw [hx]; exact UInt8.toNat_lt _
      simp only [← hx] at kx
      have hm : m < 16777216 := by rw [HM.out]; exact valAt_lt (by omega)
      obtain ⟨z, hz⟩ : ∃ z, z = m * 256 + x := ⟨_, rfl⟩
      have ho : Go.bits .or .i64 ((m : Int) * 256) (x : Int) = (z : Int) := by
        rw [show (m : Int) * 256 = ((m * 256 : Nat) : Int) by omega, or_num (m * 256) x 8 (by decide) (by omega) (by omega) (by omega), hz]
      have HZ := Lib.hid (show z = valAt D k (i + 1) by rw [valAt_next (by rw [HL.out, ← HP.out]; exact hp), ← HM.out, ← HP.out, ← hx, hz])
      clear hx hz
      have c0 := HDr.out.cell 0
      have c1 := HAr.out.cell 0
      have f1 := HAr.out.free 0
      go_wp2
      go_roundw
      case rel => exact ⟨i + 1, p + 1, z, by omega, by go_num, by go_num, HZ, Lib.hid (by rw [HP.out]; omega), Lib.hid (HDr.out.far (p := ⟨ba, 0, none⟩) hne _), Lib.hid (HAr.out.put 0 _), Lib.hid (HB.out.setCell (p := ⟨ba, 0, none⟩) (.inl (by simp)) _)⟩
      case measure => simp [intOf]; omega
    · obtain rfl : i = n := by omega
      have HE := Lib.hid (show (m : Int) = (r : Int) by rw [HM.out, HR.out])
      have HI := Lib.hid (show Is wr ba 3 #[.int .i64 (q : Int)] by rw [HQ.out, ← HP.out]; exact HAr.out)
      go_wp2
      go_ret
      exact ⟨by rw [← HE.out]; rfl, HI.out, HB.out⟩
/-- The header that an IHDR's data say, and its error. -/
def headT (D : List UInt8) : List Int × Int := if D.length ≠ 13 ∨ D.getD 10 0 ≠ 0 ∨ D.getD 11 0 ≠ 0 then ([0, 0, 0, 0, 0], 24) else (numsH D, rightN (numsH D))
theorem headT_read (D : List UInt8) (l : List Ck) : readT ((tIHDR, D) :: l) = if (headT D).2 ≠ 0 then ([], hs0, (headT D).2) else if (runH ((headT D).1.getD 2 0) ((headT D).1.getD 3 0) l hs0).2 = 0 then ((headT D).1, runH ((headT D).1.getD 2 0) ((headT D).1.getD 3 0) l hs0) else ([], hs0, (runH ((headT D).1.getD 2 0) ((headT D).1.getD 3 0) l hs0).2) := by
  unfold headT
  by_cases h : D.length ≠ 13 ∨ D.getD 10 0 ≠ 0 ∨ D.getD 11 0 ≠ 0
  · rw [readT_bad h, if_pos h, if_pos (by decide)]
  · rw [if_neg h]
    by_cases hr : rightN (numsH D) = 0
    · rw [readT_on h hr]
      dsimp only
      rw [if_neg (show ¬ rightN (numsH D) ≠ 0 from fun hx => hx hr)]
    · rw [readT_head h hr, if_pos hr]
/-- A header as a value. -/
def headV (n : List Int) : Value := .agg #[.int .i64 (n.getD 0 0), .int .i64 (n.getD 1 0), .int .i64 (n.getD 2 0), .int .i64 (n.getD 3 0), .int .i64 (n.getD 4 0)]
def GotHO (w : World) (r : List Int × Int) (e : Ending) (w' : World) : Prop := e = .returned (.tuple #[headV r.1, .int .i64 r.2]) ∧ But [] w w'
theorem head_ret {w W : World} {g2 : Nat} {tmps : Array Value} {a b d c l er : Int} {r : List Int × Int} (hI : Is W g2 23 #[.int .i64 a, .int .i64 b, .int .i64 d, .int .i64 c, .int .i64 l]) (hB : But [] w W)
    (h2 : tmps[2]? = some (.pointer (some ⟨g2, 0, none⟩))) (h3 : tmps[3]? = some (.int .i64 er)) (hr : r = ([a, b, d, c, l], er)) :
    bodyPost Try.prog Try.f26 (GotHO w r) Exit.ret { tmps := tmps, defers := [] } W := by
  have e0 := hI.cell 0
  have e1 := hI.cell 1
  have e2 := hI.cell 2
  have e3 := hI.cell 3
  have e4 := hI.cell 4
  refine bodyPost_ret (v := .tuple #[.agg #[.int .i64 a, .int .i64 b, .int .i64 d, .int .i64 c, .int .i64 l], .int .i64 er]) ?_ rfl ?_
  · simp [results, Try.results26, go_sem, e0, e1, e2, e3, e4, h2, h3]
  · rw [hr]; exact ⟨rfl, hB⟩
/-- What stands while a header is read. -/
def HoS (w : World) (bs g2 ba : Nat) (S : ByteArray) (p : Int) (v : World) : Prop := Is v bs 9 #[.string S] ∧ Is v g2 23 #[.int .i64 0, .int .i64 0, .int .i64 0, .int .i64 0, .int .i64 0] ∧ Is v ba 3 #[.int .i64 p] ∧ But [] w v
theorem HoS.next {w v v' : World} {bs g2 ba : Nat} {S : ByteArray} {p q : Int} (h : HoS w bs g2 ba S p v) (h1 : Is v' ba 3 #[.int .i64 q]) (h2 : But [ba] v v') (n1 : bs ≠ ba) (n2 : g2 ≠ ba) (hb : w.heap.size ≤ ba) : HoS w bs g2 ba S q v' :=
  ⟨h.1.but h2 (by simpa using n1), h.2.1.but h2 (by simpa using n2), h1, h.2.2.2.over h2 hb⟩
/-- What stands while a header's error is found. -/
def HoE (w : World) (g g2 : Nat) (a b d c l : Int) (v : World) : Prop := Is v g 23 #[.int .i64 a, .int .i64 b, .int .i64 d, .int .i64 c, .int .i64 l] ∧ Is v g2 23 #[.int .i64 0, .int .i64 0, .int .i64 0, .int .i64 0, .int .i64 0] ∧ But [] w v
theorem HoE.but {w v v' : World} {g g2 : Nat} {a b d c l : Int} (h : HoE w g g2 a b d c l v) (k : But [] v v') : HoE w g g2 a b d c l v' := ⟨h.1.but k (by simp), h.2.1.but k (by simp), h.2.2.trans k⟩
theorem valAt_one {D : List UInt8} {k : Nat} (h : k < D.length) : valAt D k 1 = (D.getD k 0).toNat := by
  rw [valAt_next (by omega), valAt_zero]; simp
theorem valAt_two {D : List UInt8} {k : Nat} (h : k + 1 < D.length) : valAt D k 2 = (D.getD k 0).toNat * 256 + (D.getD (k + 1) 0).toNat := by
  rw [valAt_next (by omega), valAt_one (by omega)]
set_option maxHeartbeats 1000000 in
theorem pheadOf_any (w : World) {D : List UInt8} (hs : D.length ≤ 1000000000) :
    Calls Try.prog 26 #[.string (strL D)] w (GotHO w (headT D)) := by
  obtain ⟨z, hz⟩ : ∃ z, z = D.length := ⟨_, rfl⟩
  have hsz : (strL D).size = z := by rw [strL_size, hz]
  obtain ⟨S, hS⟩ : ∃ S, S = strL D := ⟨_, rfl⟩
  obtain ⟨r, hr⟩ : ∃ r, r = headT D := ⟨_, rfl⟩
  rw [← hr, ← hS]
  rw [← hS] at hsz
  have HR := Lib.hid hr
  have i0 := Is.fresh w 9 #[.string S]
  have i1 := Is.fresh (w.alloc (.cells #[.string S] 9)) 23 #[.int .i64 0, .int .i64 0, .int .i64 0, .int .i64 0, .int .i64 0]
  rw [show (w.alloc (.cells #[.string S] 9)).heap.size = w.heap.size + 1 by simp] at i1
  by_cases h13 : z = 13
  rotate_left
  · have d13 : ((z : Int) != 13) = true := by simp; omega
    have HE := Lib.hid (show r = ([0, 0, 0, 0, 0], 24) by rw [hr]; unfold headT; rw [if_pos (Or.inl (by omega))])
    have HI0 := Lib.hid (i0.alloc (.cells #[.int .i64 0, .int .i64 0, .int .i64 0, .int .i64 0, .int .i64 0] 23))
    have HI1 := Lib.hid i1
    have HB := Lib.hid (((But.refl [] w).alloc (.cells #[.string S] 9)).alloc (.cells #[.int .i64 0, .int .i64 0, .int .i64 0, .int .i64 0, .int .i64 0] 23))
    clear h13 hr hS hz i0 i1 hs
    have c0 := HI0.out.cell 0
    have f0 := HI1.out.free 0
    have f1 := HI1.out.free 1
    have f2 := HI1.out.free 2
    have f3 := HI1.out.free 3
    have f4 := HI1.out.free 4
    have e0 := HI1.out.cell 0
    have e1 := HI1.out.cell 1
    have e2 := HI1.out.cell 2
    have e3 := HI1.out.cell 3
    have e4 := HI1.out.cell 4
    go_enter Try.func26, Try.ntmps26
    go_wp2
    exact head_ret (g2 := w.heap.size + 1) (W := _) HI1.out HB.out rfl rfl HE.out
  · subst h13
    have hl : D.length = 13 := hz.symm
    have d13 : (((13 : Nat) : Int) != 13) = false := rfl
    have i2 := Is.fresh ((w.alloc (.cells #[.string S] 9)).alloc (.cells #[.int .i64 0, .int .i64 0, .int .i64 0, .int .i64 0, .int .i64 0] 23)) 3 #[.int .i64 0]
    rw [show ((w.alloc (.cells #[.string S] 9)).alloc (.cells #[.int .i64 0, .int .i64 0, .int .i64 0, .int .i64 0, .int .i64 0] 23)).heap.size = w.heap.size + 1 + 1 by simp] at i2
    have h0 : HoS w w.heap.size (w.heap.size + 1) (w.heap.size + 1 + 1) S 0 (((w.alloc (.cells #[.string S] 9)).alloc (.cells #[.int .i64 0, .int .i64 0, .int .i64 0, .int .i64 0, .int .i64 0] 23)).alloc (.cells #[.int .i64 0] 3)) :=
      ⟨(i0.alloc _).alloc _, i1.alloc _, i2, (((But.refl [] w).alloc _).alloc _).alloc _⟩
    have H0 := Lib.hid h0
    have c0 := ((i0.alloc (.cells #[.int .i64 0, .int .i64 0, .int .i64 0, .int .i64 0, .int .i64 0] 23))).cell 0
    have HN : Hid (∀ (W : World) (bs g2 ba k n : Nat), HoS w bs g2 ba S (k : Int) W → bs ≠ ba → g2 ≠ ba → w.heap.size ≤ ba → k + n ≤ 13 → n ≤ 4 →
        Calls Try.prog 31 #[.int .i64 (n : Int), .pointer (some ⟨bs, 0, none⟩), .pointer (some ⟨ba, 0, none⟩)] W fun e w' => e = .returned (.int .i64 (valAt D k n : Nat)) ∧ HoS w bs g2 ba S ((k + n : Nat) : Int) w' ∧ But [ba] W w') :=
      Lib.hid fun W bs g2 ba k n h n1 n2 hb hk hn => (pnext_any W (D := D) (by rw [← hS]; exact h.1) h.2.2.1 n1 hl hk hn).mono fun e w' ⟨h1, h2, h3⟩ => ⟨h1, h.next h2 h3 n1 n2 hb, h3⟩
    have HL := Lib.hid hl
    have HRR := Lib.hid hr
    clear hz hs i0 i1 i2 h0 hl hr hS
    go_enter Try.func26, Try.ntmps26
    go_wp2_with fail
    refine (HN.out _ w.heap.size (w.heap.size + 1) (w.heap.size + 1 + 1) 0 4 H0.out (by omega) (by omega) (by omega) (by omega) (by omega)).mono ?_
    rintro e w1 ⟨rfl, h1, -⟩
    have H1 := Lib.hid h1
    clear h1 H0
    go_wp2_with fail
    refine (HN.out _ w.heap.size (w.heap.size + 1) (w.heap.size + 1 + 1) (0 + 4) 4 H1.out (by omega) (by omega) (by omega) (by omega) (by omega)).mono ?_
    rintro e w2 ⟨rfl, h2, -⟩
    have H2 := Lib.hid h2
    clear h2 H1
    go_wp2_with fail
    refine (HN.out _ w.heap.size (w.heap.size + 1) (w.heap.size + 1 + 1) (0 + 4 + 4) 1 H2.out (by omega) (by omega) (by omega) (by omega) (by omega)).mono ?_
    rintro e w3 ⟨rfl, h3, -⟩
    have H3 := Lib.hid h3
    clear h3 H2
    go_wp2_with fail
    refine (HN.out _ w.heap.size (w.heap.size + 1) (w.heap.size + 1 + 1) (0 + 4 + 4 + 1) 1 H3.out (by omega) (by omega) (by omega) (by omega) (by omega)).mono ?_
    rintro e w4 ⟨rfl, h4, -⟩
    have i5 := Is.fresh w4 23 #[.int .i64 (valAt D 0 4 : Nat), .int .i64 (valAt D (0 + 4) 4 : Nat), .int .i64 (valAt D (0 + 4 + 4) 1 : Nat), .int .i64 (valAt D (0 + 4 + 4 + 1) 1 : Nat), .int .i64 0]
    have b5 : But [] w4 (w4.alloc (.cells #[.int .i64 (valAt D 0 4 : Nat), .int .i64 (valAt D (0 + 4) 4 : Nat), .int .i64 (valAt D (0 + 4 + 4) 1 : Nat), .int .i64 (valAt D (0 + 4 + 4 + 1) 1 : Nat), .int .i64 0] 23)) := (But.refl [] w4).alloc _
    have h5 : HoS w w.heap.size (w.heap.size + 1) (w.heap.size + 1 + 1) S ((0 + 4 + 4 + 1 + 1 : Nat) : Int) (w4.alloc (.cells #[.int .i64 (valAt D 0 4 : Nat), .int .i64 (valAt D (0 + 4) 4 : Nat), .int .i64 (valAt D (0 + 4 + 4) 1 : Nat), .int .i64 (valAt D (0 + 4 + 4 + 1) 1 : Nat), .int .i64 0] 23)) := ⟨h4.1.but b5 (by simp), h4.2.1.but b5 (by simp), h4.2.2.1.but b5 (by simp), h4.2.2.2.trans b5⟩
    have H5 := Lib.hid h5
    have I5 := Lib.hid i5
    have hlt5 : w.heap.size + 1 + 1 < w4.heap.size := h4.2.2.1.lt
    clear h4 h5 i5 b5 H3
    go_wp2_with fail
    refine (HN.out _ w.heap.size (w.heap.size + 1) (w.heap.size + 1 + 1) (0 + 4 + 4 + 1 + 1) 2 H5.out (by omega) (by omega) (by omega) (by omega) (by omega)).mono ?_
    rintro e w6 ⟨rfl, h6, b6⟩
    have I6 := I5.out.but b6 (by simp; omega)
    clear b6
    have e0 := I6.cell 0
    have e1 := I6.cell 1
    have e2 := I6.cell 2
    have e3 := I6.cell 3
    have e4 := I6.cell 4
    have g4 := I6.free 4
    have i0 := h6.2.1.cell 0
    have i1 := h6.2.1.cell 1
    have i2 := h6.2.1.cell 2
    have i3 := h6.2.1.cell 3
    have i4 := h6.2.1.cell 4
    have f0 := h6.2.1.free 0
    have f1 := h6.2.1.free 1
    have f2 := h6.2.1.free 2
    have f3 := h6.2.1.free 3
    have f4 := h6.2.1.free 4
    have H6 := Lib.hid h6
    have HI6 := Lib.hid I6
    clear h6 I6 H5 I5
    have hv : valAt D (0 + 4 + 4 + 1 + 1) 2 = (D.getD 10 0).toNat * 256 + (D.getD 11 0).toNat := valAt_two (by rw [HL.out]; omega)
    have HV := Lib.hid hv
    clear hv
    by_cases hz : D.getD 10 0 = 0 ∧ D.getD 11 0 = 0
    rotate_left
    · have dz : (((valAt D 10 2 : Nat) : Int) != 0) = true := by
        have h1 : (D.getD 10 0).toNat ≠ 0 ∨ (D.getD 11 0).toNat ≠ 0 := by
          by_cases h : D.getD 10 0 = 0
          · exact .inr fun h2 => hz ⟨h, UInt8.toNat_inj.1 (by rw [h2]; rfl)⟩
          · exact .inl fun h2 => h (UInt8.toNat_inj.1 (by rw [h2]; rfl))
        have h2 : valAt D 10 2 ≠ 0 := by
          have e : valAt D 10 2 = _ := HV.out
          rw [e]; omega
        simp; omega
      have HE := Lib.hid (show r = ([0, 0, 0, 0, 0], 24) by
        rw [HRR.out]; unfold headT
        rw [if_pos (by
          by_cases h : D.getD 10 0 = 0
          · exact .inr (.inr fun h2 => hz ⟨h, h2⟩)
          · exact .inr (.inl h))])
      clear hz
      go_wp2_with fail
      exact head_ret (g2 := w.heap.size + 1) (W := _) (((((H6.out.2.1.put 0 (.int .i64 0)).put 1 (.int .i64 0)).put 2 (.int .i64 0)).put 3 (.int .i64 0)).put 4 (.int .i64 0)) (((((H6.out.2.2.2.setCell (p := ⟨w.heap.size + 1, 0, none⟩) (.inr (by dsimp only; omega)) _).setCell (p := ⟨w.heap.size + 1, 1, none⟩) (.inr (by dsimp only; omega)) _).setCell (p := ⟨w.heap.size + 1, 2, none⟩) (.inr (by dsimp only; omega)) _).setCell (p := ⟨w.heap.size + 1, 3, none⟩) (.inr (by dsimp only; omega)) _).setCell (p := ⟨w.heap.size + 1, 4, none⟩) (.inr (by dsimp only; omega)) _) rfl rfl HE.out
    · have dz : (((valAt D 10 2 : Nat) : Int) != 0) = false := by
        have e : valAt D 10 2 = _ := HV.out
        rw [e, hz.1, hz.2]; rfl
      have HZ := Lib.hid hz
      clear hz
      go_wp2_with fail
      refine (HN.out _ w.heap.size (w.heap.size + 1) (w.heap.size + 1 + 1) (0 + 4 + 4 + 1 + 1 + 2) 1 H6.out (by omega) (by omega) (by omega) (by omega) (by omega)).mono ?_
      rintro e w7 ⟨rfl, h7, b7⟩
      have I7 := HI6.out.but b7 (by simp; omega)
      have t4 := I7.cell 4
      have u4 := I7.free 4
      have hne7 : w.heap.size + 1 ≠ w4.heap.size := by omega
      have I8 := I7.put 4 (.int .i64 (valAt D 12 1 : Nat))
      have h8 := h7.2.1.far (p := ⟨w4.heap.size, 4, none⟩) hne7 (.int .i64 (valAt D 12 1 : Nat))
      have B8 := h7.2.2.2.setCell (p := ⟨w4.heap.size, 4, none⟩) (.inr (by dsimp only; omega)) (.int .i64 (valAt D 12 1 : Nat))
      have H7 := Lib.hid h7
      have HI8 := Lib.hid I8
      have H8 := Lib.hid h8
      have HB8 := Lib.hid B8
      clear h7 b7 I7 I8 h8 B8 e0 e1 e2 e3 e4 g4 i0 i1 i2 i3 i4 f0 f1 f2 f3 f4
      go_upto_region 9 with (fail)
      have HRES := Lib.hid (show r = ([((valAt D 0 4 : Nat) : Int), ((valAt D 4 4 : Nat) : Int), ((valAt D 8 1 : Nat) : Int), ((valAt D 9 1 : Nat) : Int), ((valAt D 12 1 : Nat) : Int)], rightH (valAt D 0 4 : Nat) (valAt D 4 4 : Nat) (valAt D 8 1 : Nat) (valAt D 9 1 : Nat) (valAt D 12 1 : Nat)) by
        have hl := HL.out
        have hn : numsH D = [((valAt D 0 4 : Nat) : Int), ((valAt D 4 4 : Nat) : Int), ((valAt D 8 1 : Nat) : Int), ((valAt D 9 1 : Nat) : Int), ((valAt D 12 1 : Nat) : Int)] := by
          rw [valAt_one (k := 8) (by omega), valAt_one (k := 9) (by omega), valAt_one (k := 12) (by omega)]
          unfold valAt numsH
          rw [List.drop_zero]
        rw [HRR.out]
        unfold headT
        rw [if_neg (by rintro (h | h | h); exact h hl; exact h HZ.out.1; exact h HZ.out.2), hn]
        rfl)
      have I8 : Is (w7.setCell ⟨w4.heap.size, 4, none⟩ (.int .i64 (valAt D 12 1 : Nat))) w4.heap.size 23 #[.int .i64 (valAt D 0 4 : Nat), .int .i64 (valAt D 4 4 : Nat), .int .i64 (valAt D 8 1 : Nat), .int .i64 (valAt D 9 1 : Nat), .int .i64 (valAt D 12 1 : Nat)] := HI8.out
      have h8 : HoE w w4.heap.size (w.heap.size + 1) (valAt D 0 4 : Nat) (valAt D 4 4 : Nat) (valAt D 8 1 : Nat) (valAt D 9 1 : Nat) (valAt D 12 1 : Nat) (w7.setCell ⟨w4.heap.size, 4, none⟩ (.int .i64 (valAt D 12 1 : Nat))) := ⟨I8, H8.out, HB8.out⟩
      have hgg : w.heap.size ≤ w.heap.size + 1 := by omega
      clear I8 HI8 H8 HB8 H7 t4 u4 hne7 HI6 H6 HZ dz HV HN HL HRR c0 hlt5
      obtain ⟨w8, hw8⟩ : ∃ x, x = w7.setCell ⟨w4.heap.size, 4, none⟩ (.int .i64 (valAt D 12 1 : Nat)) := ⟨_, rfl⟩
      rw [← hw8] at h8 ⊢
      obtain ⟨g, hg⟩ : ∃ g, g = w4.heap.size := ⟨_, rfl⟩
      rw [← hg] at h8 ⊢
      obtain ⟨g2, hg2⟩ : ∃ g, g = w.heap.size + 1 := ⟨_, rfl⟩
      rw [← hg2] at h8 hgg ⊢
      obtain ⟨a, ha⟩ : ∃ a : Int, a = (valAt D 0 4 : Nat) := ⟨_, rfl⟩
      obtain ⟨b, hb⟩ : ∃ a : Int, a = (valAt D 4 4 : Nat) := ⟨_, rfl⟩
      obtain ⟨d, hd⟩ : ∃ a : Int, a = (valAt D 8 1 : Nat) := ⟨_, rfl⟩
      obtain ⟨c, hc⟩ : ∃ a : Int, a = (valAt D 9 1 : Nat) := ⟨_, rfl⟩
      obtain ⟨l, hl⟩ : ∃ a : Int, a = (valAt D 12 1 : Nat) := ⟨_, rfl⟩
      rw [← ha, ← hb, ← hc, ← hd, ← hl] at h8 HRES
      clear hw8 hg hg2 ha hb hd hc hl
      have hS := h8
      have c0 := hS.1.cell 0
      have c1 := hS.1.cell 1
      have c2 := hS.1.cell 2
      have c3 := hS.1.cell 3
      have c4 := hS.1.cell 4
      have e0 := hS.2.1.cell 0
      have e1 := hS.2.1.cell 1
      have e2 := hS.2.1.cell 2
      have e3 := hS.2.1.cell 3
      have e4 := hS.2.1.cell 4
      have f0 := hS.2.1.free 0
      have f1 := hS.2.1.free 1
      have f2 := hS.2.1.free 2
      have f3 := hS.2.1.free 3
      have f4 := hS.2.1.free 4
      go_region_with (go_at_call 9; refine (pright_h _ _ _ _ _ _).mono ?_; rintro e wk ⟨rfl, hB⟩; (first | have hS := HoE.but hS hB | have hS := HoE.but hS ((But.refl [] _).drew.trans hB)); have c0 := hS.1.cell 0; have c1 := hS.1.cell 1; have c2 := hS.1.cell 2; have c3 := hS.1.cell 3; have c4 := hS.1.cell 4; have e0 := hS.2.1.cell 0; have e1 := hS.2.1.cell 1; have e2 := hS.2.1.cell 2; have e3 := hS.2.1.cell 3; have e4 := hS.2.1.cell 4; have f0 := hS.2.1.free 0; have f1 := hS.2.1.free 1; have f2 := hS.2.1.free 2; have f3 := hS.2.1.free 3; have f4 := hS.2.1.free 4; clear hB)
      all_goals
        go_wp2
        exact head_ret (g2 := g2) (W := _) (((((hS.2.1.put 0 (.int .i64 a)).put 1 (.int .i64 b)).put 2 (.int .i64 d)).put 3 (.int .i64 c)).put 4 (.int .i64 l)) (((((hS.2.2.setCell (p := ⟨g2, 0, none⟩) (.inr hgg) _).setCell (p := ⟨g2, 1, none⟩) (.inr hgg) _).setCell (p := ⟨g2, 2, none⟩) (.inr hgg) _).setCell (p := ⟨g2, 3, none⟩) (.inr hgg) _).setCell (p := ⟨g2, 4, none⟩) (.inr hgg) _) rfl rfl HRES.out
end Go.Proofs.Ytedffeimcccobaa
