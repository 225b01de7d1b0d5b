/- The program's tables of a dynamic block. -/
import Derived.Test.YtobmghjpfkdooaaDoorRdL
namespace Go.Proofs.YtobmghjpfkdooaaDoor
set_option maxRecDepth 100000
open Go Go.RowKit

/-- The tables with which a dynamic block begins. -/
def dynTabs (F : Nat) : Rd (List Int × List Int) := rBind (rBits 14) fun v => rBind (rSmall (4 + v / 1024)) fun small =>
  rBind (lenG small (v % 32 + 257 + (v / 32 % 32 + 1)) F []) fun ls => tablesR (ls.take (v % 32 + 257)) (ls.drop (v % 32 + 257)) (rPure (ls.take (v % 32 + 257), ls.drop (v % 32 + 257)))
theorem bind_tables {α β : Type} (l d : List Int) (m : Rd α) (f : α → Rd β) : rBind (tablesR l d m) f = tablesR l d (rBind m f) := by
  unfold tablesR; rw [bind_when, bind_when]
theorem dyn_tabs (most : Int) (F : Nat) (out : List UInt8) : dynR most F out = rBind (dynTabs F) fun x => symG x.1 x.2 most F out := by
  rw [dyn_head]
  unfold dynTabs rSmall
  simp only [bind_bind, bind_when, bind_pure, bind_tables]
  rfl
theorem lenG_len (small : List Int) (total : Nat) (s : ByteArray) : ∀ f acc p ls q, acc.length ≤ total → lenG small total f acc s p = .ok (ls, q) → ls.length = total
  | 0, _, _, _, _, _, h => by cases h
  | f + 1, acc, p, ls, q, ha, h => by
    by_cases hd : total ≤ acc.length
    · rw [len_done hd] at h
      injection h with h
      injection h with h _
      subst h; omega
    · rw [len_open (by omega)] at h
      obtain ⟨⟨t, q1⟩, _, h2⟩ := ok_bind h
      dsimp only at h2
      by_cases h16 : t < 16
      · rw [if_pos h16] at h2
        exact lenG_len small total s f _ _ _ _ (by simp; omega) h2
      · rw [if_neg h16] at h2
        have key : ∀ (k : Nat) (x : Int) (bs : Nat), rBind (rBits bs) (fun y => rWhen (total < acc.length + (k + y)) 12 (lenG small total f (acc ++ List.replicate (k + y) x))) s q1 = .ok (ls, q) → ls.length = total := fun k x bs h3 => by
          obtain ⟨⟨y, q2⟩, _, h4⟩ := ok_bind h3
          obtain ⟨hc, h5⟩ := ok_when h4
          exact lenG_len small total s f _ _ _ _ (by simp; dsimp only at hc; omega) h5
        by_cases e16 : t = 16
        · rw [if_pos e16] at h2
          obtain ⟨_, h3⟩ := ok_when h2
          exact key _ _ _ h3
        · rw [if_neg e16] at h2
          by_cases e17 : t = 17
          · rw [if_pos e17] at h2
            exact key _ _ _ h2
          · rw [if_neg e17] at h2
            exact key _ _ _ h2
theorem smallG_len (s : ByteArray) : ∀ (ks : List Nat) (a : List Int) p ls q, smallG ks a s p = .ok (ls, q) → ls.length = a.length
  | [], a, p, ls, q, h => by
    have h : Except.ok (a, p) = .ok (ls, q) := h
    injection h with h
    injection h with h _
    rw [h]
  | k :: ks, a, p, ls, q, h => by
    have h : rBind (rBits 3) (fun v => smallG ks (a.set k (v : Nat))) s p = .ok (ls, q) := h
    obtain ⟨⟨v, q1⟩, _, h2⟩ := ok_bind h
    have := smallG_len s ks _ _ _ _ h2
    rw [List.length_set] at this
    exact this
theorem rSmall_len {told p q : Nat} {small : List Int} {s : ByteArray} (h : rSmall told s p = .ok (small, q)) : small.length = 19 := by
  unfold rSmall at h
  obtain ⟨⟨a, q1⟩, h1, h2⟩ := ok_bind h
  obtain ⟨_, h3⟩ := ok_when h2
  injection h3 with h3
  injection h3 with h3 _
  rw [← h3]
  exact smallG_len s _ _ _ _ _ h1
theorem smallG_adv' : ∀ (ks : List Nat) (a : List Int), Adv (smallG ks a) := smallG_adv
theorem rSmall_adv (told : Nat) : Adv (rSmall told) := by
  unfold rSmall
  exact Adv.bind (smallG_adv _ _) fun x => Adv.when (Adv.pure _)
section
variable {w w' : World} {b rb db : Nat} {og : Option Nat} {s : ByteArray} {p : Nat} {M : Int} {L : List UInt8} {fs fd : Option Nat}
theorem Ints.take {g n k : Nat} {l : List Int} (h : Ints w (some ⟨g, 0, none⟩) n l) (hk : k ≤ n) : Ints w (some ⟨g, 0, none⟩) k (l.take k) := by
  have hl := h.1
  refine ⟨by rw [List.length_take]; omega, fun hp => ?_⟩
  obtain ⟨g', o, e, hg, hc⟩ := h.2 (by omega)
  refine ⟨g', o, e, hg, fun i hi => ?_⟩
  rw [List.length_take] at hi
  rw [List.getElem_take]
  exact hc i (by omega)
theorem Ints.drop {g n k : Nat} {l : List Int} (h : Ints w (some ⟨g, 0, none⟩) n l) (hk : k ≤ n) : Ints w (some ⟨g, k, none⟩) (n - k) (l.drop k) := by
  have hl := h.1
  refine ⟨by rw [List.length_drop]; omega, fun hp => ?_⟩
  obtain ⟨g', o, e, hg, hc⟩ := h.2 (by omega)
  injection e with e
  injection e with e1 e2
  subst e1 e2
  refine ⟨g, k, rfl, hg, fun i hi => ?_⟩
  rw [List.length_drop] at hi
  have := hc (k + i) (by omega)
  rw [Nat.zero_add] at this
  rw [List.getElem_drop]
  exact this
theorem own_form {base : Nat} {v : Value} {l : List Int} (h : OwnI w base v l) (hl : 0 < l.length) : ∃ g c, v = .slice (some ⟨g, 0, none⟩) l.length c ∧ l.length ≤ c ∧ c ≤ 9223372036854775807 ∧ Ints w (some ⟨g, 0, none⟩) l.length l := by
  have h' := h
  unfold OwnI at h'
  rcases h'.2 with ⟨rfl, e⟩ | ⟨g, cap, cur, rfl, _, _, h1, h2, _⟩
  · simp at e
    subst e
    simp at hl
  · obtain ⟨A, c, e, hI, _⟩ := h.open
    injection e with e1 e2 e3
    subst e1 e3
    exact ⟨g, cap, rfl, h1, by unfold maxLen at h2; omega, hI⟩
theorem smallI (h : SS w b rb db og s p M L fs fd) (hG : Keep (Foot b rb og) w GL) {i : Int} (told : Nat) (hi : i = told) (ht : told ≤ 19) :
    Calls Tryd.prog 43 #[.pointer (some ⟨b, 0, none⟩), .int .i64 i] w (GotS w b rb db og s M L fs fd (rSmall told s p)) := by
  subst hi; exact smallTable_any h hG told ht
theorem readI {bt F : Nat} {small : List Int} (h : SS w b rb db og s p M L fs fd) (hG : Keep (Foot b rb og) w GL) (hT : Keep (Foot b rb og) w fun w' => TT w' bt small) (hc : chk small = 0) (h19 : small.length = 19) {i : Int}
    (total : Nat) (hi : i = total) (ht : total ≤ 400) (hF : 8 * s.size - p < F) :
    Calls Tryd.prog 44 #[.pointer (some ⟨b, 0, none⟩), .pointer (some ⟨bt, 0, none⟩), .int .i64 i] w (GotL w b rb db og s M L fs fd (lenG small total F [] s p)) := by
  subst hi; exact readLengths_any h hG hT hc h19 total ht hF
def GotD (w : World) (b rb db : Nat) (og : Option Nat) (s : ByteArray) (M : Int) (L : List UInt8) (fs fd : Option Nat) (r : Except Int ((List Int × List Int) × Nat)) (e : Ending) (w' : World) : Prop :=
  ∃ (p1 p2 : Value) (er : Int) (q : Nat) (l d : List Int), e = .returned (.tuple #[.agg #[p1, p2], .int .i64 er]) ∧ Mv b rb w w' og og ∧ (er ≠ 0 → r = .error er ∧ p1 = .pointer none ∧ p2 = .pointer none) ∧
    (er = 0 → r = .ok ((l, d), q) ∧ SS w' b rb db og s q M L fs fd ∧ chk l = 0 ∧ chk d = 0 ∧ ∃ b1 b2, p1 = .pointer (some ⟨b1, 0, none⟩) ∧ p2 = .pointer (some ⟨b2, 0, none⟩) ∧ (∀ F, (∀ k ∈ F, k < w.heap.size) → Keep F w' (fun x => TT x b1 l)) ∧ (∀ F, (∀ k ∈ F, k < w.heap.size) → Keep F w' (fun x => TT x b2 d)))
theorem GotD.err {w1 : World} {r : Except Int ((List Int × List Int) × Nat)} {er : Int} {x y : Value} (hM : Mv b rb w w1 og og) (hr : r = .error er) (her : er ≠ 0) :
    GotD w b rb db og s M L fs fd r (.returned (.tuple #[.agg #[.pointer none, .pointer none], .int .i64 er])) ((w1.setCell ⟨w.heap.size, 0, none⟩ x).setCell ⟨w.heap.size, 1, none⟩ y) :=
  ⟨_, _, er, 0, [], [], rfl, ⟨(hM.but.setCell (.inr (Nat.le_refl _)) _).setCell (.inr (Nat.le_refl _)) _, hM.own⟩, fun _ => ⟨hr, rfl, rfl⟩, fun e => absurd e her⟩
/-- What a pair of tables is told as. -/
def GotP (w : World) (l d : List Int) (x1 x2 : Option Addr) (er : Int) (w' : World) : Prop :=
  (er ≠ 0 → x1 = none ∧ x2 = none ∧ (chk l = er ∨ (chk l = 0 ∧ chk d = er))) ∧
    (er = 0 → chk l = 0 ∧ chk d = 0 ∧ ∃ b1 b2, x1 = some ⟨b1, 0, none⟩ ∧ x2 = some ⟨b2, 0, none⟩ ∧ NewT w.heap.size w' b1 l ∧ NewT w.heap.size w' b2 d)
theorem makeTables_pt {A B : Option Addr} {n m cA cB : Nat} {l d : List Int} (hl : Ints w A n l) (hd : Ints w B m d) (hn : n * 8 ≤ 140737488351232) (hm : m * 8 ≤ 140737488351232)
    (hA : A = none → cA = 0) (hB : B = none → cB = 0) :
    Calls Tryd.prog 42 #[.slice A n cA, .slice B m cB] w fun e w' => ∃ x1 x2 er, e = .returned (.tuple #[.agg #[.pointer x1, .pointer x2], .int .i64 er]) ∧ But [] w w' ∧ GotP w l d x1 x2 er w' := by
  refine (makeTables_any hl hd hn hm hA hB).mono ?_
  rintro e w' ⟨p1, p2, er, rfl, hB, h1, h2⟩
  by_cases her : er = 0
  · obtain ⟨c1, c2, b1, b2, e1, e2, t1, t2⟩ := h2 her
    obtain rfl : p1 = .pointer (some ⟨b1, 0, none⟩) := e1
    obtain rfl : p2 = .pointer (some ⟨b2, 0, none⟩) := e2
    exact ⟨_, _, er, rfl, hB, fun e => absurd her e, fun _ => ⟨c1, c2, b1, b2, rfl, rfl, t1, t2⟩⟩
  · obtain ⟨rfl, rfl, h⟩ := h1 her
    exact ⟨none, none, er, rfl, hB, fun _ => ⟨rfl, rfl, h⟩, fun e => absurd e her⟩
theorem dyn_done {F q : Nat} {l d : List Int} {w3 w4 : World} {x1 x2 : Option Addr} {er : Int} (hdt : dynTabs F s p = tablesR l d (rPure (l, d)) s q) (hM : Mv b rb w w3 og og) (hS : SS w3 b rb db og s q M L fs fd)
    (hfl : ∀ k ∈ Foot b rb og, k < w.heap.size) (hft : w.heap.size ∉ Foot b rb og) (hr : w.heap.size < w3.heap.size) (hB : But [] w3.drew w4) (hP : GotP w3.drew l d x1 x2 er w4) :
    GotD w b rb db og s M L fs fd (dynTabs F s p) (.returned (.tuple #[.agg #[.pointer x1, .pointer x2], .int .i64 er])) ((w4.setCell ⟨w.heap.size, 0, none⟩ (.pointer x1)).setCell ⟨w.heap.size, 1, none⟩ (.pointer x2)) := by
  have hB3 : But [] w3 w4 := ((But.refl [] w3).drew).trans hB
  have hdb := hS.hd
  have hbl := hfl b (by simp [Foot])
  have hM4 : Mv b rb w w4 og og := hM.trans (Mv.of hB3 (by simp))
  have hMf : Mv b rb w ((w4.setCell ⟨w.heap.size, 0, none⟩ (.pointer x1)).setCell ⟨w.heap.size, 1, none⟩ (.pointer x2)) og og := ⟨(hM4.but.setCell (.inr (Nat.le_refl _)) _).setCell (.inr (Nat.le_refl _)) _, hM4.own⟩
  have hbf : But [w.heap.size] w4 ((w4.setCell ⟨w.heap.size, 0, none⟩ (.pointer x1)).setCell ⟨w.heap.size, 1, none⟩ (.pointer x2)) := ((But.refl [w.heap.size] w4).setCell (.inl (by simp)) _).setCell (.inl (by simp)) _
  have hSf := (hS.but hB3 (by simp)).away hbf (fun k hk => by
    obtain rfl : k = w.heap.size := by simpa using hk
    exact ⟨hft, by omega⟩)
  by_cases her : er = 0
  · obtain ⟨c1, c2, b1, b2, rfl, rfl, t1, t2⟩ := hP.2 her
    have kk := fun (bt : Nat) (l : List Int) (t : NewT w3.drew.heap.size w4 bt l) (F : List Nat) (hF : ∀ k ∈ F, k < w.heap.size) => (t.but hbf (fun k hk => by
      obtain rfl : k = w.heap.size := by simpa using hk
      exact hr)).keep (F := F) (fun k hk => by have := hF k hk; show k < w3.heap.size; omega)
    exact ⟨_, _, er, q, l, d, rfl, hMf, fun e => absurd her e, fun _ => ⟨by rw [hdt, tables_goes c1 c2]; rfl, hSf, c1, c2, b1, b2, rfl, rfl, kk _ _ t1, kk _ _ t2⟩⟩
  · obtain ⟨rfl, rfl, h⟩ := hP.1 her
    refine ⟨_, _, er, q, l, d, rfl, hMf, fun _ => ⟨?_, rfl, rfl⟩, fun e => absurd e her⟩
    rw [hdt]
    rcases h with h | ⟨h1, h⟩
    · rw [tables_err1 (by rw [h]; exact her), h]
    · rw [tables_err2 h1 (by rw [h]; exact her), h]
theorem and31 (v : Nat) : Go.bits .and .i64 (v : Int) 31 = ((v % 32 : Nat) : Int) := by
  have := i64_mask (v : Int) 5 (by omega)
  simpa using this
theorem dynamicTables_any (h : SS w b rb db og s p M L fs fd) (hG : Keep (Foot b rb og) w GL) {F : Nat} (hF : 8 * s.size - p < F) :
    Calls Tryd.prog 30 #[.pointer (some ⟨b, 0, none⟩)] w (GotD w b rb db og s M L fs fd (dynTabs F s p)) := by
  have h1 := h.alloc (.cells #[.pointer none, .pointer none] 36)
  have m1 := Mv.alloc (b := b) (rb := rb) (w := w) (og := og) (.cells #[.pointer none, .pointer none] 36)
  have hI := Is.fresh w 36 #[.pointer none, .pointer none]
  have hin := h1.inCell
  have hbt := h1.bits 14
  have hfl := foot_lt h
  have hft := foot_ne h
  have hdb := h.hd
  have hp8 := h.rs.1
  have HBT := Lib.hid hbt
  have HM := Lib.hid m1
  have HI := Lib.hid hI
  have HG := Lib.hid hG
  have HFL := Lib.hid hfl
  have HFT := Lib.hid hft
  have HP8 := Lib.hid hp8
  have HF := Lib.hid hF
  clear h h1 m1 hI hbt hfl hft hG hp8 hF
  go_enter Tryd.func30, Tryd.ntmps30
  go_wp2_with fail
  refine HBT.out.mono ?_
  rintro e w1 ⟨v, er, q, rfl, hMv, he1, he2⟩
  have hI1 := HI.out.but hMv.but HFT.out
  have hMW := HM.out.trans hMv
  have g0 : w1.cell? ⟨w.heap.size, 0, none⟩ = some (.pointer none) := hI1.cell 0
  have g1 : w1.cell? ⟨w.heap.size, 1, none⟩ = some (.pointer none) := hI1.cell 1
  have f0 : w1.frozen? ⟨w.heap.size, 0, none⟩ = false := hI1.free 0
  have f1 : w1.frozen? ⟨w.heap.size, 1, none⟩ = false := hI1.free 1
  have HE1 := Lib.hid he1
  have HE2 := Lib.hid he2
  have HI1 := Lib.hid hI1
  have HMW := Lib.hid hMW
  clear hMv he1 he2 hI1 hMW HBT HM HI
  by_cases her : er = 0
  · obtain ⟨hr, hS⟩ := HE2.out her
    have hv := rBits_lt hr
    have hadv := rBits_adv 14 s p v q HP8.out hr
    obtain ⟨a, ha⟩ : ∃ a, a = v % 32 := ⟨_, rfl⟩
    obtain ⟨bb, hbb⟩ : ∃ bb, bb = v / 32 % 32 := ⟨_, rfl⟩
    obtain ⟨cc, hcc⟩ : ∃ cc, cc = v / 1024 := ⟨_, rfl⟩
    have hdt : dynTabs F s p = rBind (rSmall (4 + cc)) (fun small => rBind (lenG small (a + 257 + (bb + 1)) F []) fun ls => tablesR (ls.take (a + 257)) (ls.drop (a + 257)) (rPure (ls.take (a + 257), ls.drop (a + 257)))) s q := by
      rw [ha, hbb, hcc]; exact bind_val hr
    have a1 := and31 v
    rw [← ha] at a1
    have a2 := and31 (v / 32)
    rw [← hbb, show (((v / 32 : Nat) : Int)) = (v : Int) / 32 by omega] at a2
    have a3 : (v : Int) / 1024 = (cc : Int) := by omega
    have ha31 : a ≤ 31 := by omega
    have hb31 : bb ≤ 31 := by omega
    have hc15 : cc ≤ 15 := by have : v < 16384 := hv; omega
    have hsm := smallI hS (HMW.out.keep HG.out) (i := 4 + (cc : Int)) (4 + cc) (by omega) (by omega)
    have HSM := Lib.hid hsm
    have HDT := Lib.hid hdt
    have HADV := Lib.hid hadv
    clear hr hS hv hadv ha hbb hcc hdt hsm HE1 HE2
    subst her
    go_wp2_with fail
    refine HSM.out.mono ?_
    rintro e w2 ⟨pv, er, q2, small, rfl, hMv, he1, he2⟩
    have hI2 := HI1.out.but hMv.but HFT.out
    have hMW := HMW.out.trans hMv
    have g0 : w2.cell? ⟨w.heap.size, 0, none⟩ = some (.pointer none) := hI2.cell 0
    have g1 : w2.cell? ⟨w.heap.size, 1, none⟩ = some (.pointer none) := hI2.cell 1
    have f0 : w2.frozen? ⟨w.heap.size, 0, none⟩ = false := hI2.free 0
    have f1 : w2.frozen? ⟨w.heap.size, 1, none⟩ = false := hI2.free 1
    have HE1 := Lib.hid he1
    have HE2 := Lib.hid he2
    have HI2 := Lib.hid hI2
    have HMW2 := Lib.hid hMW
    have hsz1 := HMW.out.but.size
    have hrl := HI1.out.lt
    clear hMv he1 he2 hI2 hMW HSM HI1 HMW
    by_cases her : er = 0
    · obtain ⟨hr, hS, hcs, bt, rfl, hT⟩ := HE2.out her
      have h19 := rSmall_len hr
      have hadv := rSmall_adv (4 + cc) s q small q2 HADV.out.2 hr
      have hdt : dynTabs F s p = rBind (lenG small (a + 257 + (bb + 1)) F []) (fun ls => tablesR (ls.take (a + 257)) (ls.drop (a + 257)) (rPure (ls.take (a + 257), ls.drop (a + 257)))) s q2 := by
        rw [HDT.out]; exact bind_val hr
      have hKT := hT.keep (F := Foot b rb og) (fun k hk => by have := HFL.out k hk; omega)
      have hrd := readI hS (HMW2.out.keep HG.out) hKT hcs h19 (i := 257 + (a : Int) + (1 + (bb : Int))) (a + 257 + (bb + 1)) (by omega) (by omega) (F := F) (by have := HADV.out; have := HF.out; omega)
      have hfl2 : w.heap.size ≤ w2.heap.size := HMW2.out.but.size
      have HRD := Lib.hid hrd
      have HDT2 := Lib.hid hdt
      clear hr hS hcs hT h19 hadv hdt hKT hrd HE1 HE2 HDT
      subst her
      go_wp2_with fail
      refine HRD.out.mono ?_
      rintro e w3 ⟨lv, er, q3, ls, rfl, hMv, he1, he2⟩
      have hI3 := HI2.out.but hMv.but HFT.out
      have hMW := HMW2.out.trans hMv
      have g0 : w3.cell? ⟨w.heap.size, 0, none⟩ = some (.pointer none) := hI3.cell 0
      have g1 : w3.cell? ⟨w.heap.size, 1, none⟩ = some (.pointer none) := hI3.cell 1
      have f0 : w3.frozen? ⟨w.heap.size, 0, none⟩ = false := hI3.free 0
      have f1 : w3.frozen? ⟨w.heap.size, 1, none⟩ = false := hI3.free 1
      have HE1 := Lib.hid he1
      have HE2 := Lib.hid he2
      have HI3 := Lib.hid hI3
      have HMW3 := Lib.hid hMW
      clear hMv he1 he2 hI3 hMW HRD HI2
      by_cases her : er = 0
      · obtain ⟨hr, hS, hO⟩ := HE2.out her
        have hll := lenG_len small _ s _ _ _ _ _ (Nat.zero_le _) hr
        obtain ⟨gl, cl, rfl, hcl1, hcl2, hIl⟩ := own_form hO (by omega)
        rw [hll] at hcl1 hIl
        obtain ⟨sy, hsy⟩ : ∃ sy, sy = a + 257 := ⟨_, rfl⟩
        obtain ⟨tt, htt⟩ : ∃ tt, tt = a + 257 + (bb + 1) := ⟨_, rfl⟩
        rw [hll]
        rw [← htt] at hcl1 hIl ⊢
        have hIa := hIl.take (k := sy) (by omega)
        have hIb := hIl.drop (k := sy) (by omega)
        have hdt : dynTabs F s p = tablesR (ls.take sy) (ls.drop sy) (rPure (ls.take sy, ls.drop sy)) s q3 := by
          rw [HDT2.out, hsy]; exact bind_val hr
        have HDT3 := Lib.hid hdt
        have HS3 := Lib.hid hS
        have hmk := makeTables_pt (w := w3.drew) (cA := cl) (cB := cl - sy) (A := some ⟨gl, 0, none⟩) (B := some ⟨gl, sy, none⟩) hIa hIb (by omega) (by omega) (fun e => by cases e) (fun e => by cases e)
        have HMK := Lib.hid hmk
        have e257 : (257 : Int) + (a : Int) = (sy : Int) := by omega
        have hst : sy < tt := by omega
        have hsc : sy < cl := by omega
        have hb0 : (0 : Int) ≤ (sy : Int) := by omega
        have n1 : ¬ cl = sy := by omega
        have hcl3 : tt ≤ cl := hcl1
        clear hr hS hO hll hIl hIa hIb hdt hmk HE1 HE2 HDT2 hsy htt
        subst her
        have hrl3 := HI3.out.lt
        go_upto_region 12 with (fail)
        go_region_with (go_at_call 42; refine HMK.out.mono ?_; rintro e w4 ⟨x1, x2, er, rfl, hB, hP⟩; have hI4 := HI3.out.but (((But.refl [] w3).drew).trans hB) (by simp); have q0 : w4.cell? ⟨w.heap.size, 0, none⟩ = some (.pointer none) := hI4.cell 0; have q1 : w4.cell? ⟨w.heap.size, 1, none⟩ = some (.pointer none) := hI4.cell 1; have q2 : w4.frozen? ⟨w.heap.size, 0, none⟩ = false := hI4.free 0; have q3 : w4.frozen? ⟨w.heap.size, 1, none⟩ = false := hI4.free 1; have HB := Lib.hid hB; have HP := Lib.hid hP; have HI4 := Lib.hid hI4; clear hB hP hI4)
        all_goals
          go_wp2
          have hend := dyn_done HDT3.out HMW3.out HS3.out HFL.out HFT.out hrl3 HB.out HP.out
          have c := pair_in (p1 := .pointer x1) (p2 := .pointer x2) HI4.out
          generalize ((w4.setCell ⟨w.heap.size, 0, none⟩ (.pointer x1)).setCell ⟨w.heap.size, 1, none⟩ (.pointer x2)) = wf at *
          have c0 : wf.cell? ⟨w.heap.size, 0, none⟩ = some (.pointer x1) := c.1.cell 0
          have c1 : wf.cell? ⟨w.heap.size, 1, none⟩ = some (.pointer x2) := c.1.cell 1
          exact bodyPost_ret (v := .tuple #[.agg #[.pointer x1, .pointer x2], .int .i64 er]) (by simp [results, Tryd.results30, go_sem, c0, c1]) rfl hend
      · have d2 : (er != 0) = true := by simpa using her
        have HER := Lib.hid her
        clear her
        go_wp2
        have hend := GotD.err (r := dynTabs F s p) (db := db) (s := s) (M := M) (L := L) (fs := fs) (fd := fd) (x := .pointer none) (y := .pointer none) HMW3.out (er := er) (by rw [HDT2.out]; exact bind_err (HE1.out HER.out)) HER.out
        have c := pair_in (p1 := .pointer none) (p2 := .pointer none) HI3.out
        generalize ((w3.setCell ⟨w.heap.size, 0, none⟩ (.pointer none)).setCell ⟨w.heap.size, 1, none⟩ (.pointer none)) = wf at *
        have c0 : wf.cell? ⟨w.heap.size, 0, none⟩ = some (.pointer none) := c.1.cell 0
        have c1 : wf.cell? ⟨w.heap.size, 1, none⟩ = some (.pointer none) := c.1.cell 1
        exact bodyPost_ret (v := .tuple #[.agg #[.pointer none, .pointer none], .int .i64 er]) (by simp [results, Tryd.results30, go_sem, c0, c1]) rfl hend
    · have d2 : (er != 0) = true := by simpa using her
      have HER := Lib.hid her
      clear her
      go_wp2
      have hend := GotD.err (r := dynTabs F s p) (db := db) (s := s) (M := M) (L := L) (fs := fs) (fd := fd) (x := .pointer none) (y := .pointer none) HMW2.out (er := er) (by rw [HDT.out]; exact bind_err (HE1.out HER.out)) HER.out
      have c := pair_in (p1 := .pointer none) (p2 := .pointer none) HI2.out
      generalize ((w2.setCell ⟨w.heap.size, 0, none⟩ (.pointer none)).setCell ⟨w.heap.size, 1, none⟩ (.pointer none)) = wf at *
      have c0 : wf.cell? ⟨w.heap.size, 0, none⟩ = some (.pointer none) := c.1.cell 0
      have c1 : wf.cell? ⟨w.heap.size, 1, none⟩ = some (.pointer none) := c.1.cell 1
      exact bodyPost_ret (v := .tuple #[.agg #[.pointer none, .pointer none], .int .i64 er]) (by simp [results, Tryd.results30, go_sem, c0, c1]) rfl hend
  · have d2 : (er != 0) = true := by simpa using her
    have HER := Lib.hid her
    clear her
    go_wp2
    have hend := GotD.err (r := dynTabs F s p) (db := db) (s := s) (M := M) (L := L) (fs := fs) (fd := fd) (x := .pointer none) (y := .pointer none) HMW.out (er := er) (bind_err (HE1.out HER.out)) HER.out
    have c := pair_in (p1 := .pointer none) (p2 := .pointer none) HI1.out
    generalize ((w1.setCell ⟨w.heap.size, 0, none⟩ (.pointer none)).setCell ⟨w.heap.size, 1, none⟩ (.pointer none)) = wf at *
    have c0 : wf.cell? ⟨w.heap.size, 0, none⟩ = some (.pointer none) := c.1.cell 0
    have c1 : wf.cell? ⟨w.heap.size, 1, none⟩ = some (.pointer none) := c.1.cell 1
    exact bodyPost_ret (v := .tuple #[.agg #[.pointer none, .pointer none], .int .i64 er]) (by simp [results, Tryd.results30, go_sem, c0, c1]) rfl hend
end
end Go.Proofs.YtobmghjpfkdooaaDoor
