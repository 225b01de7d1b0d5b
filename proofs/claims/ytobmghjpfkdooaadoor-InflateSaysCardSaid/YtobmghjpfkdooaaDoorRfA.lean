/- The document's stream: its state, its smallest steps. -/
import Derived.Test.YtobmghjpfkdooaaDoorInfPr
import Derived.Test.YtobmghjpfkdooaaDoorRNext
import Derived.Test.YtobmghjpfkdooaaDoorRfM
namespace Go.Proofs.YtobmghjpfkdooaaDoor
set_option maxRecDepth 100000
open Go Go.RowKit

/-! Reading goes on only where nothing was met. -/
def run {α : Type} (er : Int) (m : Rd α) (s : ByteArray) (p : Nat) : Except Int (α × Nat) := if er ≠ 0 then .error er else m s p
section
variable {α β : Type} {er er1 e : Int} {m : Rd α} {s : ByteArray} {p q : Nat} {a : α}
theorem run_off (h : er ≠ 0) : run er m s p = .error er := if_pos h
theorem run_on : run 0 m s p = m s p := if_neg (by simp)
theorem run_bind {f : α → Rd β} (h : run er m s p = run er1 (rPure a) s q) : run er (rBind m f) s p = run er1 (f a) s q := by
  by_cases h0 : er = 0
  · subst h0
    rw [run_on] at h ⊢
    by_cases h1 : er1 = 0
    · subst h1
      rw [run_on] at h ⊢
      exact bind_val h
    · rw [run_off h1] at h ⊢
      exact bind_err h
  · rw [run_off h0] at h ⊢
    by_cases h1 : er1 = 0
    · subst h1
      rw [run_on] at h
      cases h
    · rw [run_off h1] at h ⊢
      injection h with h
      rw [h]
theorem run_when {c : Prop} [Decidable c] (he : e ≠ 0) : run er (rWhen c e m) s p = run (if er = 0 ∧ c then e else er) m s p := by
  by_cases h0 : er = 0
  · subst h0
    by_cases hc : c
    · rw [if_pos ⟨rfl, hc⟩, run_on, when_yes hc, run_off he]
    · rw [if_neg (fun h => hc h.2), run_on, run_on, when_not hc]
  · rw [if_neg (fun h => h0 h.1), run_off h0, run_off h0]
theorem run_ok (h : run er m s p = .ok (a, q)) : er = 0 ∧ m s p = .ok (a, q) := by
  by_cases h0 : er = 0
  · subst h0; exact ⟨rfl, h⟩
  · rw [run_off h0] at h; cases h
theorem run_pure : run 0 (rPure a) s q = .ok (a, q) := rfl
end

/-- The document's stream in block b, its reader in block rb: p bits are consumed, the bytes L are told, in block og; er is what was met first. -/
structure SR (w : World) (b rb : Nat) (og : Option Nat) (s : ByteArray) (p : Nat) (M : Int) (L : List UInt8) (er : Int) : Prop where
  rs : FS w rb s p
  hr : rb < b
  hs : s.size ≤ 20000
  hM : M ≤ 100000
  hL : (L.length : Int) ≤ max M 0
  cells : ∃ ov, Is w b 46 #[.pointer (some ⟨rb, 0, none⟩), ov, .int .i64 M, .int .i64 er] ∧ w.ownsRow (b + 1) 5 1 ov L.length (cellsOf L) ∧ ov.ownBlock = og

section
variable {w w' w1 : World} {b rb : Nat} {og : Option Nat} {s : ByteArray} {p q : Nat} {M er : Int} {L : List UInt8}
theorem SR.at (h : SR w b rb og s p M L er) : ∃ A c, Is w b 46 #[.pointer (some ⟨rb, 0, none⟩), .slice A L.length c, .int .i64 M, .int .i64 er] ∧ w.ownsRow (b + 1) 5 1 (.slice A L.length c) L.length (cellsOf L) ∧ (Value.slice A L.length c).ownBlock = og := by
  obtain ⟨ov, h1, h2, h3⟩ := h.cells
  rcases h2.2 with ⟨rfl, e⟩ | ⟨g, cap, cur, rfl, _⟩
  · have : L = [] := by cases L with
      | nil => rfl
      | cons x l => simp at e
    subst this
    exact ⟨none, 0, h1, h2, h3⟩
  · exact ⟨_, _, h1, h2, h3⟩
theorem SR.in0 (h : SR w b rb og s p M L er) : w.cell? ⟨b, 0, none⟩ = some (.pointer (some ⟨rb, 0, none⟩)) := by
  obtain ⟨ov, h1, _⟩ := h.cells; exact h1.cell 0
theorem SR.in2 (h : SR w b rb og s p M L er) : w.cell? ⟨b, 2, none⟩ = some (.int .i64 M) := by
  obtain ⟨ov, h1, _⟩ := h.cells; exact h1.cell 2
theorem SR.in3 (h : SR w b rb og s p M L er) : w.cell? ⟨b, 3, none⟩ = some (.int .i64 er) := by
  obtain ⟨ov, h1, _⟩ := h.cells; exact h1.cell 3
theorem SR.free (h : SR w b rb og s p M L er) (i : Nat) : w.frozen? ⟨b, i, none⟩ = false := by
  obtain ⟨ov, h1, _⟩ := h.cells; exact h1.free i
theorem SR.out (h : SR w b rb og s p M L er) : ∀ g, og = some g → b < g ∧ g < w.heap.size := fun g hg => by
  obtain ⟨ov, h1, h2, h3⟩ := h.cells
  have := h2.lt g (by rw [h3]; exact hg)
  omega
theorem SR.lt (h : SR w b rb og s p M L er) : b < w.heap.size := by
  obtain ⟨ov, h1, h2, h3⟩ := h.cells
  exact h1.lt
theorem SR.foot (h : SR w b rb og s p M L er) : ∀ k ∈ Foot b rb og, k < w.heap.size := fun k hk => by
  have h1 := h.lt
  have h2 := h.hr
  unfold Foot at hk
  rcases List.mem_cons.1 hk with e | hk
  · omega
  rcases List.mem_cons.1 hk with e | hk
  · omega
  exact (h.out k (by simpa using hk)).2
/-- The stream when its reader alone has moved. -/
theorem SR.read {S : List Nat} (h : SR w b rb og s p M L er) (hR : FS w' rb s q) (hB : But S w w') (hS : ∀ k ∈ S, k = rb ∨ w.heap.size ≤ k) : SR w' b rb og s q M L er := by
  have hlt := h.lt
  have hout := h.out
  have hr := h.hr
  have hb : b ∉ S := fun hk => by rcases hS b hk with e | e <;> omega
  obtain ⟨ov, h1, h2, h3⟩ := h.cells
  refine ⟨hR, h.hr, h.hs, h.hM, h.hL, ov, h1.but hB hb, ownsRow_but h2 hB fun g hg hk => ?_, h3⟩
  have := hout g (h3 ▸ hg)
  rcases hS g hk with e | e <;> omega
theorem SR.away {S : List Nat} (h : SR w b rb og s p M L er) (hB : But S w w') (hS : ∀ k ∈ S, k ∉ Foot b rb og) : SR w' b rb og s p M L er := by
  obtain ⟨ov, h1, h2, h3⟩ := h.cells
  have f1 : b ∉ S := fun hk => hS b hk (by simp [Foot])
  have f2 : rb ∉ S := fun hk => hS rb hk (by simp [Foot])
  exact ⟨h.rs.but hB f2, h.hr, h.hs, h.hM, h.hL, ov, h1.but hB f1, ownsRow_but h2 hB fun g hg hk => hS g hk (by rw [← h3, hg]; simp [Foot]), h3⟩
theorem SR.but {S : List Nat} (h : SR w b rb og s p M L er) (hB : But S w w') (hS : ∀ k ∈ S, w.heap.size ≤ k) : SR w' b rb og s p M L er :=
  h.away hB fun k hk hf => by have := h.foot k hf; have := hS k hk; omega
theorem SR.alloc (h : SR w b rb og s p M L er) (o : Obj) : SR (w.alloc o) b rb og s p M L er := h.but ((But.refl [] w).alloc o) (by simp)
theorem SR.drewN (h : SR w b rb og s p M L er) (n : Nat) : SR (w.drewN n) b rb og s p M L er := h.but ((But.refl [] w).drewN n) (by simp)
theorem SR.drew (h : SR w b rb og s p M L er) : SR w.drew b rb og s p M L er := h.but ((But.refl [] w).drew) (by simp)
theorem out_neR {A : Option Addr} {k c : Nat} {xs : List Value} (h : w.ownsRow (b + 1) 5 1 (.slice A k c) k xs) : (Value.slice A k c).ownBlock ≠ some b := fun e => by
  have := (h.lt b e).1; omega
/-- The stream when something was met. -/
theorem SR.met (h : SR w b rb og s p M L er) (x : Int) : SR (w.setCell ⟨b, 3, none⟩ (.int .i64 x)) b rb og s p M L x ∧ Mv b rb w (w.setCell ⟨b, 3, none⟩ (.int .i64 x)) og og := by
  have hr := h.hr
  have hlt := h.lt
  obtain ⟨A, c, h1, h2, h3⟩ := h.at
  have hB : But [b] w (w.setCell ⟨b, 3, none⟩ (.int .i64 x)) := (But.refl [b] w).setCell (.inl (by simp)) _
  refine ⟨⟨h.rs.but hB (by simp; omega), h.hr, h.hs, h.hM, h.hL, _, ?_, ?_, h3⟩, ⟨hB.more (by simp [Foot]), fun g e => .inl e⟩⟩
  · simpa using h1.put 3 (.int .i64 x)
  · exact ownsRow_setCell_other h2 (a := ⟨b, 3, none⟩) (out_neR h2) _
/-- What a step of the reader leaves. -/
theorem SR.step {S : List Nat} (h : SR w b rb og s p M L er) (hR : FS w1 rb s q) (hB : But S w w1) (hS : ∀ k ∈ S, k = rb ∨ w.heap.size ≤ k) (x : Int) :
    SR (w1.setCell ⟨b, 3, none⟩ (.int .i64 x)) b rb og s q M L x ∧ Mv b rb w (w1.setCell ⟨b, 3, none⟩ (.int .i64 x)) og og ∧ w1.cell? ⟨b, 3, none⟩ = some (.int .i64 er) ∧ w1.frozen? ⟨b, 3, none⟩ = false := by
  have h1 := h.read hR hB hS
  have h2 := h1.met x
  refine ⟨h2.1, (Mv.of hB fun k hk => ?_).trans h2.2, h1.in3, h1.free 3⟩
  rcases hS k hk with e | e
  · left; simp [Foot, e]
  · right; exact e

/-- A step told a number. -/
def GotRN (w : World) (b rb : Nat) (og : Option Nat) (s : ByteArray) (p : Nat) (M : Int) (L : List UInt8) (er : Int) (m : Rd Nat) (P : Nat → Int → Nat → Prop) (e : Ending) (w' : World) : Prop :=
  ∃ (v : Nat) (er' : Int) (q : Nat), e = .returned (.int .i64 v) ∧ SR w' b rb og s q M L er' ∧ Mv b rb w w' og og ∧ run er m s p = run er' (rPure v) s q ∧ P v er' q
theorem bitsGo_le (s : ByteArray) (p : Nat) (n : Int) : p ≤ bitsGo s p n := by unfold bitsGo; split <;> omega
theorem SR.bits (h : SR w b rb og s p M L er) (n : Nat) :
    Calls Tryd.prog 12 #[.pointer (some ⟨b, 0, none⟩), .int .i64 n] w (GotRN w b rb og s p M L er (rBits n) fun v er' q => v < 2 ^ n ∧ p ≤ q ∧ (er' = 0 → er = 0)) := by
  have h0 := h.in0
  have h3 := h.in3
  by_cases her : er = 0
  · subst her
    have hb := h.rs.bits (by have := h.hs; omega) (n : Int)
    have hst := fun w1 (hR : FS w1 rb s (bitsGo s p n)) (hB : But [rb] w w1) => h.step hR hB (fun k hk => .inl (by simpa using hk)) (bitsErr s p n)
    have hv := bitsVal_lt s p n
    have hg := bitsGo_le s p n
    have hrun : run 0 (rBits n) s p = run (bitsErr s p n) (rPure (bitsVal s p n)) s (bitsGo s p n) := by
      rw [run_on]
      by_cases he : bitsErr s p n = 0
      · rw [rBits_val he, he]; rfl
      · rw [rBits_err he, run_off he]
    generalize bitsErr s p (n : Int) = E at *
    generalize bitsVal s p (n : Int) = V at *
    generalize bitsGo s p (n : Int) = G at *
    have HB := Lib.hid hb
    have HST := Lib.hid hst
    have HV := Lib.hid hv
    have HRUN := Lib.hid hrun
    have HG := Lib.hid hg
    clear hb hst hv hrun h hg
    go_enter Tryd.func12, Tryd.ntmps12
    go_wp2_with fail
    refine HB.out.mono ?_
    rintro e w1 ⟨rfl, hR, hB⟩
    obtain ⟨s1, s2, s3, s4⟩ := HST.out w1 hR hB
    have S1 := Lib.hid s1
    have S2 := Lib.hid s2
    clear hR hB s1 s2
    go_wp2
    go_ret
    exact ⟨V, E, G, rfl, S1.out, S2.out, HRUN.out, HV.out, HG.out, fun _ => by trivial⟩
  · have d : (er != 0) = true := by simpa using her
    have H := Lib.hid h
    have HER := Lib.hid her
    clear h her
    go_enter Tryd.func12, Tryd.ntmps12
    go_wp2
    go_ret
    exact ⟨0, er, p, rfl, H.out, Mv.refl _ _ _ _, by rw [run_off HER.out, run_off HER.out], Nat.two_pow_pos n, Nat.le_refl _, fun e => e⟩
/-- A step told bytes. -/
def GotRB (w : World) (b rb : Nat) (og : Option Nat) (s : ByteArray) (p : Nat) (M : Int) (L : List UInt8) (er : Int) (m : Rd ByteArray) (e : Ending) (w' : World) : Prop :=
  ∃ (v : ByteArray) (er' : Int) (q : Nat), e = .returned (.string v) ∧ SR w' b rb og s q M L er' ∧ Mv b rb w w' og og ∧ run er m s p = run er' (rPure v) s q ∧ (er' = 0 → er = 0)
theorem SR.bytes (h : SR w b rb og s p M L er) (n : Nat) (hn : n ≤ 1000000) :
    Calls Tryd.prog 21 #[.pointer (some ⟨b, 0, none⟩), .int .i64 n] w (GotRB w b rb og s p M L er (rBytes n)) := by
  have h0 := h.in0
  have h3 := h.in3
  by_cases her : er = 0
  · subst her
    have hb := h.rs.bytes (by have := h.hs; omega) (n : Int) (by omega)
    have hst := fun w1 (hR : FS w1 rb s (bytesGo s p n)) (hB : But [rb] w w1) => h.step hR hB (fun k hk => .inl (by simpa using hk)) (bytesErr s p n)
    have hrun : run 0 (rBytes n) s p = run (bytesErr s p n) (rPure (bytesVal s p n)) s (bytesGo s p n) := by
      rw [run_on]
      by_cases he : bytesErr s p n = 0
      · rw [rBytes_val he, he]; rfl
      · rw [rBytes_err he, run_off he]
    generalize bytesErr s p (n : Int) = E at *
    generalize bytesVal s p (n : Int) = V at *
    generalize bytesGo s p (n : Int) = G at *
    have HB := Lib.hid hb
    have HST := Lib.hid hst
    have HRUN := Lib.hid hrun
    clear hb hst hrun h
    go_enter Tryd.func21, Tryd.ntmps21
    go_wp2_with fail
    refine HB.out.mono ?_
    rintro e w1 ⟨rfl, hR, hB⟩
    obtain ⟨s1, s2, s3, s4⟩ := HST.out w1 hR hB
    have S1 := Lib.hid s1
    have S2 := Lib.hid s2
    clear hR hB s1 s2
    go_wp2
    go_ret
    exact ⟨V, E, G, rfl, S1.out, S2.out, HRUN.out, fun _ => by trivial⟩
  · have d : (er != 0) = true := by simpa using her
    have H := Lib.hid h
    have HER := Lib.hid her
    clear h her
    go_enter Tryd.func21, Tryd.ntmps21
    go_wp2
    go_ret
    exact ⟨⟨#[]⟩, er, p, rfl, H.out, Mv.refl _ _ _ _, by rw [run_off HER.out, run_off HER.out], fun e => e⟩
/-- A pointer to the table of lengths. -/
def HasRT (b rb : Nat) (og : Option Nat) (w : World) (x : Option Addr) (l : List Int) : Prop := chk l = 0 ∧ ∃ bt, x = some ⟨bt, 0, none⟩ ∧ Keep (Foot b rb og) w fun w' => RT w' bt l
theorem HasRT.mv {og1 : Option Nat} {x : Option Addr} {l : List Int} (h : HasRT b rb og w x l) (hM : Mv b rb w w1 og og1) : HasRT b rb og1 w1 x l := by
  obtain ⟨h1, bt, rfl, h2⟩ := h
  exact ⟨h1, bt, rfl, hM.keep h2⟩
theorem SR.next {x : Option Addr} {l : List Int} (h : SR w b rb og s p M L er) (hT : er = 0 → HasRT b rb og w x l) :
    Calls Tryd.prog 23 #[.pointer (some ⟨b, 0, none⟩), .pointer x] w (GotRN w b rb og s p M L er (rNext l) fun _ er' q => er' = 0 → er = 0 ∧ p < q) := by
  have h0 := h.in0
  have h3 := h.in3
  by_cases her : er = 0
  · subst her
    obtain ⟨hc, bt, rfl, hK⟩ := hT rfl
    have hb := rnext_any (bt := bt) hc h.rs (by have := h.hs; omega) (fun w' hw => hK w' (hw.more (by simp [Foot])))
    have hst := fun (q : Nat) (x : Int) w1 (hR : FS w1 rb s q) (hB : But [rb] w w1) => h.step hR hB (fun k hk => .inl (by simpa using hk)) x
    have hp := h.rs.1
    have HB := Lib.hid hb
    have HST := Lib.hid hst
    have HP := Lib.hid hp
    clear hb hst h hK hT hp
    go_enter Tryd.func23, Tryd.ntmps23
    go_wp2_with fail
    refine HB.out.mono ?_
    rintro e w1 ⟨⟨V, E, G⟩, hq, rfl, hR, hB⟩
    obtain ⟨s1, s2, s3, s4⟩ := HST.out G E w1 hR hB
    have S1 := Lib.hid s1
    have S2 := Lib.hid s2
    have HQ := Lib.hid hq
    clear hR hB s1 s2 hq
    go_wp2
    go_ret
    refine ⟨V, E, G, rfl, S1.out, S2.out, ?_, fun e => ⟨by trivial, ?_⟩⟩
    · rw [run_on]
      by_cases he : E = 0
      · subst he
        rw [rNext_val HQ.out]; rfl
      · rw [rNext_err HQ.out he, run_off he]
    · subst e
      exact (rNext_adv' l HP.out (rNext_val HQ.out)).1
  · have d : (er != 0) = true := by simpa using her
    have H := Lib.hid h
    have HER := Lib.hid her
    clear h her hT
    go_enter Tryd.func23, Tryd.ntmps23
    go_wp2
    go_ret
    exact ⟨0, er, p, rfl, H.out, Mv.refl _ _ _ _, by rw [run_off HER.out, run_off HER.out], fun e => absurd e HER.out⟩
/-- A table was asked for. -/
def GotRP (w : World) (b rb : Nat) (og : Option Nat) (s : ByteArray) (p : Nat) (M : Int) (L : List UInt8) (er : Int) (l : List Int) (e : Ending) (w' : World) : Prop :=
  ∃ (x : Option Addr) (er' : Int), e = .returned (.pointer x) ∧ SR w' b rb og s p M L er' ∧ Mv b rb w w' og og ∧ (∀ (α : Type) (m : Rd α), run er (rWhen (chk l ≠ 0) (chk l) m) s p = run er' m s p) ∧ (er' = 0 → er = 0 ∧ HasRT b rb og w' x l)
theorem SR.table {A : Option Addr} {n c : Nat} {l : List Int} (h : SR w b rb og s p M L er) (hl : er = 0 → Ints w A n l ∧ n * 8 ≤ 140737488351232 ∧ (A = none → c = 0)) :
    Calls Tryd.prog 22 #[.pointer (some ⟨b, 0, none⟩), .slice A n c] w (GotRP w b rb og s p M L er l) := by
  have h0 := h.in0
  have h3 := h.in3
  by_cases her : er = 0
  · subst her
    obtain ⟨hI, h8, hnil⟩ := hl rfl
    have hst := fun (x : Int) w1 (hB : But [] w w1) => h.step (h.rs.but hB (by simp)) hB (by simp) x
    have hfoot := h.foot
    by_cases hc : chk l = 0
    · have hb := rmake_new (cap := c) hI h8 hnil hc
      have HB := Lib.hid hb
      have HST := Lib.hid hst
      have HF := Lib.hid hfoot
      have HC := Lib.hid hc
      clear hb hst h hI hnil hl hc hfoot
      go_enter Tryd.func22, Tryd.ntmps22
      go_wp2_with fail
      refine HB.out.mono ?_
      rintro e w1 ⟨bt, rfl, hN, hB⟩
      obtain ⟨s1, s2, s3, s4⟩ := HST.out 0 w1 hB
      have hK : Keep (Foot b rb og) (w1.setCell ⟨b, 3, none⟩ (.int .i64 0)) fun w' => RT w' bt l := fun w' hw =>
        ((hN.but ((But.refl [b] w1).setCell (.inl (by simp)) _) (fun k hk => HF.out k (by obtain rfl : k = b := by simpa using hk
                                                                                          simp [Foot]))).but hw HF.out).rt
      have S1 := Lib.hid s1
      have S2 := Lib.hid s2
      have HK := Lib.hid hK
      clear hB s1 s2 hN hK
      go_wp2
      go_ret
      exact ⟨_, 0, rfl, S1.out, S2.out, fun α m => by rw [run_on, run_on, when_not (by simpa using HC.out)], fun _ => ⟨rfl, HC.out, bt, rfl, HK.out⟩⟩
    · have hb := rmake_err (cap := c) hI (by unfold maxLen; omega) hc
      have hst := hst (chk l) w (But.refl _ _)
      have HB := Lib.hid hb
      have HST := Lib.hid hst
      have HC := Lib.hid hc
      clear hb hst h hI hnil hl hc hfoot
      generalize hE : chk l = E at *
      have HE := Lib.hid hE
      clear hE
      go_enter Tryd.func22, Tryd.ntmps22
      go_wp2_with fail
      refine HB.out.mono ?_
      rintro e w1 ⟨rfl, rfl⟩
      obtain ⟨s1, s2, s3, s4⟩ := HST.out
      have S1 := Lib.hid s1
      have S2 := Lib.hid s2
      clear s1 s2
      go_wp2
      go_ret
      exact ⟨none, E, rfl, S1.out, S2.out, fun α m => by rw [run_on, HE.out, when_yes HC.out, run_off HC.out], fun e => absurd e HC.out⟩
  · have d : (er != 0) = true := by simpa using her
    have H := Lib.hid h
    have HER := Lib.hid her
    clear h her hl
    go_enter Tryd.func22, Tryd.ntmps22
    go_wp2
    go_ret
    exact ⟨none, er, rfl, H.out, Mv.refl _ _ _ _, fun α m => by rw [run_off HER.out, run_off HER.out], fun e => absurd e HER.out⟩
end
end Go.Proofs.YtobmghjpfkdooaaDoor
