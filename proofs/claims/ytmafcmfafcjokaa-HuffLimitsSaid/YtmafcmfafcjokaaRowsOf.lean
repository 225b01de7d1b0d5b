/- The contract of the rows of items. -/
import Derived.Test.YtmafcmfafcjokaaPairs
namespace Go.Proofs.Ytmafcmfafcjokaa
open Go Go.RowKit

theorem row_bound (ws : List Nat) (M : Nat) (h : ∀ x ∈ ws, x ≤ M) : ∀ k, ∀ x ∈ rowN ws k, x.1 ≤ M * 2 ^ k
  | 0, x, hx => by
    rcases mrg_mem hx with ⟨h1, _⟩ | ⟨h1, _⟩
    · simpa using h _ h1
    · cases h1
  | k + 1, x, hx => by
    have hp := Nat.two_pow_pos k
    have hM : M ≤ M * 2 ^ k := Nat.le_mul_of_pos_right _ hp
    rw [Nat.pow_succ]
    rcases mrg_mem hx with ⟨h1, _⟩ | ⟨h1, _⟩
    · have := h _ h1
      have e2 : M * (2 ^ k * 2) = M * 2 ^ k + M * 2 ^ k := by rw [← Nat.mul_assoc]; omega
      rw [e2]; omega
    · obtain ⟨a, ha, b, hb, e⟩ := prs_mem h1
      have h2 := row_bound ws M h k a ha
      have h3 := row_bound ws M h k b hb
      have e2 : M * (2 ^ k * 2) = M * 2 ^ k + M * 2 ^ k := by rw [← Nat.mul_assoc]; omega
      rw [e, e2]; omega
theorem OwnI.ints {w : World} {base g c n : Nat} {l : List Int} (h : OwnI w base (.slice (some ⟨g, 0, none⟩) n c) l) : Ints w (some ⟨g, 0, none⟩) n l := by
  obtain rfl := h.len
  exact ⟨rfl, fun _ => ⟨g, 0, rfl, (World.ownsRow.lt h g rfl).2, fun i hi => by rw [Nat.zero_add]; exact h.cell hi⟩⟩
/-- A slice of rows of the call's own: their heads. -/
def OwnS (w : World) (base : Nat) (v : Value) (L : List Value) : Prop := w.ownsRow base 94 1 v L.length L
theorem info_row : (Try.prog.info? 94).map (fun i => (i.zero, i.size, i.bytes)) = some (some (.slice none 0 0), 1, 24) := by kernel_rfl
/-- The heads are those of the rows. -/
def RowsAre (w : World) (base : Nat) (ws : List Nat) (L : List Value) : Prop :=
  ∀ k (h : k < L.length), ∃ g, L[k] = .slice (some ⟨g, 0, none⟩) (rowN ws k).length (rowN ws k).length ∧ OwnR w base L[k] (rowN ws k)
theorem own_apart {w : World} {b1 b2 n1 n2 s1 s2 : Nat} {e1 e2 : TypeId} {v1 v2 : Value} {x1 x2 : List Value} (h1 : w.ownsRow b1 e1 s1 v1 n1 x1) (h2 : w.ownsRow b2 e2 s2 v2 n2 x2) (hne : e1 ≠ e2) {g : Nat} (hg : v1.ownBlock = some g) : v2.ownBlock ≠ some g := by
  intro hg2
  rcases h1.2 with ⟨rfl, _⟩ | ⟨g1, c1, cur1, rfl, _, hh1, _⟩
  · cases hg
  rcases h2.2 with ⟨rfl, _⟩ | ⟨g2, c2, cur2, rfl, _, hh2, _⟩
  · cases hg2
  have e1' : g1 = g := by simpa [Value.ownBlock] using hg
  have e2' : g2 = g := by simpa [Value.ownBlock] using hg2
  rw [e1'] at hh1
  rw [e2', hh1] at hh2
  exact hne (Obj.cells.inj (Option.some.inj hh2)).2.1
theorem RowsAre.but {w w' : World} {base : Nat} {ws : List Nat} {L : List Value} (h : RowsAre w base ws L) {S : List Nat} (hw : But S w w') (hS : ∀ v r, OwnR w base v r → ∀ k ∈ S, v.ownBlock ≠ some k) : RowsAre w' base ws L := by
  intro k hk
  obtain ⟨g, e, ho⟩ := h k hk
  exact ⟨g, e, ho.but hw (hS _ _ ho)⟩
theorem OwnS.made (w : World) (v : Value) (base : Nat) (hb : base ≤ w.heap.size) : OwnS (w.alloc (.cells #[v] 94)) base (.slice (some ⟨w.heap.size, 0, none⟩) 1 1) [v] :=
  ⟨rfl, .inr ⟨w.heap.size, 1, #[v], rfl, hb, (Is.fresh w 94 #[v]), Nat.le_refl _, by unfold maxLen; decide, rfl, rfl⟩⟩
theorem OwnS.but {w w' : World} {base : Nat} {v : Value} {l : List Value} (h : OwnS w base v l) {S : List Nat} (hw : But S w w') (hS : ∀ k ∈ S, v.ownBlock ≠ some k) : OwnS w' base v l := by
  unfold OwnS at h ⊢
  refine ⟨h.1, ?_⟩
  rcases h.2 with h2 | ⟨g, cap, cur, hv, hg, hh, r⟩
  · exact .inl h2
  · refine .inr ⟨g, cap, cur, hv, hg, ?_, r⟩
    have hlt : g < w.heap.size := (h.lt g (by rw [hv]; rfl)).2
    rw [hw.block g hlt (fun hk => hS g hk (by rw [hv]; rfl))]
    exact hh
theorem OwnS.open {w : World} {base : Nat} {v : Value} {L : List Value} (h : OwnS w base v L) (h0 : 0 < L.length) : ∃ g c, v = .slice (some ⟨g, 0, none⟩) L.length c ∧ g < w.heap.size ∧ ∀ i (hi : i < L.length), w.cell? ⟨g, i, none⟩ = some L[i] := by
  unfold OwnS at h
  rcases h.2 with ⟨_, e⟩ | ⟨g, cap, cur, rfl, hg, hh, r⟩
  · omega
  · refine ⟨g, cap, rfl, (h.lt g rfl).2, fun i hi => ?_⟩
    have hc := h.cells (g := g) rfl i L[i] (by simp [hi])
    rw [Go.WideShapes.add_plain, Nat.zero_add] at hc
    exact hc
/-- The rows, one behind the other. -/
def GotRows (w : World) (most : Nat) (ws : List Nat) (e : Ending) (w' : World) : Prop :=
  ∃ g c L, e = .returned (.slice (some ⟨g, 0, none⟩) most c) ∧ L.length = most ∧ OwnS w' w.heap.size (.slice (some ⟨g, 0, none⟩) most c) L ∧ RowsAre w' w.heap.size ws L ∧ But [] w w'
theorem RowsAre.snoc {w : World} {base k g : Nat} {ws : List Nat} {L : List Value} (h : RowsAre w base ws L) (hk : L.length = k) {n : Nat} (hn : n = (rowN ws k).length) (ho : OwnR w base (.slice (some ⟨g, 0, none⟩) n n) (rowN ws k)) :
    RowsAre w base ws (L ++ [.slice (some ⟨g, 0, none⟩) n n]) := by
  intro i hi
  subst hk hn
  rcases Nat.lt_or_ge i L.length with h1 | h1
  · rw [List.getElem_append_left h1]; exact h i h1
  · have : i = L.length := by simp at hi; omega
    subst this
    rw [List.getElem_append_right (Nat.le_refl _)]
    simp only [Nat.sub_self, List.getElem_cons_zero]
    exact ⟨g, rfl, ho⟩
theorem OwnR.base {w : World} {b1 b2 : Nat} {v : Value} {r : List (Nat × Bool)} (h : OwnR w b1 v r) (hb : b2 ≤ b1) : OwnR w b2 v r := by
  refine ⟨h.1, ?_⟩
  rcases h.2 with h2 | ⟨g, cap, cur, hv, hg, r⟩
  · exact .inl h2
  · exact .inr ⟨g, cap, cur, hv, by omega, r⟩

set_option maxRecDepth 100000 in
set_option maxHeartbeats 1000000 in
theorem rowsOf_any {w : World} {A : Option Addr} {n cap most : Nat} {cs : List (Nat × Nat)} {ws : List Nat} (hws : ws = cs.map (·.2)) (hc : Coins w A n cs) (hn : n ≤ 288) (hmo : 1 ≤ most) (hmo2 : most ≤ 15) (hM : ∀ x ∈ ws, x ≤ 1000000000) :
    Calls Try.prog 41 #[.int .i64 most, .slice A n cap] w (GotRows w most ws) := by
  obtain ⟨i0, hi0, hz0, hz1, hz2⟩ := info_parts info_row
  have hwl : ws.length = n := by rw [hws, List.length_map, hc.1]
  have hmerge := merge_any (cap := cap) (ps := []) hws hc (Ints.empty w none) (by omega) (by omega) (Nat.le_refl _)
  have HM := Lib.hid hmerge
  clear hmerge
  go_enter Try.func41, Try.ntmps41
  go_wp2_with fail
  refine HM.out.mono ?_
  rintro e w1 ⟨rfl, hO, hB⟩
  have hB1 := hB.alloc (.cells #[.slice (some ⟨w.heap.size, 0, none⟩) n n] 94)
  have hS1 := OwnS.made w1 (.slice (some ⟨w.heap.size, 0, none⟩) n n) w.heap.size hB.size
  have hr0 : (rowN ws 0).length = n := by show (mrg ws []).length = n; rw [length_mrg, hwl]; rfl
  have hO1 : OwnR (w1.alloc (.cells #[.slice (some ⟨w.heap.size, 0, none⟩) n n] 94)) w.heap.size (.slice (some ⟨w.heap.size, 0, none⟩) n n) (rowN ws 0) := hO.but ((But.refl [] w1).alloc _) (by simp)
  have hR1 : RowsAre (w1.alloc (.cells #[.slice (some ⟨w.heap.size, 0, none⟩) n n] 94)) w.heap.size ws [.slice (some ⟨w.heap.size, 0, none⟩) n n] := by
    have : RowsAre (w1.alloc (.cells #[.slice (some ⟨w.heap.size, 0, none⟩) n n] 94)) w.heap.size ws [] := fun k hk => absurd hk (by simp)
    simpa using this.snoc (k := 0) rfl hr0.symm hO1
  have HC := Lib.hid hc
  have HWS := Lib.hid hws
  have HWL := Lib.hid hwl
  clear hr0 hO1 hO hB hc hws hwl HM
  go_wp2
  go_loopw [5] (fun v wr => ∃ (k g c : Nat) (L : List Value), 1 ≤ k ∧ k ≤ most ∧ v = .slice (some ⟨g, 0, none⟩) k c ∧ L.length = k ∧ OwnS wr w.heap.size (.slice (some ⟨g, 0, none⟩) k c) L ∧ RowsAre wr w.heap.size ws L ∧ But [] w wr)
    (fun v _ => match v with | .slice _ n _ => most - n | _ => 0)
  case atStart => exact ⟨1, _, 1, _, Nat.le_refl _, hmo, rfl, rfl, hS1, hR1, hB1⟩
  case round =>
    obtain ⟨k, g, c, L, hk1, hk2, rfl, hL, hS, hR, hB⟩ := hrel
    clear hS1 hR1 hB1
    by_cases hlt : k < most
    · obtain ⟨k0, rfl⟩ : ∃ k0, k = k0 + 1 := ⟨k - 1, by omega⟩
      obtain ⟨g2, c2, e, hg2, hcell⟩ := hS.open (by omega)
      rw [hL] at e
      injection e with e1 e2 e3
      injection e1 with e1
      injection e1 with e1
      subst e1 e3
      have hck := hcell k0 (by omega)
      obtain ⟨g3, e4, hO3⟩ := hR k0 (by omega)
      rw [e4] at hck hO3
      obtain ⟨_, hI3⟩ := hO3.items
      have hlr := length_row ws k0
      have hlen3 : (rowN ws k0).length ≤ 1000 := by have := hlr.2.1; have := HWL.out; omega
      have hMk : ∀ x ∈ rowN ws k0, x.1 ≤ 1152921504606846976 := fun x hx => by
        have := row_bound ws _ hM k0 x hx
        have h2 : 2 ^ k0 ≤ 2 ^ 15 := Nat.pow_le_pow_right (by decide) (by omega)
        have h3 := Nat.mul_le_mul_left 1000000000 h2
        omega
      have hpr := pairs_any (cap := (rowN ws k0).length) hI3 hlen3 hMk
      have hq := length_prs (rowN ws k0)
      have hrow : rowN ws (k0 + 1) = mrg ws (prs (rowN ws k0)) := rfl
      have hrl : (rowN ws (k0 + 1)).length = n + (rowN ws k0).length / 2 := by rw [hrow, length_mrg, hq, HWL.out]
      have HROW := Lib.hid hrow
      have HRL := Lib.hid hrl
      have HPR := Lib.hid hpr
      have HS := Lib.hid hS
      have HR := Lib.hid hR
      have HB := Lib.hid hB
      have HL := Lib.hid hL
      generalize hn3 : (rowN ws k0).length = n3 at *
      clear hn3 hcell e4 hO3 hI3 hlr hMk hpr hq hrow hrl hS hR hB hL e2
      have k00 : 0 ≤ (k0 : Int) := by omega
      have kk : (k0 : Int) < ((k0 + 1 : Nat) : Int) := by omega
      go_wp2_with fail
      refine HPR.out.mono ?_
      rintro e w2 ⟨rfl, hO2, hB2⟩
      have hB2' := HB.out.trans hB2
      have hm := merge_any (cap := cap) (cap2 := n3 / 2) HWS.out (HC.out.but hB2' (by simp)) hO2.ints (by omega) (by omega) (Nat.le_refl _)
      have HM := Lib.hid hm
      have HB2 := Lib.hid hB2
      have HB2' := Lib.hid hB2'
      have hbs := HB.out.size
      have hbs2 := hB2.size
      clear hm hO2 hB2 hB2'
      go_wp2_with fail
      refine HM.out.mono ?_
      rintro e w3 ⟨rfl, hO3, hB3⟩
      have hBr := HB2.out.trans hB3
      have hBw := HB.out.trans hBr
      have hbs3 := hB3.size
      have hS3 := HS.out.but hBr (by simp)
      have hR3 := HR.out.but hBr (by simp)
      rw [← HROW.out] at hO3
      have hO4 : OwnR w3 w.heap.size (.slice (some ⟨w2.heap.size, 0, none⟩) (n + n3 / 2) (n + n3 / 2)) (rowN ws (k0 + 1)) := hO3.base (by omega)
      have hlt3 := (World.ownsRow.lt hO3 _ rfl).2
      clear hO3 hB3 hBr HM
      have HS3 := Lib.hid hS3
      have HR3 := Lib.hid hR3
      have HO4 := Lib.hid hO4
      have HBW := Lib.hid hBw
      clear hS3 hR3 hO4 hBw HS HR HB HB2 HB2' HPR
      have hL15 : L.length = k0 + 1 := HL.out
      have HL15 := Lib.hid hL15
      clear hL15
      have hown : w3.ownsRow w.heap.size 94 1 (.slice (some ⟨g, 0, none⟩) (k0 + 1) c) (k0 + 1) L := by have := HS3.out; unfold OwnS at this; rw [HL15.out] at this; exact this
      have HOWN := Lib.hid hown
      clear hown
      go_wp2_with (at_builtin; refine wpList_append_own _ rfl _ _ 82 rfl w.heap.size 94 i0 (.slice none 0 0) 1 24 Try.underlying82 hi0 hz0 hz1 hz2 rfl (by decide) _ (k0 + 1) L rfl (HOWN.out.alloc _) ⟨w3.heap.size, 0, none⟩ 1 1 [.slice (some ⟨w2.heap.size, 0, none⟩) (n + n3 / 2) (n + n3 / 2)] rfl rfl ?c1 ?c2 ?c3 ?c4 ?c5 ?_)
      case c1 => exact World.news_of_block (cs := #[.slice (some ⟨w2.heap.size, 0, none⟩) (n + n3 / 2) (n + n3 / 2)]) (t := 94) (fr := (0, 0)) (heap_alloc_new w3 _)
      case c2 => simp [Value.oneCell']
      case c3 => unfold maxLen; omega
      case c4 => omega
      case c5 => simp; omega
      intro v' w4 hown4 hgrow4 hnn
      obtain ⟨g4, c4, rfl⟩ : ∃ g4 c4, v' = .slice (some ⟨g4, 0, none⟩) (k0 + 1 + 1) c4 := by
        rcases hown4.2 with ⟨_, e⟩ | ⟨g4, c4, cur, e, _⟩
        · omega
        · exact ⟨g4, c4, e⟩
      have hBa : But [] w3 (w3.alloc (.cells #[.slice (some ⟨w2.heap.size, 0, none⟩) (n + n3 / 2) (n + n3 / 2)] 94)) := (But.refl [] w3).alloc _
      have hBg : But [g] (w3.alloc (.cells #[.slice (some ⟨w2.heap.size, 0, none⟩) (n + n3 / 2) (n + n3 / 2)] 94)) w4 := (But.refl [g] _).grown hgrow4 (fun g' e => by
        have : g = g' := by simpa [Value.ownBlock] using e
        subst this; exact .inl (by simp))
      have hap : ∀ v r, OwnR (w3.alloc (.cells #[.slice (some ⟨w2.heap.size, 0, none⟩) (n + n3 / 2) (n + n3 / 2)] 94)) w.heap.size v r → ∀ k ∈ [g], v.ownBlock ≠ some k := fun v r ho k hk => by
        obtain rfl : k = g := by simpa using hk
        exact own_apart (HOWN.out.alloc _) ho (by decide) rfl
      have hO5 := (HO4.out.but hBa (by simp))
      have hO6 := hO5.but hBg (hap _ _ hO5)
      have hR6 := (HR3.out.but hBa (by simp)).but hBg (hap)
      have hg0 : w.heap.size ≤ g := (World.ownsRow.lt HOWN.out g rfl).1
      have HNEW := Lib.hid (show OwnS w4 w.heap.size (.slice (some ⟨g4, 0, none⟩) (k0 + 1 + 1) c4) (L ++ [.slice (some ⟨w2.heap.size, 0, none⟩) (n + n3 / 2) (n + n3 / 2)]) by
        unfold OwnS; rw [List.length_append, HL15.out]; exact hown4)
      have HR7 := Lib.hid (hR6.snoc HL15.out HRL.out.symm hO6)
      have HB7 := Lib.hid ((HBW.out.trans hBa).fresh hBg (fun i hi => by
        obtain rfl : i = g := by simpa using hi
        exact hg0))
      clear hown4 hgrow4 hBa hBg hap hO5 hO6 hR6 hnn
      go_wp2
      go_roundw
      case rel => exact ⟨k0 + 1 + 1, g4, c4, _, by omega, by omega, rfl, by rw [List.length_append, HL15.out]; rfl, HNEW.out, HR7.out, HB7.out⟩
      case measure => simp; try omega
    · obtain rfl : k = most := by omega
      go_wp2
      go_ret
      exact ⟨g, c, L, rfl, hL, hS, hR, hB⟩
end Go.Proofs.Ytmafcmfafcjokaa
