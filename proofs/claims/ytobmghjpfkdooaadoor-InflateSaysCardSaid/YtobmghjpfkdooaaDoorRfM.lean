/- The document's fresh tables. -/
import Derived.Test.YtobmghjpfkdooaaDoorRMake
namespace Go.Proofs.YtobmghjpfkdooaaDoor
set_option maxRecDepth 100000
open Go Go.RowKit

/-- The document's table of lengths lies in block b, and all its memory from block lo on. -/
def NewRT (lo : Nat) (w : World) (b : Nat) (l : List Int) : Prop :=
  ∃ Al cl Ac cc, Is w b 89 #[.slice Al l.length cl, .slice Ac l.length cc] ∧ Ints w Al l.length l ∧ Ints w Ac l.length (codes l) ∧ lo ≤ b ∧ (∀ a, Al = some a → lo ≤ a.block) ∧ (∀ a, Ac = some a → lo ≤ a.block)
theorem NewRT.rt {lo b : Nat} {w : World} {l : List Int} (h : NewRT lo w b l) : RT w b l := by
  obtain ⟨Al, cl, Ac, cc, h1, h2, h3, _⟩ := h
  exact ⟨Al, cl, Ac, cc, h1, h2, h3⟩
theorem NewRT.but {lo b : Nat} {w w' : World} {l : List Int} {S : List Nat} (h : NewRT lo w b l) (hw : But S w w') (hS : ∀ k ∈ S, k < lo) : NewRT lo w' b l := by
  obtain ⟨Al, cl, Ac, cc, h1, h3, h4, h5, h7, h8⟩ := h
  have off : ∀ A : Option Addr, (∀ a, A = some a → lo ≤ a.block) → ∀ k ∈ S, Off A k := fun A hA k hk a e => by
    have := hA a e; have := hS k hk; omega
  exact ⟨Al, cl, Ac, cc, h1.but hw (fun hb => by have := hS b hb; omega), h3.but hw (off _ h7), h4.but hw (off _ h8), h5, h7, h8⟩
def GotNewR (w : World) (l : List Int) (e : Ending) (w' : World) : Prop :=
  ∃ b, e = .returned (.tuple #[.pointer (some ⟨b, 0, none⟩), .int .i64 0]) ∧ NewRT w.heap.size w' b l ∧ But [] w w'

set_option maxRecDepth 100000 in
set_option maxHeartbeats 2000000 in
theorem rmake_new {w : World} {A : Option Addr} {len cap : Nat} {l : List Int} (hl : Ints w A len l) (hb8 : len * 8 ≤ 140737488351232) (hnil : A = none → cap = 0) (hc : chk l = 0) :
    Calls Tryd.prog 35 #[.slice A len cap] w (GotNewR w l) := by
  have hm : len ≤ maxLen := by unfold maxLen; omega
  obtain ⟨i0, hi0, hz0, hz1, hz2⟩ := info_parts info_int
  have HC := Lib.hid (ref_codes (cap := cap) hl hm hc)
  have HLEN := Lib.hid hl.1
  have hclen : (codes l).length = l.length := by unfold codes; exact length_cds _ _
  have HCL := Lib.hid hclen
  clear hc hclen
  go_enter Tryd.func35, Tryd.ntmps35
  go_wp2_with fail
  refine HC.out.mono ?_
  rintro e w1 ⟨rfl, hOc, hB1⟩
  have hIc := hOc.ints_of (by rw [HCL.out, HLEN.out])
  have hl1 := hl.but hB1 (by simp)
  have HIC := Lib.hid hIc
  have HB1 := Lib.hid hB1
  have hsz1 := hB1.size
  clear hOc hIc hB1 HC hl
  rcases A with _ | ad
  · obtain rfl := hnil rfl
    have h0 : len = 0 := by
      apply Classical.byContradiction; intro h
      obtain ⟨g, o, e, _⟩ := hl1.2 (by omega)
      cases e
    subst h0
    have HL1 := Lib.hid hl1
    clear hl1
    go_wp2
    go_ret2
    refine ⟨w1.heap.size, rfl, ⟨none, 0, some ⟨w.heap.size, 0, none⟩, _, by rw [HLEN.out]; exact Is.fresh w1 _ _, by rw [HLEN.out]; exact HL1.out.but ((But.refl [] w1).alloc _) (by simp), by rw [HLEN.out]; exact HIC.out.but ((But.refl [] w1).alloc _) (by simp), hsz1, ?_, ?_⟩, HB1.out.alloc _⟩
    · intro a e; cases e
    · intro a e; cases e; exact Nat.le_refl _
  · have hnw : ∀ j u, (l.map (Value.int .i64))[j]? = some u → w1.cell? (ad.add j) = some u := by
      by_cases h0 : 0 < len
      · obtain ⟨g, o, e, _⟩ := hl1.2 h0
        obtain rfl : ad = ⟨g, o, none⟩ := by injection e
        exact hl1.news h0
      · intro j u hu
        have : l = [] := List.eq_nil_of_length_eq_zero (by have := HLEN.out; omega)
        subst this; simp at hu
    have HNW := Lib.hid hnw
    have HNIL := Lib.hid hnil
    clear hnw hnil hl1
    go_wp2_with (at_builtin; refine wpList_append_own _ rfl _ _ 48 rfl w1.heap.size 3 i0 (.int .i64 0) 1 8 Tryd.underlying48 hi0 hz0 hz1 hz2 rfl (by decide) (.slice none 0 0) 0 [] rfl (World.ownsRow_nil _ _ _ _) ad len cap (l.map (.int .i64)) rfl (by simp; exact HLEN.out) HNW.out ?c2 ?c3 ?c4 ?c5 ?_)
    case c2 => intro u hu; obtain ⟨x, _, rfl⟩ := List.mem_map.1 hu; rfl
    case c3 => unfold maxLen at *; omega
    case c4 => omega
    case c5 => simp
    intro v' w2 hown hgrow _
    obtain ⟨Al, cl, rfl⟩ : ∃ Al cl, v' = .slice Al len cl := by
      rcases hown.2 with ⟨e, e2⟩ | ⟨g4, c4, cur, e, _⟩
      · exact ⟨none, 0, by rw [e]; congr 1; omega⟩
      · exact ⟨_, c4, by simpa using e⟩
    have hOw : OwnI w2 w1.heap.size (.slice Al len cl) l := by
      unfold OwnI; rw [HLEN.out]; simpa using hown
    have hI2 := hOw.ints_of HLEN.out.symm
    have hB2 : But [] w1 w2 := (But.refl [] w1).grown hgrow (fun g e => by cases e)
    have hlow2 : ∀ a, Al = some a → w.heap.size ≤ a.block := fun a e => by
      subst e
      have hb := (World.ownsRow.lt hOw a.block rfl).1
      omega
    have HLOW2 := Lib.hid hlow2
    have hsz2 := hB2.size
    have HI2 := Lib.hid hI2
    have HB2 := Lib.hid hB2
    clear hown hgrow hOw hI2 hB2 hlow2
    go_wp2
    go_ret2
    refine ⟨w2.heap.size, rfl, ⟨Al, cl, some ⟨w.heap.size, 0, none⟩, _, by rw [HLEN.out]; exact Is.fresh w2 _ _, by rw [HLEN.out]; exact HI2.out.but ((But.refl [] w2).alloc _) (by simp), by rw [HLEN.out]; exact HIC.out.but (HB2.out.alloc _) (by simp), by omega, HLOW2.out, ?_⟩, (HB1.out.trans HB2.out).alloc _⟩
    intro a e; cases e; exact Nat.le_refl _

end Go.Proofs.YtobmghjpfkdooaaDoor
