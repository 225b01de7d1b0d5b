/- The contract of the document's Make, and Lay of any symbol. -/
import Derived.Test.YtobmghjpfkdooaaDoorLayW
namespace Go.Proofs.YtobmghjpfkdooaaDoor
set_option maxRecDepth 100000
open Go Go.RowKit

theorem rmake_err {w : World} {A : Option Addr} {len cap : Nat} {l : List Int} (hl : Ints w A len l) (hm : len ≤ maxLen) (hc : chk l ≠ 0) :
    Calls Tryd.prog 35 #[.slice A len cap] w fun e w' => e = .returned (.tuple #[.pointer none, .int .i64 (chk l)]) ∧ w = w' := by
  have hck := ref_codes_err (cap := cap) hl hm hc
  generalize chk l = x at *
  have HC := Lib.hid hck
  have hx : (x != 0) = true := by simpa using hc
  clear hck hm hc
  go_enter Tryd.func35, Tryd.ntmps35
  go_wp2_with fail
  refine HC.out.mono ?_
  rintro e w' ⟨rfl, rfl⟩
  go_wp2_with fail
  go_ret2
  exact ⟨rfl, rfl⟩
def GotRT (w : World) (l : List Int) (e : Ending) (w' : World) : Prop :=
  ∃ b, e = .returned (.tuple #[.pointer (some ⟨b, 0, none⟩), .int .i64 0]) ∧ RT w' b l ∧ But [] w w'

set_option maxRecDepth 100000 in
set_option maxHeartbeats 2000000 in
theorem rmake_any {w : World} {A : Option Addr} {len cap : Nat} {l : List Int} (hl : Ints w A len l) (hb8 : len * 8 ≤ 140737488351232) (hnil : A = none → cap = 0) (hc : chk l = 0) :
    Calls Tryd.prog 35 #[.slice A len cap] w (GotRT w l) := by
  have hm : len ≤ maxLen := by unfold maxLen; omega
  obtain ⟨i0, hi0, hz0, hz1, hz2⟩ := info_parts info_int
  have HC := Lib.hid (ref_codes (cap := cap) hl hm hc)
  have HLEN := Lib.hid hl.1
  have hclen : (codes l).length = l.length := by unfold codes; exact length_cds _ _
  have HCL := Lib.hid hclen
  clear hc hclen
  go_enter Tryd.func35, Tryd.ntmps35
  go_wp2_with fail
  refine HC.out.mono ?_
  rintro e w1 ⟨rfl, hOc, hB1⟩
  have hIc := hOc.ints_of (by rw [HCL.out, HLEN.out])
  have hl1 := hl.but hB1 (by simp)
  have HIC := Lib.hid hIc
  have HB1 := Lib.hid hB1
  clear hOc hIc hB1 HC hl
  rcases A with _ | ad
  · obtain rfl := hnil rfl
    have h0 : len = 0 := by
      apply Classical.byContradiction; intro h
      obtain ⟨g, o, e, _⟩ := hl1.2 (by omega)
      cases e
    subst h0
    have HL1 := Lib.hid hl1
    clear hl1
    go_wp2
    go_ret2
    exact ⟨w1.heap.size, rfl, ⟨none, 0, _, _, by rw [HLEN.out]; exact Is.fresh w1 _ _, by rw [HLEN.out]; exact HL1.out.but ((But.refl [] w1).alloc _) (by simp), by rw [HLEN.out]; exact HIC.out.but ((But.refl [] w1).alloc _) (by simp)⟩, HB1.out.alloc _⟩
  · have hnw : ∀ j u, (l.map (Value.int .i64))[j]? = some u → w1.cell? (ad.add j) = some u := by
      by_cases h0 : 0 < len
      · obtain ⟨g, o, e, _⟩ := hl1.2 h0
        obtain rfl : ad = ⟨g, o, none⟩ := by injection e
        exact hl1.news h0
      · intro j u hu
        have : l = [] := List.eq_nil_of_length_eq_zero (by have := HLEN.out; omega)
        subst this; simp at hu
    have HNW := Lib.hid hnw
    have HNIL := Lib.hid hnil
    clear hnw hnil hl1
    go_wp2_with (at_builtin; refine wpList_append_own _ rfl _ _ 48 rfl w1.heap.size 3 i0 (.int .i64 0) 1 8 Tryd.underlying48 hi0 hz0 hz1 hz2 rfl (by decide) (.slice none 0 0) 0 [] rfl (World.ownsRow_nil _ _ _ _) ad len cap (l.map (.int .i64)) rfl (by simp; exact HLEN.out) HNW.out ?c2 ?c3 ?c4 ?c5 ?_)
    case c2 => intro u hu; obtain ⟨x, _, rfl⟩ := List.mem_map.1 hu; rfl
    case c3 => unfold maxLen at *; omega
    case c4 => omega
    case c5 => simp
    intro v' w2 hown hgrow _
    obtain ⟨Al, cl, rfl⟩ : ∃ Al cl, v' = .slice Al len cl := by
      rcases hown.2 with ⟨e, e2⟩ | ⟨g4, c4, cur, e, _⟩
      · exact ⟨none, 0, by rw [e]; congr 1; omega⟩
      · exact ⟨_, c4, by simpa using e⟩
    have hOw : OwnI w2 w1.heap.size (.slice Al len cl) l := by
      unfold OwnI; rw [HLEN.out]; simpa using hown
    have hI2 := hOw.ints_of HLEN.out.symm
    have hB2 : But [] w1 w2 := (But.refl [] w1).grown hgrow (fun g e => by cases e)
    have HI2 := Lib.hid hI2
    have HB2 := Lib.hid hB2
    clear hown hgrow hOw hI2 hB2
    go_wp2
    go_ret2
    exact ⟨w2.heap.size, rfl, ⟨Al, cl, _, _, by rw [HLEN.out]; exact Is.fresh w2 _ _, by rw [HLEN.out]; exact HI2.out.but ((But.refl [] w2).alloc _) (by simp), by rw [HLEN.out]; exact HIC.out.but (HB2.out.alloc _) (by simp)⟩, (HB1.out.trans HB2.out).alloc _⟩

/-- What Lay answers. -/
def layE (l : List Int) (s : Int) : Int := if has l s then 0 else 1
theorem layS_len {l : List Int} {s : Int} {X N X' N' : Nat} (hok : ∀ x ∈ l, 0 ≤ x ∧ x ≤ 15) (hX : layS l s X N = (X', N')) : N' ≤ N + 15 := by
  by_cases h : has l s
  · have e2 : layS l s X N = _ := if_pos h
    rw [e2] at hX
    have h3 := layG_len ((codes l).getD s.toNat 0) (l.getD s.toNat 0).toNat X N
    rw [hX] at h3
    obtain ⟨h0, h1, h2⟩ : 0 ≤ s ∧ s < l.length ∧ l.getD s.toNat 0 ≠ 0 := h
    have h4 := hok _ (List.getElem_mem (show s.toNat < l.length by omega))
    rw [← getD_get] at h4
    simp only at h3
    omega
  · have e2 : layS l s X N = (X, N) := if_neg h
    rw [e2] at hX
    obtain ⟨rfl, rfl⟩ := Prod.mk.inj hX
    omega
end Go.Proofs.YtobmghjpfkdooaaDoor
