/- The contract of the pairs of a row. -/
import Derived.Test.YtmafcmfafcjokaaMerge
import Derived.StillTailTactics
namespace Go.Proofs.Ytmafcmfafcjokaa
open Go Go.RowKit

/-- A slice reads as these items. -/
def Items (w : World) (A : Option Addr) (n : Nat) (r : List (Nat × Bool)) : Prop :=
  r.length = n ∧ (0 < n → ∃ g o, A = some ⟨g, o, none⟩ ∧ g < w.heap.size ∧ ∀ (i : Nat) (h : i < r.length), w.cell? ⟨g, o + i * 2, none⟩ = some (.int .i64 r[i].1) ∧ w.cell? ⟨g, o + i * 2 + 1, none⟩ = some (.bool r[i].2))
theorem Items.but {w w' : World} {A : Option Addr} {n : Nat} {l : List (Nat × Bool)} {S : List Nat} (h : Items w A n l) (hw : But S w w') (hA : ∀ k ∈ S, Off A k) : Items w' A n l :=
  ⟨h.1, fun hn => by
    obtain ⟨g, o, e, hg, hc⟩ := h.2 hn
    exact ⟨g, o, e, Nat.lt_of_lt_of_le hg hw.size, fun i hi => ⟨hw.cell (hc i hi).1 (fun hS => hA g hS _ e rfl), hw.cell (hc i hi).2 (fun hS => hA g hS _ e rfl)⟩⟩⟩
theorem Items.at {w : World} {A : Option Addr} {n : Nat} {l : List (Nat × Bool)} (h : Items w A n l) {i : Nat} (hi : i < n) :
    ∃ g o, A = some ⟨g, o, none⟩ ∧ g < w.heap.size ∧ w.cell? ⟨g, o + i * 2, none⟩ = some (.int .i64 (l[i]'(by have := h.1; omega)).1) ∧ w.cell? ⟨g, o + i * 2 + 1, none⟩ = some (.bool (l[i]'(by have := h.1; omega)).2) := by
  obtain ⟨g, o, e, hg, hc⟩ := h.2 (by omega)
  exact ⟨g, o, e, hg, hc i (by have := h.1; omega)⟩
theorem itemCells_at : ∀ (r : List (Nat × Bool)) (i : Nat) (h : i < r.length), (itemCells r)[i * 2]? = some (.int .i64 r[i].1) ∧ (itemCells r)[i * 2 + 1]? = some (.bool r[i].2)
  | x :: r, 0, _ => by simp [itemCells]
  | x :: r, i + 1, h => by
    have := itemCells_at r i (by simpa using h)
    have e : itemCells (x :: r) = .int .i64 x.1 :: .bool x.2 :: itemCells r := by simp [itemCells]
    rw [e, show (i + 1) * 2 = i * 2 + 1 + 1 from by omega]
    simpa using this
theorem OwnR.items {w : World} {base g c n : Nat} {r : List (Nat × Bool)} (h : OwnR w base (.slice (some ⟨g, 0, none⟩) n c) r) : n = r.length ∧ Items w (some ⟨g, 0, none⟩) n r := by
  have hn : n = r.length := by
    unfold OwnR at h
    rcases h.2 with ⟨e, _⟩ | ⟨g, cap, cur, e, _⟩
    · cases e
    · injection e
  subst hn
  refine ⟨rfl, rfl, fun _ => ⟨g, 0, rfl, (World.ownsRow.lt h g rfl).2, fun i hi => ?_⟩⟩
  obtain ⟨e1, e2⟩ := itemCells_at r i hi
  have h1 := World.ownsRow.cells h (g := g) rfl _ _ e1
  have h2 := World.ownsRow.cells h (g := g) rfl _ _ e2
  rw [Go.WideShapes.add_plain] at h1 h2
  exact ⟨h1, by rw [Nat.add_assoc]; exact h2⟩

/-- The pairs when j of them are laid. -/
def midPrs (r : List (Nat × Bool)) (q j : Nat) : List Int := nats ((prs r).take j) ++ List.replicate (q - j) 0
theorem midPrs_succ {r : List (Nat × Bool)} {q j : Nat} (hj : j < q) (hq : (prs r).length = q) : midPrs r q (j + 1) = (midPrs r q j).set j (((prs r)[j]'(by omega) : Nat) : Int) := by
  unfold midPrs
  have e : q - j = (q - (j + 1)) + 1 := by omega
  rw [e, List.replicate_succ, List.set_append_right _ _ (by simp [nats]; omega), List.take_succ_eq_append_getElem (by omega)]
  have e2 : j - (nats ((prs r).take j)).length = 0 := by simp [nats]; omega
  rw [e2, List.set_cons_zero]
  simp only [nats, List.map_append, List.map_cons, List.map_nil, List.append_assoc, List.singleton_append]

set_option maxRecDepth 100000 in
set_option maxHeartbeats 1000000 in
theorem pairs_any {w : World} {A : Option Addr} {n cap : Nat} {r : List (Nat × Bool)} (hr : Items w A n r) (hn : n ≤ 1000) (hM : ∀ x ∈ r, x.1 ≤ 1152921504606846976) :
    Calls Try.prog 48 #[.slice A n cap] w fun e w' => e = .returned (.slice (some ⟨w.heap.size, 0, none⟩) (n / 2) (n / 2)) ∧ OwnI w' w.heap.size (.slice (some ⟨w.heap.size, 0, none⟩) (n / 2) (n / 2)) (nats (prs r)) ∧ But [] w w' := by
  obtain ⟨i0, hi0, hz0, hz1, hz2⟩ := info_parts info_int
  have hrl := hr.1
  have hpl : (prs r).length = n / 2 := by rw [length_prs, hrl]
  obtain ⟨q, hq⟩ : ∃ q, q = n / 2 := ⟨_, rfl⟩
  have hqd : (n : Int) / 2 = (q : Int) := by omega
  rw [← hq] at hpl ⊢
  have HQ := Lib.hid hqd
  have hq2 : 2 * q ≤ n := by omega
  have hq3 : q ≤ 500 := by omega
  clear hqd hq
  go_enter Try.func48, Try.ntmps48
  go_wp2_with (at_make; refine wpList_make_full _ rfl _ _ 22 rfl w.heap.size 3 i0 _ 1 Try.underlying22 hi0 hz0 hz1 _ _ _ _ q rfl rfl (by have := HQ.out; omega) (by have := HQ.out; omega) (by rw [hz2]; omega) (by unfold maxLen; omega) (by simp) ?_; intro w1 hown hgrow)
  have hO1 := OwnI.made hown
  have hB1 : But [] w w1 := (But.refl [] w).grown hgrow (by simp)
  clear hown hgrow
  go_loopw [11] (fun i wr => ∃ j : Nat, j ≤ q ∧ i = .int .i64 j ∧ OwnI wr w.heap.size (.slice (some ⟨w.heap.size, 0, none⟩) q q) (midPrs r q j) ∧ But [] w wr) (fun i _ => q - (intOf i).toNat)
  case atStart => exact ⟨0, Nat.zero_le _, rfl, by unfold midPrs; simpa [nats] using hO1, hB1⟩
  case round =>
    obtain ⟨j, hj, rfl, hO, hB⟩ := hrel
    clear hO1 hB1
    by_cases hlt : j < q
    · obtain ⟨g, o, rfl, hg, hc0, hd0⟩ := hr.at (show 2 * j < n by omega)
      obtain ⟨g', o', e, hg', hc1, hd1⟩ := hr.at (show 2 * j + 1 < n by omega)
      injection e with e
      injection e with e1 e2
      subst e1 e2
      clear hd0 hd1 hg'
      have hx := hM _ (List.getElem_mem (show 2 * j < r.length by omega))
      have hy := hM _ (List.getElem_mem (show 2 * j + 1 < r.length by omega))
      have hpe : (prs r)[j]'(by omega) = (r[2 * j]'(by omega)).1 + (r[2 * j + 1]'(by omega)).1 := by
        have h := prs_getD r j (by have := length_prs r; omega)
        simp only [List.getD_eq_getElem?_getD, List.getElem?_map] at h
        rw [List.getElem?_eq_getElem (by omega), List.getElem?_eq_getElem (by omega), List.getElem?_eq_getElem (by omega)] at h
        simpa using h
      have hms := midPrs_succ hlt hpl
      rw [hpe] at hms
      generalize (r[2 * j]'(by omega)).1 = x at *
      generalize (r[2 * j + 1]'(by omega)).1 = y at *
      have hml : (midPrs r q j).length = q := by unfold midPrs nats; simp; omega
      have hce := hO.cell (show j < (midPrs r q j).length by omega)
      have hcf := hO.free j
      generalize (midPrs r q j)[j]'_ = cv at hce
      replace hc0 := hB.cell hc0 (by simp)
      replace hc1 := hB.cell hc1 (by simp)
      have HMS := Lib.hid hms
      have HO := Lib.hid hO
      have HB := Lib.hid hB
      clear hms hO hB hpe hml hpl hrl hr hM
      have j0 : 0 ≤ (j : Int) := by omega
      have j1 : (j : Int) < (q : Int) := by omega
      have j2 : 2 * (j : Int) < (n : Int) := by omega
      have j3 : 2 * (j : Int) + 1 < (n : Int) := by omega
      have j4 : 0 ≤ 2 * (j : Int) := by omega
      have j5 : 0 ≤ 2 * (j : Int) + 1 := by omega
      have t2 : (2 * (j : Int)).toNat = 2 * j := by omega
      have t3 : (2 * (j : Int) + 1).toNat = 2 * j + 1 := by omega
      go_upto_region 5 with (fail)
      have d0 : wr.drew.cell? ⟨g, o + 2 * j * 2, none⟩ = some (.int .i64 x) := hc0
      have d1 : wr.drew.cell? ⟨g, o + (2 * j + 1) * 2, none⟩ = some (.int .i64 y) := hc1
      have de : wr.drew.cell? ⟨w.heap.size, j, none⟩ = some (.int .i64 cv) := hce
      have df : wr.drew.frozen? ⟨w.heap.size, j, none⟩ = false := hcf
      have hsz : wr.heap.size = wr.drew.heap.size := rfl
      have HO2 : Hid (OwnI wr.drew w.heap.size (.slice (some ⟨w.heap.size, 0, none⟩) q q) (midPrs r q j)) := HO
      have HB2 := Lib.hid (HB.out.drew)
      have ew2 : IntKind.i64.wrap (2 * (j : Int)) = 2 * (j : Int) := IntWalk.i64_in _ (by omega)
      have ew3 : IntKind.i64.wrap (2 * (j : Int) + 1) = 2 * (j : Int) + 1 := IntWalk.i64_in _ (by omega)
      have ew4 : IntKind.i64.wrap ((x : Int) + (y : Int)) = (x : Int) + (y : Int) := IntWalk.i64_in _ (by omega)
      refine wp_region_still_tail 17 (by kernel_rfl) (by kernel_rfl) ?_
      simp only [List.take_succ_cons, List.take_zero, List.drop_succ_cons, List.drop_zero]
      change wpStill _ _ wr.drew (fun a' => wpList _ _ _ _ a' wr.drew) _ _
      clear hc0 hc1 hce hcf HO HB hsz
      generalize wr.drew = W1 at *
      repeat still_step
      refine wpStill_nil ?_
      clear ew2 ew3 ew4
      go_wp2
      go_roundw
      case rel =>
        refine ⟨j + 1, by omega, by go_num, ?_, HB2.out.setCell (.inr (Nat.le_refl _)) _⟩
        rw [HMS.out]
        exact HO2.out.set j _
      case measure => simp [intOf]; omega
    · obtain rfl : j = q := by omega
      have he : midPrs r j j = nats (prs r) := by unfold midPrs; rw [List.take_of_length_le (by omega)]; simp
      rw [he] at hO
      go_wp2
      go_ret
      exact ⟨rfl, hO, hB⟩
end Go.Proofs.Ytmafcmfafcjokaa
