/- The contract of the library's range from behind over a slice of rows. -/
import Derived.Test.YtmafcmfafcjokaaRowsOf
import Derived.Test.YtmafcmfafcjokaaRange
namespace Go.Proofs.Ytmafcmfafcjokaa
open Go Go.RowKit Go.Shelf

attribute [local go_sem] Oper.semAt_some

/-- The blocks of R are as they were. -/
def Kept (R : Nat → Prop) (W W' : World) : Prop := ∀ b, R b → W'.heap[b]? = W.heap[b]?
theorem Kept.trans {R : Nat → Prop} {A B C : World} (h : Kept R A B) (k : Kept R B C) : Kept R A C := fun b hb => (k b hb).trans (h b hb)
theorem Kept.cell {R : Nat → Prop} {A B : World} (h : Kept R A B) {a : Addr} (ha : R a.block) : B.cell? a = A.cell? a := World.cell?_of_block (h a.block ha)

set_option maxRecDepth 100000 in
set_option maxHeartbeats 2000000 in
theorem backward_closure {F : Fence} {m : Nat} (hF : F.fn 51) (hro : F.round = none) (hm : 1 ≤ m) {Bs g c N : Nat} {heads : List Value} (hN : heads.length = N) (hN15 : N ≤ 15) {R : Nat → Prop} {w : World}
    (hBs : w.cell? ⟨Bs, 0, none⟩ = some (.slice (some ⟨g, 0, none⟩) N c)) (hBl : Bs < w.heap.size) (hgl : g < w.heap.size) (hc : ∀ i (h : i < heads.length), w.cell? ⟨g, i, none⟩ = some heads[i]) (hRB : R Bs) (hRg : R g) :
    Rounds F m Try.prog 51 #[.pointer (some ⟨Bs, 0, none⟩)] (fun k => #[.int .i64 ((N : Int) - k - 1), heads[N - k - 1]?.getD undef]) (Kept R) N w := by
  intro l J W hW hY h0
  have hBs' : W.cell? ⟨Bs, 0, none⟩ = some (.slice (some ⟨g, 0, none⟩) N c) := (hW.cell (p := ⟨Bs, 0, none⟩) hBl).trans hBs
  have hc' : ∀ i (h : i < heads.length), W.cell? ⟨g, i, none⟩ = some heads[i] := fun i h => (hW.cell (p := ⟨g, i, none⟩) hgl).trans (hc i h)
  clear hBs hc
  refine callsIn_of_wp Try.func51 rfl hF ?_ hro
  simp only [Try.ntmps51, List.size_toArray, List.length_cons, List.length_nil, Nat.reduceAdd, Nat.reduceSub, Array.replicate_succ, Array.replicate_zero, List.push_toArray, List.append_toArray, List.nil_append, List.cons_append]
  gi_wp2
  gi_loopw [3] (fun i wr => ∃ k : Nat, k ≤ N ∧ i = .int .i64 ((N : Int) - k - 1) ∧ J k wr ∧ Kept R W wr) (fun i _ => (intOf i + 1).toNat)
  case atStart => exact ⟨0, Nat.zero_le _, by go_num, h0, fun b _ => rfl⟩
  case round =>
    obtain ⟨k, hk, rfl, hJ, hK⟩ := hrel
    by_cases hlt : k < N
    · obtain ⟨fn, tmps, assign, body, hy, hR⟩ := hY k wr hJ hlt
      obtain ⟨j, hj⟩ : ∃ j, N - k - 1 = j := ⟨_, rfl⟩
      rw [hj] at hy
      have hji : (N : Int) - k - 1 = (j : Int) := by omega
      rw [hji] at hy
      have hjl : j < heads.length := by omega
      have hgd : heads[j]?.getD undef = heads[j] := by rw [List.getElem?_eq_getElem hjl]; rfl
      rw [hgd] at hy
      have c1 : wr.cell? ⟨Bs, 0, none⟩ = some (.slice (some ⟨g, 0, none⟩) N c) := (hK.cell hRB).trans hBs'
      have c2 : wr.cell? ⟨g, j, none⟩ = some heads[j] := (hK.cell hRg).trans (hc' j hjl)
      generalize heads[j] = v at *
      have j0 : 0 ≤ (j : Int) := by omega
      have jN : (j : Int) < (N : Int) := by omega
      clear hc' hY hgd
      gi_wp2
      refine hR.mono ?_
      rintro e W3 ⟨rfl, hJ3, hk3⟩
      gi_wp2
      go_roundw
      case rel => exact ⟨k + 1, by omega, by congr 1; omega, hJ3, hK.trans hk3⟩
      case measure => simp [intOf]; omega
    · obtain rfl : k = N := by omega
      gi_wp2
      go_end0
      exact ⟨⟨_, rfl⟩, hJ⟩
theorem backward_in {F : Fence} {m : Nat} (hF : F.fn 46) (hro : F.round = none) (v : Value) {A : Option Addr} {n c : Nat} (hv : v = .slice A n c) (w : World) :
    CallsIn F m Try.prog 46 #[v] w fun e w' => e = .returned (.func (.func 51) #[] #[.pointer (some ⟨w.heap.size, 0, none⟩)]) ∧ w' = w.alloc (.cells #[v] 82) := by
  subst hv
  refine callsIn_of_wp Try.func46 rfl hF ?_ hro
  simp only [Try.ntmps46, List.size_toArray, List.length_cons, List.length_nil, Nat.reduceAdd, Nat.reduceSub, Array.replicate_succ, Array.replicate_zero, List.push_toArray, List.append_toArray, List.nil_append, List.cons_append]
  gi_wp2
  go_ret
  exact ⟨rfl, rfl⟩
end Go.Proofs.Ytmafcmfafcjokaa
