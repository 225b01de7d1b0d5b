/- The chapter's examples; whether two lists of tokens are the same. -/
import Derived.Test.YtbdackcfedcmkaaLzF
import Derived.Test.YtbdackcfedcmkaaLzI
set_option maxRecDepth 100000
set_option linter.unusedVariables false
namespace Go.Proofs.Ytbdackcfedcmkaa
set_option maxRecDepth 100000
open Go Go.RowKit

theorem tks_same {w : World} {A B : Option Addr} {n c d : Nat} {L : List T3} (ha : Tks w A n L) (hb : Tks w B n L) (hm : n ≤ 1000000) :
    Calls Try.prog 7 #[.slice A n c, .slice B n d] w fun e w' => e = .returned (.bool true) ∧ ∃ k, w' = w.drewN k := by
  have he := tok_neq
  go_enter Try.func7, Try.ntmps7
  go_wp2
  go_loopw [5] (fun i wr => ∃ k q : Nat, k ≤ n ∧ i = .int .i64 k ∧ wr = w.drewN q) (fun i _ => n - (intOf i).toNat)
  case atStart => exact ⟨0, 0, Nat.zero_le _, rfl, rfl⟩
  case round =>
    obtain ⟨k, q, hk, rfl, rfl⟩ := hrel
    by_cases hlt : k < n
    · obtain ⟨g, o, y, x, z, rfl, hg, c0, c1, c2, h1⟩ := ha.at hlt
      obtain ⟨g', o', y', x', z', rfl, hg', c0', c1', c2', h1'⟩ := hb.at hlt
      rw [h1] at h1'
      injection h1' with h1'
      injection h1' with e1 e2
      injection e2 with e2 e3
      subst e1 e2 e3
      have k0 : 0 ≤ (k : Int) := by omega
      have k1 : (k : Int) < (n : Int) := by omega
      have hd : decide (y = y ∧ x = x ∧ z = z) = true := by simp
      clear ha hb h1
      go_wp2
      go_quiet (fail)
      go_wp2
      go_roundw
      case rel => exact ⟨k + 1, q + nq, by omega, by go_num, rfl⟩
      case measure => simp [intOf]; omega
    · go_wp2
      go_ret
      exact ⟨rfl, q, rfl⟩
theorem tks_block {w : World} {B : Nat} {cs : Array Value} {t : TypeId} {fr : Nat × Nat} {L : List T3} (h : w.heap[B]? = some (.cells cs t fr)) (hc : cs.toList = tkCells L) : Tks w (some ⟨B, 0, none⟩) L.length L := by
  refine ⟨rfl, fun _ => ⟨B, 0, rfl, (Array.getElem?_eq_some_iff.1 h).1, fun i hi => ?_⟩⟩
  obtain ⟨h0, h1, h2⟩ := tkCells_at L i hi
  rw [← hc] at h0 h1 h2
  have H := World.news_of_block h
  have c0 := H (i * 3) _ h0
  have c1 := H (i * 3 + 1) _ h1
  have c2 := H (i * 3 + 2) _ h2
  rw [Go.WideShapes.add_plain] at c0 c1 c2
  exact ⟨c0, c1, c2⟩
/-- The first example's bytes and tokens. -/
def exA : ByteArray := ⟨#[97, 98, 99, 97, 98, 99, 97, 98]⟩
def exB : ByteArray := ⟨#[97, 97, 97, 97]⟩
theorem toks_exA : (toks exA.data.toList).map tkI = [(0, 0, 97), (0, 0, 98), (0, 0, 99), (5, 3, 0)] := by decide +kernel
theorem toks_exB : (toks exB.data.toList).map tkI = [(0, 0, 97), (3, 1, 0)] := by decide +kernel
set_option maxHeartbeats 2000000 in
theorem awake_any (w : World) : Calls Try.prog 10 #[] w fun e w' => e = .returned (.bool true) ∧ But [] w w' := by
  have hA := fun v => tokens_any v (s := exA) (by decide)
  have hB := fun v => tokens_any v (s := exB) (by decide)
  rw [toks_exA] at hA
  rw [toks_exB] at hB
  unfold exA at hA
  unfold exB at hB
  have HA := Lib.hid hA
  have HB := Lib.hid hB
  clear hA hB
  go_enter Try.func10, Try.ntmps10
  go_wp2_with fail
  refine (expand_any (L := [(3, 1, 0)]) (n := 1) (tks_block (L := [(3, 1, 0)]) (heap_alloc_new w _) rfl) (by omega)).mono ?_
  rintro e w1 ⟨rfl, hB1⟩
  have HB1 := Lib.hid (((But.refl [] w).alloc _).trans hB1)
  clear hB1
  rw [show exVal (exG [(3, 1, 0)] []) = .tuple #[.string ⟨#[]⟩, .int .i64 15] from rfl]
  go_wp2_with fail
  refine (expand_any (L := [(2, 1, 0)]) (n := 1) (tks_block (L := [(2, 1, 0)]) (heap_alloc_new w1 _) rfl) (by omega)).mono ?_
  rintro e w2 ⟨rfl, hB2⟩
  have HB2 := Lib.hid (HB1.out.trans (((But.refl [] w1).alloc _).trans hB2))
  clear hB2 HB1
  rw [show exVal (exG [(2, 1, 0)] []) = .tuple #[.string ⟨#[]⟩, .int .i64 1] from rfl]
  go_wp2_with fail
  refine (HA.out w2).mono ?_
  rintro e w3 ⟨v, rfl, hO3, hB3⟩
  obtain ⟨A3, c3, rfl, hT3⟩ := hO3.open
  have HB3 := Lib.hid (HB2.out.trans hB3)
  have HT3 := Lib.hid (hT3.but ((But.refl [] w3).alloc (.cells #[.int .i64 97, .int .i64 0, .int .i64 0, .int .i64 98, .int .i64 0, .int .i64 0, .int .i64 99, .int .i64 0, .int .i64 0, .int .i64 0, .int .i64 5, .int .i64 3] 34)))
  clear hO3 hB3 HB2 hT3
  go_wp2_with fail
  refine (tks_same (n := 4) HT3.out (tks_block (heap_alloc_new w3 _) rfl) (by omega)).mono ?_
  rintro e w4 ⟨rfl, q4, rfl⟩
  have HB4 := Lib.hid ((HB3.out.alloc (.cells #[.int .i64 97, .int .i64 0, .int .i64 0, .int .i64 98, .int .i64 0, .int .i64 0, .int .i64 99, .int .i64 0, .int .i64 0, .int .i64 0, .int .i64 5, .int .i64 3] 34)).drewN q4)
  clear HT3 HB3
  generalize (w3.alloc _).drewN q4 = w4 at *
  go_wp2_with fail
  refine (HB.out w4).mono ?_
  rintro e w5 ⟨v, rfl, hO5, hB5⟩
  obtain ⟨A5, c5, rfl, hT5⟩ := hO5.open
  have HB5 := Lib.hid (HB4.out.trans hB5)
  have HT5 := Lib.hid (hT5.but ((But.refl [] w5).alloc (.cells #[.int .i64 97, .int .i64 0, .int .i64 0, .int .i64 0, .int .i64 3, .int .i64 1] 34)))
  clear hO5 hB5 HB4 hT5
  go_wp2_with fail
  refine (tks_same (n := 2) HT5.out (tks_block (heap_alloc_new w5 _) rfl) (by omega)).mono ?_
  rintro e w6 ⟨rfl, q6, rfl⟩
  have HB6 := Lib.hid ((HB5.out.alloc (.cells #[.int .i64 97, .int .i64 0, .int .i64 0, .int .i64 0, .int .i64 3, .int .i64 1] 34)).drewN q6)
  clear HT5 HB5
  go_wp2
  go_ret
  exact ⟨rfl, HB6.out⟩
end Go.Proofs.Ytbdackcfedcmkaa
