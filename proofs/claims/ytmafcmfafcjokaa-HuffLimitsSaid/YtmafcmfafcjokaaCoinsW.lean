/- The contract of the coins of counts. -/
import Derived.Test.YtmafcmfafcjokaaStableA
import Derived.Test.YtmafcmfafcjokaaCoinsM
namespace Go.Proofs.Ytmafcmfafcjokaa
open Go Go.RowKit

def coinCells (r : List (Nat × Nat)) : List Value := r.flatMap fun x => [.int .i64 x.1, .int .i64 x.2]
theorem coinCells_snoc (r : List (Nat × Nat)) (x : Nat × Nat) : coinCells (r ++ [x]) = coinCells r ++ [.int .i64 x.1, .int .i64 x.2] := by simp [coinCells]
theorem coinCells_at : ∀ (r : List (Nat × Nat)) (i : Nat) (h : i < r.length), (coinCells r)[i * 2]? = some (.int .i64 r[i].1) ∧ (coinCells r)[i * 2 + 1]? = some (.int .i64 r[i].2)
  | x :: r, 0, _ => by simp [coinCells]
  | x :: r, i + 1, h => by
    have := coinCells_at r i (by simpa using h)
    have e : coinCells (x :: r) = .int .i64 x.1 :: .int .i64 x.2 :: coinCells r := by simp [coinCells]
    rw [e, show (i + 1) * 2 = i * 2 + 1 + 1 from by omega]
    simpa using this
def OwnC (w : World) (base : Nat) (v : Value) (r : List (Nat × Nat)) : Prop := w.ownsRow base 80 2 v r.length (coinCells r)
theorem info_coin : (Try.prog.info? 80).map (fun i => (i.zero, i.size, i.bytes)) = some (some (.agg #[.int .i64 0, .int .i64 0]), 2, 16) := by kernel_rfl
theorem OwnC.cl {w : World} {base g n c : Nat} {r : List (Nat × Nat)} (h : OwnC w base (.slice (some ⟨g, 0, none⟩) n c) r) : n = r.length ∧ CL w g 0 r := by
  have hn : n = r.length := by
    unfold OwnC at h
    rcases h.2 with ⟨e, _⟩ | ⟨g, cap, cur, e, _⟩
    · cases e
    · injection e
  subst hn
  refine ⟨rfl, fun i hi => ?_⟩
  obtain ⟨e1, e2⟩ := coinCells_at r i hi
  have h1 := World.ownsRow.cells h (g := g) rfl _ _ e1
  have h2 := World.ownsRow.cells h (g := g) rfl _ _ e2
  rw [Go.WideShapes.add_plain] at h1 h2
  exact ⟨h1, by rw [Nat.add_assoc]; exact h2, World.ownsRow.frozenAt h _, World.ownsRow.frozenAt h _⟩
theorem CL.coins {w : World} {g n : Nat} {r : List (Nat × Nat)} (h : CL w g 0 r) (hn : r.length = n) (hg : g < w.heap.size) : Coins w (some ⟨g, 0, none⟩) n r :=
  ⟨hn, fun _ => ⟨g, 0, rfl, hg, fun i hi => ⟨(h i hi).1, (h i hi).2.1⟩⟩⟩
theorem OwnC.pushed {w wr w' : World} {v v' : Value} {L : List (Nat × Nat)} {x y : Nat} (hB : But [] w wr) (hO : OwnC wr w.heap.size v L)
    (h1 : w'.ownsRow w.heap.size 80 2 v' (L.length + 1) (coinCells L ++ [.int .i64 x, .int .i64 y])) (hg : (wr.alloc (.cells #[.int .i64 x, .int .i64 y] 80)).grownBy w' v.ownBlock) :
    OwnC w' w.heap.size v' (L ++ [(x, y)]) ∧ But [] w w' := by
  refine ⟨?_, (hB.alloc _).grown hg (fun g e => .inr (hO.lt g e).1)⟩
  unfold OwnC
  rw [List.length_append, coinCells_snoc]
  exact h1
/-- The sorted coins, in a slice of the call's own. -/
def GotCoins (w : World) (l : List Int) (len : Nat) (e : Ending) (w' : World) : Prop :=
  ∃ A c, e = .returned (.slice A (csOf l len).length c) ∧ Coins w' A (csOf l len).length (csOf l len) ∧ (∀ a, A = some a → w.heap.size ≤ a.block) ∧ But [] w w'

set_option maxRecDepth 100000 in
set_option maxHeartbeats 1000000 in
theorem coinsOf_any {N : Nat} (hN : SortsUpTo N) {w : World} {A : Option Addr} {len cap : Nat} {l : List Int} (hl : Ints w A len l) (h288 : len ≤ 288) (hcN : (coins0 l len).length ≤ N) :
    Calls Try.prog 39 #[.slice A len cap] w (GotCoins w l len) := by
  obtain ⟨i0, hi0, hz0, hz1, hz2⟩ := info_parts info_coin
  have hlen := hl.1
  go_enter Try.func39, Try.ntmps39
  go_wp2
  go_loopw [3, 8] (fun v i wr => ∃ (k n' : Nat) (A' : Option Addr) (c' : Nat), k ≤ len ∧ i = .int .i64 k ∧ v = .slice A' n' c' ∧ n' = (coins0 l k).length ∧ OwnC wr w.heap.size (.slice A' n' c') (coins0 l k) ∧ But [] w wr) (fun _ i _ => len - (intOf i).toNat)
  case atStart => exact ⟨0, 0, none, 0, Nat.zero_le _, rfl, rfl, rfl, World.ownsRow_nil _ _ _ _, But.refl _ _⟩
  case round =>
    obtain ⟨k, n', A', c', hk, rfl, rfl, hn', hO, hB⟩ := hrel
    have HN' := Lib.hid hn'
    clear hn'
    by_cases hlt : k < len
    · obtain ⟨g, o, rfl, hg, hc⟩ := hl.at hlt
      replace hc := hB.cell hc (by simp)
      have hgd : l.getD k 0 = l[k]'(by omega) := by rw [List.getD_eq_getElem?_getD, List.getElem?_eq_getElem (by omega)]; rfl
      have hs : coins0 l (k + 1) = if 0 < l.getD k 0 then coins0 l k ++ [(k, (l.getD k 0).toNat)] else coins0 l k := rfl
      rw [← hgd] at hc
      have hcl := length_coins0 l k
      have HS := Lib.hid hs
      generalize l.getD k 0 = x at *
      clear hs hgd
      by_cases hx : 0 < x
      · obtain ⟨c, hcx⟩ := Int.eq_ofNat_of_zero_le (Int.le_of_lt hx)
        subst hcx
        have HS2 := Lib.hid (show coins0 l (k + 1) = coins0 l k ++ [(k, c)] by rw [HS.out, if_pos hx]; simp)
        have HO := Lib.hid hO
        have HB := Lib.hid hB
        have hsz := hB.size
        generalize hL : coins0 l k = L at *
        have HL := Lib.hid hL
        clear hL hO hB
        go_wp2_with (at_builtin; refine wpList_append_own _ rfl _ _ 77 rfl w.heap.size 80 i0 (.agg #[.int .i64 0, .int .i64 0]) 2 16 Try.underlying77 hi0 hz0 hz1 hz2 rfl (by decide) _ L.length (coinCells L) rfl (World.ownsRow.alloc HO.out _) ⟨wr.heap.size, 0, none⟩ 1 1 [.int .i64 (k : Int), .int .i64 (c : Int)] rfl rfl ?c1 ?c2 ?c3 ?c4 ?c5 ?_)
        case c1 => exact World.news_of_block (cs := #[.int .i64 (k : Int), .int .i64 (c : Int)]) (t := 80) (fr := (0, 0)) (heap_alloc_new wr _)
        case c2 => simp [Value.oneCell']
        case c3 => unfold maxLen; omega
        case c4 => omega
        case c5 => simp; omega
        intro v' w1 hown1 hgrow _
        obtain ⟨g4, c4, rfl⟩ : ∃ g4 c4, v' = .slice (some ⟨g4, 0, none⟩) (L.length + 1) c4 := by
          rcases hown1.2 with ⟨_, e⟩ | ⟨g4, c4, cur, e, _⟩
          · omega
          · exact ⟨g4, c4, e⟩
        have HN := Lib.hid (OwnC.pushed HB.out HO.out hown1 hgrow)
        clear hown1 hgrow
        go_wp2
        go_roundw
        case rel => exact ⟨k + 1, L.length + 1, _, _, by omega, by go_num, rfl, by rw [HS2.out, List.length_append]; rfl, by rw [HS2.out]; exact HN.out.1, HN.out.2⟩
        case measure => simp [intOf]; omega
      · have HS2 := Lib.hid (show coins0 l (k + 1) = coins0 l k by rw [HS.out, if_neg hx])
        go_wp2
        go_roundw
        case rel => exact ⟨k + 1, _, _, _, by omega, by go_num, rfl, by rw [HS2.out]; exact HN'.out, by rw [HS2.out]; exact hO, hB⟩
        case measure => simp [intOf]; omega
    · obtain rfl : k = len := by omega
      have hcl := length_coins0 l k
      have hle := length_csOf l k
      by_cases h0 : n' = 0
      · subst h0
        have he : (csOf l k).length = 0 := by rw [hle]; exact HN'.out.symm
        have hce : csOf l k = [] := List.eq_nil_of_length_eq_zero he
        have HCE := Lib.hid hce
        have hbase : ∀ a, A' = some a → w.heap.size ≤ a.block := fun a e => by subst e; exact (World.ownsRow.lt hO a.block rfl).1
        clear he hle hcl hO hce
        go_wp2_with (go_at_call 43; refine (sort_nil _ _ _ _).mono ?_; rintro e w' ⟨rfl, rfl⟩)
        go_ret
        refine ⟨A', c', ?_, ?_, hbase, hB⟩
        · rw [HCE.out]; rfl
        · rw [HCE.out]; exact ⟨rfl, fun h => absurd h (by simp)⟩
      · obtain ⟨g, rfl⟩ : ∃ g, A' = some ⟨g, 0, none⟩ := by
          rcases hO.2 with ⟨e, e2⟩ | ⟨g, cap', cur, e, _⟩
          · exact absurd (HN'.out.trans e2) h0
          · injection e with e1 e2 e3
            exact ⟨g, e1⟩
        have hcl2 := hO.cl.2
        have hgl := World.ownsRow.lt hO g rfl
        have hs := hN wr g 0 n' c' (coins0 l k) hcl2 HN'.out.symm (by rw [HN'.out]; exact hcN) hgl.2 (coins0_asc l k)
        have HSO := Lib.hid hs
        have HLE := Lib.hid hle
        have HB := Lib.hid hB
        clear hs hcl2 hO hle hB
        go_wp2_with fail
        refine HSO.out.mono ?_
        rintro e w' ⟨rfl, ⟨S, hS, hSp, hSc⟩, hB'⟩
        have hSe := csOf_eq hS hSp
        subst hSe
        have hfin : Coins w' (some ⟨g, 0, none⟩) (csOf l k).length (csOf l k) := hSc.coins rfl (Nat.lt_of_lt_of_le hgl.2 hB'.size)
        have HF := Lib.hid hfin
        have HBB := Lib.hid (HB.out.fresh hB' (fun i hi => by
          obtain rfl : i = g := by simpa using hi
          exact hgl.1))
        have HSP := Lib.hid hSp
        clear hfin hSc hSp hS hB'
        go_wp2
        go_ret
        refine ⟨some ⟨g, 0, none⟩, c', by rw [HLE.out, ← HN'.out]; rfl, HF.out, fun a e => by injection e with e; subst e; exact hgl.1, HBB.out⟩
end Go.Proofs.Ytmafcmfafcjokaa
