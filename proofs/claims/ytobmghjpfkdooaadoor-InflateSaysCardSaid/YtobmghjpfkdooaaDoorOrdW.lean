/- The contract of the order of the symbols that have codes. -/
import Derived.Test.YtobmghjpfkdooaaDoorMb
import Derived.Test.YtobmghjpfkdooaaDoorAwake
namespace Go.Proofs.YtobmghjpfkdooaaDoor
set_option maxRecDepth 100000
open Go Go.RowKit

/-- A slice of numbers of the call's own. -/
def OwnI (w : World) (base : Nat) (v : Value) (l : List Int) : Prop := w.ownsRow base 3 1 v l.length (l.map (.int .i64))
theorem info_int : (Tryd.prog.info? 3).map (fun i => (i.zero, i.size, i.bytes)) = some (some (.int .i64 0), 1, 8) := by kernel_rfl
theorem OwnI.open {w : World} {base : Nat} {v : Value} {l : List Int} (h : OwnI w base v l) : ∃ A c, v = .slice A l.length c ∧ Ints w A l.length l ∧ (∀ a, A = some a → v.ownBlock = some a.block) := by
  unfold OwnI at h
  rcases h.2 with ⟨rfl, e⟩ | ⟨g, cap, cur, rfl, hg, hh, r⟩
  · have : l = [] := by cases l with
      | nil => rfl
      | cons x l => simp at e
    subst this
    exact ⟨none, 0, rfl, ⟨rfl, fun h => absurd h (by simp)⟩, by simp⟩
  · refine ⟨some ⟨g, 0, none⟩, cap, rfl, ⟨rfl, fun hn => ⟨g, 0, rfl, (h.lt g rfl).2, fun i hi => ?_⟩⟩, by simp [Value.ownBlock]⟩
    have hc := h.cells (g := g) rfl i (.int .i64 l[i]) (by simp [hi])
    rw [Go.WideShapes.add_plain] at hc
    exact hc
theorem OwnI.nil (w : World) (base : Nat) : OwnI w base (.slice none 0 0) [] := World.ownsRow_nil _ _ _ _
theorem OwnI.but {w w' : World} {base : Nat} {v : Value} {l : List Int} (h : OwnI w base v l) {S : List Nat} (hw : But S w w') (hS : ∀ k ∈ S, v.ownBlock ≠ some k) : OwnI w' base v l := by
  unfold OwnI at h ⊢
  refine ⟨h.1, ?_⟩
  rcases h.2 with h2 | ⟨g, cap, cur, hv, hg, hh, r⟩
  · exact .inl h2
  · refine .inr ⟨g, cap, cur, hv, hg, ?_, r⟩
    have hlt : g < w.heap.size := (h.lt g (by rw [hv]; rfl)).2
    rw [hw.block g hlt (fun hk => hS g hk (by rw [hv]; rfl))]
    exact hh

theorem OwnI.pushed {w wr w' : World} {v v' : Value} {L : List Int} {x : Int} (hB : But [] w wr) (hO : OwnI wr w.heap.size v L)
    (h1 : w'.ownsRow w.heap.size 3 1 v' (L.length + 1) (L.map (.int .i64) ++ [.int .i64 x])) (hg : (wr.alloc (.cells #[.int .i64 x] 3)).grownBy w' v.ownBlock) :
    OwnI w' w.heap.size v' (L ++ [x]) ∧ But [] w w' := by
  refine ⟨?_, (hB.alloc _).grown hg (fun g e => .inr (hO.lt g e).1)⟩
  unfold OwnI
  rw [List.length_append, List.map_append]
  exact h1
theorem nats_snoc (p : List Nat) (s : Nat) : (p ++ [s]).map (fun s : Nat => (s : Int)) = p.map (fun s : Nat => (s : Int)) ++ [(s : Int)] := by simp

set_option maxRecDepth 100000 in
theorem ordered_any {w : World} {A : Option Addr} {len cap : Nat} {l : List Int} (hl : Ints w A len l) (h288 : len ≤ 288) :
    Calls Tryd.prog 57 #[.slice A len cap] w fun e w' => ∃ v, e = .returned v ∧ OwnI w' w.heap.size v ((ord l).map fun s : Nat => (s : Int)) ∧ But [] w w' := by
  obtain ⟨i0, hi0, hz0, hz1, hz2⟩ := info_parts info_int
  have hlen := hl.1
  have hp : ∀ n k, k ≤ len → n < 15 → (pre l n k).length ≤ 288 := fun n k hk hn => by
    obtain ⟨r, hr⟩ := pre_ord l n k (by omega) hn
    have hnd : (pre l n k).Nodup := (List.nodup_append.1 (hr ▸ nodup_ordTo l 15 : (pre l n k ++ r).Nodup)).1
    have := sum_le_of_nodup (fun _ => 1) len (pre l n k) hnd (fun s hs => by
      have := (ord_len (l := l) (s := s) (hr ▸ List.mem_append_left r hs)).1; omega)
    simp only [List.map_const', List.sum_replicate_nat, List.length_range, Nat.mul_one] at this
    omega
  have HP := Lib.hid hp
  clear hp
  go_enter Tryd.func57, Tryd.ntmps57
  go_wp2
  go_loopw [3, 4] (fun v n wr => ∃ m : Nat, m ≤ 15 ∧ n = .int .i64 ((m : Int) + 1) ∧ OwnI wr w.heap.size v ((ordTo l m).map fun s : Nat => (s : Int)) ∧ But [] w wr) (fun _ n _ => 16 - (intOf n).toNat)
  case atStart => exact ⟨0, by omega, rfl, OwnI.nil _ _, But.refl _ _⟩
  case round =>
    obtain ⟨m, hm, rfl, ho, hb⟩ := hrel
    by_cases hlt : m < 15
    · obtain ⟨wo, rfl⟩ : ∃ wo : World, wo = wr := ⟨_, rfl⟩
      have t15 : decide ((m : Int) + 1 ≤ 15) = true := by simp; omega
      go_wp2
      have hlo := hl.but hb (by simp)
      go_loopw [3, 13] (fun v i wr => ∃ k : Nat, k ≤ len ∧ i = .int .i64 k ∧ OwnI wr w.heap.size v ((pre l m k).map fun s : Nat => (s : Int)) ∧ But [] w wr) (fun _ i _ => len - (intOf i).toNat)
      case atStart => exact ⟨0, Nat.zero_le _, rfl, by rw [pre_zero]; exact ho, hb⟩
      case round =>
        clear ho hb hlo
        obtain ⟨k, hk, rfl, ho, hb⟩ := hrel
        by_cases hlt2 : k < len
        · obtain ⟨g, o, rfl, hg, hc⟩ := (hl.but hb (by simp)).at hlt2
          have hgd : l.getD k 0 = l[k]'(by omega) := by rw [List.getD_eq_getElem?_getD, List.getElem?_eq_getElem (by omega)]; rfl
          have hps := pre_succ l m k
          rw [hgd] at hps
          have HPS := Lib.hid hps
          clear hps hgd
          generalize l[k]'(by omega) = x at *
          have hlp := HP.out m k hk hlt
          clear hlen
          by_cases he : x = (m : Int) + 1
          · subst he
            have hpe : pre l m (k + 1) = pre l m k ++ [k] := by rw [HPS.out, if_pos (by omega)]
            have HPE := Lib.hid hpe
            have hB0 := hb.alloc (.cells #[.int .i64 (k : Int)] 3)
            have HO := Lib.hid ho
            have HB := Lib.hid hb
            have hsz := hb.size
            have hpl : ((pre l m k).map fun s : Nat => (s : Int)).length ≤ 288 := by rw [List.length_map]; exact hlp
            obtain ⟨L, hL⟩ : ∃ L, L = (pre l m k).map (fun s : Nat => (s : Int)) := ⟨_, rfl⟩
            rw [← hL] at ho HO hpl
            have HL := Lib.hid hL.symm
            clear hL
            clear hpe ho hb hlp
            go_wp2_with (at_builtin; refine wpList_append_own _ rfl _ _ 48 rfl w.heap.size 3 i0 (.int .i64 0) 1 8 Tryd.underlying48 hi0 hz0 hz1 hz2 rfl (by decide) _ L.length (L.map (.int .i64)) rfl (HO.out.alloc _) ⟨wr.heap.size, 0, none⟩ 1 1 [.int .i64 (k : Int)] rfl rfl ?c1 ?c2 ?c3 ?c4 ?c5 ?_)
            case c1 => exact World.news_of_block (cs := #[.int .i64 (k : Int)]) (t := 3) (fr := (0, 0)) (heap_alloc_new wr _)
            case c2 => simp [Value.oneCell']
            case c3 => unfold maxLen; omega
            case c4 => omega
            case c5 => simp; omega
            intro v' w1 hown1 hgrow _
            have HN := Lib.hid (OwnI.pushed HB.out HO.out hown1 hgrow)
            clear hown1 hgrow
            go_wp2
            go_roundw
            case rel => exact ⟨k + 1, by omega, by go_num, by rw [HPE.out, nats_snoc, HL.out]; exact HN.out.1, HN.out.2⟩
            case measure => simp [intOf]; omega
          · have hpe : pre l m (k + 1) = pre l m k := by rw [HPS.out, if_neg (by omega)]
            have HPE := Lib.hid hpe
            have he2 : (x == (m : Int) + 1) = false := by simp; omega
            clear hpe he
            go_wp2
            go_roundw
            case rel => exact ⟨k + 1, by omega, by go_num, by rw [HPE.out]; exact ho, hb⟩
            case measure => simp [intOf]; omega
        · obtain rfl : k = len := by omega
          rw [← hlen, pre_full] at ho
          go_wp2
          go_roundw
          case rel => exact ⟨m + 1, by omega, by go_num, ho, hb⟩
          case measure => simp [intOf]; omega
    · obtain rfl : m = 15 := by omega
      go_wp2
      go_ret
      exact ⟨_, rfl, ho, hb⟩
end Go.Proofs.YtobmghjpfkdooaaDoor
