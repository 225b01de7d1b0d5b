/- What tokens say: bytes of the call's own, the program's repeat. -/
import Derived.Test.YtbdackcfedcmkaaLzE
import Derived.Test.YtbdackcfedcmkaaLzB
set_option maxRecDepth 100000
set_option linter.unusedVariables false
namespace Go.Proofs.Ytbdackcfedcmkaa
set_option maxRecDepth 100000
open Go Go.RowKit

def bCells (l : List UInt8) : List Value := l.map fun x => .int .u8 (x.toNat : Int)
theorem bCells_snoc (l : List UInt8) (x : UInt8) : bCells (l ++ [x]) = bCells l ++ [.int .u8 (x.toNat : Int)] := by simp [bCells]
theorem info_u8' : (Try.prog.info? 5).map (fun i => (i.zero, i.size, i.bytes)) = some (some (.int .u8 0), 1, 1) := by kernel_rfl
/-- Bytes of the call's own. -/
def OwnB (w : World) (base : Nat) (v : Value) (L : List UInt8) : Prop := w.ownsRow base 5 1 v L.length (bCells L)
theorem OwnB.nil (w : World) (base : Nat) : OwnB w base (.slice none 0 0) [] := World.ownsRow_nil _ _ _ _
theorem OwnB.but {w w' : World} {base : Nat} {v : Value} {L : List UInt8} (h : OwnB w base v L) (hw : But [] w w') : OwnB w' base v L := by
  unfold OwnB at h ⊢
  refine ⟨h.1, ?_⟩
  rcases h.2 with h2 | ⟨g, cap, cur, hv, hg, hh, r⟩
  · exact .inl h2
  · refine .inr ⟨g, cap, cur, hv, hg, ?_, r⟩
    have hlt : g < w.heap.size := (h.lt g (by rw [hv]; rfl)).2
    rw [hw.block g hlt (by simp)]
    exact hh
theorem OwnB.byte {w : World} {base : Nat} {A : Option Addr} {n c : Nat} {L : List UInt8} (h : OwnB w base (.slice A n c) L) {i : Nat} (hi : i < L.length) :
    ∃ g, A = some ⟨g, 0, none⟩ ∧ g < w.heap.size ∧ w.cell? ⟨g, i, none⟩ = some (.int .u8 ((L.getD i 0).toNat : Int)) := by
  unfold OwnB at h
  obtain ⟨g, cap, e, h1, h2⟩ := h.form (by omega)
  injection e with e1 e2 e3
  subst e1 e3
  refine ⟨g, rfl, h2, ?_⟩
  have hc := World.ownsRow.cells h (g := g) rfl i (.int .u8 (L[i].toNat : Int)) (by simp [bCells, hi])
  have e2 : (⟨g, 0, none⟩ : Addr).add i = ⟨g, i, none⟩ := by unfold Addr.add; split <;> simp_all
  rw [e2] at hc
  rw [hc, List.getD_eq_getElem?_getD, List.getElem?_eq_getElem hi]; rfl
theorem OwnB.shape {w : World} {base : Nat} {v : Value} {L : List UInt8} (h : OwnB w base v L) : ∃ A c, v = .slice A L.length c := by
  unfold OwnB at h
  rcases h.2 with ⟨rfl, e⟩ | ⟨g, cap, cur, rfl, hg, hh, r⟩
  · have : L = [] := List.eq_nil_of_length_eq_zero e
    subst this
    exact ⟨none, 0, rfl⟩
  · exact ⟨_, _, rfl⟩
theorem OwnB.ne {w : World} {base b : Nat} {v : Value} {L : List UInt8} {cs : Array Value} (h : OwnB w base v L) (hI : Is w b 34 cs) : some b ≠ v.ownBlock := by
  intro e
  unfold OwnB at h
  rcases h.2 with ⟨rfl, _⟩ | ⟨g, cap, cur, rfl, hg, hh, r⟩
  · cases e
  · have e2 : b = g := by simpa [Value.ownBlock] using e
    subst e2
    unfold Is at hI
    rw [hI] at hh
    injection hh with hh
    injection hh with h1 h2 h3
    exact absurd h2 (by decide)
theorem OwnB.pushed {w0 wr w' : World} {v v' : Value} {L : List UInt8} {x : UInt8} {cs : Array Value} {t : TypeId} (hB : But [] w0 wr) (hO : OwnB wr w0.heap.size v L)
    (h1 : w'.ownsRow w0.heap.size 5 1 v' (L.length + 1) (bCells L ++ [.int .u8 (x.toNat : Int)])) (hg : (wr.alloc (.cells cs t)).grownBy w' v.ownBlock) :
    OwnB w' w0.heap.size v' (L ++ [x]) ∧ But [] w0 w' := by
  refine ⟨?_, (hB.alloc _).grown hg (fun g e => .inr (hO.lt g e).1)⟩
  unfold OwnB
  rw [List.length_append, bCells_snoc]
  exact h1
theorem bits_byte' (x : UInt8) : (x.toNat : Int) % 256 = (x.toNat : Int) := by have := x.toNat_lt; omega
set_option maxHeartbeats 1000000 in
theorem repeat_tk {w0 w : World} {v : Value} {L : List UInt8} {n d : Nat} {b : Int} (hB0 : But [] w0 w) (hO0 : OwnB w w0.heap.size v L) (hn : n ≤ 258) (hd : 1 ≤ d) (hdl : d ≤ L.length) (hL : L.length ≤ 10000000) :
    Calls Try.prog 17 #[v, tkVal ((n : Int), (d : Int), b)] w fun e w' => ∃ v', e = .returned v' ∧ OwnB w' w0.heap.size v' (lzCopy d n L) ∧ But [] w0 w' := by
  obtain ⟨i0, hi0, hz0, hz1, hz2⟩ := info_parts info_u8'
  have HB0 := Lib.hid (hB0.alloc (.cells #[.int .i64 b, .int .i64 n, .int .i64 d] 34))
  have HO0 : Hid (OwnB (w.alloc (.cells #[.int .i64 b, .int .i64 n, .int .i64 d] 34)) w0.heap.size v L) := Lib.hid (hO0.but ((But.refl [] w).alloc _))
  have HI0 : Hid (Is (w.alloc (.cells #[.int .i64 b, .int .i64 n, .int .i64 d] 34)) w.heap.size 34 #[.int .i64 b, .int .i64 n, .int .i64 d]) := Lib.hid (Is.fresh w _ _)
  have hsz0 := hB0.size
  clear hB0 hO0
  unfold tkVal
  go_enter Try.func17, Try.ntmps17
  go_wp2
  go_loopw [0, 7] (fun ov kv wr => ∃ (k : Nat) (L1 : List UInt8), k ≤ n ∧ kv = .int .i64 k ∧ L1.length = L.length + k ∧ Hid (lzCopy d (n - k) L1 = lzCopy d n L) ∧ Hid (OwnB wr w0.heap.size ov L1) ∧ Hid (But [] w0 wr) ∧ Hid (Is wr w.heap.size 34 #[.int .i64 b, .int .i64 n, .int .i64 d])) (fun _ kv _ => n - (intOf kv).toNat)
  case atStart => exact ⟨0, L, Nat.zero_le _, rfl, rfl, Lib.hid rfl, HO0, HB0, HI0⟩
  case round =>
    obtain ⟨k, L1, hk, rfl, hL1, HC, HO, HB, HI⟩ := hrel
    clear HO0 HB0 HI0
    by_cases hlt : k < n
    · obtain ⟨A, c, rfl⟩ := HO.out.shape
      obtain ⟨i, hie⟩ : ∃ i, i = L1.length - d := ⟨_, rfl⟩
      obtain ⟨g, rfl, hg, hcell⟩ := HO.out.byte (i := i) (by omega)
      obtain ⟨y, hy⟩ : ∃ y, y = L1.getD i 0 := ⟨_, rfl⟩
      rw [← hy] at hcell
      have hc1 : wr.cell? ⟨w.heap.size, 2, none⟩ = some (.int .i64 d) := HI.out.cell 2
      have ei : ((L1.length : Int) - (d : Int)) = (i : Int) := by omega
      have b0 : (0 : Int) ≤ (i : Int) := by omega
      have b1 : (i : Int) < (L1.length : Int) := by omega
      have hsz := HB.out.size
      have HCN := Lib.hid (show lzCopy d (n - (k + 1)) (L1 ++ [y]) = lzCopy d n L by
        rw [← HC.out, show n - k = (n - (k + 1)) + 1 by omega, lzCopy, ← hie, ← hy])
      have HL1 := Lib.hid hL1
      have HLb : L1.length ≤ 10000258 := by omega
      clear hy hie hL1
      go_wp2_with (at_builtin; refine wpList_append_own _ rfl _ _ 37 rfl w0.heap.size 5 i0 (.int .u8 0) 1 1 Try.underlying37 hi0 hz0 hz1 hz2 rfl (by decide) _ L1.length (bCells L1) rfl (World.ownsRow.alloc HO.out _) ⟨wr.heap.size, 0, none⟩ 1 1 [.int .u8 y.toNat] rfl rfl ?c1 ?c2 ?c3 ?c4 ?c5 ?_)
      case c1 => exact World.news_of_block (cs := #[.int .u8 y.toNat]) (t := 5) (fr := (0, 0)) (heap_alloc_new wr _)
      case c2 => simp [Value.oneCell']
      case c3 => unfold maxLen; omega
      case c4 => omega
      case c5 => simp; omega
      intro v' w2 hown2 hgrow2 _
      have HP := Lib.hid (OwnB.pushed (x := y) HB.out HO.out hown2 hgrow2)
      have HI2 := Lib.hid ((HI.out.alloc _).grown hgrow2 (HO.out.ne HI.out))
      clear hown2 hgrow2 hcell hc1
      go_wp2
      go_roundw
      case rel => exact ⟨k + 1, L1 ++ [y], by omega, by go_num, by have := HL1.out; rw [List.length_append, List.length_singleton]; omega, HCN, Lib.hid HP.out.1, Lib.hid HP.out.2, HI2⟩
      case measure => simp [intOf]; omega
    · go_wp2
      go_ret
      refine ⟨_, rfl, ?_, HB.out⟩
      have h := HC.out
      rw [show n - k = 0 by omega] at h
      have h2 : L1 = lzCopy d n L := h
      rw [← h2]; exact HO.out
end Go.Proofs.Ytbdackcfedcmkaa
