/- The walk of the statement that symbols that are laid are read again. -/
import Derived.Test.YtmafcmfafcjokaaLayOne
import Derived.Test.YtmafcmfafcjokaaLaidM
import Derived.Test.YtmafcmfafcjokaaLawF
import Derived.Deep.DeepCutAuto
import Derived.Deep.CutRange
import Derived.Deep.CutBlock
namespace Go.Proofs.Ytmafcmfafcjokaa
open Go Go.RowKit

theorem rows_ne {w : World} {lo b X N base : Nat} {og : Option Nat} {v : Value} {L : List Int} (hW : WS w lo b og X N) (hO : OwnI w base v L) : v.ownBlock ≠ some b ∧ ∀ g, og = some g → v.ownBlock ≠ some g := by
  obtain ⟨cs, hi⟩ := hW.is
  refine ⟨own_ne hO hi (by decide), fun g e h => ?_⟩
  rcases hO.2 with ⟨rfl, _⟩ | ⟨g2, cap, cur, rfl, _, hh, _⟩
  · simp [Value.ownBlock] at h
  · have e2 : g2 = g := by simpa [Value.ownBlock] using h
    subst e2
    exact hW.ownNe (b2 := g2) (t := 3) (cs := cur) hh (by decide) e

/-- What has been laid so far, and what stands in the list of it. -/
def LaidSoFar (w1 wr : World) (l : List Int) (k : Nat) (v : Value) : Prop := ∃ (L : List Int) (X N : Nat) (og : Option Nat), cdS l L = (X, N) ∧ L.length ≤ k ∧ N ≤ 15 * L.length ∧ (∀ s ∈ L, has l s) ∧ OwnI wr w1.heap.size v L ∧
  WS wr w1.heap.size w1.heap.size og X N ∧ (∀ g, og = some g → w1.heap.size ≤ g) ∧ But [] w1 wr
theorem laid_lay {w1 wr w' : World} {v : Value} {L : List Int} {X N X' N' : Nat} {og : Option Nat} (hO : OwnI wr w1.heap.size v L) (hW : WS wr w1.heap.size w1.heap.size og X N) (hog : ∀ g, og = some g → w1.heap.size ≤ g) (hB : But [] w1 wr)
    (h : Wrote wr w' w1.heap.size w1.heap.size og X' N') : ∃ og', OwnI w' w1.heap.size v L ∧ WS w' w1.heap.size w1.heap.size og' X' N' ∧ (∀ g, og' = some g → w1.heap.size ≤ g) ∧ But [] w1 w' := by
  have hold := h.old hB (Nat.le_refl _) hog
  obtain ⟨og', hW', hg, hB'⟩ := h
  obtain ⟨n1, n2⟩ := rows_ne hW hO
  refine ⟨og', hO.but hB' fun i hi => ?_, hW', fun g e => ?_, hold⟩
  · simp only [List.mem_cons, Option.mem_toList] at hi
    rcases hi with rfl | hi
    · exact n1
    · exact n2 i hi
  · rcases hg g e with h | h
    · exact hog g h
    · exact Nat.le_trans hB.size h

set_option maxRecDepth 100000 in
set_option maxHeartbeats 4000000 in
theorem huffBack_walk {A A2 : Option Addr} {len cap len2 cap2 : Nat} {l l2 : List Int} {w : World} (hl : Ints w A len l) (hb : len * 8 ≤ 140737488351232) (hnil : A = none → cap = 0) (_hf : Fits l)
    (hl2 : Ints w A2 len2 l2) (_hb2 : len2 * 8 ≤ 140737488351232) (_hnil2 : A2 = none → cap2 = 0) (_hf2 : Fits l2) :
    Calls Try.prog 8 #[.slice A len cap, .slice A2 len2 cap2] w fun e w' => e = .returned (.bool true) ∧ Below w.heap.size w w' := by
  have hm : len ≤ maxLen := by unfold maxLen; omega
  obtain ⟨i0, hi0, hz0, hz1, hz2⟩ := info_parts info_int
  by_cases hc : chk l = 0
  · have hok := chk_range hc
    have HOK := Lib.hid hok
    have HC := Lib.hid hc
    have hmk := make_any hl hb hnil hc
    obtain ⟨K, hK1, hK2, hK3⟩ : ∃ K, K ≤ len2 ∧ K ≤ 200 ∧ min len2 200 ≤ K := ⟨min len2 200, by omega, by omega, Nat.le_refl _⟩
    clear hok hc hnil
    go_enter Try.func8, Try.ntmps8
    go_wp2_with fail
    refine hmk.mono ?_
    rintro e w1 ⟨bt, rfl, hT, hB1⟩
    have hl1 := hl.but hB1 (by simp)
    have hl2' := hl2.but hB1 (by simp)
    have HT := Lib.hid hT
    have HL := Lib.hid hl1
    have HL2 := Lib.hid hl2'
    have HB1 := Lib.hid hB1
    clear hmk hl hl2 hl1 hl2' hT hB1
    go_wp2_with fail
    refine (new_at w1 w1.heap.size _ rfl).mono ?_
    rintro e w2 ⟨rfl, hW1, hB2, hs2⟩
    have hLS : LaidSoFar w1 w2 l 0 (.slice none 0 0) := ⟨[], 0, 0, none, rfl, Nat.le_refl _, Nat.le_refl _, by simp, OwnI.nil _ _, hW1, (fun g e => by cases e), hB2⟩
    have HLS := Lib.hid hLS
    clear hLS hW1 hB2 hs2
    go_upto_block 0 with (fail)
    go_cut [8] (fun v wx => LaidSoFar w1 wx l 200 v)
    case first =>
      go_wp2_with fail
      go_loopw [8, 9] (fun v iv wr => ∃ k : Nat, k ≤ K ∧ iv = .int .i64 k ∧ LaidSoFar w1 wr l k v) (fun _ iv _ => K - (intOf iv).toNat)
      case atStart => exact ⟨0, Nat.zero_le _, rfl, HLS.out⟩
      case round =>
        obtain ⟨k, hk, rfl, hLS⟩ := hrel
        clear HLS
        by_cases hlt : k < K
        · obtain ⟨L, X, N, og, h1, h2, h3, h4, hO, hW, hog, hB⟩ := hLS
          obtain ⟨g, o, rfl, hg, hcell⟩ := HL2.out.at (show k < len2 by omega)
          have hcr := hB.cell hcell (by simp)
          generalize l2[k]'(by have := HL2.out.1; omega) = s at *
          have hkl : (k : Int) < (len2 : Int) := by omega
          have hk200 : (k : Int) < 200 := by omega
          have hk0 : (0 : Int) ≤ (k : Int) := by omega
          have hN9 : N ≤ 100000 := by omega
          by_cases hs : has l s
          · have hlay := lay1_in HT.out HOK.out hW hB.size hB (Nat.le_refl _) hog hN9 hs
            obtain ⟨⟨X', N'⟩, hX⟩ : ∃ p, layS l s X N = p := ⟨_, rfl⟩
            have hN' := layS_len HOK.out hX
            rw [hX] at hlay
            have hs' := hs
            obtain ⟨s0, s1, s2⟩ : 0 ≤ s ∧ s < l.length ∧ l.getD s.toNat 0 ≠ 0 := hs'
            obtain ⟨n, rfl⟩ : ∃ n : Nat, s = n := ⟨s.toNat, by omega⟩
            rw [Int.toNat_natCast] at s2
            have hlen := HL.out.1
            obtain ⟨gl, ol, rfl, _, hcl⟩ := HL.out.at (show n < len by omega)
            have hx := HOK.out _ (List.getElem_mem (show n < l.length by omega))
            have hgd : l.getD n 0 = l[n]'(by omega) := getD_get _
            rw [hgd] at s2
            generalize l[n]'(by omega) = x at *
            have hx0 : 0 < x := by omega
            have hnl : (n : Int) < (len : Int) := by omega
            have hn0 : (0 : Int) ≤ (n : Int) := by omega
            have dnl : decide (n < len) = true := by simp; omega
            have HLAY := Lib.hid hlay
            have H1 := Lib.hid h1
            have H4 := Lib.hid h4
            have HO := Lib.hid hO
            have HW := Lib.hid hW
            have HOG := Lib.hid hog
            have HB := Lib.hid hB
            have HX := Lib.hid hX
            have HS := Lib.hid hs
            have HLEN := Lib.hid hlen
            have HGD := Lib.hid hgd
            clear hlay h1 h4 hO hW hog hB hX hs hcell s1 s2 hx hlen hgd
            go_wp2_with fail
            refine HLAY.out.mono ?_
            rintro e w3 ⟨rfl, hWr⟩
            obtain ⟨og', hO3, hW3, hog3, hB3⟩ := laid_lay HO.out HW.out HOG.out HB.out hWr
            have hcl3 := hB3.cell hcl (by simp)
            have HO3 := Lib.hid hO3
            have HW3 := Lib.hid hW3
            have HOG3 := Lib.hid hog3
            have HB3 := Lib.hid hB3
            have hsz3 := hB3.size
            clear hO3 hW3 hog3 hB3 hWr hcr hcl
            go_wp2_with (at_builtin; refine wpList_append_own _ rfl _ _ 22 rfl w1.heap.size 3 i0 (.int .i64 0) 1 8 Try.underlying22 hi0 hz0 hz1 hz2 rfl (by decide) _ L.length (L.map (.int .i64)) rfl (HO3.out.alloc _) ⟨w3.heap.size, 0, none⟩ 1 1 [.int .i64 (n : Int)] rfl rfl ?c1 ?c2 ?c3 ?c4 ?c5 ?_)
            case c1 => exact World.news_of_block (cs := #[.int .i64 (n : Int)]) (t := 3) (fr := (0, 0)) (heap_alloc_new w3 _)
            case c2 => simp [Value.oneCell']
            case c3 => unfold maxLen; omega
            case c4 => omega
            case c5 => simp; omega
            intro v' w4 hown1 hgrow _
            have hp := OwnI.pushed HB3.out HO3.out hown1 hgrow
            have hbut : But (u8.ownBlock.toList) w3 w4 := ((But.refl _ w3).alloc _).grown hgrow (fun g e => .inl (by simp [e]))
            obtain ⟨n1, n2⟩ := rows_ne HW3.out HO3.out
            have hW4 := HW3.out.but hbut (by simpa using n1) (fun g e => by simpa using n2 g e)
            have hLS4 : LaidSoFar w1 w4 l (k + 1) v' := ⟨L ++ [(n : Int)], X', N', og', by rw [cdS_snoc, H1.out]; exact HX.out, by simp; omega, by simp; omega, fun t ht => by
              rcases List.mem_append.1 ht with h | h
              · exact H4.out t h
              · have : t = (n : Int) := by simpa using h
                rw [this]; exact HS.out, hp.1, hW4, HOG3.out, hp.2⟩
            have HLS4 := Lib.hid hLS4
            clear hown1 hgrow hp hbut n1 n2 hW4 hLS4 hcl3
            go_wp2
            go_roundw
            case rel => exact ⟨k + 1, by omega, by go_num, HLS4.out⟩
            case measure => simp [intOf]; omega
          · have hlay := lay1_out (b1 := w1.heap.size) (HT.out.but hB) hs
            have hlen := HL.out.1
            have hcase : s < 0 ∨ (0 ≤ s ∧ (len : Int) ≤ s) ∨ (0 ≤ s ∧ s < (len : Int) ∧ l.getD s.toNat 0 = 0) := by
              by_cases a1 : s < 0
              · exact .inl a1
              · by_cases a2 : (len : Int) ≤ s
                · exact .inr (.inl ⟨by omega, a2⟩)
                · refine .inr (.inr ⟨by omega, by omega, ?_⟩)
                  apply Classical.byContradiction; intro a3
                  exact hs (show 0 ≤ s ∧ s < l.length ∧ l.getD s.toNat 0 ≠ 0 from ⟨by omega, by omega, a3⟩)
            have hLS4 : LaidSoFar w1 wr l (k + 1) u8 := ⟨L, X, N, og, h1, by omega, h3, h4, hO, hW, hog, hB⟩
            have HLS4 := Lib.hid hLS4
            have HLAY := Lib.hid hlay
            have HB := Lib.hid hB
            have HLEN := Lib.hid hlen
            clear hlay hLS4 h1 h4 hO hW hog hB hs hcell hlen
            rcases hcase with a1 | ⟨a0, a1⟩ | ⟨a0, a1, a2⟩
            · go_wp2_with fail
              refine HLAY.out.mono ?_
              rintro e w3 ⟨rfl, rfl⟩
              go_wp2
              go_roundw
              case rel => exact ⟨k + 1, by omega, by go_num, HLS4.out⟩
              case measure => simp [intOf]; omega
            · go_wp2_with fail
              refine HLAY.out.mono ?_
              rintro e w3 ⟨rfl, rfl⟩
              go_wp2
              go_roundw
              case rel => exact ⟨k + 1, by omega, by go_num, HLS4.out⟩
              case measure => simp [intOf]; omega
            · obtain ⟨n, rfl⟩ : ∃ n : Nat, s = n := ⟨s.toNat, by omega⟩
              rw [Int.toNat_natCast] at a2
              have dnl : decide (n < len) = true := by simp; omega
              obtain ⟨gl, ol, rfl, _, hcl⟩ := HL.out.at (show n < len by omega)
              have hgd : l.getD n 0 = l[n]'(by have := HLEN.out; omega) := getD_get _
              rw [← hgd, a2] at hcl
              have hcl3 := HB.out.cell hcl (by simp)
              clear a2 hgd hcl
              go_wp2_with fail
              refine HLAY.out.mono ?_
              rintro e w3 ⟨rfl, rfl⟩
              go_wp2
              go_roundw
              case rel => exact ⟨k + 1, by omega, by go_num, HLS4.out⟩
              case measure => simp [intOf]; omega
        · obtain rfl : k = K := by omega
          have hLS2 : LaidSoFar w1 wr l 200 u8 := by
            obtain ⟨L, X, N, og, h1, h2, h3⟩ := hLS
            exact ⟨L, X, N, og, h1, by omega, h3⟩
          have HLS2 := Lib.hid hLS2
          clear hLS hLS2
          go_wp2_with fail
          all_goals (go_meet; exact HLS2.out)
    case rest =>
      obtain ⟨L, X, N, og, h1, h2, h3, h4, hO, hW, hog, hB⟩ := hcut
      clear HLS
      have hN9 : N ≤ 140737488355328 := by omega
      have HO := Lib.hid hO
      have HB := Lib.hid hB
      have H1 := Lib.hid h1
      have H4 := Lib.hid h4
      clear hO hB h1 h4 hog
      go_wp2_with fail
      refine (hW.text hN9).mono ?_
      rintro e w4 ⟨rfl, hB4⟩
      have hTs : (textOf X N).size ≤ 140737488355328 := by rw [textOf_size]; omega
      have hTl : 8 * (textOf X N).size - N < 8 := by rw [textOf_size]; omega
      have hback : ∀ k, (hk : k < L.length) → nextS l (textOf X N) (cdS l (L.take k)).2 = ((L[k]).toNat, 0, (cdS l (L.take (k + 1))).2) := fun k hk => laid_back HC.out H1.out hk (H4.out _ (List.getElem_mem hk))
      generalize textOf X N = T at *
      have HBACK := Lib.hid hback
      have HTL := Lib.hid hTl
      have hB14 := HB.out.trans hB4
      have hO4 := HO.out.but hB4 (by simp)
      obtain ⟨Av, cv, rfl, hIv, _⟩ := hO4.open
      have HIV := Lib.hid hIv
      have HB14 := Lib.hid hB14
      clear hback hTl hB4 hO4 hIv hB14 hW
      go_wp2_with fail
      refine (bits_read _ _).mono ?_
      rintro e w5 ⟨rfl, hR, hB5, hs5⟩
      have HR := Lib.hid hR
      have HB5 := Lib.hid hB5
      clear hR hB5 hs5
      go_wp2_with fail
      go_loopw [14] (fun iv wr => ∃ k : Nat, k ≤ L.length ∧ iv = .int .i64 k ∧ RS wr (w4.heap.size + 1) w4.heap.size T (cdS l (L.take k)).2 ∧ But [] w4 wr) (fun iv _ => L.length - (intOf iv).toNat)
      case atStart => exact ⟨0, Nat.zero_le _, rfl, HR.out, HB5.out⟩
      case round =>
        obtain ⟨k, hk, rfl, hR, hB⟩ := hrel
        clear HR HB5
        by_cases hlt : k < L.length
        · have hn := next_any (bt := bt) HC.out hR hTs (fun w' hw => HT.out.but ((HB14.out.trans hB).fresh hw (by have := HB14.out.size; simp; omega)))
          have hbk := HBACK.out k (by omega)
          have hh := H4.out _ (List.getElem_mem (show k < L.length by omega))
          obtain ⟨g, o, rfl, hg, hcell⟩ := HIV.out.at hlt
          generalize L[k]'(by omega) = s at *
          obtain ⟨n, rfl⟩ : ∃ n : Nat, s = n := ⟨s.toNat, by have := hh.1; omega⟩
          rw [Int.toNat_natCast] at hbk
          have HN := Lib.hid hn
          have HBK := Lib.hid hbk
          have HBR := Lib.hid hB
          have hk0 : (0 : Int) ≤ (k : Int) := by omega
          have hkl : (k : Int) < (L.length : Int) := by omega
          clear hn hbk hB hR hh
          go_wp2_with fail
          refine HN.out.mono ?_
          rintro e w6 ⟨q, hq, rfl, hR6, hB6⟩
          obtain rfl : q = (n, 0, (cdS l (L.take (k + 1))).2) := hq.symm.trans HBK.out
          have hB46 := HBR.out.fresh hB6 (by simp)
          have hcr := hB46.cell hcell (by simp)
          have HR6 := Lib.hid hR6
          have HB46 := Lib.hid hB46
          have b1 : ((n : Int) != (n : Int)) = false := by simp
          clear hq hR6 hB6 hB46 hcell
          dsimp only at HR6 ⊢
          go_wp2
          go_roundw
          case rel => exact ⟨k + 1, by omega, by go_num, HR6.out, HB46.out⟩
          case measure => simp [intOf]; omega
        · have hkL : k = L.length := by omega
          rw [hkL, List.take_length, H1.out] at hR
          have hleft := hR.left hTs
          obtain ⟨z, hz⟩ : ∃ z, z = 8 * T.size - N := ⟨_, rfl⟩
          have hz8 : z < 8 := by rw [hz]; exact HTL.out
          dsimp only at hleft
          rw [← hz] at hleft
          have hz9 : decide ((z : Int) < 8) = true := by simp; omega
          have HLEFT := Lib.hid hleft
          have HBR := Lib.hid hB
          clear hR hleft hz hB
          go_wp2_with fail
          refine HLEFT.out.mono ?_
          rintro e w6 ⟨rfl, nq, rfl⟩
          go_wp2_with fail
          refine (awake_any _).mono ?_
          rintro e w7 ⟨rfl, hB7⟩
          have HF := Lib.hid ((HB1.out.trans (HB14.out.trans ((HBR.out.drewN nq).trans hB7))).belowNew)
          clear hB7
          go_wp2
          go_ret
          exact ⟨rfl, HF.out⟩
  · have hmk := make_err (cap := cap) hl hm hc
    have hx0 : (chk l == 0) = false := by simpa using hc
    have hxs : chk l = 1 ∨ chk l = 10 ∨ chk l = 11 := by
      rcases chk_cases l with h | h | h | h <;> simp_all
    generalize chk l = x at *
    have HM := Lib.hid hmk
    clear hmk hnil hl
    rcases hxs with rfl | rfl | rfl
    all_goals
      go_enter Try.func8, Try.ntmps8
      go_wp2_with fail
      refine HM.out.mono ?_
      rintro e w1 ⟨rfl, rfl⟩
      go_wp2_with fail
      refine (awake_any _).mono ?_
      rintro e w3 ⟨rfl, hB3⟩
      have HF := Lib.hid hB3.belowNew
      go_wp2
      go_ret
      exact ⟨rfl, HF.out⟩
end Go.Proofs.Ytmafcmfafcjokaa
