/- Several texts in one: PyD (what PixelImages, PixelRows, PixelSame reach of them). -/
import Derived.Test.YtfiedoejdikcgaaDoorQ01
import Derived.Test.YtfiedoejdikcgaaDoorQ02
import Derived.Test.YtfiedoejdikcgaaDoorQ03
import Derived.Test.YtfiedoejdikcgaaDoorQ05
import Derived.Test.YtfiedoejdikcgaaDoorQ06
import Derived.Test.YtfiedoejdikcgaaDoorQ07
import Derived.Test.YtfiedoejdikcgaaDoorQ08
import Derived.Test.YtfiedoejdikcgaaDoorQ09
import Derived.Test.YtfiedoejdikcgaaDoorQ12
import Derived.Test.YtfiedoejdikcgaaDoorQ16
import Derived.Below
import Derived.BigQuiet
import Derived.BigRegion
import Derived.Deep.AppendLies
import Derived.Deep.CutBlock
import Derived.Deep.CutRange
import Derived.Deep.DeepCutAuto
import Derived.Deep.Draws
import Derived.Deep.QuietTactic
import Derived.Deep.RegionLaw
import Derived.Deep.RegionWith
import Derived.Handy
import Derived.Laws.BitsAllLaws
import Derived.Laws.BitsLemmas
import Derived.Laws.BytesArg
import Derived.Laws.IdiomStrings
import Derived.Laws.MakeOwn
import Derived.Laws.OwnMore
import Derived.Laws.Rows
import Derived.Laws.StructEq
import Derived.Lib.BufferWrite
import Derived.Lib.Hide
import Derived.LoopIn
import Derived.LoopNIn
import Derived.Maps.AppendAt
import Derived.OrdersHeld
import Derived.OrdersIn
import Derived.Outline
import Derived.OwnWalk
import Derived.OwnWalkIn
import Derived.RangeFuncBound
import Derived.RangeFuncCalls
import Derived.RangeFuncLeaves
import Derived.RangeFuncNested
import Derived.RegionTactic
import Derived.Shelf.Abstract
import Derived.Shelf.RegionOpen
import Derived.Sort.CutIn
import Derived.TacticsInMore
import Derived.Test.YtfiedoejdikcgaaDoorChecked
import Derived.WalkKit
set_option maxRecDepth 100000
set_option linter.unusedVariables false
set_option maxRecDepth 100000
set_option linter.unusedVariables false
namespace Go.Proofs.YtfiedoejdikcgaaDoor
set_option maxRecDepth 100000
open Go Go.RowKit
theorem But.l2 {w w' : World} {a b : Nat} (h : But [a] w w') : But [a, b] w w' := h.more fun k hk => by simp at hk ⊢; exact .inl hk
theorem But.r2 {w w' : World} {a b : Nat} (h : But [b] w w') : But [a, b] w w' := h.more fun k hk => by simp at hk ⊢; exact .inr hk
theorem But.w2 {w w' : World} {a b : Nat} (h : But [] w w') : But [a, b] w w' := h.more fun k hk => by cases hk
/-- What an image's data leave, ahead of a row: the data, the line above, the raster's bytes. -/
structure LeftS (IM : List UInt8 × Int) (SS : ShP) (js : List RowJ) (n n8 : Nat) (first : Prop) (re ab : ByteArray) (pix : List UInt8) : Prop where
  im : IM = runI SS js re.data.toList ab.data.toList pix
  sj : re.size = sizeJ SS js
  big : re.size ≤ 140737488351232
  ab0 : first → ab.data.toList = []
  abn : ab.size = 0 ∨ ab.size = n
  pl : pix.length = n8
set_option maxHeartbeats 4000000 in
theorem paddPass_any (w : World) {W H D C : Nat} {l : Int} {pal tr rest : ByteArray} {has : Bool} {bm gp n8 n : Nat} {SS : ShP} {pix : List UInt8} {p : PassL} {JS : List RowJ} {IM : List UInt8 × Int} (hSS : SS = ⟨W, H, D, C, pal.data.toList, tr.data.toList, has⟩) (h0 : rightH (W : Int) H D C l = 0) (R : RightP (W : Int) H D C l W H D C) (hI : Is w bm 48 #[.int .i64 W, .int .i64 H, .int .i64 D, .int .i64 C, .int .i64 l, .string pal, .string tr, .bool has, .string rest, .slice (some ⟨gp, 0, none⟩) n8 n8]) (hX : BytesB w gp pix) (hn8 : n8 = 8 * (W * H))
    (hp : pal.size ≤ 140737488351232) (ht : tr.size ≤ 140737488351232) (hbase : p ∈ baseL l) (hsome : someP W H p = true) (hn : n = rowLen SS (manyL W p.x p.dx)) (hL : LeftS IM SS (leftP W H p 0 ++ JS) n n8 True rest ⟨#[]⟩ pix) :
    Calls Tryd.prog 23 #[.pointer (some ⟨bm, 0, none⟩), .agg #[.int .i64 p.x, .int .i64 p.y, .int .i64 p.dx, .int .i64 p.dy, .int .i64 (manyL W p.x p.dx : Nat), .int .i64 (manyL H p.y p.dy : Nat)]] w fun e w' => ∃ er : Int, e = .returned (.int .i64 er) ∧ (er ≠ 0 → IM = ([], er)) ∧ (er = 0 → ∃ (re ab : ByteArray) (pix2 : List UInt8), LeftS IM SS JS n n8 False re ab pix2 ∧ Is w' bm 48 #[.int .i64 W, .int .i64 H, .int .i64 D, .int .i64 C, .int .i64 l, .string pal, .string tr, .bool has, .string re, .slice (some ⟨gp, 0, none⟩) n8 n8] ∧ BytesB w' gp pix2) ∧ But [bm, gp] w w' := by
  have hsm := of_decide_eq_true hsome
  obtain ⟨⟨hx7, hy7⟩, ⟨hdx1, hdx8⟩, hdy1, hdy8⟩ := base_small hbase
  have hokp := base_ok l p hbase
  have w2 := R.w2
  have h2 := R.h2
  have hWle := manyL_le W p.x p.dx hdx1
  have hHle := manyL_le H p.y p.dy hdy1
  have HPLC : Hid (∀ y, y < manyL H p.y p.dy → ∀ x, x < manyL W p.x p.dx → p.x + x * p.dx < W ∧ p.y + y * p.dy < H) := Lib.hid fun y h2 x h1 => place_lt hokp h2 h1
  have HJOB : Hid (∀ y, (jobP W p y).n = manyL W p.x p.dx ∧ (jobP W p y).x = p.x ∧ (jobP W p y).dx = p.dx ∧ (jobP W p y).y = p.y + y * p.dy ∧ ((jobP W p y).first = true ↔ y = 0)) := Lib.hid fun y => ⟨rfl, rfl, rfl, rfl, by show decide (y = 0) = true ↔ y = 0; exact decide_eq_true_iff⟩
  have HLN : Hid (∀ y, y < manyL H p.y p.dy → leftP W H p y ++ JS = jobP W p y :: (leftP W H p (y + 1) ++ JS)) := Lib.hid fun y hy => by rw [leftP_next hy]; rfl
  have HLE : Hid (∀ y, manyL H p.y p.dy ≤ y → leftP W H p y ++ JS = JS) := Lib.hid fun y hy => by rw [leftP_end hy]; rfl
  obtain ⟨px, hpx⟩ : ∃ z, z = p.x := ⟨_, rfl⟩
  obtain ⟨py, hpy⟩ : ∃ z, z = p.y := ⟨_, rfl⟩
  obtain ⟨dx, hdx⟩ : ∃ z, z = p.dx := ⟨_, rfl⟩
  obtain ⟨dy, hdy⟩ : ∃ z, z = p.dy := ⟨_, rfl⟩
  obtain ⟨Wp, hWp⟩ : ∃ z, z = manyL W p.x p.dx := ⟨_, rfl⟩
  obtain ⟨Hp, hHp⟩ : ∃ z, z = manyL H p.y p.dy := ⟨_, rfl⟩
  rw [← hWp, ← hHp] at hsm HPLC
  rw [← hWp] at HJOB hWle hn ⊢
  rw [← hHp] at HLN HLE hHle ⊢
  rw [← hpx, ← hpy, ← hdx, ← hdy] at HJOB HPLC ⊢
  obtain ⟨hWp1, hHp1⟩ := hsm
  have hnl : n ≤ 8192 := by rw [hn, hSS]; exact rowLen_le R _ _ _ (by omega)
  have hbp := rowLen_one h0 R pal.data.toList tr.data.toList has
  rw [← hSS] at hbp
  obtain ⟨_, hbp8, hbp1⟩ := hbp
  obtain ⟨bp, hbpe⟩ : ∃ z, z = bppN SS := ⟨_, rfl⟩
  have HNX : Hid (∀ (v : World) (re ab : ByteArray), Is v bm 48 #[.int .i64 W, .int .i64 H, .int .i64 D, .int .i64 C, .int .i64 l, .string pal, .string tr, .bool has, .string re, .slice (some ⟨gp, 0, none⟩) n8 n8] → 1 + n ≤ re.size → re.size ≤ 140737488351232 → ab.size ≤ 140737488351232 → Calls Tryd.prog 43 #[.pointer (some ⟨bm, 0, none⟩), .int .i64 (Wp : Nat), .string ab] v fun e w' => e = .returned (.tuple #[.string (strL (undoA (bp : Nat) (kindJ re.data.toList : Nat) (strL ((re.data.toList.drop 1).take n)) ab)), .int .i64 (wrongF (bp : Nat) (kindJ re.data.toList : Nat) (strL ((re.data.toList.drop 1).take n)) ab)]) ∧ Is w' bm 48 #[.int .i64 W, .int .i64 H, .int .i64 D, .int .i64 C, .int .i64 l, .string pal, .string tr, .bool has, .string (strL (re.data.toList.drop (1 + n))), .slice (some ⟨gp, 0, none⟩) n8 n8] ∧ But [bm] v w') := Lib.hid fun v re ab k1 k2 k3 k4 => by
    rw [hbpe]
    exact pnext12_any v hSS h0 R k1 hWp1 (by omega) hn k2 k3 k4
  have HAR : Hid (∀ (v : World) (y : Nat) (re : ByteArray) (ln pix : List UInt8) (j : RowJ), y < Hp → Is v bm 48 #[.int .i64 W, .int .i64 H, .int .i64 D, .int .i64 C, .int .i64 l, .string pal, .string tr, .bool has, .string re, .slice (some ⟨gp, 0, none⟩) n8 n8] → BytesB v gp pix → pix.length = n8 → ln.length = n → (j.n = Wp ∧ j.x = px ∧ j.dx = dx ∧ j.y = py + y * dy) → Calls Tryd.prog 44 #[.pointer (some ⟨bm, 0, none⟩), .agg #[.int .i64 px, .int .i64 py, .int .i64 dx, .int .i64 dy, .int .i64 Wp, .int .i64 Hp], .int .i64 (y : Nat), .string (strL ln)] v fun e w' => e = .returned (.int .i64 (pixGo SS ln j j.n 0 pix).2) ∧ ((pixGo SS ln j j.n 0 pix).2 = 0 → BytesB w' gp (pixGo SS ln j j.n 0 pix).1 ∧ (pixGo SS ln j j.n 0 pix).1.length = n8) ∧ But [gp] v w') := Lib.hid fun v y re ln pix j hy k1 k2 k3 k4 k5 =>
    paddRow_any v hSS R k1 k2 k3 hn8 hp ht hWp1 (by omega) (by rw [k4, hn]) k5 (HPLC.out y hy)
  have HBN : Hid (bppN SS = bp) := Lib.hid hbpe.symm
  rw [← hbpe] at hbp8 hbp1
  have HN := Lib.hid hn
  obtain ⟨b3, hb3⟩ : ∃ g, g = w.heap.size := ⟨_, rfl⟩
  obtain ⟨w1, hw1⟩ : ∃ X, X = w.alloc (.cells #[.int .i64 px, .int .i64 py, .int .i64 dx, .int .i64 dy, .int .i64 Wp, .int .i64 Hp] 52) := ⟨_, rfl⟩
  have hP3 : Is w1 b3 52 #[.int .i64 px, .int .i64 py, .int .i64 dx, .int .i64 dy, .int .i64 Wp, .int .i64 Hp] := by rw [hw1, hb3]; exact Is.fresh _ _ _
  have hB1 : But [] w w1 := by rw [hw1]; exact (But.refl [] w).alloc _
  have HX1 := Lib.hid (hX.but hB1 (by simp))
  have HI1 := Lib.hid (hI.but hB1 (by simp))
  have HB1 := Lib.hid hB1
  have HOFF : Hid (bm ∉ [gp] ∧ gp ∉ [bm] ∧ b3 ∉ [bm, gp]) := Lib.hid (by
    have k1 := hX.off (hI.cell 0)
    have k2 := HX1.out.off (hP3.cell 0)
    have k3 := hI.lt
    rw [List.mem_singleton] at k1 k2
    refine ⟨by rw [List.mem_singleton]; exact k1, by rw [List.mem_singleton]; omega, ?_⟩
    simp only [List.mem_cons, List.not_mem_nil, or_false]
    omega)
  have HP : Hid (∀ v, But [bm, gp] w1 v → v.cell? ⟨b3, 0, none⟩ = some (.int .i64 px) ∧ v.cell? ⟨b3, 1, none⟩ = some (.int .i64 py) ∧ v.cell? ⟨b3, 2, none⟩ = some (.int .i64 dx) ∧ v.cell? ⟨b3, 3, none⟩ = some (.int .i64 dy) ∧ v.cell? ⟨b3, 4, none⟩ = some (.int .i64 Wp) ∧ v.cell? ⟨b3, 5, none⟩ = some (.int .i64 Hp) ∧ b3 < v.heap.size) := Lib.hid fun v hv => by
    have hh := hP3.but hv HOFF.out.2.2
    exact ⟨hh.cell 0, hh.cell 1, hh.cell 2, hh.cell 3, hh.cell 4, hh.cell 5, hh.lt⟩
  have HL := Lib.hid hL
  clear hL hX hI hP3 hB1 hn hn8 hbpe hpx hpy hdx hdy hWp hHp hokp hbase hsome hx7 hy7 hSS h0 R
  go_enter Tryd.func23, Tryd.ntmps23
  go_upto_region 1 with (fail)
  rw [← hw1, ← hb3]
  clear hw1 hb3
  obtain ⟨p0, p1, p2, p3, p4, p5, hg3⟩ := HP.out _ (But.refl _ _)
  go_wp2_with fail
  go_loopw [5, 12] (fun av yv wx => ∃ (y : Nat) (re ab : ByteArray) (pix : List UInt8), y ≤ Hp ∧ yv = .int .i64 y ∧ av = .string ab ∧ Hid (LeftS IM SS (leftP W H p y ++ JS) n n8 (y = 0) re ab pix) ∧ Hid (Is wx bm 48 #[.int .i64 W, .int .i64 H, .int .i64 D, .int .i64 C, .int .i64 l, .string pal, .string tr, .bool has, .string re, .slice (some ⟨gp, 0, none⟩) n8 n8]) ∧ Hid (BytesB wx gp pix) ∧ Hid (But [bm, gp] w1 wx)) (fun _ yv _ => Hp - (intOf yv).toNat)
  case atStart => exact ⟨0, rest, ⟨#[]⟩, pix, Nat.zero_le _, rfl, rfl, Lib.hid ⟨HL.out.im, HL.out.sj, HL.out.big, fun _ => rfl, .inl rfl, HL.out.pl⟩, HI1, HX1, Lib.hid (But.refl _ _)⟩
  case round =>
    clear HL HI1 HX1 p0 p1 p2 p3 p4 p5 hg3
    obtain ⟨y, re, ab, pix1, hy, rfl, rfl, HL, HI, HX, HB⟩ := hrel
    obtain ⟨p0, p1, p2, p3, p4, p5, hg3⟩ := HP.out _ HB.out
    by_cases hyl : y < Hp
    · obtain ⟨j, hj⟩ : ∃ j, j = jobP W p y := ⟨_, rfl⟩
      have HJ : Hid (j.n = Wp ∧ j.x = px ∧ j.dx = dx ∧ j.y = py + y * dy ∧ (j.first = true ↔ y = 0)) := Lib.hid (by rw [hj]; exact HJOB.out y)
      have HLNy : Hid (leftP W H p y ++ JS = j :: (leftP W H p (y + 1) ++ JS)) := Lib.hid (by rw [hj]; exact HLN.out y hyl)
      obtain ⟨J2, hJ2⟩ : ∃ J2, J2 = leftP W H p (y + 1) ++ JS := ⟨_, rfl⟩
      rw [← hJ2] at HLNy
      have HJ2 := Lib.hid hJ2
      have hsz2 : re.size = 1 + n + sizeJ SS J2 := by rw [HL.out.sj, HLNy.out, sizeJ_cons, HJ.out.1, HN.out]
      have HSZ2 := Lib.hid hsz2
      have hrl : re.data.toList.length = re.size := by rw [Array.length_toList]; rfl
      have HNXy := Lib.hid fun (v : World) (hv : Is v bm 48 #[.int .i64 W, .int .i64 H, .int .i64 D, .int .i64 C, .int .i64 l, .string pal, .string tr, .bool has, .string re, .slice (some ⟨gp, 0, none⟩) n8 n8]) => HNX.out v re ab hv (by omega) HL.out.big (by rcases HL.out.abn with h | h <;> omega)
      obtain ⟨kd, hkd⟩ : ∃ z, z = kindJ re.data.toList := ⟨_, rfl⟩
      rw [← hkd] at HNXy
      have HKD := Lib.hid hkd
      obtain ⟨seg, hseg⟩ : ∃ z, z = strL ((re.data.toList.drop 1).take n) := ⟨_, rfl⟩
      rw [← hseg] at HNXy
      have hsegl : seg.size = n := by rw [hseg, strL_size, List.length_take, List.length_drop, hrl]; omega
      obtain ⟨ln, hln⟩ : ∃ z, z = lineJ SS j re.data.toList ab.data.toList := ⟨_, rfl⟩
      have hln2 : ln = undoF (kd : Nat) bp seg.data.toList ab.data.toList := by
        rw [hln]
        unfold lineJ
        have hfa : (if j.first = true then [] else ab.data.toList) = ab.data.toList := by
          by_cases hf : j.first = true
          · rw [if_pos hf, HL.out.ab0 (HJ.out.2.2.2.2.1 hf)]
          · rw [if_neg hf]
        rw [hfa, HBN.out, hkd, hseg, strL_list, HJ.out.1, HN.out]
      have hlnl : ln.length = n := by rw [hln2, undoF_length, Array.length_toList]; exact hsegl
      have hw0 : wrongP (bp : Int) seg ab = 0 := by
        unfold wrongP
        refine if_neg ?_
        rintro (h | h | ⟨h, h'⟩)
        · omega
        · omega
        · rcases HL.out.abn with h2 | h2
          · exact h h2
          · exact h' (by rw [h2, hsegl])
      obtain ⟨us, hus⟩ : ∃ z, z = strL (undoA (bp : Int) (kd : Int) seg ab) := ⟨_, rfl⟩
      obtain ⟨er, her⟩ : ∃ z, z = wrongF (bp : Int) (kd : Int) seg ab := ⟨_, rfl⟩
      rw [← her, ← hus] at HNXy
      have HER4 : Hid (4 < kd → er = 28) := Lib.hid fun hk => by
        rw [her]
        unfold wrongF
        rw [hw0, if_neg (fun h => h rfl), if_pos (by omega)]
      have HER0 : Hid (¬ 4 < kd → er = 0 ∧ us = strL ln) := Lib.hid fun hk => by
        have her0 : wrongF (bp : Int) (kd : Int) seg ab = 0 := by
          unfold wrongF
          rw [hw0, if_neg (fun h => h rfl), if_neg (by omega)]
        exact ⟨by rw [her, her0], by rw [hus, undoA_ok her0, hln2]⟩
      have HLNe := Lib.hid hln
      have HLNl := Lib.hid hlnl
      obtain ⟨re2, hre2⟩ : ∃ z, z = strL (re.data.toList.drop (1 + n)) := ⟨_, rfl⟩
      rw [← hre2] at HNXy
      have HRE2 : Hid (re2.data.toList = re.data.toList.drop (1 + rowLen SS j.n)) := Lib.hid (by rw [hre2, strL_list, HJ.out.1, HN.out])
      have HRS2 : Hid (re2.size = sizeJ SS J2) := Lib.hid (by rw [hre2, strL_size, List.length_drop, hrl]; omega)
      have HRL2 : Hid (re2.size ≤ 140737488351232) := Lib.hid (by rw [HRS2.out]; have := HL.out.big; omega)
      have i0 : (0 : Int) ≤ (y : Int) := by omega
      have i1 : (y : Int) < (Hp : Int) := by omega
      clear hj hJ2 hsz2 hrl hkd hseg hsegl hln hln2 hlnl hw0 hus her hre2
      go_wp2_with fail
      refine (HNXy.out _ HI.out).mono ?_
      rintro e w3 ⟨rfl, hI3, hB3⟩
      have HI3 := Lib.hid hI3
      have HX3 := Lib.hid (HX.out.but hB3 HOFF.out.2.1)
      have HB3 := Lib.hid (HB.out.trans hB3.l2)
      clear hI3 hB3 p0 p1 p2 p3 p4 p5 hg3
      by_cases hk : 4 < kd
      · obtain rfl := HER4.out hk
        have HRE : Hid (IM = ([], 28)) := Lib.hid (by rw [HL.out.im, HLNy.out]; exact runI_bad (by rw [← HKD.out]; exact hk))
        go_wp2
        go_ret
        exact ⟨28, rfl, fun _ => HRE.out, fun h => absurd h (by decide), HB1.out.w2.trans HB3.out⟩
      · obtain ⟨rfl, hus⟩ := HER0.out hk
        subst hus
        have HKD2 : Hid (¬ 4 < kindJ re.data.toList) := Lib.hid (by rw [← HKD.out]; exact hk)
        have HARy : Hid (∀ v, Is v bm 48 #[.int .i64 W, .int .i64 H, .int .i64 D, .int .i64 C, .int .i64 l, .string pal, .string tr, .bool has, .string re2, .slice (some ⟨gp, 0, none⟩) n8 n8] → BytesB v gp pix1 → Calls Tryd.prog 44 #[.pointer (some ⟨bm, 0, none⟩), .agg #[.int .i64 px, .int .i64 py, .int .i64 dx, .int .i64 dy, .int .i64 Wp, .int .i64 Hp], .int .i64 (y : Nat), .string (strL ln)] v fun e w' => e = .returned (.int .i64 (pixGo SS ln j j.n 0 pix1).2) ∧ ((pixGo SS ln j j.n 0 pix1).2 = 0 → BytesB w' gp (pixGo SS ln j j.n 0 pix1).1 ∧ (pixGo SS ln j j.n 0 pix1).1.length = n8) ∧ But [gp] v w') := Lib.hid fun v k1 k2 =>
          HAR.out v y re2 ln pix1 j hyl k1 k2 HL.out.pl HLNl.out ⟨HJ.out.1, HJ.out.2.1, HJ.out.2.2.1, HJ.out.2.2.2.1⟩
        obtain ⟨PG, hPG⟩ : ∃ PG, PG = pixGo SS ln j j.n 0 pix1 := ⟨_, rfl⟩
        rw [← hPG] at HARy
        have HPG : Hid (PG = pixGo SS (lineJ SS j re.data.toList ab.data.toList) j j.n 0 pix1) := Lib.hid (by rw [← HLNe.out]; exact hPG)
        obtain ⟨e2, he2⟩ : ∃ z, z = PG.2 := ⟨_, rfl⟩
        rw [← he2] at HARy
        have HE2 := Lib.hid he2
        obtain ⟨ls, hls⟩ : ∃ z, z = strL ln := ⟨_, rfl⟩
        rw [← hls] at HARy ⊢
        have HLS := Lib.hid hls
        clear hPG he2 hls
        obtain ⟨p0, p1, p2, p3, p4, p5, hg3⟩ := HP.out _ HB3.out
        go_wp2_with fail
        refine (HARy.out _ HI3.out HX3.out).mono ?_
        rintro e w4 ⟨rfl, hX4, hB4⟩
        have HX4 := Lib.hid hX4
        have HI4 := Lib.hid (HI3.out.but hB4 HOFF.out.1)
        have HB4 := Lib.hid (HB3.out.trans hB4.r2)
        clear hX4 hB4 p0 p1 p2 p3 p4 p5 hg3
        by_cases h0 : e2 = 0
        · subst h0
          have HX5 := Lib.hid (HX4.out rfl).1
          have HPGL := Lib.hid (HX4.out rfl).2
          have HL5 : Hid (LeftS IM SS J2 n n8 (y + 1 = 0) re2 ls PG.1) := Lib.hid ⟨by
            rw [HL.out.im, HLNy.out, runI_go HKD2.out (by rw [← HPG.out, ← HE2.out]), ← HPG.out, HRE2.out, HLS.out, strL_list, HLNe.out], HRS2.out, HRL2.out, fun h => absurd h (by omega), .inr (by rw [HLS.out, strL_size, HLNl.out]), HPGL.out⟩
          rw [HJ2.out] at HL5
          go_wp2
          go_roundw
          case rel => exact ⟨y + 1, re2, ls, PG.1, by omega, by go_num, rfl, HL5, HI4, HX5, HB4⟩
          case measure => simp [intOf] <;> omega
        · have q1 : (e2 != 0) = true := by simpa using h0
          have HRE : Hid (IM = ([], e2)) := Lib.hid (by rw [HL.out.im, HLNy.out, HE2.out, HPG.out]; exact runI_err HKD2.out (by rw [← HPG.out, ← HE2.out]; exact h0))
          go_wp2
          go_ret
          exact ⟨e2, rfl, fun _ => HRE.out, fun h => absurd h h0, HB1.out.w2.trans HB4.out⟩
    · have HL5 : Hid (LeftS IM SS JS n n8 False re ab pix1) := Lib.hid (by
        have h := HL.out
        rw [HLE.out y (by omega)] at h
        exact ⟨h.im, h.sj, h.big, fun h => h.elim, h.abn, h.pl⟩)
      obtain rfl : Hp = y := by omega
      go_wp2
      go_ret
      exact ⟨0, rfl, fun h => absurd rfl h, fun _ => ⟨re, ab, pix1, HL5.out, HI.out, HX.out⟩, HB1.out.w2.trans HB.out⟩
end Go.Proofs.YtfiedoejdikcgaaDoor
