/- The program's repetitions of lengths. -/
import Derived.Test.YtobmghjpfkdooaaDoorSmT
namespace Go.Proofs.YtobmghjpfkdooaaDoor
set_option maxRecDepth 100000
open Go Go.RowKit

section
variable {w0 w w' : World} {b rb db : Nat} {og : Option Nat} {s : ByteArray} {p : Nat} {M : Int} {L : List UInt8} {fs fd : Option Nat}
def repBits (t : Nat) : Nat := if t = 16 then 2 else if t = 17 then 3 else 7
def repLeast (t : Nat) : Nat := if t = 16 then 3 else if t = 17 then 3 else 11
def rRep (t : Nat) (acc : List Int) : Rd (List Int) := rWhen (t = 16 ∧ acc.length = 0) 12 (rBind (rBits (repBits t)) fun x => rPure (acc ++ List.replicate (repLeast t + x) (if t = 16 then acc.getD (acc.length - 1) 0 else 0)))
/-- A step told lengths of the call's own, or an error. -/
def GotL (w0 : World) (b rb db : Nat) (og : Option Nat) (s : ByteArray) (M : Int) (L : List UInt8) (fs fd : Option Nat) (r : Except Int (List Int × Nat)) (e : Ending) (w' : World) : Prop :=
  ∃ (v : Value) (er : Int) (q : Nat) (acc : List Int), e = .returned (.tuple #[v, .int .i64 er]) ∧ Mv b rb w0 w' og og ∧ (er ≠ 0 → r = .error er) ∧
    (er = 0 → r = .ok (acc, q) ∧ SS w' b rb db og s q M L fs fd ∧ OwnI w' w0.heap.size v acc)

theorem repeatedI (x : Int) {n : Nat} {i : Int} (hi : i = n) (w : World) (hn0 : 0 < n) (hn : n ≤ 100000) :
    Calls Tryd.prog 41 #[.int .i64 x, .int .i64 i] w fun e w' => ∃ gg cc, e = .returned (.slice (some ⟨gg, 0, none⟩) n cc) ∧ OwnI w' w.heap.size (.slice (some ⟨gg, 0, none⟩) n cc) (List.replicate n x) ∧ But [] w w' := by
  subst hi; exact repeated_any x w hn0 hn
theorem own_free {base : Nat} {v : Value} {l : List Int} {S : List Nat} (h : OwnI w base v l) (hS : ∀ k ∈ S, k < base) : ∀ k ∈ S, v.ownBlock ≠ some k := fun k hk e => by
  have := (World.ownsRow.lt h k e).1
  have := hS k hk
  omega
theorem repeat0 {t : Nat} {v : Value} {acc : List Int} (ht : t = 17 ∨ t = 18) (h : SS w b rb db og s p M L fs fd) (hG : Keep (Foot b rb og) w0 GL) (hM : Mv b rb w0 w og og) (hO : OwnI w w0.heap.size v acc) (ha : acc.length ≤ 400) (hfl : ∀ k ∈ Foot b rb og, k < w0.heap.size) :
    Calls Tryd.prog 52 #[.pointer (some ⟨b, 0, none⟩), .int .i64 t, v] w (GotL w0 b rb db og s M L fs fd (rRep t acc s p)) := by
  have hr : rRep t acc s p = rBind (rBits (repBits t)) (fun x => rPure (acc ++ List.replicate (repLeast t + x) 0)) s p := by
    unfold rRep
    rw [when_not (by omega)]
    simp only [if_neg (show ¬ t = 16 by omega)]
  have hin := h.inCell
  have hbt := h.drew.bits (repBits t)
  have hg := hG w hM.but
  have hrb : repBits t ≤ 7 := by unfold repBits; split <;> (try split) <;> omega
  have hrl : 3 ≤ repLeast t ∧ repLeast t ≤ 11 := by unfold repLeast; split <;> (try split) <;> omega
  have k1 := hg.bits
  have hk : ∀ x : World, GL x → x.cell? ⟨1, t - 16, none⟩ = some (.int .i64 (repBits t : Nat)) ∧ x.cell? ⟨2, t - 16, none⟩ = some (.int .i64 (repLeast t : Nat)) := fun x hx => by
    rcases ht with rfl | rfl
    · exact ⟨hx.bits.2.1, hx.least.2.1⟩
    · exact ⟨hx.bits.2.2, hx.least.2.2⟩
  have hcell := (hk w hg).1
  obtain ⟨kd, hkd⟩ : ∃ kd, kd = t - 16 := ⟨_, rfl⟩
  rw [← hkd] at hcell hk
  have hkt : (t : Int) - 16 = (kd : Int) := by omega
  have hkw : IntKind.i64.wrap (kd : Int) = (kd : Int) := IntWalk.i64_in _ (by omega)
  have b0 : (0 : Int) ≤ (kd : Int) := by omega
  have b1 : (kd : Int) < 3 := by omega
  have d16 : ((t : Int) == 16) = false := by simp; omega
  obtain ⟨nb, hnb⟩ : ∃ nb, nb = repBits t := ⟨_, rfl⟩
  obtain ⟨nl, hnl⟩ : ∃ nl, nl = repLeast t := ⟨_, rfl⟩
  rw [← hnb] at hr hbt hrb hk hcell
  rw [← hnl] at hr hrl hk
  have HR := Lib.hid hr
  have HBT := Lib.hid hbt
  have HG := Lib.hid hG
  have HK := Lib.hid hk
  have HM := Lib.hid hM
  have HO := Lib.hid hO
  have HA := Lib.hid ha
  have hbw := hM.but.size
  have HC := Lib.hid hcell
  have HIN := Lib.hid hin
  have HKD := Lib.hid hkd
  have HFL := Lib.hid hfl
  obtain ⟨i0, hi0, hz0, hz1, hz2⟩ := info_parts info_int
  clear h hG hM hO hr hbt hg k1 hk ha hnb hnl hkd hcell hin hfl ht
  go_enter Tryd.func52, Tryd.ntmps52
  go_upto_region 7 with (fail)
  go_cut [10, 11] (fun v10 v11 wc => ∃ (x : Nat) (er : Int) (q : Nat), v10 = .int .i64 x ∧ v11 = .int .i64 er ∧ Hid (Mv b rb w wc og og) ∧ Hid (er ≠ 0 → rBits nb s p = .error er) ∧ Hid (er = 0 → rBits nb s p = .ok (x, q) ∧ SS wc b rb db og s q M L fs fd))
  case first =>
    have hin : w.drew.cell? ⟨b, 0, none⟩ = some (.pointer (some ⟨rb, 0, none⟩)) := HIN.out
    have hcell : w.drew.cell? ⟨1, kd, none⟩ = some (.int .i64 (nb : Nat)) := HC.out
    go_region_with (go_at_call 27; refine HBT.out.mono ?_; rintro e w1 ⟨x, er, q, rfl, hMv, he1, he2⟩; have HMV := Lib.hid hMv; have HE1 := Lib.hid he1; have HE2 := Lib.hid he2; clear hMv he1 he2)
    all_goals
      (try go_wp2)
      go_meet
      exact ⟨_, _, _, rfl, rfl, Mv.drew.trans HMV.out, HE1.out, HE2.out⟩
  case rest =>
    obtain ⟨x, er, q, rfl, rfl, HMV, HE1, HE2⟩ := hcut
    obtain ⟨w1, rfl⟩ : ∃ w1 : World, w1 = wc := ⟨_, rfl⟩
    clear HBT HIN HC
    by_cases her : er = 0
    · obtain ⟨hrb1, hS⟩ := HE2.out her
      have hx := rBits_lt hrb1
      have hx2 : x < 2 ^ 7 := Nat.lt_of_lt_of_le hx (Nat.pow_le_pow_right (by decide) hrb)
      have HRB := Lib.hid hrb1
      have HS := Lib.hid hS
      have hMW := HM.out.trans HMV.out
      have hl1 := (HK.out w1 (HG.out w1 hMW.but)).2
      have hw1 := HMV.out.but.size
      have hrep := repeatedI 0 (n := nl + x) (i := (nl : Int) + (x : Int)) (by omega) w1 (by omega) (by omega)
      have hO1 : OwnI w1 w0.heap.size v acc := HO.out.but HMV.out.but (own_free HO.out HFL.out)
      have HREP := Lib.hid hrep
      have HO1 := Lib.hid hO1
      have HMW := Lib.hid hMW
      clear hrb1 hS hMW hrep hO1 HE1 HE2 hx
      subst her
      go_wp2_with fail
      refine HREP.out.mono ?_
      rintro e w2 ⟨gg, cc, rfl, hOr, hB2⟩
      have hO2 := HO1.out.but hB2 (by simp)
      have hnw := hOr.ints.news (by omega)
      have hsz := hB2.size
      have hm2 : Mv b rb w1 w2 og og := Mv.of hB2 (by simp)
      obtain ⟨nn, hnn⟩ : ∃ nn, nn = nl + x := ⟨_, rfl⟩
      obtain ⟨la, hla⟩ : ∃ la, la = acc.length := ⟨_, rfl⟩
      have hnb : nn ≤ 200 := by omega
      have hlb : la ≤ 400 := by have := HA.out; omega
      rw [← hnn] at hnw ⊢
      have ho := hO2
      unfold OwnI at ho
      rw [← hla] at ho
      have HOX := Lib.hid ho
      have HNW := Lib.hid hnw
      have HNN := Lib.hid hnn
      have HLA := Lib.hid hla
      have HM2 := Lib.hid (HMW.out.trans hm2)
      have HS2 := Lib.hid (HS.out.but hB2 (by simp))
      have hbs : w0.heap.size ≤ w2.heap.size := by omega
      have hre : (List.replicate nn (0 : Int)).length = nn := List.length_replicate
      clear hOr hB2 hO2 hnw hm2 hnn hla ho HREP HO1 HS HMW hx2 hl1
      go_wp2_with (at_builtin; go_loud (refine wpList_append_own _ rfl _ _ 48 rfl w0.heap.size 3 i0 (.int .i64 0) 1 8 Tryd.underlying48 hi0 hz0 hz1 hz2 rfl (by decide) v la (acc.map (.int .i64)) rfl HOX.out ⟨gg, 0, none⟩ nn cc ((List.replicate nn (0 : Int)).map (.int .i64)) rfl (by simp) HNW.out ?c2 ?c3 ?c4 hbs ?_))
      case c2 => intro u hu; obtain ⟨x, _, rfl⟩ := List.mem_map.1 hu; rfl
      case c3 => unfold maxLen; omega
      case c4 => omega
      intro v' w3 hown hgrow _
      have hO3 : OwnI w3 w0.heap.size v' (acc ++ List.replicate nn 0) := by
        unfold OwnI
        rw [List.length_append, ← HLA.out, List.length_replicate, List.map_append, List.map_replicate]
        exact hown
      have hb3 := HM2.out.but.grown hgrow (fun g e => .inr (World.ownsRow.lt HOX.out g e).1)
      have hs3 := HS2.out.away (S := v.ownBlock.toList) ((But.refl _ w2).grown hgrow (fun g e => .inl (by simp [e]))) (fun k hk => by
        have h1 := (World.ownsRow.lt HOX.out k (by simpa using hk)).1
        have h2 := HS2.out.hd
        have h3 := HFL.out b (by simp [Foot])
        exact ⟨fun h => by have := HFL.out k h; omega, by omega⟩)
      have HO3 := Lib.hid hO3
      have HB3 := Lib.hid hb3
      have HS3 := Lib.hid hs3
      clear hown hgrow hO3 hb3 hs3
      go_wp2
      go_ret2
      refine ⟨_, 0, q, _, rfl, ⟨HB3.out, fun g e => .inl e⟩, fun e => absurd rfl e, fun _ => ⟨?_, HS3.out, HO3.out⟩⟩
      rw [HR.out, bind_val HRB.out, HNN.out]; rfl
    · have d2 : (er != 0) = true := by simpa using her
      have HER := Lib.hid her
      clear her
      go_wp2
      go_ret2
      exact ⟨.slice none 0 0, er, 0, [], rfl, HM.out.trans HMV.out, fun _ => by rw [HR.out, bind_err (HE1.out HER.out)], fun e => absurd e HER.out⟩
theorem repeat16 {v : Value} {acc : List Int} (h0 : 0 < acc.length) (h : SS w b rb db og s p M L fs fd) (hG : Keep (Foot b rb og) w0 GL) (hM : Mv b rb w0 w og og) (hO : OwnI w w0.heap.size v acc) (ha : acc.length ≤ 400) (hfl : ∀ k ∈ Foot b rb og, k < w0.heap.size) :
    Calls Tryd.prog 52 #[.pointer (some ⟨b, 0, none⟩), .int .i64 16, v] w (GotL w0 b rb db og s M L fs fd (rRep 16 acc s p)) := by
  obtain ⟨lv, hlv⟩ : ∃ lv, lv = acc.getD (acc.length - 1) 0 := ⟨_, rfl⟩
  have hr : rRep 16 acc s p = rBind (rBits 2) (fun x => rPure (acc ++ List.replicate (3 + x) lv)) s p := by
    unfold rRep
    rw [when_not (by omega), hlv]
    rfl
  obtain ⟨A, cA, rfl, hIA⟩ := own_some hO h0
  obtain ⟨li, hli⟩ : ∃ li, li = acc.length - 1 := ⟨_, rfl⟩
  obtain ⟨gA, oA, eA, _, hlc⟩ := hIA.at (i := li) (by omega)
  obtain rfl : A = ⟨gA, oA, none⟩ := by injection eA
  have hlv2 : acc[li]'(by omega) = lv := by rw [hlv, ← hli, List.getD_eq_getElem?_getD, List.getElem?_eq_getElem (by omega)]; rfl
  rw [hlv2] at hlc
  have hin := h.inCell
  have hbt := h.drew.bits 2
  have hg := hG w hM.but
  have hcell := hg.bits.1
  have hgl : ∀ x : World, GL x → x.cell? ⟨2, 0, none⟩ = some (.int .i64 3) := fun x hx => hx.least.1
  have HR := Lib.hid hr
  have HBT := Lib.hid hbt
  have HG := Lib.hid hG
  have HK := Lib.hid hgl
  have HM := Lib.hid hM
  have HO := Lib.hid hO
  have HA := Lib.hid ha
  have hbw := hM.but.size
  have HC := Lib.hid hcell
  have HIN := Lib.hid hin
  have HFL := Lib.hid hfl
  obtain ⟨i0, hi0, hz0, hz1, hz2⟩ := info_parts info_int
  obtain ⟨la0, hla0⟩ : ∃ la0, la0 = acc.length := ⟨_, rfl⟩
  have HLA0 := Lib.hid hla0.symm
  rw [← hla0] at HO
  have hl1 : 1 ≤ la0 := by omega
  have hl2 : la0 ≤ 400 := by omega
  have hli2 : (la0 : Int) - 1 = (li : Int) := by omega
  have hliw : IntKind.i64.wrap (li : Int) = (li : Int) := IntWalk.i64_in _ (by omega)
  have c0 : (0 : Int) ≤ (li : Int) := by omega
  have c1 : (li : Int) < (la0 : Int) := by omega
  have hz : ((la0 : Int) == 0) = false := by simp; omega
  have HH0 := Lib.hid h0
  rw [← hla0]
  clear h hG hM hO hr hbt hg hgl ha hcell hin hfl hIA eA hlv2 hlv hla0 hli h0
  go_enter Tryd.func52, Tryd.ntmps52
  go_upto_region 7 with (fail)
  go_cut [10, 11] (fun v10 v11 wc => ∃ (x : Nat) (er : Int) (q : Nat), v10 = .int .i64 x ∧ v11 = .int .i64 er ∧ Hid (Mv b rb w wc og og) ∧ Hid (er ≠ 0 → rBits 2 s p = .error er) ∧ Hid (er = 0 → rBits 2 s p = .ok (x, q) ∧ SS wc b rb db og s q M L fs fd))
  case first =>
    have hin : w.drew.cell? ⟨b, 0, none⟩ = some (.pointer (some ⟨rb, 0, none⟩)) := HIN.out
    have hcell : w.drew.cell? ⟨1, 0, none⟩ = some (.int .i64 2) := HC.out
    go_region_with (go_at_call 27; refine HBT.out.mono ?_; rintro e w1 ⟨x, er, q, rfl, hMv, he1, he2⟩; have HMV := Lib.hid hMv; have HE1 := Lib.hid he1; have HE2 := Lib.hid he2; clear hMv he1 he2)
    all_goals
      (try go_wp2)
      go_meet
      exact ⟨_, _, _, rfl, rfl, Mv.drew.trans HMV.out, HE1.out, HE2.out⟩
  case rest =>
    obtain ⟨x, er, q, rfl, rfl, HMV, HE1, HE2⟩ := hcut
    obtain ⟨w1, rfl⟩ : ∃ w1 : World, w1 = wc := ⟨_, rfl⟩
    clear HBT HIN HC
    by_cases her : er = 0
    · obtain ⟨hrb1, hS⟩ := HE2.out her
      have hx := rBits_lt hrb1
      have hx2 : x < 2 ^ 7 := Nat.lt_of_lt_of_le hx (Nat.pow_le_pow_right (by decide) (by omega))
      have HRB := Lib.hid hrb1
      have HS := Lib.hid hS
      have hMW := HM.out.trans HMV.out
      have hlt3 := HK.out w1 (HG.out w1 hMW.but)
      have hw1 := HMV.out.but.size
      have hrep := repeatedI lv (n := 3 + x) (i := 3 + (x : Int)) (by omega) w1 (by omega) (by omega)
      have hO1 : OwnI w1 w0.heap.size (.slice (some ⟨gA, oA, none⟩) la0 cA) acc := HO.out.but HMV.out.but (own_free HO.out HFL.out)
      have HREP := Lib.hid hrep
      have HO1 := Lib.hid hO1
      have HMW := Lib.hid hMW
      clear hrb1 hS hMW hrep hO1 HE1 HE2 hx
      subst her
      go_wp2_with fail
      refine HREP.out.mono ?_
      rintro e w2 ⟨gg, cc, rfl, hOr, hB2⟩
      have hO2 := HO1.out.but hB2 (by simp)
      have hnw := hOr.ints.news (by omega)
      have hsz := hB2.size
      have hm2 : Mv b rb w1 w2 og og := Mv.of hB2 (by simp)
      obtain ⟨nn, hnn⟩ : ∃ nn, nn = 3 + x := ⟨_, rfl⟩
      obtain ⟨la, hla⟩ : ∃ la, la = acc.length := ⟨_, rfl⟩
      have hnb : nn ≤ 200 := by omega
      have hlb : la ≤ 400 := by have := HA.out; omega
      rw [← hnn] at hnw ⊢
      have ho := hO2
      unfold OwnI at ho
      rw [← hla] at ho
      have HOX := Lib.hid ho
      have HNW := Lib.hid hnw
      have HNN := Lib.hid hnn
      have HLA := Lib.hid hla
      have HM2 := Lib.hid (HMW.out.trans hm2)
      have HS2 := Lib.hid (HS.out.but hB2 (by simp))
      have hbs : w0.heap.size ≤ w2.heap.size := by omega
      have hre : (List.replicate nn lv).length = nn := List.length_replicate
      clear hOr hB2 hO2 hnw hm2 hnn hla ho HREP HO1 HS HMW hx2 hlt3
      go_wp2_with (at_builtin; go_loud (refine wpList_append_own _ rfl _ _ 48 rfl w0.heap.size 3 i0 (.int .i64 0) 1 8 Tryd.underlying48 hi0 hz0 hz1 hz2 rfl (by decide) (.slice (some ⟨gA, oA, none⟩) la0 cA) la (acc.map (.int .i64)) rfl HOX.out ⟨gg, 0, none⟩ nn cc ((List.replicate nn lv).map (.int .i64)) rfl (by simp) HNW.out ?c2 ?c3 ?c4 hbs ?_))
      case c2 => intro u hu; obtain ⟨x, _, rfl⟩ := List.mem_map.1 hu; rfl
      case c3 => unfold maxLen; omega
      case c4 => omega
      intro v' w3 hown hgrow _
      have hO3 : OwnI w3 w0.heap.size v' (acc ++ List.replicate nn lv) := by
        unfold OwnI
        rw [List.length_append, ← HLA.out, List.length_replicate, List.map_append, List.map_replicate]
        exact hown
      have hb3 := HM2.out.but.grown hgrow (fun g e => .inr (World.ownsRow.lt HOX.out g e).1)
      have hs3 := HS2.out.away (S := (Value.slice (some ⟨gA, oA, none⟩) la0 cA).ownBlock.toList) ((But.refl _ w2).grown hgrow (fun g e => .inl (by simp [e]))) (fun k hk => by
        have h1 := (World.ownsRow.lt HOX.out k (by simpa using hk)).1
        have h2 := HS2.out.hd
        have h3 := HFL.out b (by simp [Foot])
        exact ⟨fun h => by have := HFL.out k h; omega, by omega⟩)
      have HO3 := Lib.hid hO3
      have HB3 := Lib.hid hb3
      have HS3 := Lib.hid hs3
      clear hown hgrow hO3 hb3 hs3
      go_wp2
      go_ret2
      refine ⟨_, 0, q, _, rfl, ⟨HB3.out, fun g e => .inl e⟩, fun e => absurd rfl e, fun _ => ⟨?_, HS3.out, HO3.out⟩⟩
      rw [HR.out, bind_val HRB.out, HNN.out]; rfl
    · have d2 : (er != 0) = true := by simpa using her
      have HER := Lib.hid her
      clear her
      go_wp2
      go_ret2
      exact ⟨.slice none 0 0, er, 0, [], rfl, HM.out.trans HMV.out, fun _ => by rw [HR.out, bind_err (HE1.out HER.out)], fun e => absurd e HER.out⟩
end
end Go.Proofs.YtobmghjpfkdooaaDoor
