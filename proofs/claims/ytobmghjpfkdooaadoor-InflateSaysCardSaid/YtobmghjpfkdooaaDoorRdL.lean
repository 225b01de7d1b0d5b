/- The program's lengths in the small code. -/
import Derived.Test.YtobmghjpfkdooaaDoorRpt
namespace Go.Proofs.YtobmghjpfkdooaaDoor
set_option maxRecDepth 100000
open Go Go.RowKit

theorem nextG_lt (l : List Int) (s : ByteArray) : ∀ f n c p, (nextG l s f n c p).2.1 = 0 → (nextG l s f n c p).1 < l.length
  | 0, _, _, _, h => by rw [nextG_zero] at h; simp at h
  | f + 1, n, c, p, h => by
    rw [nextG_succ] at h ⊢
    by_cases h0 : bitsErr s p 1 = 0
    · rw [if_neg (by simpa using h0)] at h ⊢
      cases e : findS l n (2 * c + bitsVal s p 1) with
      | some i =>
        unfold findS at e
        exact List.mem_range.1 (List.mem_of_find?_eq_some e)
      | none =>
        rw [e] at h
        exact nextG_lt l s f (n + 1) _ _ h
    · rw [if_pos h0] at h; exact absurd h h0
theorem rNext_lt {l : List Int} {s : ByteArray} {p t q : Nat} (h : rNext l s p = .ok (t, q)) : t < l.length := by
  unfold rNext at h
  by_cases h0 : (nextS l s p).2.1 = 0
  · rw [if_neg (by simpa using h0)] at h
    injection h with h; injection h with h1 h2
    subst h1
    exact nextG_lt l s _ _ _ _ h0
  · rw [if_pos h0] at h; cases h
section
variable {small : List Int} {total f p p1 t q : Nat} {acc acc2 : List Int} {s : ByteArray} {e : Int}
theorem rRep_adv : Adv (rRep t acc) := by
  unfold rRep
  exact Adv.when (Adv.bind (rBits_adv _) fun x => Adv.pure _)
theorem rRep_err (h : acc.length < total) (hn : rNext small s p = .ok (t, p1)) (h1 : 16 ≤ t) (h2 : t ≤ 18) (hr : rRep t acc s p1 = .error e) : lenG small total (f + 1) acc s p = .error e := by
  rw [len_open h, bind_val hn, if_neg (by omega)]
  unfold rRep at hr
  by_cases h0 : t = 16 ∧ acc.length = 0
  · rw [when_yes h0] at hr
    rw [if_pos h0.1, when_yes h0.2]; exact hr
  · rw [when_not h0] at hr
    have hb : rBits (repBits t) s p1 = .error e := by
      unfold rBind at hr
      cases hx : rBits (repBits t) s p1 with
      | error y => rw [hx] at hr; injection hr with hr; rw [hr]
      | ok y => rw [hx] at hr; cases hr
    by_cases h16 : t = 16
    · subst h16
      rw [if_pos rfl, when_not (by omega)]; exact bind_err hb
    · by_cases h17 : t = 17
      · subst h17
        rw [if_neg (by omega), if_pos rfl]; exact bind_err hb
      · obtain rfl : t = 18 := by omega
        rw [if_neg (by omega), if_neg (by omega)]; exact bind_err hb
theorem rRep_ok (h : acc.length < total) (hn : rNext small s p = .ok (t, p1)) (h1 : 16 ≤ t) (h2 : t ≤ 18) (hr : rRep t acc s p1 = .ok (acc2, q)) :
    acc2.length ≤ acc.length + 200 ∧ lenG small total (f + 1) acc s p = if total < acc2.length then .error 12 else lenG small total f acc2 s q := by
  rw [len_open h, bind_val hn, if_neg (by omega)]
  unfold rRep at hr
  obtain ⟨h0, hr⟩ := ok_when hr
  obtain ⟨⟨x, q1⟩, hb, hr2⟩ := ok_bind hr
  have hx := rBits_lt hb
  unfold rPure at hr2
  injection hr2 with hr2
  injection hr2 with hr2 hq
  subst hq
  dsimp only at hr2 hb hx ⊢
  by_cases h16 : t = 16
  · subst h16
    rw [if_pos rfl] at hr2
    subst hr2
    rw [if_pos rfl, when_not (by omega)]
    have hx : x < 4 := hx
    refine ⟨by rw [List.length_append, List.length_replicate]; show _ ≤ _; have : repLeast 16 = 3 := rfl; omega, (bind_val hb).trans ?_⟩
    have hl : (acc ++ List.replicate (repLeast 16 + x) (acc.getD (acc.length - 1) 0)).length = acc.length + (3 + x) := by rw [List.length_append, List.length_replicate]; rfl
    rw [hl]
    by_cases hc : total < acc.length + (3 + x)
    · rw [when_yes hc, if_pos hc]
    · rw [when_not hc, if_neg hc]; rfl
  · rw [if_neg h16] at hr2
    subst hr2
    by_cases h17 : t = 17
    · subst h17
      rw [if_neg (by omega), if_pos rfl]
      have hx : x < 8 := hx
      refine ⟨by rw [List.length_append, List.length_replicate]; have : repLeast 17 = 3 := rfl; omega, (bind_val hb).trans ?_⟩
      have hl : (acc ++ List.replicate (repLeast 17 + x) (0 : Int)).length = acc.length + (3 + x) := by rw [List.length_append, List.length_replicate]; rfl
      rw [hl]
      by_cases hc : total < acc.length + (3 + x)
      · rw [when_yes hc, if_pos hc]
      · rw [when_not hc, if_neg hc]; rfl
    · obtain rfl : t = 18 := by omega
      rw [if_neg (by omega), if_neg (by omega)]
      have hx : x < 128 := hx
      refine ⟨by rw [List.length_append, List.length_replicate]; have : repLeast 18 = 11 := rfl; omega, (bind_val hb).trans ?_⟩
      have hl : (acc ++ List.replicate (repLeast 18 + x) (0 : Int)).length = acc.length + (11 + x) := by rw [List.length_append, List.length_replicate]; rfl
      rw [hl]
      by_cases hc : total < acc.length + (11 + x)
      · rw [when_yes hc, if_pos hc]
      · rw [when_not hc, if_neg hc]; rfl
theorem len_one' (h : acc.length < total) (hn : rNext small s p = .ok (t, p1)) (ht : t < 16) : lenG small total (f + 1) acc s p = lenG small total f (acc ++ [(t : Int)]) s p1 := by
  rw [len_open h, bind_val hn, if_pos ht]
theorem len_err' (h : acc.length < total) (hn : rNext small s p = .error e) : lenG small total (f + 1) acc s p = .error e := (len_open h).trans (bind_err hn)
end

section
variable {w0 w w' : World} {b rb db : Nat} {og : Option Nat} {s : ByteArray} {p : Nat} {M : Int} {L : List UInt8} {fs fd : Option Nat}
theorem repeat_none {v : Value} (hM : Mv b rb w0 w og og) (hO : OwnI w w0.heap.size v []) :
    Calls Tryd.prog 52 #[.pointer (some ⟨b, 0, none⟩), .int .i64 16, v] w (GotL w0 b rb db og s M L fs fd (rRep 16 [] s p)) := by
  obtain ⟨A, c, rfl, hI, _⟩ := hO.open
  have HM := Lib.hid hM
  clear hM hO hI
  go_enter Tryd.func52, Tryd.ntmps52
  go_wp2
  go_ret2
  exact ⟨.slice none 0 0, 12, 0, [], rfl, HM.out, fun _ => rfl, fun e => absurd e (by decide)⟩
theorem repeatN {t : Nat} {v : Value} {acc : List Int} (h1 : 16 ≤ t) (h2 : t ≤ 18) (h : SS w b rb db og s p M L fs fd) (hG : Keep (Foot b rb og) w0 GL) (hM : Mv b rb w0 w og og) (hO : OwnI w w0.heap.size v acc) (ha : acc.length ≤ 400) (hfl : ∀ k ∈ Foot b rb og, k < w0.heap.size) :
    Calls Tryd.prog 52 #[.pointer (some ⟨b, 0, none⟩), .int .i64 t, v] w (GotL w0 b rb db og s M L fs fd (rRep t acc s p)) := by
  by_cases h16 : t = 16
  · subst h16
    by_cases h0 : 0 < acc.length
    · exact repeat16 h0 h hG hM hO ha hfl
    · obtain rfl : acc = [] := List.eq_nil_of_length_eq_zero (by omega)
      exact repeat_none hM hO
  · exact repeat0 (by omega) h hG hM hO ha hfl

/-- At the head of a round. -/
def LenRel (small : List Int) (total f : Nat) (s : ByteArray) (R : Except Int (List Int × Nat)) (acc : List Int) (q : Nat) : Prop :=
  (acc.length ≤ total ∧ lenG small total f acc s q = R ∧ 8 * s.size - q < f) ∨ (total < acc.length ∧ R = .error 12 ∧ acc.length ≤ 600)
theorem lenRel_le {small : List Int} {total f : Nat} {R : Except Int (List Int × Nat)} {acc : List Int} {q : Nat} (h : LenRel small total f s R acc q) (ht : total ≤ 400) : acc.length ≤ 600 := by
  rcases h with ⟨h, _⟩ | ⟨_, _, h⟩ <;> omega
set_option maxHeartbeats 2000000 in
theorem readLengths_any {bt F : Nat} {small : List Int} (h : SS w b rb db og s p M L fs fd) (hG : Keep (Foot b rb og) w GL) (hT : Keep (Foot b rb og) w fun w' => TT w' bt small) (hc : chk small = 0) (h19 : small.length = 19)
    (total : Nat) (ht : total ≤ 400) (hF : 8 * s.size - p < F) :
    Calls Tryd.prog 44 #[.pointer (some ⟨b, 0, none⟩), .pointer (some ⟨bt, 0, none⟩), .int .i64 total] w (GotL w b rb db og s M L fs fd (lenG small total F [] s p)) := by
  obtain ⟨i0, hi0, hz0, hz1, hz2⟩ := info_parts info_int
  have hfl := foot_lt h
  obtain ⟨R, hR⟩ : ∃ R, R = lenG small total F [] s p := ⟨_, rfl⟩
  rw [← hR]
  have H0 : Hid (LenRel small total F s R [] p) := .inl ⟨Nat.zero_le _, hR.symm, hF⟩
  have HS := Lib.hid h
  have HG := Lib.hid hG
  have HT := Lib.hid hT
  have HC := Lib.hid hc
  have HFL := Lib.hid hfl
  have H19 := Lib.hid h19
  clear h hG hT hc hR hF hfl h19
  go_enter Tryd.func44, Tryd.ntmps44
  go_wp2
  go_loopg [8] F (fun f v wr => ∃ (acc : List Int) (q : Nat), OwnI wr w.heap.size v acc ∧ SS wr b rb db og s q M L fs fd ∧ Mv b rb w wr og og ∧ LenRel small total f s R acc q)
  case atStart => exact ⟨[], p, OwnI.nil _ _, HS.out, Mv.refl _ _ _ _, H0.out⟩
  case round =>
    obtain ⟨acc, q, hO, hS, hMv, hL⟩ := hrel
    have hl6 := lenRel_le hL ht
    obtain ⟨A, cA, rfl, hI, _⟩ := hO.open
    have HO := Lib.hid hO
    have HMV := Lib.hid hMv
    have HL := Lib.hid hL
    have hin := hS.inCell
    obtain ⟨la, hla⟩ : ∃ la, la = acc.length := ⟨_, rfl⟩
    rw [← hla] at HO hl6
    have HLA := Lib.hid hla
    clear hO hMv hL hI HS H0
    rw [← hla]
    clear hla
    by_cases hlt : la < total
    · have d1 : decide (la < total) = true := by simpa using hlt
      obtain ⟨hle, hR, hf⟩ : acc.length ≤ total ∧ lenG small total gk acc s q = R ∧ 8 * s.size - q < gk := by
        rcases HL.out with h | h
        · exact h
        · have := HLA.out; omega
      obtain ⟨f, rfl⟩ : ∃ f, gk = f + 1 := ⟨gk - 1, by omega⟩
      have hac : acc.length < total := by have := HLA.out; omega
      have hnx := hS.next HC.out (HMV.out.keep HT.out)
      have hq8 := hS.rs.1
      have HR := Lib.hid hR
      have HNX := Lib.hid hnx
      have HAC := Lib.hid hac
      have HF := Lib.hid hf
      have HQ8 := Lib.hid hq8
      clear hR hnx hS hle hac hf hq8 HL
      go_wp2_with fail
      refine HNX.out.mono ?_
      rintro e w2 ⟨t, er, q2, rfl, hMv2, he1, he2⟩
      have HM2 := Lib.hid (HMV.out.trans hMv2)
      have hO2 := HO.out.but hMv2.but (own_free HO.out HFL.out)
      have HO2 := Lib.hid hO2
      have HE1 := Lib.hid he1
      have HE2 := Lib.hid he2
      clear hMv2 he1 he2 hO2
      by_cases her : er = 0
      · obtain ⟨hr, hS2⟩ := HE2.out her
        have htl := rNext_lt hr
        have hadv := rNext_adv' small HQ8.out hr
        have ht18 : t ≤ 18 := by have := H19.out; omega
        have HRN := Lib.hid hr
        have HS2 := Lib.hid hS2
        have HADV := Lib.hid hadv
        clear hr hS2 htl hadv HE1 HE2
        subst her
        by_cases ht16 : t < 16
        · have d16 : decide ((t : Int) < 16) = true := by simp; omega
          have hstep := len_one' (f := f) HAC.out HRN.out ht16
          have HST := Lib.hid hstep
          have hsz := HM2.out.but.size
          have ho := HO2.out
          unfold OwnI at ho
          rw [← HLA.out] at ho
          have HOX := Lib.hid ho
          clear hstep ho
          go_wp2_with (at_builtin; go_loud (refine wpList_append_own _ rfl _ _ 48 rfl w.heap.size 3 i0 (.int .i64 0) 1 8 Tryd.underlying48 hi0 hz0 hz1 hz2 rfl (by decide) (.slice A la cA) la (acc.map (.int .i64)) rfl (HOX.out.alloc _) ⟨w2.heap.size, 0, none⟩ 1 1 [.int .i64 (t : Int)] rfl rfl ?c1 ?c2 ?c3 ?c4 ?c5 ?_))
          case c1 => exact World.news_of_block (cs := #[.int .i64 (t : Int)]) (t := 3) (fr := (0, 0)) (heap_alloc_new w2 _)
          case c2 => simp [Value.oneCell']
          case c3 => unfold maxLen; omega
          case c4 => omega
          case c5 => simp; omega
          intro v' w3 hown hgrow _
          have hO3 : OwnI w3 w.heap.size v' (acc ++ [(t : Int)]) := by
            unfold OwnI
            rw [List.length_append, ← HLA.out, List.map_append]
            exact hown
          have hb3 := (HM2.out.but.alloc (.cells #[.int .i64 (t : Int)] 3)).grown hgrow (fun g e => .inr (World.ownsRow.lt HOX.out g e).1)
          have hs3 := HS2.out.away (S := (Value.slice A la cA).ownBlock.toList) (((But.refl _ w2).alloc _).grown hgrow (fun g e => .inl (by simp [e]))) (fun k hk => by
            have h1 := (World.ownsRow.lt HOX.out k (by simpa using hk)).1
            have h2 := HS2.out.hd
            have h3 := HFL.out b (by simp [Foot])
            exact ⟨fun h => by have := HFL.out k h; omega, by omega⟩)
          have HO3 := Lib.hid hO3
          have HB3 := Lib.hid hb3
          have HS3 := Lib.hid hs3
          clear hown hgrow hO3 hb3 hs3
          go_wp2
          go_roundg f
          case measure => omega
          case rel =>
            refine ⟨acc ++ [(t : Int)], q2, HO3.out, HS3.out, ⟨HB3.out, fun g e => .inl e⟩, .inl ⟨?_, HST.out.symm.trans HR.out, ?_⟩⟩
            · have := HAC.out; simp; omega
            · have := HADV.out; have := HF.out; omega
        · have d16 : decide ((t : Int) < 16) = false := by simp; omega
          have hrp := repeatN (t := t) (by omega) ht18 HS2.out HG.out HM2.out HO2.out (by have := HAC.out; omega) HFL.out
          have HRP := Lib.hid hrp
          clear hrp
          go_wp2_with fail
          refine HRP.out.mono ?_
          rintro e w3 ⟨v3, er, q3, acc3, rfl, hMv3, he1, he2⟩
          have HM3 := Lib.hid hMv3
          have HE1 := Lib.hid he1
          have HE2 := Lib.hid he2
          clear hMv3 he1 he2
          by_cases her : er = 0
          · obtain ⟨hr3, hS3, hO3⟩ := HE2.out her
            have hok := rRep_ok (f := f) HAC.out HRN.out (by omega) ht18 hr3
            have hadv3 := rRep_adv s q2 acc3 q3 HADV.out.2 hr3
            have HOK := Lib.hid hok
            have HADV3 := Lib.hid hadv3
            have HS3 := Lib.hid hS3
            have HO3 := Lib.hid hO3
            clear hr3 hS3 hO3 hok hadv3 HE1 HE2
            subst her
            go_wp2
            go_roundg f
            case measure => omega
            case rel =>
              refine ⟨acc3, q3, HO3.out, HS3.out, HM3.out, ?_⟩
              obtain ⟨h1, h2⟩ := HOK.out
              have h3 := HLA.out
              rw [HR.out] at h2
              by_cases hc : total < acc3.length
              · rw [if_pos hc] at h2
                exact .inr ⟨hc, h2, by omega⟩
              · rw [if_neg hc] at h2
                exact .inl ⟨by omega, h2.symm, by have := HADV.out; have := HADV3.out; have := HF.out; omega⟩
          · have d2 : (er != 0) = true := by simpa using her
            have HER := Lib.hid her
            clear her
            go_wp2
            go_ret2
            exact ⟨.slice none 0 0, er, 0, [], rfl, HM3.out, fun _ => by rw [← HR.out]; exact rRep_err HAC.out HRN.out (by omega) ht18 (HE1.out HER.out), fun e => absurd e HER.out⟩
      · have d2 : (er != 0) = true := by simpa using her
        have HER := Lib.hid her
        clear her
        go_wp2
        go_ret2
        exact ⟨.slice none 0 0, er, 0, [], rfl, HM2.out, fun _ => by rw [← HR.out]; exact len_err' HAC.out (HE1.out HER.out), fun e => absurd e HER.out⟩
    · have d1 : decide (la < total) = false := by simpa using hlt
      have HS := Lib.hid hS
      clear hS
      by_cases hgt : total < la
      · have d2 : decide (total < la) = true := by simpa using hgt
        have hR : R = .error 12 := by
          rcases HL.out with h | h
          · have := HLA.out; omega
          · exact h.2.1
        have HR := Lib.hid hR
        clear hR hgt hlt
        go_wp2
        go_ret2
        exact ⟨.slice none 0 0, 12, 0, [], rfl, HMV.out, fun _ => HR.out, fun e => absurd e (by decide)⟩
      · have d2 : decide (total < la) = false := by simpa using hgt
        have hR : R = .ok (acc, q) := by
          rcases HL.out with ⟨h1, h2, h3⟩ | h
          · obtain ⟨f, rfl⟩ : ∃ f, gk = f + 1 := ⟨gk - 1, by omega⟩
            rw [← h2]
            exact len_done (by have := HLA.out; omega)
          · have := HLA.out; omega
        have HR := Lib.hid hR
        clear hR hgt hlt
        go_wp2
        go_ret2
        exact ⟨_, 0, q, acc, rfl, HMV.out, fun e => absurd rfl e, fun _ => ⟨HR.out, HS.out, HO.out⟩⟩
end
end Go.Proofs.YtobmghjpfkdooaaDoor
