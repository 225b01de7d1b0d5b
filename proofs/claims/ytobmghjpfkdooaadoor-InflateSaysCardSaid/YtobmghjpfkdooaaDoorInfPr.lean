/- The program's matches and literals. -/
import Derived.Test.YtobmghjpfkdooaaDoorInfSt
namespace Go.Proofs.YtobmghjpfkdooaaDoor
set_option maxRecDepth 100000
open Go Go.RowKit

theorem matchOut_succ (far : Nat) : ∀ n L, matchOut far (n + 1) L = matchOut far n L ++ [(matchOut far n L).getD ((matchOut far n L).length - far) 0]
  | 0, _ => rfl
  | n + 1, L => by
    rw [matchOut, matchOut_succ far n, matchOut]
theorem room_small {a b : Int} (h : a ≤ max b 0) : a ≤ b ∨ a ≤ 0 := by omega
section
variable {w w' : World} {b rb db : Nat} {og : Option Nat} {s : ByteArray} {p : Nat} {M : Int} {L : List UInt8} {fs fd : Option Nat}
theorem out_byte {A : Option Addr} {c : Nat} (h : w.ownsRow (b + 1) 5 1 (.slice A L.length c) L.length (cellsOf L)) {i : Nat} (hi : i < L.length) :
    ∃ g, A = some ⟨g, 0, none⟩ ∧ b < g ∧ g < w.heap.size ∧ w.cell? ⟨g, i, none⟩ = some (.int .u8 ((L.getD i 0).toNat : Int)) := by
  obtain ⟨g, cap, e, h1, h2⟩ := h.form (by omega)
  injection e with e1 e2 e3
  subst e1 e3
  refine ⟨g, rfl, by omega, h2, ?_⟩
  have hc := World.ownsRow.cells h (g := g) rfl i (.int .u8 (L[i].toNat : Int)) (by simp [cellsOf, hi])
  have e2 : (⟨g, 0, none⟩ : Addr).add i = ⟨g, i, none⟩ := by unfold Addr.add; split <;> simp_all
  rw [e2] at hc
  rw [hc, List.getD_eq_getElem?_getD, List.getElem?_eq_getElem hi]; rfl

theorem SS.room1 (h : SS w b rb db og s p M L fs fd) :
    Calls Tryd.prog 32 #[.pointer (some ⟨b, 0, none⟩), .int .i64 1] w fun e w' => e = .returned (.int .i64 (if M < (L.length : Int) + 1 then 5 else 0)) ∧ ∃ nq, w' = w.drewN nq := h.room 1 (by omega)
theorem produce_lit {tv : Value} {x y : Option Addr} (h : SS w b rb db og s p M L fs fd) {d : List Int} (t : Nat) (ht : t < 256) (htv : tv = .agg #[.pointer x, .pointer y]) :
    Calls Tryd.prog 19 #[.pointer (some ⟨b, 0, none⟩), .int .i64 t, tv] w (GotE w b rb db og s M fs fd (rProd d M t L s p)) := by
  subst htv
  have hr : rProd d M t L s p = rWhen (M < (L.length : Int) + 1) 5 (rPure (L ++ [UInt8.ofNat t])) s p := by unfold rProd; rw [if_neg (by omega)]
  have h1 := h.alloc (.cells #[.pointer x, .pointer y] 36)
  have m1 := Mv.alloc (b := b) (rb := rb) (w := w) (og := og) (.cells #[.pointer x, .pointer y] 36)
  have hrm := h1.room1
  have d1 : decide ((256 : Int) < (t : Int)) = false := by simp; omega
  have HS := Lib.hid h1
  have HM := Lib.hid m1
  have HR := Lib.hid hr
  clear h hr m1 h1
  by_cases hbig : M < (L.length : Int) + 1
  · rw [if_pos hbig] at hrm
    have HRM := Lib.hid hrm
    have HBIG := Lib.hid hbig
    clear hrm hbig
    go_enter Tryd.func19, Tryd.ntmps19
    go_wp2_with fail
    refine HRM.out.mono ?_
    rintro e w3 ⟨rfl, nq3, rfl⟩
    go_wp2
    go_ret
    exact GotE.of (L' := []) (q := 0) rfl (HM.out.trans (Mv.drewN _)) (fun _ => by rw [HR.out, when_yes (by have := HBIG.out; omega)]) (fun e => absurd e (by decide))
  · rw [if_neg hbig] at hrm
    have HRM := Lib.hid hrm
    have HBIG := Lib.hid hbig
    have hLb : L.length ≤ 1099511627776 := by have := HS.out.hM; omega
    clear hrm hbig
    have hS3 := fun n => HS.out.drewN n
    go_enter Tryd.func19, Tryd.ntmps19
    go_wp2_with fail
    refine HRM.out.mono ?_
    rintro e w3 ⟨rfl, nq3, rfl⟩
    have hS := hS3 nq3
    clear hS3
    have HM3 := Lib.hid (HM.out.trans (Mv.drewN nq3))
    generalize ((w.alloc (.cells #[.pointer x, .pointer y] 36)).drewN nq3) = W at *
    obtain ⟨A, c, hi, hown, hog⟩ := hS.at
    have k1 : W.cell? ⟨b, 1, none⟩ = some (.slice A L.length c) := hi.cell 1
    have hne := out_ne hown hi
    have hlt := hS.lt
    have HS3 := Lib.hid hS
    have HI := Lib.hid hi
    have HOG := Lib.hid hog
    have HNE := Lib.hid hne
    have HOWN0 := Lib.hid hown
    clear hS hi hog hne hown HS HM
    obtain ⟨i0, hi0, hz0, hz1, hz2⟩ := info_parts info_u8
    go_wp2_with (at_builtin; go_loud (refine wpList_append_lies _ rfl _ _ 33 rfl (b + 1) 5 i0 _ 1 1 Tryd.underlying33 hi0 hz0 hz1 hz2 rfl (by omega) (.slice A L.length c) L.length (cellsOf L) rfl (HOWN0.out.alloc _) ⟨W.heap.size, 0, none⟩ 1 1 [.int .u8 (t : Int)] rfl rfl (World.news_of_block (cs := #[.int .u8 (t : Int)]) (t := 5) (fr := (0, 0)) (heap_alloc_new W _)) (by simp [Value.oneCell']) (by omega) (by unfold maxLen; omega) (by omega) (by simp; omega) (W.heap.size + 1) (by simp) ?_; intro gg cap w4 hown2 hgrow hat _; have hi2 := ((HI.out.alloc (.cells #[.int .u8 (t : Int)] 5)).grown hgrow (Ne.symm HNE.out)); have g0 : w4.cell? ⟨b, 1, none⟩ = some (.slice A L.length c) := hi2.cell 1; have g1 : w4.frozen? ⟨b, 1, none⟩ = false := hi2.free 1; have HOWN := Lib.hid hown2; have HGROW := Lib.hid hgrow; have HAT := Lib.hid hat; clear hi2 hown2 hgrow hat))
    go_ret
    have hl2 : (L ++ [UInt8.ofNat t]).length = L.length + 1 := by simp
    have hc2 : cellsOf L ++ [Value.int .u8 (t : Int)] = cellsOf (L ++ [UInt8.ofNat t]) := by
      have h8 : (UInt8.ofNat t).toNat = t := by
        have h := UInt8.toNat_ofNat' (n := t)
        omega
      rw [cellsOf_snoc, h8]
    have hp := HS3.out.put (L2 := L ++ [UInt8.ofNat t]) ((But.refl [] W).alloc _) HI.out HOG.out HGROW.out (by rw [← hc2]; exact HOWN.out) hl2 (fun g e => by
      rcases HAT.out with h | h
      · left; rw [h]; exact e
      · right
        have : gg = g := by simpa [Value.ownBlock] using e
        omega) (by have := HBIG.out; rw [hl2]; omega)
    exact GotE.of rfl (HM3.out.trans hp.2) (fun e => absurd rfl e) (fun _ => ⟨by rw [HR.out, when_not (by have := HBIG.out; omega)]; rfl, hp.1⟩)

theorem rLen_le {t n q : Nat} (h : rLen t s p = .ok (n, q)) (ht : 256 < t) : 3 ≤ n ∧ n ≤ 258 := by
  unfold rLen at h
  obtain ⟨h1, h2⟩ := ok_when h
  obtain ⟨⟨x, q1⟩, h3, h4⟩ := ok_bind h2
  have hx := rBits_lt h3
  have hl := lenBase_le ht (by omega)
  unfold rPure at h4
  injection h4 with h4
  injection h4 with h4 _
  subst h4
  dsimp only
  omega
theorem rDst_le {d : List Int} {n q : Nat} (h : rDst d s p = .ok (n, q)) : 1 ≤ n ∧ n ≤ 32768 := by
  unfold rDst at h
  obtain ⟨⟨u, q1⟩, h1, h2⟩ := ok_bind h
  obtain ⟨hu, h3⟩ := ok_when h2
  obtain ⟨⟨x, q2⟩, h4, h5⟩ := ok_bind h3
  have hx := rBits_lt h4
  have hl := dstBase_le (u := u) (by dsimp only at hu; omega)
  unfold rPure at h5
  injection h5 with h5
  injection h5 with h5 _
  subst h5
  dsimp only at hx ⊢
  omega
theorem bits_byte (x : UInt8) : IntKind.u8.wrap (x.toNat : Int) = (x.toNat : Int) := by
  have := x.toNat_lt
  rw [IntKind.wrap_u8]; omega
set_option maxHeartbeats 1000000 in
theorem match_any {d : List Int} {bd : Nat} {x : Option Addr} {tv : Value} (h : SS w b rb db og s p M L fs fd) (hc : chk d = 0) (hT : Keep (Foot b rb og) w fun w' => TT w' bd d) (t : Nat) (ht : 256 < t)
    (htv : tv = .agg #[.pointer x, .pointer (some ⟨bd, 0, none⟩)]) :
    Calls Tryd.prog 31 #[.pointer (some ⟨b, 0, none⟩), .int .i64 t, tv] w (GotE w b rb db og s M fs fd (rMatch d M t L s p)) := by
  subst htv
  have h1 := h.alloc (.cells #[.pointer x, .pointer (some ⟨bd, 0, none⟩)] 36)
  have m1 := Mv.alloc (b := b) (rb := rb) (w := w) (og := og) (.cells #[.pointer x, .pointer (some ⟨bd, 0, none⟩)] 36)
  have hlen := matchLen_any h1 t ht
  have hI := Is.fresh w 36 #[.pointer x, .pointer (some ⟨bd, 0, none⟩)]
  have hwb := h.lt
  have hft : w.heap.size ∉ Foot b rb og := fun hk => by
    have h2 := h.hr
    unfold Foot at hk
    rcases List.mem_cons.1 hk with e | hk
    · omega
    rcases List.mem_cons.1 hk with e | hk
    · omega
    have := h.out w.heap.size (by simpa using hk)
    omega
  have HFT := Lib.hid hft
  have HL := Lib.hid hlen
  clear hft
  have HM1 := Lib.hid m1
  have HT := Lib.hid (m1.keep hT)
  have HC := Lib.hid hc
  have HI := Lib.hid hI
  clear h h1 m1 hlen hT hc hI
  go_enter Tryd.func31, Tryd.ntmps31
  go_wp2_with fail
  refine HL.out.mono ?_
  rintro e w1 ⟨n, er, q, rfl, hMv, he1, he2⟩
  have hI1 := HI.out.but hMv.but (fun hk => by
    rcases hMv.foot _ hk with h | h <;> rcases List.mem_cons.1 hk with h2 | h2
    all_goals first | omega | exact HFT.out hk)
  have HI1 := Lib.hid hI1
  have HM := Lib.hid (HM1.out.trans hMv)
  have HT1 := Lib.hid (hMv.keep HT.out)
  have HE1 := Lib.hid he1
  have HE2 := Lib.hid he2
  have k0 : w1.cell? ⟨w.heap.size, 0, none⟩ = some (.pointer x) := hI1.cell 0
  have k1 : w1.cell? ⟨w.heap.size, 1, none⟩ = some (.pointer (some ⟨bd, 0, none⟩)) := hI1.cell 1
  clear hI1 hMv he1 he2 HI
  by_cases her : er = 0
  · obtain ⟨hr, hS⟩ := HE2.out her
    have hdst := matchDist_any (x := x) hS HC.out HT1.out
    have HRR := Lib.hid hr
    have HD := Lib.hid hdst
    clear hr hS HE1 HE2 hdst
    subst her
    go_wp2_with fail
    refine HD.out.mono ?_
    rintro e w2 ⟨far, er, q2, rfl, hMv, he1, he2⟩
    have HM2 := Lib.hid (HM.out.trans hMv)
    have HE1 := Lib.hid he1
    have HE2 := Lib.hid he2
    have hr2 : rMatch d M t L s p = rBind (rDst d) (fun far => rWhen (L.length < far) 15 (rWhen (M < (L.length : Int) + (n : Nat)) 5 (rPure (matchOut far n L)))) s q := by unfold rMatch; exact bind_val HRR.out
    have HR2 := Lib.hid hr2
    have hn := rLen_le HRR.out ht
    clear hMv he1 he2 hr2 k0 k1 HD HI1 HT1
    by_cases her : er = 0
    · obtain ⟨hr, hS⟩ := HE2.out her
      have hf := rDst_le hr
      have hr3 : rMatch d M t L s p = rWhen (L.length < far) 15 (rWhen (M < (L.length : Int) + (n : Nat)) 5 (rPure (matchOut far n L))) s q2 := by rw [HR2.out]; exact bind_val hr
      have HR3 := Lib.hid hr3
      have HS := Lib.hid hS
      have hLb : L.length ≤ 1099511627776 := by have := hS.hM; have := hS.hL; omega
      obtain ⟨A, c, hi, _, _⟩ := hS.at
      have k1 : w2.cell? ⟨b, 1, none⟩ = some (.slice A L.length c) := hi.cell 1
      have hrm := hS.room n (by omega)
      have HRM := Lib.hid hrm
      clear hr hS hr3 HE1 HE2 hrm hi
      subst her
      by_cases hfar : L.length < far
      · have HFAR := Lib.hid hfar
        have d1 : decide (L.length < far) = true := by simpa using hfar
        clear hfar
        go_wp2
        go_ret
        exact GotE.of (L' := []) (q := 0) rfl HM2.out (fun _ => by rw [HR3.out, when_yes HFAR.out]) (fun e => absurd e (by decide))
      · have HFAR := Lib.hid hfar
        have d1 : decide (L.length < far) = false := by simpa using hfar
        clear hfar
        by_cases hbig : M < (L.length : Int) + (n : Int)
        · have HBIG := Lib.hid hbig
          have hrm := HRM.out
          rw [if_pos hbig] at hrm
          have HRM := Lib.hid hrm
          clear hrm hbig
          go_wp2_with fail
          refine HRM.out.mono ?_
          rintro e w3 ⟨rfl, nq3, rfl⟩
          go_wp2
          go_ret
          exact GotE.of (L' := []) (q := 0) rfl (HM2.out.trans (Mv.drewN _)) (fun _ => by rw [HR3.out, when_not (by have := HFAR.out; omega), when_yes (by have := HBIG.out; omega)]) (fun e => absurd e (by decide))
        · have HBIG := Lib.hid hbig
          have hrm := HRM.out
          rw [if_neg hbig] at hrm
          have HRM := Lib.hid hrm
          clear hrm hbig
          go_wp2_with fail
          refine HRM.out.mono ?_
          rintro e w3 ⟨rfl, nq3, rfl⟩
          have HS3 := Lib.hid (HS.out.drewN nq3)
          have HM3 := Lib.hid (HM2.out.trans (Mv.drewN nq3))
          clear k1 d1
          generalize w2.drewN nq3 = w3 at *
          go_wp2
          go_loopw [45] (fun iv wr => ∃ (j : Nat) (og1 : Option Nat), j ≤ n ∧ iv = .int .i64 j ∧ SS wr b rb db og1 s q2 M (matchOut far j L) fs fd ∧ Mv b rb w wr og og1) (fun iv _ => n - (intOf iv).toNat)
          case atStart => exact ⟨0, og, Nat.zero_le _, rfl, HS3.out, HM3.out⟩
          case round =>
            obtain ⟨j, og1, hj, rfl, hS, hMv⟩ := hrel
            clear HS3 HM3 HRM HS HM HM2 HM1
            have HMV := Lib.hid hMv
            clear hMv
            by_cases hlt : j < n
            · have hms := matchOut_succ far j L
              have hml := length_matchOut far j L
              generalize hL1 : matchOut far j L = L1 at *
              have HMS := Lib.hid hms
              have HL1 := Lib.hid hL1
              have hk1 : far ≤ L1.length := by have := HFAR.out; omega
              have hk2 : L1.length ≤ 1099511627776 + 258 := by omega
              obtain ⟨i, hie⟩ : ∃ i, i = L1.length - far := ⟨_, rfl⟩
              obtain ⟨A, c, hi, hown, hog⟩ := hS.at
              obtain ⟨g, rfl, hbg, hgl, hcell⟩ := out_byte hown (i := i) (by omega)
              have k1 : wr.cell? ⟨b, 1, none⟩ = some (.slice (some ⟨g, 0, none⟩) L1.length c) := hi.cell 1
              have hne := out_ne hown hi
              have hblt := hS.lt
              have hby := bits_byte (L1.getD i 0)
              obtain ⟨y, hy⟩ : ∃ y, y = L1.getD i 0 := ⟨_, rfl⟩
              rw [← hy] at hcell hby
              have HY := Lib.hid hy
              have HS := Lib.hid hS
              have HI := Lib.hid hi
              have HOG := Lib.hid hog
              have HNE := Lib.hid hne
              have HOWN0 := Lib.hid hown
              have HML := Lib.hid hml
              have ei : ((L1.length : Int) - (far : Int)) = (i : Int) := by omega
              have ew : IntKind.i64.wrap (i : Int) = (i : Int) := IntWalk.i64_in _ (by omega)
              have b0 : (0 : Int) ≤ (i : Int) := by omega
              have b1 : (i : Int) < (L1.length : Int) := by omega
              have HIE := Lib.hid hie
              clear hms hL1 hS hi hog hne hown hy hml hie
              obtain ⟨i0, hi0, hz0, hz1, hz2⟩ := info_parts info_u8
              go_wp2
              go_region_law (go_loud (refine step_append_lies _ (by rfl) _ _ _ (by rfl) (b + 1) 5 i0 _ 1 1 Tryd.underlying33 hi0 hz0 hz1 hz2 rfl (by omega) (.slice (some ⟨g, 0, none⟩) L1.length c) L1.length (cellsOf L1) (by rfl) ((HOWN0.out.alloc _).drew) ⟨wr.heap.size, 0, none⟩ 1 1 [.int .u8 (y.toNat : Int)] (by rfl) (by rfl) (World.news_of_block (cs := #[.int .u8 (y.toNat : Int)]) (t := 5) (fr := (0, 0)) (heap_alloc_new wr _)) (by simp [Value.oneCell']) (by omega) (by unfold maxLen; omega) (by omega) (by simp; omega) (wr.heap.size + 1) (by simp) ?_; intro gg cap w4 hown2 hgrow hat _; have hi2 := (((HI.out.alloc (.cells #[.int .u8 (y.toNat : Int)] 5)).drew).grown hgrow (Ne.symm HNE.out)); have g0 : w4.cell? ⟨b, 1, none⟩ = some (.slice (some ⟨g, 0, none⟩) L1.length c) := hi2.cell 1; have g1 : w4.frozen? ⟨b, 1, none⟩ = false := hi2.free 1; have HOWN := Lib.hid hown2; have HGROW := Lib.hid hgrow; have HAT := Lib.hid hat; clear hi2 hown2 hgrow hat))
              all_goals
                go_wp2
                go_roundw
                case rel =>
                  have hp := HS.out.put (L2 := L1 ++ [y]) (((But.refl [] wr).alloc _).drew) HI.out HOG.out HGROW.out (by rw [cellsOf_snoc]; exact HOWN.out) (by simp) (fun g e => by
                    rcases HAT.out with h | h
                    · left; rw [h]; exact e
                    · right
                      have : gg = g := by simpa [Value.ownBlock] using e
                      omega) (by have := HBIG.out; have := HML.out; simp; omega)
                  refine ⟨j + 1, _, by omega, by go_num, ?_, HMV.out.trans hp.2⟩
                  rw [HMS.out, ← HIE.out, ← HY.out]
                  exact hp.1
                case measure => simp [intOf]; omega
            · obtain rfl : j = n := by omega
              have HS := Lib.hid hS
              clear hS
              go_wp2
              go_ret
              exact GotE.of rfl HMV.out (fun e => absurd rfl e) (fun _ => ⟨by rw [HR3.out, when_not (by have := HFAR.out; omega), when_not (by have := HBIG.out; omega)]; rfl, HS.out⟩)
    · have d2 : (er != 0) = true := by simpa using her
      have HER := Lib.hid her
      clear her
      go_wp2
      go_ret
      exact GotE.of (L' := []) (q := 0) rfl HM2.out (fun _ => by rw [HR2.out]; exact bind_err (HE1.out HER.out)) (fun e => absurd e HER.out)
  · have d2 : (er != 0) = true := by simpa using her
    have HER := Lib.hid her
    clear her
    go_wp2
    go_ret
    exact GotE.of (L' := []) (q := 0) rfl HM.out (fun _ => by unfold rMatch; exact bind_err (HE1.out HER.out)) (fun e => absurd e HER.out)
end
end Go.Proofs.YtobmghjpfkdooaaDoor
