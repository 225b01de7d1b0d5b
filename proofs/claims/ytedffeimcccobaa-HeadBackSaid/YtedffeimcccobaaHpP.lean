/- The walk of the statement on a head that is read as it is laid. -/
import Derived.Test.YtedffeimcccobaaHpM
import Derived.Test.YtedffeimcccobaaHpN
import Derived.Test.YtedffeimcccobaaHpQ
set_option maxRecDepth 100000
set_option linter.unusedVariables false
namespace Go.Proofs.Ytedffeimcccobaa
set_option maxRecDepth 100000
open Go Go.RowKit
/-- The head that is handed in, in a block of its own, and the pieces. -/
def HbS (w : World) (g : Nat) (a b d c l : Int) (A : Option Addr) (n : Nat) (L : List ByteArray) (v : World) : Prop := Is v g 23 #[.int .i64 a, .int .i64 b, .int .i64 d, .int .i64 c, .int .i64 l] ∧ Sts v A n L ∧ But [] w v
theorem HbS.but {w v v' : World} {g : Nat} {a b d c l : Int} {A : Option Addr} {n : Nat} {L : List ByteArray} (h : HbS w g a b d c l A n L v) (k : But [] v v') : HbS w g a b d c l A n L v' := ⟨h.1.but k (by simp), h.2.1.but k, h.2.2.trans k⟩
/-- The bytes of the first i pieces, and their chunks. -/
def catB (L : List ByteArray) (i : Nat) : List UInt8 := ((L.take i).map fun s => s.data.toList).flatten
def datB (L : List ByteArray) (i : Nat) : List Ck := (L.take i).map fun s => (tIDAT, s.data.toList)
theorem take_nextB {L : List ByteArray} {i : Nat} {s : ByteArray} (h : L[i]? = some s) : L.take (i + 1) = L.take i ++ [s] := by
  rw [List.take_add_one, h]; rfl
theorem catB_next {L : List ByteArray} {i : Nat} {s : ByteArray} (h : L[i]? = some s) : catB L (i + 1) = catB L i ++ s.data.toList := by
  unfold catB; rw [take_nextB h]; simp
theorem datB_next {L : List ByteArray} {i : Nat} {s : ByteArray} (h : L[i]? = some s) : datB L (i + 1) = datB L i ++ [(tIDAT, s.data.toList)] := by
  unfold datB; rw [take_nextB h]; simp
theorem datB_len (L : List ByteArray) (i : Nat) : (datB L i).length ≤ i := by
  unfold datB; rw [List.length_map, List.length_take]; exact Nat.min_le_left _ _
theorem datB_zero (L : List ByteArray) : datB L 0 = [] := by unfold datB; simp
theorem catB_zero (L : List ByteArray) : catB L 0 = [] := by unfold catB; simp
theorem strL_nilB : strL [] = ⟨#[]⟩ := rfl
theorem tIDAT_strB : strL tIDAT = ⟨#[73, 68, 65, 84]⟩ := rfl
/-- One chunk in a slice of its own. -/
theorem hb_one (w : World) {k : Ck} (x y : ByteArray) (hx : x = strL k.1) (hy : y = strL k.2) : OwnC (w.alloc (.cells #[.string x, .string y] 30)) w.heap.size (.slice (some ⟨w.heap.size, 0, none⟩) 1 1) [k] := by
  unfold OwnC
  subst hx hy
  exact ⟨rfl, .inr ⟨w.heap.size, 1, #[.string (strL k.1), .string (strL k.2)], rfl, Nat.le_refl _, Is.fresh w 30 _, Nat.le_refl _, by unfold maxLen; omega, rfl, rfl⟩⟩
theorem tIEND_strB : strL tIEND = ⟨#[73, 69, 78, 68]⟩ := rfl
theorem hb_got {w w' : World} {a b d c l : Int} {D : List UInt8} {e : Ending} (h : GotH w ([a, b, d, c, l], { hs0 with idat := true, D := D }, 0) e w') :
    e = .returned (.tuple #[.agg #[.int .i64 a, .int .i64 b, .int .i64 d, .int .i64 c, .int .i64 l, .string ⟨#[]⟩, .string ⟨#[]⟩, .bool false], .string (strL D), .int .i64 0]) ∧ But [] w w' := h
theorem hb_readB {a b d c l : Int} (hr : rightH a b d c l = 0) (hc : c ≠ 3) {L : List ByteArray} {i : Nat} (hi : 1 ≤ i) (hL : i ≤ L.length) :
    readT ((layI a b d c l :: datB L i) ++ [(tIEND, [])]) = ([a, b, d, c, l], { hs0 with idat := true, D := catB L i }, 0) := by
  have h := hb_read hr hc (ps := (L.take i).map fun s => s.data.toList) (by
    intro e
    have h1 := congrArg List.length e
    rw [List.length_map, List.length_take, List.length_nil] at h1
    omega)
  rw [List.map_map] at h
  exact h
theorem hb_types (a b d c l : Int) (L : List ByteArray) (i : Nat) : ∀ (j : Nat) (k : Ck), ((layI a b d c l :: datB L i) ++ [(tIEND, [])])[j]? = some k → k.1.length ≤ 140737488351232 := by
  intro j k h
  have hm := List.mem_of_getElem? h
  rcases List.mem_append.1 hm with hm | hm
  · rcases List.mem_cons.1 hm with rfl | hm
    · show 4 ≤ _; omega
    · unfold datB at hm
      obtain ⟨s, _, rfl⟩ := List.mem_map.1 hm
      show 4 ≤ _; omega
  · obtain rfl := List.mem_singleton.1 hm
    show 4 ≤ _; omega
theorem dataC_snoc (L : List Ck) (k : Ck) : dataC (L ++ [k]) = dataC L + k.2.length := by
  unfold dataC; simp
theorem hb_data {a b d c l : Int} {L : List ByteArray} {i : Nat} : dataC (layI a b d c l :: datB L i) = 13 + (catB L i).length := by
  have h : ∀ l : List ByteArray, dataC (l.map fun s => (tIDAT, s.data.toList)) = ((l.map fun s => s.data.toList).flatten).length := by
    intro l
    induction l with
    | nil => rfl
    | cons s l ih =>
      rw [List.map_cons, List.map_cons, List.flatten_cons, List.length_append, ← ih]
      unfold dataC
      simp
  unfold datB catB
  rw [← h]
  unfold dataC layI
  simp [fourI_length]
attribute [local irreducible] strL catB datB
set_option maxHeartbeats 4000000 in
theorem headBack_walk (haw : Awk) {a b d c l : Int} {A : Option Addr} {len cap : Nat} {L : List ByteArray} {w : World} (hs : StsArg w A len L) (hlen : len * 16 ≤ 140737488351232) :
    Calls Try.prog 6 #[.agg #[.int .i64 a, .int .i64 b, .int .i64 d, .int .i64 c, .int .i64 l], .slice A len cap] w fun e w' => e = .returned (.bool true) ∧ Below w.heap.size w w' := by
  have hP := fun v => pright_h v a b d c l
  have hE := fun v => play_head v a b d c l
  unfold ckVal at hE
  obtain ⟨er, her⟩ : ∃ x, x = rightH a b d c l := ⟨_, rfl⟩
  obtain ⟨x, hx⟩ : ∃ x, x = strL (layI a b d c l).1 := ⟨_, rfl⟩
  obtain ⟨y, hy⟩ : ∃ x, x = strL (layI a b d c l).2 := ⟨_, rfl⟩
  simp only [← hx, ← hy] at hE
  simp only [← her] at hP
  have HA := Lib.hid haw
  have HP := Lib.hid hP
  have HE := Lib.hid hE
  have HX := Lib.hid hx
  have HDT := Lib.hid pdat_b
  have HEN := Lib.hid pends_any
  have HY := Lib.hid hy
  have HER := Lib.hid her
  have HSZ := Lib.hid hs.2
  have HS0 : Hid (HbS w w.heap.size a b d c l A len L (w.alloc (.cells #[.int .i64 a, .int .i64 b, .int .i64 d, .int .i64 c, .int .i64 l] 23))) := Lib.hid ⟨Is.fresh _ _ _, hs.1.but ((But.refl [] w).alloc _), (But.refl [] w).alloc _⟩
  clear haw hP hE hx hy her hs
  by_cases h0 : er = 0
  case neg =>
    have d1 : (er != 0) = true := by simpa using h0
    have d2 : decide (er = 0) = false := decide_eq_false h0
    clear h0
    go_enter Try.func6, Try.ntmps6
    go_wp2_with fail
    refine (HP.out _).mono ?_
    rintro e w1 ⟨rfl, hB1⟩
    have HS1 := Lib.hid (HS0.out.but hB1)
    have hI := (HS0.out.but hB1).1
    have c0 := hI.cell 0
    have c1 := hI.cell 1
    have c2 := hI.cell 2
    have c3 := hI.cell 3
    have c4 := hI.cell 4
    clear hB1 hI HS0
    go_wp2_with fail
    refine (HA.out.use _).mono ?_
    rintro e w2 ⟨rfl, hB⟩
    have HB := Lib.hid (HS1.out.2.2.trans hB)
    clear hB
    go_wp2
    go_ret
    exact ⟨rfl, HB.out.belowC⟩
  subst h0
  by_cases h3 : c = 3
  case pos =>
    subst h3
    go_enter Try.func6, Try.ntmps6
    go_wp2_with fail
    refine (HP.out _).mono ?_
    rintro e w1 ⟨rfl, hB1⟩
    have HS1 := Lib.hid (HS0.out.but hB1)
    have hI := (HS0.out.but hB1).1
    have c0 := hI.cell 0
    have c1 := hI.cell 1
    have c2 := hI.cell 2
    have c3 := hI.cell 3
    have c4 := hI.cell 4
    clear hB1 hI HS0
    go_wp2_with fail
    refine (HA.out.use _).mono ?_
    rintro e w2 ⟨rfl, hB⟩
    have HB := Lib.hid (HS1.out.2.2.trans hB)
    clear hB
    go_wp2
    go_ret
    exact ⟨rfl, HB.out.belowC⟩
  have d3 : (c == 3) = false := by simpa using h3
  have d4 : decide (c = 3) = false := decide_eq_false h3
  by_cases hl1 : len < 1
  case pos =>
    obtain rfl : len = 0 := by omega
    clear h3
    go_enter Try.func6, Try.ntmps6
    go_wp2_with fail
    refine (HP.out _).mono ?_
    rintro e w1 ⟨rfl, hB1⟩
    have HS1 := Lib.hid (HS0.out.but hB1)
    have hI := (HS0.out.but hB1).1
    have c0 := hI.cell 0
    have c1 := hI.cell 1
    have c2 := hI.cell 2
    have c3 := hI.cell 3
    have c4 := hI.cell 4
    clear hB1 hI HS0
    go_wp2_with fail
    refine (HA.out.use _).mono ?_
    rintro e w2 ⟨rfl, hB⟩
    have HB := Lib.hid (HS1.out.2.2.trans hB)
    clear hB
    go_wp2
    go_ret
    exact ⟨rfl, HB.out.belowC⟩
  by_cases hl2 : 100 < len
  case pos =>
    have d5 : decide ((len : Int) < 1) = false := by simp; omega
    have d6 : decide ((100 : Int) < (len : Int)) = true := by simp; omega
    clear hl1 hl2 h3
    go_enter Try.func6, Try.ntmps6
    go_wp2_with fail
    refine (HP.out _).mono ?_
    rintro e w1 ⟨rfl, hB1⟩
    have HS1 := Lib.hid (HS0.out.but hB1)
    have hI := (HS0.out.but hB1).1
    have c0 := hI.cell 0
    have c1 := hI.cell 1
    have c2 := hI.cell 2
    have c3 := hI.cell 3
    have c4 := hI.cell 4
    clear hB1 hI HS0
    go_wp2_with fail
    refine (HA.out.use _).mono ?_
    rintro e w2 ⟨rfl, hB⟩
    have HB := Lib.hid (HS1.out.2.2.trans hB)
    clear hB
    go_wp2
    go_ret
    exact ⟨rfl, HB.out.belowC⟩
  have hn1 : 1 ≤ len := by omega
  have hn2 : len ≤ 100 := by omega
  have d5 : decide ((len : Int) < 1) = false := by simp; omega
  have d6 : decide ((100 : Int) < (len : Int)) = false := by simp; omega
  have HC3 := Lib.hid h3
  have HN1 := Lib.hid hn1
  have HN2 := Lib.hid hn2
  clear hl1 hl2 h3 hn1 hn2
  obtain ⟨i0, hi0, hz0, hz1, hz2⟩ := info_parts info_ck
  go_enter Try.func6, Try.ntmps6
  go_wp2_with fail
  refine (HP.out _).mono ?_
  rintro e w1 ⟨rfl, hB1⟩
  have HS1 := Lib.hid (HS0.out.but hB1)
  have hI := (HS0.out.but hB1).1
  have c0 := hI.cell 0
  have c1 := hI.cell 1
  have c2 := hI.cell 2
  have c3 := hI.cell 3
  have c4 := hI.cell 4
  clear hB1 hI HS0
  go_wp2_with fail
  refine (HE.out _).mono ?_
  rintro e w2 ⟨rfl, hB2⟩
  have HS2 := Lib.hid (HS1.out.but hB2)
  clear hB2 c0 c1 c2 c3 c4
  have HO2 := Lib.hid (hb_one w2 x y HX.out HY.out)
  have HB2 := Lib.hid ((But.refl [] w2).alloc (.cells #[.string x, .string y] 30))
  go_wp2
  go_loopw [5, 6, 7] (fun ov sv iv wr => ∃ i : Nat, i ≤ len ∧ iv = .int .i64 i ∧ sv = .string (strL (catB L i)) ∧ (catB L i).length ≤ i * 1000 ∧ Hid (OwnC wr w2.heap.size ov (layI a b d c l :: datB L i)) ∧ Hid (But [] w2 wr)) (fun _ _ iv _ => len - (intOf iv).toNat)
  case atStart => exact ⟨0, Nat.zero_le _, rfl, by rw [catB_zero, strL_nilB], by rw [catB_zero]; exact Nat.zero_le _, by rw [datB_zero]; exact HO2, HB2⟩
  case round =>
    obtain ⟨i, hi, rfl, rfl, hcl, HO, HB⟩ := hrel
    by_cases hlt : i < len
    · obtain ⟨g, o, S, rfl, hg, c0, hat⟩ := (HS2.out.but HB.out).2.1.at hlt
      have HNX := Lib.hid (catB_next hat)
      have HDX := Lib.hid (datB_next hat)
      have k0 : (0 : Int) ≤ (i : Int) := by omega
      have k1 : (i : Int) < (len : Int) := by omega
      have hsz := HSZ.out i S hat
      by_cases hbig : 1000 < S.size
      · have db : decide ((1000 : Int) < (S.size : Int)) = true := by simp; omega
        have HB3 := Lib.hid (HS2.out.2.2.trans HB.out)
        clear hbig hat hcl
        go_wp2_with fail
        refine (HA.out.use _).mono ?_
        rintro e w3 ⟨rfl, hB3⟩
        have HB4 := Lib.hid (HB3.out.trans hB3)
        clear hB3
        go_wp2
        go_ret
        exact ⟨rfl, HB4.out.belowC⟩
      · have db : decide ((1000 : Int) < (S.size : Int)) = false := by simp; omega
        have hn2 := HN2.out
        obtain ⟨Z, hZ⟩ : ∃ Z, Z = strL (catB L i) := ⟨_, rfl⟩
        have hzz : Z.size ≤ 100000 := by rw [hZ, strL_size]; have : i * 1000 ≤ 100 * 1000 := Nat.mul_le_mul_right _ (by omega); omega
        have HZ := Lib.hid (show Z ++ S = strL (catB L (i + 1)) by rw [hZ, HNX.out, strL_append, strL_of])
        have hsl : S.data.toList.length = S.size := by simp
        have HCL := Lib.hid (show (catB L (i + 1)).length ≤ (i + 1) * 1000 by rw [HNX.out, List.length_append, hsl]; omega)
        clear hsl
        rw [← hZ]
        clear hat hcl hZ hbig hn2
        go_wp2_with fail
        refine (HDT.out wr S).mono ?_
        rintro e w4 ⟨rfl, hB4⟩
        have HB4 := Lib.hid (HB.out.trans hB4)
        have HO4 := Lib.hid (HO.out.but hB4)
        obtain ⟨M, hM⟩ : ∃ M, M = layI a b d c l :: datB L i := ⟨_, rfl⟩
        rw [← hM] at HO4
        have HM := Lib.hid (show M ++ [(tIDAT, S.data.toList)] = layI a b d c l :: datB L (i + 1) by rw [hM, HDX.out]; rfl)
        have hML : M.length ≤ 1000 := by rw [hM, List.length_cons]; have := datB_len L i; have := HN2.out; omega
        obtain ⟨A1, cc, rfl, _⟩ := HO4.out.open
        have hbs := HB4.out.size
        clear hB4 hM HO HB c0 HB2 HO2
        go_wp2_with (at_builtin; refine wpList_append_lies _ rfl _ _ _ rfl w2.heap.size 30 i0 (.agg #[.string ByteArray.empty, .string ByteArray.empty]) 2 32 Try.underlying33 hi0 hz0 hz1 hz2 rfl (by omega) (.slice A1 M.length cc) M.length (ckCells M) (by rfl) (World.ownsRow.alloc HO4.out _) ⟨w4.heap.size, 0, none⟩ 1 1 [.string ⟨#[73, 68, 65, 84]⟩, .string S] (by rfl) (by rfl) (World.news_of_block (cs := #[.string ⟨#[73, 68, 65, 84]⟩, .string S]) (t := 30) (fr := (0, 0)) (heap_alloc_new w4 _)) (by simp [Value.oneCell']) (by omega) (by unfold maxLen; omega) (by omega) (by simp; omega) (w4.heap.size + 1) (by simp) ?_)
        intro gg cap2 w5 hown2 hgrow hat _
        have hown3 : w5.ownsRow w2.heap.size 30 2 (.slice (some ⟨gg, 0, none⟩) (M.length + 1) cap2) (M.length + 1) (ckCells M ++ [.string (strL tIDAT), .string (strL S.data.toList)]) := by
          rw [strL_of, tIDAT_strB]; exact hown2
        have HP := Lib.hid (OwnC.pushed (x := (tIDAT, S.data.toList)) HB4.out HO4.out hown3 hgrow)
        clear hown2 hown3 hgrow hat
        go_wp2
        go_roundw
        case rel => exact ⟨i + 1, by omega, by go_num, by rw [HZ.out], HCL.out, Lib.hid (by rw [← HM.out]; exact HP.out.1), Lib.hid HP.out.2⟩
        case measure => simp [intOf]; omega
    · obtain rfl : i = len := by omega
      have HRD := Lib.hid (hb_readB (L := L) (i := i) HER.out.symm HC3.out HN1.out (by have := HS2.out.2.1.1; omega))
      have HTY := Lib.hid (hb_types a b d c l L i)
      have hdc := hb_data (a := a) (b := b) (d := d) (c := c) (l := l) (L := L) (i := i)
      obtain ⟨M, hM⟩ : ∃ M, M = layI a b d c l :: datB L i := ⟨_, rfl⟩
      rw [← hM] at HO HRD HTY hdc
      have hML : M.length ≤ 1000 := by rw [hM, List.length_cons]; have := datB_len L i; have := HN2.out; omega
      obtain ⟨A1, cc, rfl, _⟩ := HO.out.open
      clear HO2 HB2 hM
      go_wp2_with fail
      refine (HEN.out wr).mono ?_
      rintro e w4 ⟨rfl, hB4⟩
      have HB4 := Lib.hid (HB.out.trans hB4)
      have HO4 := Lib.hid (HO.out.but hB4)
      have hbs := HB4.out.size
      clear hB4 HO HB
      go_wp2_with (at_builtin; refine wpList_append_lies _ rfl _ _ _ rfl w2.heap.size 30 i0 (.agg #[.string ByteArray.empty, .string ByteArray.empty]) 2 32 Try.underlying33 hi0 hz0 hz1 hz2 rfl (by omega) (.slice A1 M.length cc) M.length (ckCells M) (by rfl) (World.ownsRow.alloc HO4.out _) ⟨w4.heap.size, 0, none⟩ 1 1 [.string ⟨#[73, 69, 78, 68]⟩, .string ⟨#[]⟩] (by rfl) (by rfl) (World.news_of_block (cs := #[.string ⟨#[73, 69, 78, 68]⟩, .string ⟨#[]⟩]) (t := 30) (fr := (0, 0)) (heap_alloc_new w4 _)) (by simp [Value.oneCell']) (by omega) (by unfold maxLen; omega) (by omega) (by simp; omega) (w4.heap.size + 1) (by simp) ?_)
      intro gg cap2 w5 hown2 hgrow hat _
      have hown3 : w5.ownsRow w2.heap.size 30 2 (.slice (some ⟨gg, 0, none⟩) (M.length + 1) cap2) (M.length + 1) (ckCells M ++ [.string (strL tIEND), .string (strL [])]) := by
        rw [tIEND_strB, strL_nilB]; exact hown2
      have hP5 := OwnC.pushed (x := (tIEND, [])) HB4.out HO4.out hown3 hgrow
      have hcap : M.length + 1 ≤ cap2 := by
        rcases hown2.2 with ⟨e, _⟩ | ⟨_, _, _, e, _, _, hle, _⟩
        · cases e
        · injection e with _ _ e; omega
      obtain ⟨A5, c5, e5, hK5⟩ := hP5.1.open
      injection e5 with e3 e4 e6
      rw [← e3, ← e4] at hK5
      have hRD := pread_any w5 hK5 hcap (by rw [dataC_snoc]; have := HN2.out; simp; omega) (by omega) HTY.out
      rw [HRD.out] at hRD
      have HR5 := Lib.hid (hRD.mono fun e w' h => hb_got h)
      have HS5 := Lib.hid (HS2.out.but hP5.2)
      clear hown2 hown3 hgrow hat hP5 hK5 hRD e3 e4 e6 hcap hbs HS1 HS2
      obtain ⟨Z, hZ⟩ : ∃ Z, Z = strL (catB L i) := ⟨_, rfl⟩
      rw [← hZ] at HR5 ⊢
      clear hZ
      go_wp2_with fail
      refine HR5.out.mono ?_
      rintro e w6 ⟨rfl, hB6⟩
      have HS6 := Lib.hid (HS5.out.but (hB6.alloc (.cells #[.int .i64 a, .int .i64 b, .int .i64 d, .int .i64 c, .int .i64 l, .string ⟨#[]⟩, .string ⟨#[]⟩, .bool false] 36)))
      have HI6 := Lib.hid (Is.fresh w6 36 #[.int .i64 a, .int .i64 b, .int .i64 d, .int .i64 c, .int .i64 l, .string ⟨#[]⟩, .string ⟨#[]⟩, .bool false])
      clear hB6
      go_upto_region 14 with (fail)
      obtain ⟨w7, hw7⟩ : ∃ x, x = w6.alloc (.cells #[.int .i64 a, .int .i64 b, .int .i64 d, .int .i64 c, .int .i64 l, .string ⟨#[]⟩, .string ⟨#[]⟩, .bool false] 36) := ⟨_, rfl⟩
      obtain ⟨g7, hg7⟩ : ∃ x, x = w6.heap.size := ⟨_, rfl⟩
      rw [← hw7] at HS6 HI6 ⊢
      rw [← hg7] at HI6 ⊢
      have i1 := HI6.out
      have i2 := HS6.out.1
      have p0 := i1.cell 0
      have p1 := i1.cell 1
      have p2 := i1.cell 2
      have p3 := i1.cell 3
      have p4 := i1.cell 4
      have p5 := i1.cell 5
      have p6 := i1.cell 6
      have p7 := i1.cell 7
      have q0 := i2.cell 0
      have q1 := i2.cell 1
      have q2 := i2.cell 2
      have q3 := i2.cell 3
      have q4 := i2.cell 4
      have HB7 := Lib.hid HS6.out.2.2
      clear i1 i2 hw7 hg7
      go_wp2_with fail
      refine (HA.out.use _).mono ?_
      rintro e w8 ⟨rfl, hB8⟩
      have HB8 := Lib.hid (HB7.out.trans hB8)
      clear hB8
      go_wp2
      go_ret
      exact ⟨rfl, HB8.out.belowC⟩
end Go.Proofs.Ytedffeimcccobaa
