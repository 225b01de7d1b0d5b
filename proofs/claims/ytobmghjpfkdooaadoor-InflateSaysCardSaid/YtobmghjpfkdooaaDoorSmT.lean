/- The program's table of the small code. -/
import Derived.Test.YtobmghjpfkdooaaDoorInfZ
import Derived.Test.YtobmghjpfkdooaaDoorMkT
namespace Go.Proofs.YtobmghjpfkdooaaDoor
set_option maxRecDepth 100000
open Go Go.RowKit

/-- What the program's variables hold. -/
structure GL (w : World) : Prop where
  order : ∀ i, i < 19 → w.cell? ⟨0, i, none⟩ = some (.int .i64 (ordS.getD i 0 : Nat))
  bits : w.cell? ⟨1, 0, none⟩ = some (.int .i64 2) ∧ w.cell? ⟨1, 1, none⟩ = some (.int .i64 3) ∧ w.cell? ⟨1, 2, none⟩ = some (.int .i64 7)
  least : w.cell? ⟨2, 0, none⟩ = some (.int .i64 3) ∧ w.cell? ⟨2, 1, none⟩ = some (.int .i64 3) ∧ w.cell? ⟨2, 2, none⟩ = some (.int .i64 11)
theorem GL.but {w w' : World} (h : GL w) (hB : But [] w w') : GL w' :=
  ⟨fun i hi => hB.cell (h.order i hi) (by simp), ⟨hB.cell h.bits.1 (by simp), hB.cell h.bits.2.1 (by simp), hB.cell h.bits.2.2 (by simp)⟩, ⟨hB.cell h.least.1 (by simp), hB.cell h.least.2.1 (by simp), hB.cell h.least.2.2 (by simp)⟩⟩

section
variable {w w' : World} {b rb db : Nat} {og : Option Nat} {s : ByteArray} {p : Nat} {M : Int} {L : List UInt8} {fs fd : Option Nat}
theorem foot_ne (h : SS w b rb db og s p M L fs fd) : w.heap.size ∉ Foot b rb og := fun hk => by
  have h1 := h.lt
  have h2 := h.hr
  unfold Foot at hk
  rcases List.mem_cons.1 hk with e | hk
  · omega
  rcases List.mem_cons.1 hk with e | hk
  · omega
  have := (h.out w.heap.size (by simpa using hk)).2
  omega
def rSmall (told : Nat) : Rd (List Int) := rBind (smallG (ordS.take told) (List.replicate 19 0)) fun small => rWhen (chk small ≠ 0) (chk small) (rPure small)
def GotS (w : World) (b rb db : Nat) (og : Option Nat) (s : ByteArray) (M : Int) (L : List UInt8) (fs fd : Option Nat) (r : Except Int (List Int × Nat)) (e : Ending) (w' : World) : Prop :=
  ∃ (pv : Value) (er : Int) (q : Nat) (small : List Int), e = .returned (.tuple #[pv, .int .i64 er]) ∧ Mv b rb w w' og og ∧ (er ≠ 0 → r = .error er) ∧
    (er = 0 → r = .ok (small, q) ∧ SS w' b rb db og s q M L fs fd ∧ chk small = 0 ∧ ∃ bt, pv = .pointer (some ⟨bt, 0, none⟩) ∧ NewT w.heap.size w' bt small)
theorem ordS_lt {i : Nat} (h : i < 19) : ordS.getD i 0 < 19 := by
  have : ∀ i, i < 19 → ordS.getD i 0 < 19 := by decide
  exact this i h
theorem ordS_drop {told k : Nat} (h : k < told) (ht : told ≤ 19) : (ordS.take told).drop k = ordS.getD k 0 :: (ordS.take told).drop (k + 1) := by
  have hl : (ordS.take told).length = told := by rw [List.length_take]; show min told 19 = told; omega
  rw [List.drop_eq_getElem_cons (by omega), List.getElem_take, List.getD_eq_getElem?_getD, List.getElem?_eq_getElem (show k < ordS.length by show k < 19; omega)]
  rfl
theorem small_step {k v q q2 : Nat} {ks : List Nat} {acc : List Int} (h : rBits 3 s q = .ok (v, q2)) : smallG (k :: ks) acc s q = smallG ks (acc.set k (v : Nat)) s q2 := bind_val h
theorem small_stop {k q : Nat} {er : Int} {ks : List Nat} {acc : List Int} (h : rBits 3 s q = .error er) : smallG (k :: ks) acc s q = .error er := bind_err h
/-- A row of numbers of type t in block B. -/
def Row (w : World) (B : Nat) (t : TypeId) (l : List Int) : Prop := Is w B t (l.map (Value.int .i64)).toArray
theorem Row.ints {B : Nat} {t : TypeId} {l : List Int} (h : Row w B t l) : Ints w (some ⟨B, 0, none⟩) l.length l :=
  ⟨rfl, fun _ => ⟨B, 0, rfl, Is.lt h, fun i hi => by
    have := Is.cell h (0 + i)
    rw [this, Nat.zero_add]
    simp [hi]⟩⟩
theorem Row.set {B : Nat} {t : TypeId} {l : List Int} (h : Row w B t l) (i : Nat) (x : Int) : Row (w.setCell ⟨B, i, none⟩ (.int .i64 x)) B t (l.set i x) := by
  unfold Row at h ⊢
  have := h.put i (.int .i64 x)
  rw [List.map_set]
  simpa using this
theorem Row.at {B : Nat} {t : TypeId} {l : List Int} (h : Row w B t l) {i : Nat} (hi : i < l.length) : w.cell? ⟨B, i, none⟩ = some (.int .i64 (l.getD i 0)) := by
  have := Is.cell h i
  rw [this, List.getD_eq_getElem?_getD, List.getElem?_eq_getElem hi]
  simp [hi]
theorem Row.but {B : Nat} {t : TypeId} {l : List Int} {S : List Nat} (h : Row w B t l) (hB : But S w w') (hS : B ∉ S) : Row w' B t l := Is.but h hB hS

set_option maxHeartbeats 1000000 in
theorem smallTable_any (h : SS w b rb db og s p M L fs fd) (hG : Keep (Foot b rb og) w GL) (told : Nat) (ht : told ≤ 19) :
    Calls Tryd.prog 43 #[.pointer (some ⟨b, 0, none⟩), .int .i64 told] w (GotS w b rb db og s M L fs fd (rSmall told s p)) := by
  have hwb := h.lt
  have hb1 := but_alloc w (.cells (List.replicate 19 (Value.int .i64 0)).toArray 95)
  have h1 := h.alloc (.cells (List.replicate 19 (Value.int .i64 0)).toArray 95)
  have m1 := Mv.alloc (b := b) (rb := rb) (w := w) (og := og) (.cells (List.replicate 19 (Value.int .i64 0)).toArray 95)
  have hI := Is.fresh w 95 (List.replicate 19 (Value.int .i64 0)).toArray
  have hfl := foot_ne h
  have hdb := h.hd
  have HS := Lib.hid h1
  have HM := Lib.hid m1
  have HI := Lib.hid hI
  have HG := Lib.hid hG
  have HFL := Lib.hid hfl
  clear h hG hb1 h1 m1 hI hfl
  go_enter Tryd.func43, Tryd.ntmps43
  go_wp2
  go_loopw [11] (fun iv wr => ∃ (k q : Nat) (acc : List Int), k ≤ told ∧ iv = .int .i64 k ∧ acc.length = 19 ∧ Hid (smallG ((ordS.take told).drop k) acc s q = smallG (ordS.take told) (List.replicate 19 0) s p) ∧ SS wr b rb db og s q M L fs fd ∧ Mv b rb w wr og og ∧ Row wr w.heap.size 95 acc) (fun iv _ => told - (intOf iv).toNat)
  case atStart => exact ⟨0, p, List.replicate 19 0, Nat.zero_le _, rfl, by decide, by rfl, HS.out, HM.out, HI.out⟩
  case round =>
    obtain ⟨k, q, acc, hk, rfl, hal, HR, hS, hMv, hRow⟩ := hrel
    have HMV := Lib.hid hMv
    have HROW := Lib.hid hRow
    have HAL := Lib.hid hal
    have hin := hS.inCell
    by_cases hlt : k < told
    · have hbt := hS.bits 3
      have hds := ordS_drop hlt ht
      have hol := ordS_lt (i := k) (by omega)
      obtain ⟨oi, hoi⟩ : ∃ oi, oi = ordS.getD k 0 := ⟨_, rfl⟩
      rw [← hoi] at hds hol
      have HBT := Lib.hid hbt
      have HDS := Lib.hid hds
      have HOI := Lib.hid hoi
      clear hbt hds hoi hS hMv hRow hal HS HM HI
      go_wp2_with fail
      refine HBT.out.mono ?_
      rintro e w2 ⟨v, er, q2, rfl, hMv2, he1, he2⟩
      have hRow2 := HROW.out.but hMv2.but HFL.out
      have HE1 := Lib.hid he1
      have HE2 := Lib.hid he2
      have hMW := HMV.out.trans hMv2
      have HMW := Lib.hid hMW
      by_cases her : er = 0
      · obtain ⟨hr, hS2⟩ := HE2.out her
        have hgl := HG.out w2 HMW.out.but
        have c0 := hgl.order k (by omega)
        rw [← HOI.out] at c0
        have c1 : w2.cell? ⟨w.heap.size, oi, none⟩ = some (.int .i64 (acc.getD oi 0))   := hRow2.at (by have := HAL.out; omega)
        have f1 : w2.frozen? ⟨w.heap.size, oi, none⟩ = false := Is.free hRow2 oi
        have b0 : (0 : Int) ≤ (oi : Int) := by omega
        have b1 : (oi : Int) < 19 := by omega
        have b2 : (0 : Int) ≤ (k : Int) := by omega
        have b3 : (k : Int) < 19 := by omega
        have HRR := Lib.hid hr
        have HS2 := Lib.hid hS2
        have HRW := Lib.hid hRow2
        clear hr hS2 hRow2 HE1 HE2 he1 he2 hgl hMW hMv2
        subst her
        go_wp2
        go_roundw
        case rel =>
          refine ⟨k + 1, q2, acc.set oi (v : Int), by omega, by go_num, by rw [List.length_set]; exact HAL.out, ?_, HS2.out.away ((But.refl [w.heap.size] w2).setCell (.inl (by simp)) _) (fun x hx => ?_), ⟨HMW.out.but.setCell (.inr (Nat.le_refl _)) _, HMW.out.own⟩, HRW.out.set oi (v : Int)⟩
          · show _ = _
            rw [← HR.out, HDS.out]
            exact (small_step HRR.out).symm
          · obtain rfl : x = w.heap.size := by simpa using hx
            exact ⟨HFL.out, by omega⟩
        case measure => simp [intOf]; omega
      · have d2 : (er != 0) = true := by simpa using her
        have HER := Lib.hid her
        clear her he1 he2 hMv2 hMW hRow2
        go_wp2
        go_ret2
        refine ⟨.pointer none, er, 0, [], rfl, HMW.out, fun _ => ?_, fun e => absurd e HER.out⟩
        unfold rSmall
        refine bind_err ?_
        rw [← HR.out, HDS.out]
        exact small_stop (HE1.out HER.out)
    · obtain rfl : k = told := by omega
      have hok : smallG (ordS.take k) (List.replicate 19 0) s p = .ok (acc, q) := by
        rw [← HR.out, List.drop_of_length_le (by rw [List.length_take]; omega)]; rfl
      have hrs : rSmall k s p = rWhen (chk acc ≠ 0) (chk acc) (rPure acc) s q := bind_val hok
      have hI := hRow.ints
      rw [hal] at hI
      have HRS := Lib.hid hrs
      have HS2 := Lib.hid hS
      have hlt2 := HMV.out.but.size
      clear hok hrs hS hMv hRow hal HS HM HI HR hin
      by_cases hc : chk acc = 0
      · have hmk := make_new (cap := 19) hI (by omega) (fun e => by cases e) hc
        have HMK := Lib.hid hmk
        have HC := Lib.hid hc
        clear hmk hc hI
        go_wp2_with fail
        refine HMK.out.mono ?_
        rintro e w3 ⟨bt, rfl, hT, hB⟩
        have hM3 : Mv b rb wr w3 og og := Mv.of hB (by simp)
        have HT := Lib.hid hT
        have HM3 := Lib.hid (HMV.out.trans hM3)
        have HS3 := Lib.hid (HS2.out.but hB (by simp))
        clear hT hB hM3
        go_wp2
        go_ret2
        refine ⟨_, 0, q, acc, rfl, HM3.out, fun e => absurd rfl e, fun _ => ⟨by rw [HRS.out, when_not (by simpa using HC.out)]; rfl, HS3.out, HC.out, bt, rfl, HT.out.lower hlt2⟩⟩
      · have hmk := make_err (cap := 19) hI (by unfold maxLen; omega) hc
        obtain ⟨x, hx⟩ : ∃ x, chk acc = x := ⟨_, rfl⟩
        rw [hx] at hmk hc
        have HMK := Lib.hid hmk
        have HC := Lib.hid hc
        have HX := Lib.hid hx
        clear hmk hc hI hx
        go_wp2_with fail
        refine HMK.out.mono ?_
        rintro e w3 ⟨rfl, rfl⟩
        go_wp2
        go_ret2
        refine ⟨.pointer none, x, 0, [], rfl, HMV.out, fun _ => ?_, fun e => absurd e HC.out⟩
        rw [HRS.out, when_yes (by rw [HX.out]; exact HC.out), HX.out]
end
end Go.Proofs.YtobmghjpfkdooaaDoor
