/- What a stream says, step by step: one law for each way that a step may go; the fixed lengths; how great the numbers of matches get. -/
import Derived.Test.YtcllddfhppikhaaDoorInfS
set_option linter.unusedVariables false
namespace Go.Proofs.YtcllddfhppikhaaDoor
set_option maxRecDepth 100000

theorem rBits_val {n p : Nat} {s : ByteArray} (h : bitsErr s p n = 0) : rBits n s p = .ok (bitsVal s p n, bitsGo s p n) := by unfold rBits; rw [if_neg (by simpa using h)]
theorem rBits_err {n p : Nat} {s : ByteArray} (h : bitsErr s p n ≠ 0) : rBits n s p = .error (bitsErr s p n) := by unfold rBits; rw [if_pos h]
theorem rBytes_val {n p : Nat} {s : ByteArray} (h : bytesErr s p n = 0) : rBytes n s p = .ok (bytesVal s p n, bytesGo s p n) := by unfold rBytes; rw [if_neg (by simpa using h)]
theorem rBytes_err {n p : Nat} {s : ByteArray} (h : bytesErr s p n ≠ 0) : rBytes n s p = .error (bytesErr s p n) := by unfold rBytes; rw [if_pos h]
theorem rNext_val {l : List Int} {p t p1 : Nat} {s : ByteArray} (h : nextS l s p = (t, 0, p1)) : rNext l s p = .ok (t, p1) := by unfold rNext; rw [h]; rfl
theorem rNext_err {l : List Int} {p t p1 : Nat} {e : Int} {s : ByteArray} (h : nextS l s p = (t, e, p1)) (he : e ≠ 0) : rNext l s p = .error e := by unfold rNext; rw [h]; exact if_pos he
section
variable {α β : Type} {m : Rd α} {f : α → Rd β} {s : ByteArray} {p q : Nat} {a : α} {e : Int}
theorem bind_val (h : m s p = .ok (a, q)) : rBind m f s p = f a s q := by unfold rBind; rw [h]
theorem bind_err (h : m s p = .error e) : rBind m f s p = .error e := by unfold rBind; rw [h]
end

section
variable {l d : List Int} {most : Int} {f p p1 t : Nat} {out : List UInt8} {s : ByteArray}
theorem sym_err {e : Int} (h : nextS l s p = (t, e, p1)) (he : e ≠ 0) : symG l d most (f + 1) out s p = .error e := bind_err (rNext_err h he)
theorem sym_end (h : nextS l s p = (256, 0, p1)) : symG l d most (f + 1) out s p = .ok (out, p1) := bind_val (rNext_val h)
theorem sym_lit_big (h : nextS l s p = (t, 0, p1)) (ht : t < 256) (hm : most < (out.length : Int) + 1) : symG l d most (f + 1) out s p = .error 5 := by
  refine (bind_val (rNext_val h)).trans ?_
  rw [if_neg (by omega), if_pos ht, when_yes hm]
theorem sym_lit (h : nextS l s p = (t, 0, p1)) (ht : t < 256) (hm : ¬ most < (out.length : Int) + 1) : symG l d most (f + 1) out s p = symG l d most f (out ++ [UInt8.ofNat t]) s p1 := by
  refine (bind_val (rNext_val h)).trans ?_
  rw [if_neg (by omega), if_pos ht, when_not hm]
theorem sym_code (h : nextS l s p = (t, 0, p1)) (ht : 285 < t) : symG l d most (f + 1) out s p = .error 12 := by
  refine (bind_val (rNext_val h)).trans ?_
  rw [if_neg (by omega), if_neg (by omega), when_yes ht]
/-- A match: what follows its symbol. -/
def matchR (l d : List Int) (most : Int) (f : Nat) (out : List UInt8) (t : Nat) : Rd (List UInt8) :=
  rBind (rBits (lenBits t)) fun x => rBind (rNext d) fun u => rWhen (29 < u) 12 (rBind (rBits (dstBits u)) fun y =>
    rWhen (out.length < dstBase u + y) 15 (rWhen (most < (out.length : Int) + ((lenBase t + x : Nat) : Int)) 5 (symG l d most f (matchOut (dstBase u + y) (lenBase t + x) out))))
theorem sym_match (h : nextS l s p = (t, 0, p1)) (h1 : 256 < t) (h2 : t ≤ 285) : symG l d most (f + 1) out s p = matchR l d most f out t s p1 := by
  refine (bind_val (rNext_val h)).trans ?_
  rw [if_neg (by omega), if_neg (by omega), when_not (by omega)]; rfl
variable {u p2 p3 : Nat}
theorem match_len_err (he : bitsErr s p1 (lenBits t) ≠ 0) : matchR l d most f out t s p1 = .error (bitsErr s p1 (lenBits t)) := bind_err (rBits_err he)
theorem match_dst_err {e : Int} (h0 : bitsErr s p1 (lenBits t) = 0) (h : nextS d s (bitsGo s p1 (lenBits t)) = (u, e, p3)) (he : e ≠ 0) : matchR l d most f out t s p1 = .error e :=
  (bind_val (rBits_val h0)).trans (bind_err (rNext_err h he))
theorem match_dst_code (h0 : bitsErr s p1 (lenBits t) = 0) (h : nextS d s (bitsGo s p1 (lenBits t)) = (u, 0, p3)) (hu : 29 < u) : matchR l d most f out t s p1 = .error 12 :=
  (bind_val (rBits_val h0)).trans ((bind_val (rNext_val h)).trans (when_yes hu))
theorem match_bits_err (h0 : bitsErr s p1 (lenBits t) = 0) (h : nextS d s (bitsGo s p1 (lenBits t)) = (u, 0, p3)) (hu : ¬ 29 < u) (he : bitsErr s p3 (dstBits u) ≠ 0) : matchR l d most f out t s p1 = .error (bitsErr s p3 (dstBits u)) :=
  (bind_val (rBits_val h0)).trans ((bind_val (rNext_val h)).trans ((when_not hu).trans (bind_err (rBits_err he))))
theorem match_far (h0 : bitsErr s p1 (lenBits t) = 0) (h : nextS d s (bitsGo s p1 (lenBits t)) = (u, 0, p3)) (hu : ¬ 29 < u) (he : bitsErr s p3 (dstBits u) = 0) (hf : out.length < dstBase u + bitsVal s p3 (dstBits u)) : matchR l d most f out t s p1 = .error 15 :=
  (bind_val (rBits_val h0)).trans ((bind_val (rNext_val h)).trans ((when_not hu).trans ((bind_val (rBits_val he)).trans (when_yes hf))))
theorem match_big (h0 : bitsErr s p1 (lenBits t) = 0) (h : nextS d s (bitsGo s p1 (lenBits t)) = (u, 0, p3)) (hu : ¬ 29 < u) (he : bitsErr s p3 (dstBits u) = 0) (hf : ¬ out.length < dstBase u + bitsVal s p3 (dstBits u))
    (hb : most < (out.length : Int) + ((lenBase t + bitsVal s p1 (lenBits t) : Nat) : Int)) : matchR l d most f out t s p1 = .error 5 :=
  (bind_val (rBits_val h0)).trans ((bind_val (rNext_val h)).trans ((when_not hu).trans ((bind_val (rBits_val he)).trans ((when_not hf).trans (when_yes hb)))))
theorem match_goes (h0 : bitsErr s p1 (lenBits t) = 0) (h : nextS d s (bitsGo s p1 (lenBits t)) = (u, 0, p3)) (hu : ¬ 29 < u) (he : bitsErr s p3 (dstBits u) = 0) (hf : ¬ out.length < dstBase u + bitsVal s p3 (dstBits u))
    (hb : ¬ most < (out.length : Int) + ((lenBase t + bitsVal s p1 (lenBits t) : Nat) : Int)) :
    matchR l d most f out t s p1 = symG l d most f (matchOut (dstBase u + bitsVal s p3 (dstBits u)) (lenBase t + bitsVal s p1 (lenBits t)) out) s (bitsGo s p3 (dstBits u)) :=
  (bind_val (rBits_val h0)).trans ((bind_val (rNext_val h)).trans ((when_not hu).trans ((bind_val (rBits_val he)).trans ((when_not hf).trans (when_not hb)))))
theorem next_adv (hp : p ≤ 8 * s.size) (h : nextS l s p = (t, 0, p1)) : p < p1 ∧ p1 ≤ 8 * s.size := rNext_adv' l hp (rNext_val h)
end

/-! The numbers of matches. -/
theorem lenBits_le {t : Nat} (h1 : 256 < t) (h2 : t ≤ 285) : lenBits t ≤ 5 := by unfold lenBits; split <;> omega
theorem dstBits_le {u : Nat} (h : u ≤ 29) : dstBits u ≤ 13 := by unfold dstBits; split <;> omega
theorem lenBase_all : ∀ k, k < 29 → 3 ≤ lenBase (257 + k) ∧ lenBase (257 + k) ≤ 258 ∧ lenBase (257 + k) + 2 ^ lenBits (257 + k) ≤ 259 := by decide +kernel
theorem lenBase_le {t : Nat} (h1 : 256 < t) (h2 : t ≤ 285) : 3 ≤ lenBase t ∧ lenBase t ≤ 258 ∧ lenBase t + 2 ^ lenBits t ≤ 259 := by
  have := lenBase_all (t - 257) (by omega)
  rwa [show 257 + (t - 257) = t from by omega] at this
theorem dstBase_all : ∀ u, u < 30 → 1 ≤ dstBase u ∧ dstBase u + 2 ^ dstBits u ≤ 32769 := by decide +kernel
theorem dstBase_le {u : Nat} (h : u ≤ 29) : 1 ≤ dstBase u ∧ dstBase u + 2 ^ dstBits u ≤ 32769 := dstBase_all u (by omega)
theorem lenBase_succ {t : Nat} (h : 257 ≤ t) (h2 : t + 1 < 285) : lenBase (t + 1) = lenBase t + 2 ^ lenBits t := by
  unfold lenBase
  rw [if_neg (by omega), if_neg (by omega), show t + 1 - 257 = (t - 257) + 1 from by omega, List.range_succ, List.map_append, List.sum_append]
  simp only [List.map_cons, List.map_nil, List.sum_cons, List.sum_nil]
  rw [show 257 + (t - 257) = t from by omega]; omega
theorem dstBase_succ (u : Nat) : dstBase (u + 1) = dstBase u + 2 ^ dstBits u := by
  unfold dstBase
  rw [List.range_succ, List.map_append, List.sum_append]
  simp only [List.map_cons, List.map_nil, List.sum_cons, List.sum_nil]; omega
theorem bitsVal_lt (s : ByteArray) (p n : Nat) : bitsVal s p n < 2 ^ n := by
  unfold bitsVal; split
  · rw [Int.toNat_natCast]; exact bitsAt_lt _ _ _
  · exact Nat.two_pow_pos _
theorem chk_fixL : chk fixL = 0 := by decide +kernel
theorem chk_fixD : chk fixD = 0 := by decide +kernel

/-! Lengths in the small code. -/
section
variable {small : List Int} {total f p p1 t : Nat} {acc : List Int} {s : ByteArray}
theorem len_done (h : total ≤ acc.length) : lenG small total (f + 1) acc s p = .ok (acc, p) := by rw [lenG, if_pos h]; rfl
theorem len_open (h : acc.length < total) : lenG small total (f + 1) acc s p = rBind (rNext small) (fun t =>
    if t < 16 then lenG small total f (acc ++ [(t : Int)]) else
    if t = 16 then rWhen (acc.length = 0) 12 (rBind (rBits 2) fun x => rWhen (total < acc.length + (3 + x)) 12 (lenG small total f (acc ++ List.replicate (3 + x) (acc.getD (acc.length - 1) 0)))) else
    if t = 17 then rBind (rBits 3) fun x => rWhen (total < acc.length + (3 + x)) 12 (lenG small total f (acc ++ List.replicate (3 + x) 0)) else
    rBind (rBits 7) fun x => rWhen (total < acc.length + (11 + x)) 12 (lenG small total f (acc ++ List.replicate (11 + x) 0))) s p := by rw [lenG, if_neg (by omega)]
theorem len_err {e : Int} (h : acc.length < total) (hn : nextS small s p = (t, e, p1)) (he : e ≠ 0) : lenG small total (f + 1) acc s p = .error e := (len_open h).trans (bind_err (rNext_err hn he))
theorem len_one (h : acc.length < total) (hn : nextS small s p = (t, 0, p1)) (ht : t < 16) : lenG small total (f + 1) acc s p = lenG small total f (acc ++ [(t : Int)]) s p1 := by
  rw [len_open h, bind_val (rNext_val hn), if_pos ht]
theorem len_none (h : acc.length < total) (hn : nextS small s p = (16, 0, p1)) (h0 : acc.length = 0) : lenG small total (f + 1) acc s p = .error 12 := by
  rw [len_open h, bind_val (rNext_val hn), if_neg (by omega), if_pos rfl, when_yes h0]
/-- A repetition: of what, its least number, its bits. -/
def repR (small : List Int) (total f : Nat) (acc : List Int) (v : Int) (least bits : Nat) : Rd (List Int) := rBind (rBits bits) fun x => rWhen (total < acc.length + (least + x)) 12 (lenG small total f (acc ++ List.replicate (least + x) v))
theorem len_again (h : acc.length < total) (hn : nextS small s p = (16, 0, p1)) (h0 : acc.length ≠ 0) : lenG small total (f + 1) acc s p = repR small total f acc (acc.getD (acc.length - 1) 0) 3 2 s p1 := by
  rw [len_open h, bind_val (rNext_val hn), if_neg (by omega), if_pos rfl, when_not h0]; rfl
theorem len_zeros (h : acc.length < total) (hn : nextS small s p = (17, 0, p1)) : lenG small total (f + 1) acc s p = repR small total f acc 0 3 3 s p1 := by
  rw [len_open h, bind_val (rNext_val hn), if_neg (by omega), if_neg (by omega), if_pos rfl]; rfl
theorem len_many (h : acc.length < total) (hn : nextS small s p = (t, 0, p1)) (ht : 17 < t) : lenG small total (f + 1) acc s p = repR small total f acc 0 11 7 s p1 := by
  rw [len_open h, bind_val (rNext_val hn), if_neg (by omega), if_neg (by omega), if_neg (by omega)]; rfl
variable {v : Int} {least bits : Nat}
theorem rep_err (he : bitsErr s p1 bits ≠ 0) : repR small total f acc v least bits s p1 = .error (bitsErr s p1 bits) := bind_err (rBits_err he)
theorem rep_far (he : bitsErr s p1 bits = 0) (h : total < acc.length + (least + bitsVal s p1 bits)) : repR small total f acc v least bits s p1 = .error 12 := (bind_val (rBits_val he)).trans (when_yes h)
theorem rep_goes (he : bitsErr s p1 bits = 0) (h : ¬ total < acc.length + (least + bitsVal s p1 bits)) :
    repR small total f acc v least bits s p1 = lenG small total f (acc ++ List.replicate (least + bitsVal s p1 bits) v) s (bitsGo s p1 bits) := (bind_val (rBits_val he)).trans (when_not h)
end
end Go.Proofs.YtcllddfhppikhaaDoor
