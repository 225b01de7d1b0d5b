/- What a stream says, block by block: one law for each way that a block may go. -/
import Derived.Test.YtcllddfhppikhaaDoorInfT
set_option linter.unusedVariables false
namespace Go.Proofs.YtcllddfhppikhaaDoor
set_option maxRecDepth 100000

section
variable {most : Int} {out : List UInt8} {s : ByteArray} {p F f : Nat}
/-- Where a stored block's numbers end. -/
def p1Of (s : ByteArray) (p : Nat) : Nat := bytesGo s p (2 : Nat)
theorem stored_err1 (he : bytesErr s p (2 : Nat) ≠ 0) : storedR most out s p = .error (bytesErr s p (2 : Nat)) := bind_err (rBytes_err he)
theorem stored_err2 (h1 : bytesErr s p (2 : Nat) = 0) (he : bytesErr s (bytesGo s p (2 : Nat)) (2 : Nat) ≠ 0) : storedR most out s p = .error (bytesErr s (bytesGo s p (2 : Nat)) (2 : Nat)) := (bind_val (rBytes_val h1)).trans (bind_err (rBytes_err he))
theorem stored_not (h1 : bytesErr s p (2 : Nat) = 0) (h2 : bytesErr s (bytesGo s p (2 : Nat)) (2 : Nat) = 0) (hw : wordOf (bytesVal s (bytesGo s p (2 : Nat)) (2 : Nat)) ≠ 65535 - wordOf (bytesVal s p (2 : Nat))) : storedR most out s p = .error 14 :=
  (bind_val (rBytes_val h1)).trans ((bind_val (rBytes_val h2)).trans (when_yes hw))
/-- The bytes of a stored block. -/
def storedK (most : Int) (out : List UInt8) (n : Nat) : Rd (List UInt8) := rBind (rBytes n) fun x => rWhen (most < (out.length : Int) + (n : Nat)) 5 (rPure (out ++ x.data.toList))
theorem stored_goes (h1 : bytesErr s p (2 : Nat) = 0) (h2 : bytesErr s (bytesGo s p (2 : Nat)) (2 : Nat) = 0) (hw : ¬ wordOf (bytesVal s (bytesGo s p (2 : Nat)) (2 : Nat)) ≠ 65535 - wordOf (bytesVal s p (2 : Nat))) :
    storedR most out s p = storedK most out (wordOf (bytesVal s p (2 : Nat))) s (bytesGo s (bytesGo s p (2 : Nat)) (2 : Nat)) :=
  (bind_val (rBytes_val h1)).trans ((bind_val (rBytes_val h2)).trans (when_not hw))
variable {n : Nat}
theorem storedK_err (he : bytesErr s p n ≠ 0) : storedK most out n s p = .error (bytesErr s p n) := bind_err (rBytes_err he)
theorem storedK_big (he : bytesErr s p n = 0) (hb : most < (out.length : Int) + (n : Nat)) : storedK most out n s p = .error 5 := (bind_val (rBytes_val he)).trans (when_yes hb)
theorem storedK_goes (he : bytesErr s p n = 0) (hb : ¬ most < (out.length : Int) + (n : Nat)) : storedK most out n s p = .ok (out ++ (bytesVal s p n).data.toList, bytesGo s p n) := (bind_val (rBytes_val he)).trans (when_not hb)

theorem tables_err1 {α : Type} {l d : List Int} {m : Rd α} (h : chk l ≠ 0) : tablesR l d m s p = .error (chk l) := when_yes h
theorem tables_err2 {α : Type} {l d : List Int} {m : Rd α} (h1 : chk l = 0) (h : chk d ≠ 0) : tablesR l d m s p = .error (chk d) := (when_not (by simpa using h1)).trans (when_yes h)
theorem tables_goes {α : Type} {l d : List Int} {m : Rd α} (h1 : chk l = 0) (h2 : chk d = 0) : tablesR l d m s p = m s p := (when_not (by simpa using h1)).trans (when_not (by simpa using h2))
theorem block_fixed : blockR most F 1 out s p = symG fixL fixD most F out s p := by
  unfold blockR; rw [if_neg (by omega), if_pos rfl]; exact tables_goes chk_fixL chk_fixD
theorem block_stored : blockR most F 0 out s p = storedR most out s p := by unfold blockR; rw [if_pos rfl]
theorem block_dyn : blockR most F 2 out s p = dynR most F out s p := by unfold blockR; rw [if_neg (by omega), if_neg (by omega), if_pos rfl]
theorem block_none : blockR most F 3 out s p = .error 13 := by unfold blockR; rw [if_neg (by omega), if_neg (by omega), if_neg (by omega)]; rfl

/-! The head of a dynamic block. -/
theorem dyn_err1 (he : bitsErr s p (5 : Nat) ≠ 0) : dynR most F out s p = .error (bitsErr s p (5 : Nat)) := bind_err (rBits_err he)
def dyn1 (most : Int) (F : Nat) (out : List UInt8) (a : Nat) : Rd (List UInt8) := rBind (rBits 5) fun b => rBind (rBits 4) fun c => rBind (smallG (ordS.take (c + 4)) (List.replicate 19 0)) fun small =>
    rWhen (chk small ≠ 0) (chk small) (rBind (lenG small (a + 257 + (b + 1)) F []) fun ls => tablesR (ls.take (a + 257)) (ls.drop (a + 257)) (symG (ls.take (a + 257)) (ls.drop (a + 257)) most F out))
theorem dyn_goes1 (h : bitsErr s p (5 : Nat) = 0) : dynR most F out s p = dyn1 most F out (bitsVal s p (5 : Nat)) s (bitsGo s p (5 : Nat)) := bind_val (rBits_val h)
variable {a b c : Nat}
theorem dyn_err2 (he : bitsErr s p (5 : Nat) ≠ 0) : dyn1 most F out a s p = .error (bitsErr s p (5 : Nat)) := bind_err (rBits_err he)
def dyn2 (most : Int) (F : Nat) (out : List UInt8) (a b : Nat) : Rd (List UInt8) := rBind (rBits 4) fun c => rBind (smallG (ordS.take (c + 4)) (List.replicate 19 0)) fun small =>
    rWhen (chk small ≠ 0) (chk small) (rBind (lenG small (a + 257 + (b + 1)) F []) fun ls => tablesR (ls.take (a + 257)) (ls.drop (a + 257)) (symG (ls.take (a + 257)) (ls.drop (a + 257)) most F out))
theorem dyn_goes2 (h : bitsErr s p (5 : Nat) = 0) : dyn1 most F out a s p = dyn2 most F out a (bitsVal s p (5 : Nat)) s (bitsGo s p (5 : Nat)) := bind_val (rBits_val h)
theorem dyn_err3 (he : bitsErr s p (4 : Nat) ≠ 0) : dyn2 most F out a b s p = .error (bitsErr s p (4 : Nat)) := bind_err (rBits_err he)
def dyn3 (most : Int) (F : Nat) (out : List UInt8) (a b : Nat) (small : List Int) : Rd (List UInt8) :=
    rWhen (chk small ≠ 0) (chk small) (rBind (lenG small (a + 257 + (b + 1)) F []) fun ls => tablesR (ls.take (a + 257)) (ls.drop (a + 257)) (symG (ls.take (a + 257)) (ls.drop (a + 257)) most F out))
theorem dyn_goes3 (h : bitsErr s p (4 : Nat) = 0) : dyn2 most F out a b s p = rBind (smallG (ordS.take (bitsVal s p (4 : Nat) + 4)) (List.replicate 19 0)) (dyn3 most F out a b) s (bitsGo s p (4 : Nat)) := bind_val (rBits_val h)
variable {small ls : List Int} {k : Nat} {ks : List Nat} {q : Nat} {e : Int}
theorem small_err (he : bitsErr s p (3 : Nat) ≠ 0) : smallG (k :: ks) small s p = .error (bitsErr s p (3 : Nat)) := bind_err (rBits_err he)
theorem small_goes (h : bitsErr s p (3 : Nat) = 0) : smallG (k :: ks) small s p = smallG ks (small.set k (bitsVal s p (3 : Nat) : Nat)) s (bitsGo s p (3 : Nat)) := bind_val (rBits_val h)
theorem dyn3_err (h : chk small ≠ 0) : dyn3 most F out a b small s p = .error (chk small) := when_yes h
theorem dyn3_len_err (h : chk small = 0) (he : lenG small (a + 257 + (b + 1)) F [] s p = .error e) : dyn3 most F out a b small s p = .error e := (when_not (by simpa using h)).trans (bind_err he)
theorem dyn3_goes (h : chk small = 0) (he : lenG small (a + 257 + (b + 1)) F [] s p = .ok (ls, q)) : dyn3 most F out a b small s p = tablesR (ls.take (a + 257)) (ls.drop (a + 257)) (symG (ls.take (a + 257)) (ls.drop (a + 257)) most F out) s q :=
  (when_not (by simpa using h)).trans (bind_val he)

/-! Blocks. -/
theorem blk_err1 (he : bitsErr s p (1 : Nat) ≠ 0) : blkG most F (f + 1) out s p = .error (bitsErr s p (1 : Nat)) := bind_err (rBits_err he)
theorem blk_err2 (h1 : bitsErr s p (1 : Nat) = 0) (he : bitsErr s (bitsGo s p (1 : Nat)) (2 : Nat) ≠ 0) : blkG most F (f + 1) out s p = .error (bitsErr s (bitsGo s p (1 : Nat)) (2 : Nat)) := (bind_val (rBits_val h1)).trans (bind_err (rBits_err he))
/-- Behind a block's kind. -/
def blkK (most : Int) (F f last kind : Nat) (out : List UInt8) : Rd (List UInt8) := rBind (blockR most F kind out) fun out' => if last ≠ 0 then rPure out' else blkG most F f out'
theorem blk_goes (h1 : bitsErr s p (1 : Nat) = 0) (h2 : bitsErr s (bitsGo s p (1 : Nat)) (2 : Nat) = 0) :
    blkG most F (f + 1) out s p = blkK most F f (bitsVal s p (1 : Nat)) (bitsVal s (bitsGo s p (1 : Nat)) (2 : Nat)) out s (bitsGo s (bitsGo s p (1 : Nat)) (2 : Nat)) := (bind_val (rBits_val h1)).trans (bind_val (rBits_val h2))
variable {last kind : Nat} {out' : List UInt8}
theorem blkK_err (h : blockR most F kind out s p = .error e) : blkK most F f last kind out s p = .error e := bind_err h
theorem blkK_last (h : blockR most F kind out s p = .ok (out', q)) (hl : last ≠ 0) : blkK most F f last kind out s p = .ok (out', q) := by
  refine (bind_val h).trans ?_
  rw [if_pos hl]; rfl
theorem blkK_more (h : blockR most F kind out s p = .ok (out', q)) (hl : last = 0) : blkK most F f last kind out s p = blkG most F f out' s q := by
  refine (bind_val h).trans ?_
  rw [if_neg (by simpa using hl)]
end
/-- What Inflate tells: the bytes, how many bytes the stream has, and what is wrong. -/
def inflT (s : ByteArray) (most : Int) : List UInt8 × Nat × Int := match inflS s most with
  | .error e => ([], 0, e)
  | .ok (a, q) => (a, (q + 7) / 8, 0)
theorem inflT_err {s : ByteArray} {most e : Int} (h : inflS s most = .error e) : inflT s most = ([], 0, e) := by unfold inflT; rw [h]
theorem inflT_ok {s : ByteArray} {most : Int} {a : List UInt8} {q : Nat} (h : inflS s most = .ok (a, q)) : inflT s most = (a, (q + 7) / 8, 0) := by unfold inflT; rw [h]
end Go.Proofs.YtcllddfhppikhaaDoor
