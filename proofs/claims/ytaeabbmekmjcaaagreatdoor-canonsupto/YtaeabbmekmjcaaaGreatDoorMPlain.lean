/-
  PLAIN: what finish tells is the digest.
-/
import Derived.Test.YtaeabbmekmjcaaaGreatDoorMLast
namespace Go.Proofs.YtaeabbmekmjcaaaGreatDoor
/-- What finish tells. -/
def finM (st : List Nat) (l : List UInt8) : List Nat := mixN (l.take (64 * (l.length / 64))) st (l.length / 64)
def finL (st : List Nat) (l : List UInt8) (before : Nat) : List UInt8 :=
  outL (mixN (lastL (l.drop (64 * (l.length / 64))) (before + l.length)) (finM st l) ((lastL (l.drop (64 * (l.length / 64))) (before + l.length)).length / 64)) 8
theorem byteAt_left (a b : List UInt8) (i : Nat) (h : i < a.length) : byteAt (a ++ b) i = byteAt a i := by
  unfold byteAt; rw [getD_app, if_pos h]
theorem byteAt_right (a b : List UInt8) (i : Nat) : byteAt (a ++ b) (a.length + i) = byteAt b i := by
  unfold byteAt; rw [getD_app, if_neg (by omega), Nat.add_sub_cancel_left]
theorem wpart_left (a b : List UInt8) (p k : Nat) (h : p + k ≤ a.length) : wpart (a ++ b) p k = wpart a p k := by
  induction k with
  | zero => rfl
  | succ k ih => simp only [wpart]; rw [ih (by omega), byteAt_left a b (p + k) (by omega)]
theorem wpart_right (a b : List UInt8) (p k : Nat) : wpart (a ++ b) (a.length + p) k = wpart b p k := by
  induction k with
  | zero => rfl
  | succ k ih => simp only [wpart]; rw [ih, Nat.add_assoc, byteAt_right]
theorem firsts_left (a b : List UInt8) (p k : Nat) (h : p + 4 * k ≤ a.length) : firsts (a ++ b) p k = firsts a p k := by
  induction k with
  | zero => rfl
  | succ k ih => simp only [firsts]; rw [ih (by omega), wpart_left a b _ 4 (by omega)]
theorem firsts_right (a b : List UInt8) (p k : Nat) : firsts (a ++ b) (a.length + p) k = firsts b p k := by
  induction k with
  | zero => rfl
  | succ k ih => simp only [firsts]; rw [ih, Nat.add_assoc, wpart_right]
theorem mixN_left (a b : List UInt8) (h : List Nat) (n : Nat) (hn : 64 * n ≤ a.length) : mixN (a ++ b) h n = mixN a h n := by
  induction n with
  | zero => rfl
  | succ n ih => simp only [mixN]; rw [ih (by omega), firsts_left a b _ 16 (by omega)]
theorem mixN_right (a b : List UInt8) (h : List Nat) (m n : Nat) (hm : a.length = 64 * m) : mixN (a ++ b) h (m + n) = mixN b (mixN a h m) n := by
  induction n with
  | zero => exact mixN_left a b h m (by omega)
  | succ n ih => rw [← Nat.add_assoc]; simp only [mixN]; rw [ih, Nat.mul_add, ← hm, firsts_right]
theorem fin_digest (B l : List UInt8) (k : Nat) (hB : B.length = 64 * k) : finL (mixN B hL k) l (64 * k) = digest (B ++ l) := by
  unfold finL finM digest
  generalize hm : l.length / 64 = m
  have htl : (l.take (64 * m)).length = 64 * m := by rw [List.length_take]; omega
  have hdl : (l.drop (64 * m)).length = l.length - 64 * m := List.length_drop
  have hz : zs (B ++ l).length = zs (l.drop (64 * m)).length := by
    rw [hdl, List.length_append, hB]; unfold zs; omega
  have hp : pad (B ++ l) = (B ++ l.take (64 * m)) ++ lastL (l.drop (64 * m)) (64 * k + l.length) := by
    unfold pad lastL
    rw [hz, List.length_append, hB]
    simp only [← List.append_assoc]
    rw [List.append_assoc B (l.take (64 * m)), List.take_append_drop]
  have hbl : (B ++ l.take (64 * m)).length = 64 * (k + m) := by rw [List.length_append, hB, htl]; omega
  rw [hp]
  generalize lastL (l.drop (64 * m)) (64 * k + l.length) = q
  have e : ((B ++ l.take (64 * m)) ++ q).length / 64 = (k + m) + q.length / 64 := by rw [List.length_append, hbl]; omega
  rw [e, mixN_right _ _ _ (k + m) _ hbl, mixN_right _ _ _ k m hB]
theorem fin_hash (l : List UInt8) : finL hL l 0 = digest l := fin_digest [] l 0 rfl
theorem outL_get (h : List Nat) (k j : Nat) (hj : j < 4 * k) : ((outL h k).getD j 0).toNat = outAt h j := by
  induction k with
  | zero => omega
  | succ k ih =>
    simp only [outL]
    rw [getD_app, outL_len]
    by_cases e : j < 4 * k
    · rw [if_pos e, ih e]
    · rw [if_neg e, bigL_get _ 4 _ (by omega)]
      unfold outAt
      rw [show j / 4 = k from by omega, show j % 4 = j - 4 * k from by omega]
      have : j - 4 * k = 0 ∨ j - 4 * k = 1 ∨ j - 4 * k = 2 ∨ j - 4 * k = 3 := by omega
      rcases this with e | e | e | e <;> rw [e]
theorem out_bytes (h : List Nat) : ((List.range 32).map (outAt h)).map (fun x : Nat => Value.int .u8 (x : Int)) = (outL h 8).map u8v := by
  apply List.ext_getElem?
  intro j
  by_cases hj : j < 32
  · have := outL_get h 8 j (by omega)
    have hl : j < (outL h 8).length := by rw [outL_len]; omega
    simp only [List.getD_eq_getElem?_getD, List.getElem?_eq_getElem hl, Option.getD_some] at this
    simp [hj, List.getElem?_eq_getElem hl, u8v, ← this]
  · have hl : ¬ j < (outL h 8).length := by rw [outL_len]; omega
    rw [List.getElem?_eq_none (by simp; omega), List.getElem?_eq_none (by simp [outL_len]; omega)]
theorem cut_to (l : List UInt8) (p : Nat) : (⟨l.toArray⟩ : ByteArray).extract 0 p = ⟨(l.take p).toArray⟩ := by
  apply ByteArray.ext; simp
theorem cut_from (l : List UInt8) (p : Nat) : (⟨l.toArray⟩ : ByteArray).extract p l.length = ⟨(l.drop p).toArray⟩ := by
  apply ByteArray.ext; simp [List.take_of_length_le]
end Go.Proofs.YtaeabbmekmjcaaaGreatDoor
