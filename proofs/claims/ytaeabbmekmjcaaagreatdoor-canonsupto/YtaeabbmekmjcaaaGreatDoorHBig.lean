/-
  NUMBERS IN BYTES (the document's Big), bytes in digits (its Hex).
-/
import Derived.Test.YtaeabbmekmjcaaaGreatDoorHLeaf
import Derived.Laws.IdiomStrings
namespace Go.Proofs.YtaeabbmekmjcaaaGreatDoor
open Go.RowKit
/-- The low k bytes of a number, the highest first. -/
def bigL (n : Nat) : Nat → List UInt8
  | 0 => []
  | k + 1 => UInt8.ofNat (n / 256 ^ k) :: bigL n k
theorem bigL_len (n k : Nat) : (bigL n k).length = k := by induction k with | zero => rfl | succ k ih => simp [bigL, ih]
theorem byte_nat (n : Nat) : ((UInt8.ofNat n).toNat : Int) = (n : Int) % 256 := by simp
theorem conv_one (n : Nat) (w : World) : (convert 76 9 (.slice (some ⟨w.heap.size, 0, none⟩) 1 1)).run Tryz.prog (w.alloc (.cells #[.int .u8 ((n : Int) % 256)] 5)) =
    .ok (.string ⟨[UInt8.ofNat n].toArray⟩) (w.alloc (.cells #[.int .u8 ((n : Int) % 256)] 5)) := by
  refine run_convert_bytes_back (P := Tryz.prog) _ 76 9 5 ⟨w.heap.size, 0, none⟩ 1 [UInt8.ofNat n] Tryz.underlying76 Tryz.underlying5 Tryz.underlying9 fun j hj => ?_
  have : j = 0 := by simp at hj; omega
  subst this
  have e := byte_nat n
  simp only [List.getElem_cons_zero]
  rw [e]
  simp [go_sem, Addr.add]
theorem cons_str (c : UInt8) (l : List UInt8) : (⟨[c].toArray⟩ : ByteArray) ++ ⟨l.toArray⟩ = ⟨(c :: l).toArray⟩ := by
  apply ByteArray.ext; simp
set_option maxHeartbeats 400000 in
theorem big_any (n k : Nat) (hn : n < 4611686018427387904) (hk : k ≤ 8) (w : World) :
    Calls Tryz.prog 64 #[.int .i64 n, .int .i64 k] w fun e w' => e = .returned (.string ⟨(bigL n k).toArray⟩) ∧ Below w.heap.size w w' := by
  go_enter Tryz.func64, Tryz.ntmps64
  go_wp2
  go_loopw [0, 5, 6] (fun x v i wr => ∃ j : Nat, j ≤ k ∧ x = .int .i64 (n / 256 ^ j : Nat) ∧ v = .string ⟨(bigL n j).toArray⟩ ∧ i = .int .i64 j ∧ Below w.heap.size w wr) (fun _ _ i _ => k - (intOf i).toNat)
  case atStart => exact ⟨0, Nat.zero_le _, by simp, rfl, rfl, Below.refl _ _⟩
  case round =>
    obtain ⟨j, hj, rfl, rfl, rfl, hbel⟩ := hrel
    have hsz := hbel.size
    have hm : n / 256 ^ j < 4611686018427387904 := Nat.lt_of_le_of_lt (Nat.div_le_self _ _) hn
    have hl := bigL_len n j
    generalize hm2 : n / 256 ^ j = m at *
    generalize hq : bigL n j = q at *
    have HM : Hid (n / 256 ^ j = m) := hm2
    have HQ : Hid (bigL n j = q) := hq
    have hl2 : q.length ≤ 8 := by omega
    clear hm2 hq hl
    by_cases hlt : j < k
    · have hcv := conv_one m wr
      have hcs := cons_str (UInt8.ofNat m) q
      go_wp2
      go_roundw
      case rel =>
        refine ⟨j + 1, by omega, ?_, ?_, by go_num, hbel.alloc (by omega) _⟩
        · have e : n / 256 ^ (j + 1) = m / 256 := by rw [Nat.pow_succ, ← Nat.div_div_eq_div_mul, HM.out]
          rw [e]; simp
        · simp only [bigL]; rw [HM.out, HQ.out]
      case measure => simp [intOf]; omega
    · have e : j = k := by omega
      go_wp2
      go_ret
      exact ⟨ret_str (by rw [← HQ.out, e]), hbel⟩
theorem take_snoc (s : ByteArray) (k : Nat) (h : k < s.size) : s.data.toList.take (k + 1) = s.data.toList.take k ++ [s[k]] := by
  rw [List.take_succ_eq_append_getElem (by simpa using h)]; rfl
/-- Bytes in digits. -/
def hexL (d : Nat → UInt8) (l : List UInt8) : List UInt8 := l.flatMap fun c => [d (c.toNat / 16), d (c.toNat % 16)]
theorem hexL_snoc (d : Nat → UInt8) (l : List UInt8) (c : UInt8) : hexL d (l ++ [c]) = hexL d l ++ [d (c.toNat / 16), d (c.toNat % 16)] := by simp [hexL]
theorem hexL_len (d : Nat → UInt8) (l : List UInt8) : (hexL d l).length = 2 * l.length := by
  induction l with
  | nil => rfl
  | cons c l ih => simp [hexL] at *; omega
theorem cut_one (D : ByteArray) (j : Nat) (h : j < D.size) : D.extract j (j + 1) = ⟨[D.data.getD j 0].toArray⟩ := by
  apply ByteArray.ext
  have h' : j < D.data.size := h
  apply Array.ext
  · simp; omega
  · intro i h1 h2
    have : i = 0 := by simp at h2; omega
    subst this
    have e1 : (D.extract j (j + 1)).data[0]'h1 = D.data[j] := by simp
    rw [e1]; simp [Array.getD]
    intro hh; omega
theorem cut_two (D : ByteArray) (q : List UInt8) (i j : Nat) (hi : i < D.size) (hj : j < D.size) :
    (⟨q.toArray⟩ : ByteArray) ++ D.extract i (i + 1) ++ D.extract j (j + 1) = ⟨(q ++ [D.data.getD i 0, D.data.getD j 0]).toArray⟩ := by
  rw [cut_one D i hi, cut_one D j hj]
  apply ByteArray.ext
  simp
set_option maxHeartbeats 400000 in
theorem hex_any (s D : ByteArray) (w : World) (hs : s.size ≤ 1000000000) (hD : D.size = 16) :
    Calls Tryz.prog 58 #[.string s, .string D] w fun e w' => e = .returned (.string ⟨(hexL (fun n => D.data.getD n 0) s.data.toList).toArray⟩) ∧ ∃ n, w' = w.drewN n := by
  have h16 : Hid (D.size = 16) := hD
  go_enter Tryz.func58, Tryz.ntmps58
  go_wp2
  go_loopw [5, 6] (fun v i wr => ∃ k : Nat, k ≤ s.size ∧ i = .int .i64 k ∧ v = .string ⟨(hexL (fun n => D.data.getD n 0) (s.data.toList.take k)).toArray⟩ ∧ ∃ n, wr = w.drewN n) (fun _ i _ => s.size - (intOf i).toNat)
  case atStart => exact ⟨0, Nat.zero_le _, rfl, by simp [hexL], 0, rfl⟩
  case round =>
    obtain ⟨k, hk, rfl, rfl, n, rfl⟩ := hrel
    by_cases hlt : k < s.size
    · have hlen := hexL_len (fun n => D.data.getD n 0) (s.data.toList.take k)
      have hl2 : (s.data.toList.take k).length ≤ k := List.length_take_le _ _
      generalize hgl : hexL (fun n => D.data.getD n 0) (s.data.toList.take k) = q at *
      have hq : q.length ≤ 2000000000 := by omega
      have HG : Hid (hexL (fun n => D.data.getD n 0) (s.data.toList.take k) = q) := hgl
      clear hlen hl2 hgl
      have hbk : s[k].toNat < 256 := s[k].toNat_lt
      go_wp2
      generalize hcg : s[k] = c at *
      have HC : Hid (s[k] = c) := hcg
      clear hcg
      have hb := hbk
      have q1 : (0 : Int) ≤ (c.toNat : Int) / 16 := by omega
      have q2 : (c.toNat : Int) / 16 < 16 := by omega
      have q3 : (0 : Int) ≤ (c.toNat : Int) % 16 := by omega
      have q4 : (c.toNat : Int) % 16 < 16 := by omega
      go_quiet (fail)
      go_wp2
      go_roundw
      case rel =>
        refine ⟨k + 1, by omega, by go_num, ?_, n + nq, rfl⟩
        have E : hexL (fun n => D.data.getD n 0) (s.data.toList.take (k + 1)) = q ++ [D.data.getD (c.toNat / 16) 0, D.data.getD (c.toNat % 16) 0] := by
          rw [take_snoc s k hlt, hexL_snoc, HG.out, HC.out]
        rw [E]
        exact congrArg Value.string (cut_two D q (c.toNat / 16) (c.toNat % 16) (by rw [h16.out]; omega) (by rw [h16.out]; omega))
      case measure => simp [intOf]; omega
    · have HE : Hid (hexL (fun n => D.data.getD n 0) (s.data.toList.take k) = hexL (fun n => D.data.getD n 0) s.data.toList) := by show _ = _; rw [List.take_of_length_le (by simp; omega)]
      go_wp2
      go_ret
      exact ⟨ret_str HE.out, n, rfl⟩
end Go.Proofs.YtaeabbmekmjcaaaGreatDoor
