import Derived.Test.YtaeabbmekmjcaaaGreatDoorCEnc
import Derived.Deep.QuietTactic
import Derived.BigQuiet
namespace Go.Proofs.YtaeabbmekmjcaaaGreatDoor.C
open Go.RowKit
/-- Bytes in digits. -/
def hexL (d : Nat → UInt8) (l : List UInt8) : List UInt8 := l.flatMap fun c => [d (c.toNat / 16), d (c.toNat % 16)]
theorem hexL_snoc (d : Nat → UInt8) (l : List UInt8) (c : UInt8) : hexL d (l ++ [c]) = hexL d l ++ [d (c.toNat / 16), d (c.toNat % 16)] := by simp [hexL]
theorem hexL_len (d : Nat → UInt8) (l : List UInt8) : (hexL d l).length = 2 * l.length := by
  induction l with
  | nil => rfl
  | cons c l ih => simp [hexL] at *; omega
theorem cut_one (D : ByteArray) (j : Nat) (h : j < D.size) : D.extract j (j + 1) = ⟨[D.data.getD j 0].toArray⟩ := by
  apply ByteArray.ext
  have h' : j < D.data.size := h
  apply Array.ext
  · simp; omega
  · intro i h1 h2
    have : i = 0 := by simp at h2; omega
    subst this
    have e1 : (D.extract j (j + 1)).data[0]'h1 = D.data[j] := by simp
    rw [e1]; simp [Array.getD]
    intro hh; omega
theorem cut_two (D : ByteArray) (q : List UInt8) (i j : Nat) (hi : i < D.size) (hj : j < D.size) :
    (⟨q.toArray⟩ : ByteArray) ++ D.extract i (i + 1) ++ D.extract j (j + 1) = ⟨(q ++ [D.data.getD i 0, D.data.getD j 0]).toArray⟩ := by
  rw [cut_one D i hi, cut_one D j hj]
  apply ByteArray.ext
  simp
set_option maxHeartbeats 400000 in
theorem hex_any (s D : ByteArray) (w : World) (hs : s.size ≤ 1000000000) (hD : D.size = 16) :
    Calls Tryz.prog 58 #[.string s, .string D] w fun e w' => e = .returned (.string ⟨(hexL (fun n => D.data.getD n 0) s.data.toList).toArray⟩) ∧ ∃ n, w' = w.drewN n := by
  have h16 : Hid (D.size = 16) := hD
  go_enter Tryz.func58, Tryz.ntmps58
  go_wp2
  go_loopw [5, 6] (fun v i wr => ∃ k : Nat, k ≤ s.size ∧ i = .int .i64 k ∧ v = .string ⟨(hexL (fun n => D.data.getD n 0) (s.data.toList.take k)).toArray⟩ ∧ ∃ n, wr = w.drewN n) (fun _ i _ => s.size - (intOf i).toNat)
  case atStart => exact ⟨0, Nat.zero_le _, rfl, by simp [hexL], 0, rfl⟩
  case round =>
    obtain ⟨k, hk, rfl, rfl, n, rfl⟩ := hrel
    by_cases hlt : k < s.size
    · have hlen := hexL_len (fun n => D.data.getD n 0) (s.data.toList.take k)
      have hl2 : (s.data.toList.take k).length ≤ k := List.length_take_le _ _
      generalize hgl : hexL (fun n => D.data.getD n 0) (s.data.toList.take k) = q at *
      have hq : q.length ≤ 2000000000 := by omega
      have HG : Hid (hexL (fun n => D.data.getD n 0) (s.data.toList.take k) = q) := hgl
      clear hlen hl2 hgl
      have hbk : s[k].toNat < 256 := s[k].toNat_lt
      go_wp2
      generalize hcg : s[k] = c at *
      have HC : Hid (s[k] = c) := hcg
      clear hcg
      have hb := hbk
      have q1 : (0 : Int) ≤ (c.toNat : Int) / 16 := by omega
      have q2 : (c.toNat : Int) / 16 < 16 := by omega
      have q3 : (0 : Int) ≤ (c.toNat : Int) % 16 := by omega
      have q4 : (c.toNat : Int) % 16 < 16 := by omega
      go_quiet (fail)
      go_wp2
      go_roundw
      case rel =>
        refine ⟨k + 1, by omega, by go_num, ?_, n + nq, rfl⟩
        have E : hexL (fun n => D.data.getD n 0) (s.data.toList.take (k + 1)) = q ++ [D.data.getD (c.toNat / 16) 0, D.data.getD (c.toNat % 16) 0] := by
          rw [take_snoc s k hlt, hexL_snoc, HG.out, HC.out]
        rw [E]
        exact congrArg Value.string (cut_two D q (c.toNat / 16) (c.toNat % 16) (by rw [h16.out]; omega) (by rw [h16.out]; omega))
      case measure => simp [intOf]; omega
    · have HE : Hid (hexL (fun n => D.data.getD n 0) (s.data.toList.take k) = hexL (fun n => D.data.getD n 0) s.data.toList) := by show _ = _; rw [List.take_of_length_le (by simp; omega)]
      go_wp2
      go_ret
      exact ⟨ret_str HE.out, n, rfl⟩
end Go.Proofs.YtaeabbmekmjcaaaGreatDoor.C
