/-
  CHECKS: the document's Crc and the program's Check.
-/
import Derived.Test.YtinnliapfdpfpaaDoorHBase
namespace Go.Proofs.YtinnliapfdpfpaaDoor
open Go.RowKit
/-- The check behind k bits of a byte. -/
def ckB (c b : Nat) : Nat → Nat
  | 0 => c
  | k + 1 => if (ckB c b k + b / 2 ^ k) % 2 = 1 then (ckB c b k / 2) ^^^ 3988292384 else ckB c b k / 2
theorem ckB_lt {c : Nat} (hc : c < 4294967296) (b k : Nat) : ckB c b k < 4294967296 := by
  induction k with
  | zero => exact hc
  | succ k ih =>
    simp only [ckB]; split
    · exact xor32 (by omega) (by omega)
    · omega
def crcN (l : List UInt8) : Nat → Nat
  | 0 => 4294967295
  | k + 1 => ckB (crcN l k) ((l.getD k 0).toNat) 8
theorem crcN_lt (l : List UInt8) (k : Nat) : crcN l k < 4294967296 := by
  induction k with
  | zero => simp [crcN]
  | succ k ih => exact ckB_lt ih _ _
def crcL (l : List UInt8) : Nat := 4294967295 - crcN l l.length
theorem getD_at (s : ByteArray) (i : Nat) (h : i < s.size) : s.data.toList.getD i 0 = s[i] := by
  have h' : i < s.data.toList.length := by simpa using h
  rw [List.getD_eq_getElem?_getD, List.getElem?_eq_getElem h']; rfl
theorem xor_half (a b : Nat) : (a ^^^ b) / 2 = a / 2 ^^^ b / 2 := by
  apply Nat.eq_of_testBit_eq
  intro i
  simp [Nat.testBit_xor, Nat.testBit_div_two]
theorem xor_par (x y : Nat) : (x ^^^ y) % 2 = (x + y) % 2 := by
  have h := Nat.testBit_xor x y 0
  simp only [Nat.testBit_zero] at h
  by_cases hx : x % 2 = 1 <;> by_cases hy : y % 2 = 1
  · rw [decide_eq_true hx, decide_eq_true hy] at h
    have := of_decide_eq_false (h.trans rfl); omega
  · rw [decide_eq_true hx, decide_eq_false hy] at h
    have := of_decide_eq_true (h.trans rfl); omega
  · rw [decide_eq_false hx, decide_eq_true hy] at h
    have := of_decide_eq_true (h.trans rfl); omega
  · rw [decide_eq_false hx, decide_eq_false hy] at h
    have := of_decide_eq_false (h.trans rfl); omega
theorem xor_full (c : Nat) (hc : c < 4294967296) : c ^^^ 4294967295 = 4294967295 - c := by
  apply Nat.eq_of_testBit_eq
  intro i
  rw [not_bit c i hc, Nat.testBit_xor, show (4294967295 : Nat) = 2 ^ 32 - 1 from rfl, Nat.testBit_two_pow_sub_one]
  by_cases h : i < 32
  · cases c.testBit i <;> simp [h]
  · have : c.testBit i = false := Nat.testBit_lt_two_pow (Nat.lt_of_lt_of_le (by exact hc) (Nat.pow_le_pow_right (by omega) (show 32 ≤ i by omega)))
    simp [h, this]
theorem u32_and1 (x : Nat) (hx : x < 4294967296) : bits .and .u32 (x : Int) 1 = ((x % 2 : Nat) : Int) := by
  have := u32_and_nat x 1 hx (by omega)
  rw [nat_mask1] at this
  exact this
set_option maxHeartbeats 400000 in
theorem checkByte_any (c b : Nat) (hc : c < 4294967296) (hb : b < 256) (w : World) :
    Calls Tryd.prog 47 #[.int .u32 c, .int .u8 b] w fun e w' => e = .returned (.int .u32 (ckB c b 8 : Nat)) ∧ w' = w := by
  have hx := u32_xor_nat c b hc (by omega)
  go_enter Tryd.func47, Tryd.ntmps47
  go_wp2
  go_loop [0, 10] (fun x i => ∃ k : Nat, k ≤ 8 ∧ i = .int .i64 k ∧ x = .int .u32 (ckB c b k ^^^ b / 2 ^ k : Nat)) (fun _ i => 8 - (intOf i).toNat)
  case atStart => exact ⟨0, by omega, rfl, by simp [ckB]⟩
  case round =>
    clear hx
    obtain ⟨k, hk, rfl, rfl⟩ := hrel
    have hcl := ckB_lt hc b k
    have hbl : b / 2 ^ k ≤ b := Nat.div_le_self _ _
    have HS : Hid (ckB c b (k + 1) = if (ckB c b k + b / 2 ^ k) % 2 = 1 then (ckB c b k / 2) ^^^ 3988292384 else ckB c b k / 2) := rfl
    have HB : Hid (b / 2 ^ (k + 1) = b / 2 ^ k / 2) := by show _ = _; rw [Nat.pow_succ, Nat.div_div_eq_div_mul]
    have HK : Hid (k = 8 → b / 2 ^ k = 0) := fun e => by rw [e]; omega
    have HCK : Hid (k = 8 → ckB c b 8 = ckB c b k) := fun e => by rw [e]
    generalize ckB c b k = x at *
    generalize b / 2 ^ k = y at *
    have hp : x ^^^ y < 4294967296 := xor32 hcl (by omega)
    have hpar : (x ^^^ y) % 2 = (x + y) % 2 := xor_par x y
    have hhalf := xor_half x y
    have HP : Hid ((x ^^^ y) / 2 = x / 2 ^^^ y / 2) := hhalf
    by_cases hkl : k < 8
    · have hand := u32_and1 (x ^^^ y) hp
      generalize x ^^^ y = q at *
      clear hhalf
      by_cases ho : q % 2 = 1
      · have HS2 : Hid (ckB c b (k + 1) ^^^ b / 2 ^ (k + 1) = (q / 2) ^^^ 3988292384) := by
          show _ = _
          rw [HS.out, if_pos (by omega), HB.out, HP.out, Nat.xor_assoc, Nat.xor_comm 3988292384, ← Nat.xor_assoc]
        have hx := u32_xor_nat (q / 2) 3988292384 (by omega) (by omega)
        have t1 : ((((q % 2 : Nat)) : Int) == 1) = true := by simp; omega
        have e2 : ((q : Int) / 2) = ((q / 2 : Nat) : Int) := by simp
        have HX : Hid (bits .xor .u32 ((q : Int) / 2) 3988292384 = ((q / 2 ^^^ 3988292384 : Nat) : Int)) := by show _ = _; rw [e2]; exact hx
        clear HS HP HB hpar ho hx e2
        go_wp2
        go_round
        case rel => exact ⟨k + 1, by omega, by go_num, by rw [HS2.out, HX.out]⟩
        case measure => simp [intOf]; omega
      · have HS2 : Hid (ckB c b (k + 1) ^^^ b / 2 ^ (k + 1) = q / 2) := by
          show _ = _
          rw [HS.out, if_neg (by omega), HB.out, HP.out]
        have t1 : ((((q % 2 : Nat)) : Int) == 1) = false := by simp; omega
        clear HS HP HB hpar ho
        go_wp2
        go_round
        case rel => exact ⟨k + 1, by omega, by go_num, by rw [HS2.out]; simp⟩
        case measure => simp [intOf]; omega
    · have HX : Hid (x ^^^ y = ckB c b 8) := by
        show _ = _
        rw [HCK.out (by omega), HK.out (by omega)]; simp
      clear HP hpar HS HB hhalf
      generalize x ^^^ y = q at *
      go_wp2
      go_ret
      exact ⟨ret_int (by rw [HX.out]), rfl⟩
set_option maxHeartbeats 400000 in
theorem check_any (s : ByteArray) (hs : s.size ≤ 1000000000000000) (w : World) :
    Calls Tryd.prog 28 #[.string s] w fun e w' => e = .returned (.int .u32 (crcL s.data.toList : Nat)) ∧ w' = w := by
  go_enter Tryd.func28, Tryd.ntmps28
  go_wp2
  go_loop [3, 7] (fun c i => ∃ n : Nat, n ≤ s.size ∧ i = .int .i64 n ∧ c = .int .u32 (crcN s.data.toList n : Nat)) (fun _ i => s.size - (intOf i).toNat)
  case atStart => exact ⟨0, by omega, rfl, rfl⟩
  case round =>
    obtain ⟨n, hn, rfl, rfl⟩ := hrel
    have hc := crcN_lt s.data.toList n
    by_cases hlt : n < s.size
    · have HC : Hid (crcN s.data.toList (n + 1) = ckB (crcN s.data.toList n) s[n].toNat 8) := by show _ = _; rw [← getD_at s n hlt]; rfl
      have hb : s[n].toNat < 256 := s[n].toNat_lt
      generalize crcN s.data.toList n = c at *
      go_wp2_with fail
      refine (checkByte_any c s[n].toNat hc hb _).mono ?_
      rintro e w' ⟨rfl, rfl⟩
      generalize ckB c s[n].toNat 8 = c2 at *
      go_wp2_with fail
      go_round
      case rel => exact ⟨n + 1, by omega, by go_num, by rw [HC.out]⟩
      case measure => simp [intOf]; omega
    · have HX : Hid (bits .xor .u32 (crcN s.data.toList n : Int) 4294967295 = (crcL s.data.toList : Nat)) := by
        show _ = _
        have := u32_xor_nat (crcN s.data.toList n) 4294967295 hc (by omega)
        rw [xor_full _ hc] at this
        unfold crcL
        rw [show s.data.toList.length = n from by simp; omega]
        exact this
      generalize crcN s.data.toList n = c at *
      go_wp2_with fail
      go_ret
      exact ⟨ret_int HX.out, rfl⟩
end Go.Proofs.YtinnliapfdpfpaaDoor
