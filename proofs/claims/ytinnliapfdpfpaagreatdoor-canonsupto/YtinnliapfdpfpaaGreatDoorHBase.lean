/-
  THE PLAIN MATHEMATICS OF HASHES: words of 32 bits as natural numbers. It imports nothing of the program.
  THE LEAVES OF HASHES: rotations and the small functions of words, of the program and of the document's answer.
  NUMBERS IN BYTES (the document's Big), bytes in digits (its Hex).
  ONE ROUND of the document's hash.
-/
import Derived.Laws.BitsAllLaws
import Derived.IntWalk
import Derived.Test.YtinnliapfdpfpaaGreatDoorProg
import Derived.WalkKit
import Derived.WalkSpells
import Derived.WalkLawsBesides
import Derived.Deep.QuietTactic
import Derived.BigQuiet
import Derived.Laws.IdiomStrings
import Derived.Deep.RegionHeld3
namespace Go.Proofs.YtinnliapfdpfpaaGreatDoor

theorem i64_and_nat (a b : Nat) (ha : a < 9223372036854775808) (hb : b < 9223372036854775808) : bits .and .i64 (a : Int) (b : Int) = ((a &&& b : Nat) : Int) := by
  have hx : a &&& b < 2 ^ 63 := Nat.and_lt_two_pow _ (by omega)
  show IntKind.i64.wrap ((BitVec.ofInt 64 (a : Int) &&& BitVec.ofInt 64 (b : Int)).toNat : Int) = _
  rw [BitVec.toNat_and, ofInt_u64 a (by omega), ofInt_u64 b (by omega), IntKind.wrap_i64]
  omega
theorem i64_or_nat (a b : Nat) (ha : a < 9223372036854775808) (hb : b < 9223372036854775808) : bits .or .i64 (a : Int) (b : Int) = ((a ||| b : Nat) : Int) := by
  have hx : a ||| b < 2 ^ 63 := Nat.or_lt_two_pow (by omega) (by omega)
  show IntKind.i64.wrap ((BitVec.ofInt 64 (a : Int) ||| BitVec.ofInt 64 (b : Int)).toNat : Int) = _
  rw [BitVec.toNat_or, ofInt_u64 a (by omega), ofInt_u64 b (by omega), IntKind.wrap_i64]
  omega
theorem i64_xor_nat (a b : Nat) (ha : a < 9223372036854775808) (hb : b < 9223372036854775808) : bits .xor .i64 (a : Int) (b : Int) = ((a ^^^ b : Nat) : Int) := by
  have hx : a ^^^ b < 2 ^ 63 := Nat.xor_lt_two_pow (by omega) (by omega)
  show IntKind.i64.wrap ((BitVec.ofInt 64 (a : Int) ^^^ BitVec.ofInt 64 (b : Int)).toNat : Int) = _
  rw [BitVec.toNat_xor, ofInt_u64 a (by omega), ofInt_u64 b (by omega), IntKind.wrap_i64]
  omega

/-- Bits turned round to the right. -/
def rotr (x n : Nat) : Nat := x / 2 ^ n + x % 2 ^ n * 2 ^ (32 - n)
theorem pow_split {n : Nat} (hn : n ≤ 32) : 2 ^ n * 2 ^ (32 - n) = 4294967296 := by
  rw [← Nat.pow_add, Nat.add_sub_cancel' hn]
theorem rotr_lt (x n : Nat) (hx : x < 4294967296) (hn : n ≤ 32) : rotr x n < 4294967296 := by
  unfold rotr
  have h := pow_split hn
  have h1 : x / 2 ^ n < 2 ^ (32 - n) := Nat.div_lt_of_lt_mul (by rw [h]; exact hx)
  have h2 : x % 2 ^ n < 2 ^ n := Nat.mod_lt _ (Nat.two_pow_pos n)
  have h3 : (x % 2 ^ n + 1) * 2 ^ (32 - n) ≤ 2 ^ n * 2 ^ (32 - n) := Nat.mul_le_mul_right _ h2
  rw [h, Nat.add_mul, Nat.one_mul] at h3
  omega
/-- The library's turn to the left is the turn to the right by what is left of 32. -/
theorem rot_or (x n : Nat) (hx : x < 4294967296) (hn : n ≤ 32) : (x * 2 ^ (32 - n) % 4294967296) ||| (x / 2 ^ n) = rotr x n := by
  have h := pow_split hn
  have e : x * 2 ^ (32 - n) % 4294967296 = x % 2 ^ n * 2 ^ (32 - n) := by rw [← h, Nat.mul_mod_mul_right]
  have h1 : x / 2 ^ n < 2 ^ (32 - n) := Nat.div_lt_of_lt_mul (by rw [h]; exact hx)
  rw [e, nat_join (32 - n) _ _ (Nat.mul_mod_left _ _) h1, Nat.add_comm]
  rfl

def bs0 (x : Nat) : Nat := rotr x 2 ^^^ rotr x 13 ^^^ rotr x 22
def bs1 (x : Nat) : Nat := rotr x 6 ^^^ rotr x 11 ^^^ rotr x 25
def ss0 (x : Nat) : Nat := rotr x 7 ^^^ rotr x 18 ^^^ x / 8
def ss1 (x : Nat) : Nat := rotr x 17 ^^^ rotr x 19 ^^^ x / 1024
theorem xor32 {a b : Nat} (ha : a < 4294967296) (hb : b < 4294967296) : a ^^^ b < 4294967296 := Nat.xor_lt_two_pow (n := 32) ha hb
theorem bs0_lt (x : Nat) (h : x < 4294967296) : bs0 x < 4294967296 := xor32 (xor32 (rotr_lt x 2 h (by omega)) (rotr_lt x 13 h (by omega))) (rotr_lt x 22 h (by omega))
theorem bs1_lt (x : Nat) (h : x < 4294967296) : bs1 x < 4294967296 := xor32 (xor32 (rotr_lt x 6 h (by omega)) (rotr_lt x 11 h (by omega))) (rotr_lt x 25 h (by omega))
theorem ss0_lt (x : Nat) (h : x < 4294967296) : ss0 x < 4294967296 := xor32 (xor32 (rotr_lt x 7 h (by omega)) (rotr_lt x 18 h (by omega))) (by omega)
theorem ss1_lt (x : Nat) (h : x < 4294967296) : ss1 x < 4294967296 := xor32 (xor32 (rotr_lt x 17 h (by omega)) (rotr_lt x 19 h (by omega))) (by omega)

/-- Of each bit: of b where a has a 1, else of c. -/
def chs (a b c : Nat) : Nat := a &&& b ||| (4294967295 - a) &&& c
/-- Of each bit: what two or three of them have. -/
def mst (a b c : Nat) : Nat := a &&& b ||| a &&& c ||| b &&& c
theorem and32 {a b : Nat} (hb : b < 4294967296) : a &&& b < 4294967296 := Nat.and_lt_two_pow (n := 32) a hb
theorem or32 {a b : Nat} (ha : a < 4294967296) (hb : b < 4294967296) : a ||| b < 4294967296 := Nat.or_lt_two_pow (n := 32) ha hb
theorem chs_lt (a b c : Nat) (hb : b < 4294967296) (hc : c < 4294967296) : chs a b c < 4294967296 := or32 (and32 hb) (and32 hc)
theorem mst_lt (a b c : Nat) (hb : b < 4294967296) (hc : c < 4294967296) : mst a b c < 4294967296 := or32 (or32 (and32 hb) (and32 hc)) (and32 hc)
theorem not_bit (a i : Nat) (ha : a < 4294967296) : (4294967295 - a).testBit i = (decide (i < 32) && !a.testBit i) := by
  have e : 4294967295 - a = 2 ^ 32 - (a + 1) := by omega
  rw [e, Nat.testBit_two_pow_sub_succ (by omega)]
theorem chs_xor (a b c : Nat) (ha : a < 4294967296) : (a &&& b) ^^^ ((4294967295 - a) &&& c) = chs a b c := by
  apply Nat.eq_of_testBit_eq
  intro i
  simp only [chs, Nat.testBit_xor, Nat.testBit_and, Nat.testBit_or, not_bit a i ha]
  cases a.testBit i <;> simp
theorem mst_xor (a b c : Nat) : (a &&& b) ^^^ (a &&& c) ^^^ (b &&& c) = mst a b c := by
  apply Nat.eq_of_testBit_eq
  intro i
  simp only [mst, Nat.testBit_xor, Nat.testBit_and, Nat.testBit_or]
  cases a.testBit i <;> cases b.testBit i <;> cases c.testBit i <;> rfl

end Go.Proofs.YtinnliapfdpfpaaGreatDoor
namespace Go.Proofs.YtinnliapfdpfpaaGreatDoor
open Go.RowKit
theorem ret_int {k : IntKind} {a b : Int} (h : a = b) : Ending.returned (.int k a) = .returned (.int k b) := by rw [h]
theorem ret_bool {a b : Bool} (h : a = b) : Ending.returned (.bool a) = .returned (.bool b) := by rw [h]
theorem ret_str {a b : List UInt8} (h : a = b) : Ending.returned (.string ⟨a.toArray⟩) = .returned (.string ⟨b.toArray⟩) := by rw [h]

theorem rot_cast (x n : Nat) (hx : x < 4294967296) (h1 : 1 ≤ n) (hn : n ≤ 31) :
    bits .or .u32 ((x : Int) * 2 ^ (32 - n) % 4294967296) ((x : Int) / 2 ^ (32 - (32 - n))) = (rotr x n : Nat) := by
  have e1 : (x : Int) * 2 ^ (32 - n) % 4294967296 = ((x * 2 ^ (32 - n) % 4294967296 : Nat) : Int) := by simp
  have e2 : (x : Int) / 2 ^ (32 - (32 - n)) = ((x / 2 ^ n : Nat) : Int) := by
    rw [show 32 - (32 - n) = n from by omega]; simp
  have h2 : x / 2 ^ n < 4294967296 := Nat.lt_of_le_of_lt (Nat.div_le_self _ _) hx
  rw [e1, e2, u32_or_nat _ _ (Nat.mod_lt _ (by omega)) h2, rot_or x n hx (by omega)]
set_option maxHeartbeats 400000 in
theorem rot_any (x n : Nat) (k : Int) (hx : x < 4294967296) (h0 : 1 ≤ n) (h1 : n ≤ 31) (hk : bits .and .u64 (IntKind.u64.wrap k) 31 = ((32 - n : Nat) : Int)) (w : World) :
    Calls Tryz.prog 266 #[.int .u32 x, .int .i64 k] w fun e w' => e = .returned (.int .u32 (rotr x n : Nat)) ∧ w' = w := by
  have HC : Hid (bits .or .u32 ((x : Int) * 2 ^ (32 - n) % 4294967296) ((x : Int) / 2 ^ (32 - (32 - n))) = (rotr x n : Nat)) := rot_cast x n hx h0 h1
  obtain ⟨s, hs⟩ : ∃ s : Nat, s = 32 - n := ⟨_, rfl⟩
  rw [← hs] at HC hk
  have q0 : 1 ≤ s := by omega
  have q1 : s ≤ 31 := by omega
  clear hs
  go_enter Tryz.func266, Tryz.ntmps266
  go_wp2
  go_ret
  exact ⟨ret_int HC.out, rfl⟩
theorem m2 : bits .and .u64 (IntKind.u64.wrap (-2)) 31 = ((32 - 2 : Nat) : Int) := by decide +kernel
theorem m6 : bits .and .u64 (IntKind.u64.wrap (-6)) 31 = ((32 - 6 : Nat) : Int) := by decide +kernel
theorem m7 : bits .and .u64 (IntKind.u64.wrap (-7)) 31 = ((32 - 7 : Nat) : Int) := by decide +kernel
theorem m11 : bits .and .u64 (IntKind.u64.wrap (-11)) 31 = ((32 - 11 : Nat) : Int) := by decide +kernel
theorem m13 : bits .and .u64 (IntKind.u64.wrap (-13)) 31 = ((32 - 13 : Nat) : Int) := by decide +kernel
theorem m17 : bits .and .u64 (IntKind.u64.wrap (-17)) 31 = ((32 - 17 : Nat) : Int) := by decide +kernel
theorem m18 : bits .and .u64 (IntKind.u64.wrap (-18)) 31 = ((32 - 18 : Nat) : Int) := by decide +kernel
theorem m19 : bits .and .u64 (IntKind.u64.wrap (-19)) 31 = ((32 - 19 : Nat) : Int) := by decide +kernel
theorem m22 : bits .and .u64 (IntKind.u64.wrap (-22)) 31 = ((32 - 22 : Nat) : Int) := by decide +kernel
theorem m25 : bits .and .u64 (IntKind.u64.wrap (-25)) 31 = ((32 - 25 : Nat) : Int) := by decide +kernel
theorem xor3 (a b c : Nat) (ha : a < 4294967296) (hb : b < 4294967296) (hc : c < 4294967296) : bits .xor .u32 (bits .xor .u32 (a : Int) (b : Int)) (c : Int) = ((a ^^^ b ^^^ c : Nat) : Int) := by
  rw [u32_xor_nat a b ha hb, u32_xor_nat _ c (xor32 ha hb) hc]
set_option maxHeartbeats 400000 in
theorem sigB1 (x : Nat) (hx : x < 4294967296) (w : World) :
    Calls Tryz.prog 216 #[.int .u32 x] w fun e w' => e = .returned (.int .u32 (bs1 x : Nat)) ∧ w' = w := by
  have HX : Hid (_) := xor3 (rotr x 6) (rotr x 11) (rotr x 25) (rotr_lt x 6 hx (by omega)) (rotr_lt x 11 hx (by omega)) (rotr_lt x 25 hx (by omega))
  go_enter Tryz.func216, Tryz.ntmps216
  go_wp2_with fail
  refine (rot_any x 6 _ hx (by omega) (by omega) m6 _).mono ?_
  rintro e w' ⟨rfl, rfl⟩
  go_wp2_with fail
  refine (rot_any x 11 _ hx (by omega) (by omega) m11 _).mono ?_
  rintro e w' ⟨rfl, rfl⟩
  go_wp2_with fail
  refine (rot_any x 25 _ hx (by omega) (by omega) m25 _).mono ?_
  rintro e w' ⟨rfl, rfl⟩
  go_wp2
  go_ret
  exact ⟨ret_int HX.out, rfl⟩
set_option maxHeartbeats 400000 in
theorem sigB0 (x : Nat) (hx : x < 4294967296) (w : World) :
    Calls Tryz.prog 217 #[.int .u32 x] w fun e w' => e = .returned (.int .u32 (bs0 x : Nat)) ∧ w' = w := by
  have HX : Hid (_) := xor3 (rotr x 2) (rotr x 13) (rotr x 22) (rotr_lt x 2 hx (by omega)) (rotr_lt x 13 hx (by omega)) (rotr_lt x 22 hx (by omega))
  go_enter Tryz.func217, Tryz.ntmps217
  go_wp2_with fail
  refine (rot_any x 2 _ hx (by omega) (by omega) m2 _).mono ?_
  rintro e w' ⟨rfl, rfl⟩
  go_wp2_with fail
  refine (rot_any x 13 _ hx (by omega) (by omega) m13 _).mono ?_
  rintro e w' ⟨rfl, rfl⟩
  go_wp2_with fail
  refine (rot_any x 22 _ hx (by omega) (by omega) m22 _).mono ?_
  rintro e w' ⟨rfl, rfl⟩
  go_wp2
  go_ret
  exact ⟨ret_int HX.out, rfl⟩
set_option maxHeartbeats 400000 in
theorem sigS1 (x : Nat) (hx : x < 4294967296) (w : World) :
    Calls Tryz.prog 264 #[.int .u32 x] w fun e w' => e = .returned (.int .u32 (ss1 x : Nat)) ∧ w' = w := by
  have HX : Hid (_) := xor3 (rotr x 17) (rotr x 19) (x / 1024) (rotr_lt x 17 hx (by omega)) (rotr_lt x 19 hx (by omega)) (by omega)
  go_enter Tryz.func264, Tryz.ntmps264
  go_wp2_with fail
  refine (rot_any x 17 _ hx (by omega) (by omega) m17 _).mono ?_
  rintro e w' ⟨rfl, rfl⟩
  go_wp2_with fail
  refine (rot_any x 19 _ hx (by omega) (by omega) m19 _).mono ?_
  rintro e w' ⟨rfl, rfl⟩
  go_wp2
  go_ret
  exact ⟨ret_int (by simpa [ss1] using HX.out), rfl⟩
set_option maxHeartbeats 400000 in
theorem sigS0 (x : Nat) (hx : x < 4294967296) (w : World) :
    Calls Tryz.prog 265 #[.int .u32 x] w fun e w' => e = .returned (.int .u32 (ss0 x : Nat)) ∧ w' = w := by
  have HX : Hid (_) := xor3 (rotr x 7) (rotr x 18) (x / 8) (rotr_lt x 7 hx (by omega)) (rotr_lt x 18 hx (by omega)) (by omega)
  go_enter Tryz.func265, Tryz.ntmps265
  go_wp2_with fail
  refine (rot_any x 7 _ hx (by omega) (by omega) m7 _).mono ?_
  rintro e w' ⟨rfl, rfl⟩
  go_wp2_with fail
  refine (rot_any x 18 _ hx (by omega) (by omega) m18 _).mono ?_
  rintro e w' ⟨rfl, rfl⟩
  go_wp2
  go_ret
  exact ⟨ret_int (by simpa [ss0] using HX.out), rfl⟩

/-! The document's. -/
set_option maxHeartbeats 400000 in
theorem turn_any (x n : Nat) (hx : x < 4294967296) (hn : n ≤ 31) (w : World) :
    Calls Tryz.prog 212 #[.int .i64 x, .int .i64 n] w fun e w' => e = .returned (.int .i64 (rotr x n : Nat)) ∧ w' = w.drew := by
  obtain ⟨P, hP⟩ : ∃ P : Nat, P = 2 ^ n := ⟨_, rfl⟩
  have hP1 : 1 ≤ P := by rw [hP]; exact Nat.two_pow_pos n
  have hP2 : P ≤ 2147483648 := by rw [hP]; exact Nat.pow_le_pow_right (n := 2) (by omega) (j := 31) hn
  have hw : wrap64 (2 ^ n) = (P : Int) := by
    have e : (2 : Int) ^ n = ((2 ^ n : Nat) : Int) := by simp
    rw [e, ← hP]; unfold wrap64; omega
  have h1 : (x : Int) / (P : Int) ≤ 4294967295 := by
    have := Nat.div_le_self x P
    have e : (x : Int) / (P : Int) = ((x / P : Nat) : Int) := by simp
    rw [e]; omega
  have h0 : (0 : Int) ≤ (x : Int) / (P : Int) := Int.ediv_nonneg (by omega) (by omega)
  have hsp : P * 2 ^ (32 - n) = 4294967296 := by rw [hP]; exact pow_split (by omega)
  have e4 : 4294967296 / P = 2 ^ (32 - n) := by rw [← hsp, Nat.mul_div_cancel_left _ (by omega)]
  have e5 : (4294967296 : Int) / (P : Int) = ((2 ^ (32 - n) : Nat) : Int) := by rw [← e4]; simp
  have e6 : (x : Int) % (P : Int) = ((x % P : Nat) : Int) := by simp
  have hpr : x % P * 2 ^ (32 - n) ≤ 4294967296 := by
    rw [← hsp]; exact Nat.mul_le_mul_right _ (Nat.le_of_lt (Nat.mod_lt _ (by omega)))
  have h2 : (0 : Int) ≤ (x : Int) % (P : Int) * (4294967296 / (P : Int)) := by rw [e5, e6, ← Int.natCast_mul]; omega
  have h3 : (x : Int) % (P : Int) * (4294967296 / (P : Int)) ≤ 4294967296 := by rw [e5, e6, ← Int.natCast_mul]; omega
  have HR : Hid ((x : Int) / (P : Int) + (x : Int) % (P : Int) * (4294967296 / (P : Int)) = (rotr x n : Nat)) := by
    show _ = _
    rw [e5, e6, ← Int.natCast_mul]; unfold rotr; rw [← hP]; simp
  clear hP e4 e5 e6 hpr hsp
  go_enter Tryz.func212, Tryz.ntmps212
  go_wp2
  go_region
  go_wp2
  go_ret
  exact ⟨ret_int HR.out, rfl⟩
set_option maxHeartbeats 400000 in
theorem rxor_any (a b : Nat) (ha : a < 4294967296) (hb : b < 4294967296) (w : World) :
    Calls Tryz.prog 116 #[.int .i64 a, .int .i64 b] w fun e w' => e = .returned (.int .i64 (a ^^^ b : Nat)) ∧ w' = w := by
  have HX : Hid (_) := i64_xor_nat a b (by omega) (by omega)
  go_enter Tryz.func116, Tryz.ntmps116
  go_wp2
  go_ret
  exact ⟨ret_int HX.out, rfl⟩
set_option maxHeartbeats 400000 in
theorem choose_any (a b c : Nat) (ha : a < 4294967296) (hb : b < 4294967296) (hc : c < 4294967296) (w : World) :
    Calls Tryz.prog 213 #[.int .i64 a, .int .i64 b, .int .i64 c] w fun e w' => e = .returned (.int .i64 (chs a b c : Nat)) ∧ w' = w := by
  have HX : Hid (bits .or .i64 (bits .and .i64 (a : Int) (b : Int)) (bits .and .i64 (4294967295 - (a : Int)) (c : Int)) = (chs a b c : Nat)) := by
    show _ = _
    rw [i64_and_nat a b (by omega) (by omega), show (4294967295 - (a : Int)) = ((4294967295 - a : Nat) : Int) from by omega, i64_and_nat _ c (by omega) (by omega),
      i64_or_nat _ _ (Nat.lt_trans (and32 hb) (by omega)) (Nat.lt_trans (and32 hc) (by omega))]
    rfl
  go_enter Tryz.func213, Tryz.ntmps213
  go_wp2
  go_ret
  exact ⟨ret_int HX.out, rfl⟩
set_option maxHeartbeats 400000 in
theorem most_any (a b c : Nat) (ha : a < 4294967296) (hb : b < 4294967296) (hc : c < 4294967296) (w : World) :
    Calls Tryz.prog 214 #[.int .i64 a, .int .i64 b, .int .i64 c] w fun e w' => e = .returned (.int .i64 (mst a b c : Nat)) ∧ w' = w := by
  have HX : Hid (bits .or .i64 (bits .or .i64 (bits .and .i64 (a : Int) (b : Int)) (bits .and .i64 (a : Int) (c : Int))) (bits .and .i64 (b : Int) (c : Int)) = (mst a b c : Nat)) := by
    show _ = _
    rw [i64_and_nat a b (by omega) (by omega), i64_and_nat a c (by omega) (by omega), i64_and_nat b c (by omega) (by omega),
      i64_or_nat _ _ (Nat.lt_trans (and32 hb) (by omega)) (Nat.lt_trans (and32 hc) (by omega)), i64_or_nat _ _ (Nat.lt_trans (or32 (and32 hb) (and32 hc)) (by omega)) (Nat.lt_trans (and32 hc) (by omega))]
    rfl
  go_enter Tryz.func214, Tryz.ntmps214
  go_wp2
  go_ret
  exact ⟨ret_int HX.out, rfl⟩
end Go.Proofs.YtinnliapfdpfpaaGreatDoor
namespace Go.Proofs.YtinnliapfdpfpaaGreatDoor
open Go.RowKit
/-- The low k bytes of a number, the highest first. -/
def bigL (n : Nat) : Nat → List UInt8
  | 0 => []
  | k + 1 => UInt8.ofNat (n / 256 ^ k) :: bigL n k
theorem bigL_len (n k : Nat) : (bigL n k).length = k := by induction k with | zero => rfl | succ k ih => simp [bigL, ih]
theorem byte_nat (n : Nat) : ((UInt8.ofNat n).toNat : Int) = (n : Int) % 256 := by simp
theorem conv_one (n : Nat) (w : World) : (convert 89 9 (.slice (some ⟨w.heap.size, 0, none⟩) 1 1)).run Tryz.prog (w.alloc (.cells #[.int .u8 ((n : Int) % 256)] 5)) =
    .ok (.string ⟨[UInt8.ofNat n].toArray⟩) (w.alloc (.cells #[.int .u8 ((n : Int) % 256)] 5)) := by
  refine run_convert_bytes_back (P := Tryz.prog) _ 89 9 5 ⟨w.heap.size, 0, none⟩ 1 [UInt8.ofNat n] Tryz.underlying89 Tryz.underlying5 Tryz.underlying9 fun j hj => ?_
  have : j = 0 := by simp at hj; omega
  subst this
  have e := byte_nat n
  simp only [List.getElem_cons_zero]
  rw [e]
  simp [go_sem, Addr.add]
theorem cons_str (c : UInt8) (l : List UInt8) : (⟨[c].toArray⟩ : ByteArray) ++ ⟨l.toArray⟩ = ⟨(c :: l).toArray⟩ := by
  apply ByteArray.ext; simp
set_option maxHeartbeats 400000 in
theorem big_any (n k : Nat) (hn : n < 4611686018427387904) (hk : k ≤ 8) (w : World) :
    Calls Tryz.prog 115 #[.int .i64 n, .int .i64 k] w fun e w' => e = .returned (.string ⟨(bigL n k).toArray⟩) ∧ Below w.heap.size w w' := by
  go_enter Tryz.func115, Tryz.ntmps115
  go_wp2
  go_loopw [0, 5, 6] (fun x v i wr => ∃ j : Nat, j ≤ k ∧ x = .int .i64 (n / 256 ^ j : Nat) ∧ v = .string ⟨(bigL n j).toArray⟩ ∧ i = .int .i64 j ∧ Below w.heap.size w wr) (fun _ _ i _ => k - (intOf i).toNat)
  case atStart => exact ⟨0, Nat.zero_le _, by simp, rfl, rfl, Below.refl _ _⟩
  case round =>
    obtain ⟨j, hj, rfl, rfl, rfl, hbel⟩ := hrel
    have hsz := hbel.size
    have hm : n / 256 ^ j < 4611686018427387904 := Nat.lt_of_le_of_lt (Nat.div_le_self _ _) hn
    have hl := bigL_len n j
    generalize hm2 : n / 256 ^ j = m at *
    generalize hq : bigL n j = q at *
    have HM : Hid (n / 256 ^ j = m) := hm2
    have HQ : Hid (bigL n j = q) := hq
    have hl2 : q.length ≤ 8 := by omega
    clear hm2 hq hl
    by_cases hlt : j < k
    · have hcv := conv_one m wr
      have hcs := cons_str (UInt8.ofNat m) q
      go_wp2
      go_roundw
      case rel =>
        refine ⟨j + 1, by omega, ?_, ?_, by go_num, hbel.alloc (by omega) _⟩
        · have e : n / 256 ^ (j + 1) = m / 256 := by rw [Nat.pow_succ, ← Nat.div_div_eq_div_mul, HM.out]
          rw [e]; simp
        · simp only [bigL]; rw [HM.out, HQ.out]
      case measure => simp [intOf]; omega
    · have e : j = k := by omega
      go_wp2
      go_ret
      exact ⟨ret_str (by rw [← HQ.out, e]), hbel⟩
theorem take_snoc (s : ByteArray) (k : Nat) (h : k < s.size) : s.data.toList.take (k + 1) = s.data.toList.take k ++ [s[k]] := by
  rw [List.take_succ_eq_append_getElem (by simpa using h)]; rfl
/-- Bytes in digits. -/
def hexL (d : Nat → UInt8) (l : List UInt8) : List UInt8 := l.flatMap fun c => [d (c.toNat / 16), d (c.toNat % 16)]
theorem hexL_snoc (d : Nat → UInt8) (l : List UInt8) (c : UInt8) : hexL d (l ++ [c]) = hexL d l ++ [d (c.toNat / 16), d (c.toNat % 16)] := by simp [hexL]
theorem hexL_len (d : Nat → UInt8) (l : List UInt8) : (hexL d l).length = 2 * l.length := by
  induction l with
  | nil => rfl
  | cons c l ih => simp [hexL] at *; omega
theorem cut_one (D : ByteArray) (j : Nat) (h : j < D.size) : D.extract j (j + 1) = ⟨[D.data.getD j 0].toArray⟩ := by
  apply ByteArray.ext
  have h' : j < D.data.size := h
  apply Array.ext
  · simp; omega
  · intro i h1 h2
    have : i = 0 := by simp at h2; omega
    subst this
    have e1 : (D.extract j (j + 1)).data[0]'h1 = D.data[j] := by simp
    rw [e1]; simp [Array.getD]
    intro hh; omega
theorem cut_two (D : ByteArray) (q : List UInt8) (i j : Nat) (hi : i < D.size) (hj : j < D.size) :
    (⟨q.toArray⟩ : ByteArray) ++ D.extract i (i + 1) ++ D.extract j (j + 1) = ⟨(q ++ [D.data.getD i 0, D.data.getD j 0]).toArray⟩ := by
  rw [cut_one D i hi, cut_one D j hj]
  apply ByteArray.ext
  simp
set_option maxHeartbeats 400000 in
theorem hex_any (s D : ByteArray) (w : World) (hs : s.size ≤ 1000000000) (hD : D.size = 16) :
    Calls Tryz.prog 110 #[.string s, .string D] w fun e w' => e = .returned (.string ⟨(hexL (fun n => D.data.getD n 0) s.data.toList).toArray⟩) ∧ ∃ n, w' = w.drewN n := by
  have h16 : Hid (D.size = 16) := hD
  go_enter Tryz.func110, Tryz.ntmps110
  go_wp2
  go_loopw [5, 6] (fun v i wr => ∃ k : Nat, k ≤ s.size ∧ i = .int .i64 k ∧ v = .string ⟨(hexL (fun n => D.data.getD n 0) (s.data.toList.take k)).toArray⟩ ∧ ∃ n, wr = w.drewN n) (fun _ i _ => s.size - (intOf i).toNat)
  case atStart => exact ⟨0, Nat.zero_le _, rfl, by simp [hexL], 0, rfl⟩
  case round =>
    obtain ⟨k, hk, rfl, rfl, n, rfl⟩ := hrel
    by_cases hlt : k < s.size
    · have hlen := hexL_len (fun n => D.data.getD n 0) (s.data.toList.take k)
      have hl2 : (s.data.toList.take k).length ≤ k := List.length_take_le _ _
      generalize hgl : hexL (fun n => D.data.getD n 0) (s.data.toList.take k) = q at *
      have hq : q.length ≤ 2000000000 := by omega
      have HG : Hid (hexL (fun n => D.data.getD n 0) (s.data.toList.take k) = q) := hgl
      clear hlen hl2 hgl
      have hbk : s[k].toNat < 256 := s[k].toNat_lt
      go_wp2
      generalize hcg : s[k] = c at *
      have HC : Hid (s[k] = c) := hcg
      clear hcg
      have hb := hbk
      have q1 : (0 : Int) ≤ (c.toNat : Int) / 16 := by omega
      have q2 : (c.toNat : Int) / 16 < 16 := by omega
      have q3 : (0 : Int) ≤ (c.toNat : Int) % 16 := by omega
      have q4 : (c.toNat : Int) % 16 < 16 := by omega
      go_quiet (fail)
      go_wp2
      go_roundw
      case rel =>
        refine ⟨k + 1, by omega, by go_num, ?_, n + nq, rfl⟩
        have E : hexL (fun n => D.data.getD n 0) (s.data.toList.take (k + 1)) = q ++ [D.data.getD (c.toNat / 16) 0, D.data.getD (c.toNat % 16) 0] := by
          rw [take_snoc s k hlt, hexL_snoc, HG.out, HC.out]
        rw [E]
        exact congrArg Value.string (cut_two D q (c.toNat / 16) (c.toNat % 16) (by rw [h16.out]; omega) (by rw [h16.out]; omega))
      case measure => simp [intOf]; omega
    · have HE : Hid (hexL (fun n => D.data.getD n 0) (s.data.toList.take k) = hexL (fun n => D.data.getD n 0) s.data.toList) := by show _ = _; rw [List.take_of_length_le (by simp; omega)]
      go_wp2
      go_ret
      exact ⟨ret_str HE.out, n, rfl⟩
end Go.Proofs.YtinnliapfdpfpaaGreatDoor
namespace Go.Proofs.YtinnliapfdpfpaaGreatDoor
open Go.RowKit
def iv (x : Nat) : Value := .int .i64 (x : Int)
/-- One round: the eight words behind it. -/
def rnd8 (a b c d e f g h more : Nat) : List Nat :=
  [(h + bs1 e + chs e f g + more + (bs0 a + mst a b c)) % 4294967296, a, b, c, (d + (h + bs1 e + chs e f g + more)) % 4294967296, e, f, g]

theorem wrap_mod (X : Int) (x : Nat) (e : X = (x : Int)) (h : x < 4611686018427387904) : (IntKind.i64.wrap X).tmod 4294967296 = ((x % 4294967296 : Nat) : Int) := by
  have e1 : IntKind.i64.wrap X = (x : Int) := by rw [IntKind.wrap_i64, e]; omega
  rw [e1, Int.tmod_eq_emod_of_nonneg (by omega)]; omega
theorem rnd_cells (a b c d e f g h more : Nat) (_ha : a < 4294967296) (_hb : b < 4294967296) (_hc : c < 4294967296) (hd : d < 4294967296) (_he : e < 4294967296) (_hf : f < 4294967296) (_hg : g < 4294967296) (hh : h < 4294967296)
    (hm : more < 8589934592) (s1 : bs1 e < 4294967296) (s0 : bs0 a < 4294967296) (sc : chs e f g < 4294967296) (sm : mst a b c < 4294967296) :
    #[Value.int .i64 ((IntKind.i64.wrap ((h : Int) + (bs1 e : Nat) + (chs e f g : Nat) + (more : Nat) + ((bs0 a : Nat) + (mst a b c : Nat)))).tmod 4294967296), Value.int .i64 (a : Nat), Value.int .i64 (b : Nat), Value.int .i64 (c : Nat),
      Value.int .i64 ((IntKind.i64.wrap ((d : Int) + ((h : Int) + (bs1 e : Nat) + (chs e f g : Nat) + (more : Nat)))).tmod 4294967296), Value.int .i64 (e : Nat), Value.int .i64 (f : Nat), Value.int .i64 (g : Nat)] =
    ((rnd8 a b c d e f g h more).map iv).toArray := by
  unfold rnd8
  generalize bs1 e = S1 at *
  generalize bs0 a = S0 at *
  generalize chs e f g = C at *
  generalize mst a b c = M at *
  have e1 : (IntKind.i64.wrap ((h : Int) + (S1 : Nat) + (C : Nat) + (more : Nat) + ((S0 : Nat) + (M : Nat)))).tmod 4294967296 = (((h + S1 + C + more + (S0 + M)) % 4294967296 : Nat) : Int) := by
    exact wrap_mod _ _ (by omega) (by omega)
  have e2 : (IntKind.i64.wrap ((d : Int) + ((h : Int) + (S1 : Nat) + (C : Nat) + (more : Nat)))).tmod 4294967296 = (((d + (h + S1 + C + more)) % 4294967296 : Nat) : Int) := by
    exact wrap_mod _ _ (by omega) (by omega)
  rw [e1, e2]
  rfl
set_option maxHeartbeats 1000000 in
theorem rround_any (a b c d e f g h more : Nat) (ha : a < 4294967296) (hb : b < 4294967296) (hc : c < 4294967296) (hd : d < 4294967296) (he : e < 4294967296) (hf : f < 4294967296) (hg : g < 4294967296) (hh : h < 4294967296)
    (hm : more < 8589934592) (B C : Nat) (w : World)
    (c0 : w.cell? ⟨B, 0, none⟩ = some (.int .i64 a)) (c1 : w.cell? ⟨B, 1, none⟩ = some (.int .i64 b)) (c2 : w.cell? ⟨B, 2, none⟩ = some (.int .i64 c)) (c3 : w.cell? ⟨B, 3, none⟩ = some (.int .i64 d))
    (c4 : w.cell? ⟨B, 4, none⟩ = some (.int .i64 e)) (c5 : w.cell? ⟨B, 5, none⟩ = some (.int .i64 f)) (c6 : w.cell? ⟨B, 6, none⟩ = some (.int .i64 g)) (c7 : w.cell? ⟨B, 7, none⟩ = some (.int .i64 h)) :
    Calls Tryz.prog 157 #[.slice (some ⟨B, 0, none⟩) 8 C, .int .i64 more] w fun e' w' =>
      e' = .returned (.slice (some ⟨w.heap.size, 0, none⟩) 8 8) ∧ ∃ q, w' = (w.alloc (.cells ((rnd8 a b c d e f g h more).map iv).toArray 3)).drewN q := by
  have r6 := rotr_lt e 6 he (by omega)
  have r11 := rotr_lt e 11 he (by omega)
  have r25 := rotr_lt e 25 he (by omega)
  have r2 := rotr_lt a 2 ha (by omega)
  have r13 := rotr_lt a 13 ha (by omega)
  have r22 := rotr_lt a 22 ha (by omega)
  go_enter Tryz.func157, Tryz.ntmps157
  go_wp2_with fail
  refine (turn_any e 6 he (by omega) _).mono ?_
  rintro e' w' ⟨rfl, rfl⟩
  go_wp2_with fail
  refine (turn_any e 11 he (by omega) _).mono ?_
  rintro e' w' ⟨rfl, rfl⟩
  go_wp2_with fail
  refine (rxor_any _ _ r6 r11 _).mono ?_
  rintro e' w' ⟨rfl, rfl⟩
  go_wp2_with fail
  refine (turn_any e 25 he (by omega) _).mono ?_
  rintro e' w' ⟨rfl, rfl⟩
  go_wp2_with fail
  refine (rxor_any _ _ (xor32 r6 r11) r25 _).mono ?_
  rintro e' w' ⟨rfl, rfl⟩
  have s1 := bs1_lt e he
  rw [show rotr e 6 ^^^ rotr e 11 ^^^ rotr e 25 = bs1 e from rfl]
  go_wp2_with fail
  refine (turn_any a 2 ha (by omega) _).mono ?_
  rintro e' w' ⟨rfl, rfl⟩
  go_wp2_with fail
  refine (turn_any a 13 ha (by omega) _).mono ?_
  rintro e' w' ⟨rfl, rfl⟩
  go_wp2_with fail
  refine (rxor_any _ _ r2 r13 _).mono ?_
  rintro e' w' ⟨rfl, rfl⟩
  go_wp2_with fail
  refine (turn_any a 22 ha (by omega) _).mono ?_
  rintro e' w' ⟨rfl, rfl⟩
  go_wp2_with fail
  refine (rxor_any _ _ (xor32 r2 r13) r22 _).mono ?_
  rintro e' w' ⟨rfl, rfl⟩
  have s0 := bs0_lt a ha
  rw [show rotr a 2 ^^^ rotr a 13 ^^^ rotr a 22 = bs0 a from rfl]
  clear r6 r11 r25 r2 r13 r22
  have sc := chs_lt e f g hf hg
  have sm := mst_lt a b c hb hc
  obtain ⟨w2, hw2⟩ : ∃ w2, w2 = w.drew.drew.drew.drew.drew.drew := ⟨_, rfl⟩
  rw [← hw2]
  have d1 : w2.cell? ⟨B, 1, none⟩ = some (.int .i64 b) := by rw [hw2]; exact c1
  have d2 : w2.cell? ⟨B, 2, none⟩ = some (.int .i64 c) := by rw [hw2]; exact c2
  have d3 : w2.cell? ⟨B, 3, none⟩ = some (.int .i64 d) := by rw [hw2]; exact c3
  have d5 : w2.cell? ⟨B, 5, none⟩ = some (.int .i64 f) := by rw [hw2]; exact c5
  have d6 : w2.cell? ⟨B, 6, none⟩ = some (.int .i64 g) := by rw [hw2]; exact c6
  have d7 : w2.cell? ⟨B, 7, none⟩ = some (.int .i64 h) := by rw [hw2]; exact c7
  have HW : Hid (w2 = w.drewN 6) := hw2
  clear hw2 c0 c1 c2 c3 c4 c5 c6 c7
  go_wp2_with fail
  go_quiet ((go_at_call 213; exact Calls.quiet_of_same (choose_any _ _ _ he hf hg _)))
  go_wp2_with fail
  obtain ⟨n1, hn1⟩ : ∃ n1, n1 = nq := ⟨_, rfl⟩
  rw [← hn1]
  clear hn1 nq
  obtain ⟨w3, hw3⟩ : ∃ w3, w3 = w2.drewN n1 := ⟨_, rfl⟩
  rw [← hw3]
  have f1 : w3.cell? ⟨B, 1, none⟩ = some (.int .i64 b) := by rw [hw3]; exact d1
  have f2 : w3.cell? ⟨B, 2, none⟩ = some (.int .i64 c) := by rw [hw3]; exact d2
  have f3 : w3.cell? ⟨B, 3, none⟩ = some (.int .i64 d) := by rw [hw3]; exact d3
  have f5 : w3.cell? ⟨B, 5, none⟩ = some (.int .i64 f) := by rw [hw3]; exact d5
  have f6 : w3.cell? ⟨B, 6, none⟩ = some (.int .i64 g) := by rw [hw3]; exact d6
  have HW3 : Hid (w3 = w.drewN (6 + n1)) := by show _ = _; rw [hw3, HW.out]; exact World.drewN_drewN _ _ _
  clear hw3 d1 d2 d3 d5 d6 d7 HW
  go_quiet ((go_at_call 214; exact Calls.quiet_of_same (most_any _ _ _ ha hb hc _)))
  go_wp2_with fail
  go_region_held3 (fun w' => w'.cell? ⟨B, 1, none⟩ = some (.int .i64 b) ∧ w'.cell? ⟨B, 2, none⟩ = some (.int .i64 c) ∧ w'.cell? ⟨B, 3, none⟩ = some (.int .i64 d) ∧ w'.cell? ⟨B, 5, none⟩ = some (.int .i64 f) ∧ w'.cell? ⟨B, 6, none⟩ = some (.int .i64 g)) (go_keep) (fail)
  rename_i hHeld
  clear hHeld
  go_wp2
  go_ret
  have HCC := rnd_cells a b c d e f g h more ha hb hc hd he hf hg hh hm s1 s0 sc sm
  refine ⟨by rw [HW3.out]; rfl, 6 + n1 + (nq + 1), ?_⟩
  rw [HCC, HW3.out, World.drewN_drewN]
  rfl
end Go.Proofs.YtinnliapfdpfpaaGreatDoor
