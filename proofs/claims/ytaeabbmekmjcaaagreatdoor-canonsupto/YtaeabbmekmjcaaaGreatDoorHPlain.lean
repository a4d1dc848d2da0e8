/-
  THE PLAIN MATHEMATICS OF HASHES: words of 32 bits as natural numbers. It imports nothing of the program.
-/
import Derived.Laws.BitsAllLaws
import Derived.IntWalk
namespace Go.Proofs.YtaeabbmekmjcaaaGreatDoor

theorem i64_and_nat (a b : Nat) (ha : a < 9223372036854775808) (hb : b < 9223372036854775808) : bits .and .i64 (a : Int) (b : Int) = ((a &&& b : Nat) : Int) := by
  have hx : a &&& b < 2 ^ 63 := Nat.and_lt_two_pow _ (by omega)
  show IntKind.i64.wrap ((BitVec.ofInt 64 (a : Int) &&& BitVec.ofInt 64 (b : Int)).toNat : Int) = _
  rw [BitVec.toNat_and, ofInt_u64 a (by omega), ofInt_u64 b (by omega), IntKind.wrap_i64]
  omega
theorem i64_or_nat (a b : Nat) (ha : a < 9223372036854775808) (hb : b < 9223372036854775808) : bits .or .i64 (a : Int) (b : Int) = ((a ||| b : Nat) : Int) := by
  have hx : a ||| b < 2 ^ 63 := Nat.or_lt_two_pow (by omega) (by omega)
  show IntKind.i64.wrap ((BitVec.ofInt 64 (a : Int) ||| BitVec.ofInt 64 (b : Int)).toNat : Int) = _
  rw [BitVec.toNat_or, ofInt_u64 a (by omega), ofInt_u64 b (by omega), IntKind.wrap_i64]
  omega
theorem i64_xor_nat (a b : Nat) (ha : a < 9223372036854775808) (hb : b < 9223372036854775808) : bits .xor .i64 (a : Int) (b : Int) = ((a ^^^ b : Nat) : Int) := by
  have hx : a ^^^ b < 2 ^ 63 := Nat.xor_lt_two_pow (by omega) (by omega)
  show IntKind.i64.wrap ((BitVec.ofInt 64 (a : Int) ^^^ BitVec.ofInt 64 (b : Int)).toNat : Int) = _
  rw [BitVec.toNat_xor, ofInt_u64 a (by omega), ofInt_u64 b (by omega), IntKind.wrap_i64]
  omega

/-- Bits turned round to the right. -/
def rotr (x n : Nat) : Nat := x / 2 ^ n + x % 2 ^ n * 2 ^ (32 - n)
theorem pow_split {n : Nat} (hn : n ≤ 32) : 2 ^ n * 2 ^ (32 - n) = 4294967296 := by
  rw [← Nat.pow_add, Nat.add_sub_cancel' hn]
theorem rotr_lt (x n : Nat) (hx : x < 4294967296) (hn : n ≤ 32) : rotr x n < 4294967296 := by
  unfold rotr
  have h := pow_split hn
  have h1 : x / 2 ^ n < 2 ^ (32 - n) := Nat.div_lt_of_lt_mul (by rw [h]; exact hx)
  have h2 : x % 2 ^ n < 2 ^ n := Nat.mod_lt _ (Nat.two_pow_pos n)
  have h3 : (x % 2 ^ n + 1) * 2 ^ (32 - n) ≤ 2 ^ n * 2 ^ (32 - n) := Nat.mul_le_mul_right _ h2
  rw [h, Nat.add_mul, Nat.one_mul] at h3
  omega
/-- The library's turn to the left is the turn to the right by what is left of 32. -/
theorem rot_or (x n : Nat) (hx : x < 4294967296) (hn : n ≤ 32) : (x * 2 ^ (32 - n) % 4294967296) ||| (x / 2 ^ n) = rotr x n := by
  have h := pow_split hn
  have e : x * 2 ^ (32 - n) % 4294967296 = x % 2 ^ n * 2 ^ (32 - n) := by rw [← h, Nat.mul_mod_mul_right]
  have h1 : x / 2 ^ n < 2 ^ (32 - n) := Nat.div_lt_of_lt_mul (by rw [h]; exact hx)
  rw [e, nat_join (32 - n) _ _ (Nat.mul_mod_left _ _) h1, Nat.add_comm]
  rfl

def bs0 (x : Nat) : Nat := rotr x 2 ^^^ rotr x 13 ^^^ rotr x 22
def bs1 (x : Nat) : Nat := rotr x 6 ^^^ rotr x 11 ^^^ rotr x 25
def ss0 (x : Nat) : Nat := rotr x 7 ^^^ rotr x 18 ^^^ x / 8
def ss1 (x : Nat) : Nat := rotr x 17 ^^^ rotr x 19 ^^^ x / 1024
theorem xor32 {a b : Nat} (ha : a < 4294967296) (hb : b < 4294967296) : a ^^^ b < 4294967296 := Nat.xor_lt_two_pow (n := 32) ha hb
theorem bs0_lt (x : Nat) (h : x < 4294967296) : bs0 x < 4294967296 := xor32 (xor32 (rotr_lt x 2 h (by omega)) (rotr_lt x 13 h (by omega))) (rotr_lt x 22 h (by omega))
theorem bs1_lt (x : Nat) (h : x < 4294967296) : bs1 x < 4294967296 := xor32 (xor32 (rotr_lt x 6 h (by omega)) (rotr_lt x 11 h (by omega))) (rotr_lt x 25 h (by omega))
theorem ss0_lt (x : Nat) (h : x < 4294967296) : ss0 x < 4294967296 := xor32 (xor32 (rotr_lt x 7 h (by omega)) (rotr_lt x 18 h (by omega))) (by omega)
theorem ss1_lt (x : Nat) (h : x < 4294967296) : ss1 x < 4294967296 := xor32 (xor32 (rotr_lt x 17 h (by omega)) (rotr_lt x 19 h (by omega))) (by omega)

/-- Of each bit: of b where a has a 1, else of c. -/
def chs (a b c : Nat) : Nat := a &&& b ||| (4294967295 - a) &&& c
/-- Of each bit: what two or three of them have. -/
def mst (a b c : Nat) : Nat := a &&& b ||| a &&& c ||| b &&& c
theorem and32 {a b : Nat} (hb : b < 4294967296) : a &&& b < 4294967296 := Nat.and_lt_two_pow (n := 32) a hb
theorem or32 {a b : Nat} (ha : a < 4294967296) (hb : b < 4294967296) : a ||| b < 4294967296 := Nat.or_lt_two_pow (n := 32) ha hb
theorem chs_lt (a b c : Nat) (hb : b < 4294967296) (hc : c < 4294967296) : chs a b c < 4294967296 := or32 (and32 hb) (and32 hc)
theorem mst_lt (a b c : Nat) (hb : b < 4294967296) (hc : c < 4294967296) : mst a b c < 4294967296 := or32 (or32 (and32 hb) (and32 hc)) (and32 hc)
theorem not_bit (a i : Nat) (ha : a < 4294967296) : (4294967295 - a).testBit i = (decide (i < 32) && !a.testBit i) := by
  have e : 4294967295 - a = 2 ^ 32 - (a + 1) := by omega
  rw [e, Nat.testBit_two_pow_sub_succ (by omega)]
theorem chs_xor (a b c : Nat) (ha : a < 4294967296) : (a &&& b) ^^^ ((4294967295 - a) &&& c) = chs a b c := by
  apply Nat.eq_of_testBit_eq
  intro i
  simp only [chs, Nat.testBit_xor, Nat.testBit_and, Nat.testBit_or, not_bit a i ha]
  cases a.testBit i <;> simp
theorem mst_xor (a b c : Nat) : (a &&& b) ^^^ (a &&& c) ^^^ (b &&& c) = mst a b c := by
  apply Nat.eq_of_testBit_eq
  intro i
  simp only [mst, Nat.testBit_xor, Nat.testBit_and, Nat.testBit_or]
  cases a.testBit i <;> cases b.testBit i <;> cases c.testBit i <;> rfl

end Go.Proofs.YtaeabbmekmjcaaaGreatDoor
