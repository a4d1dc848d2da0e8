/-
  THE LEAVES OF HASHES: rotations and the small functions of words, of the program and of the document's answer.
-/
import Derived.Test.YtaeabbmekmjcaaaGreatDoorRows
import Derived.Test.YtaeabbmekmjcaaaGreatDoorHPlain
import Derived.WalkKit
import Derived.WalkSpells
import Derived.WalkLawsBesides
import Derived.Deep.QuietTactic
import Derived.BigQuiet
namespace Go.Proofs.YtaeabbmekmjcaaaGreatDoor
open Go.RowKit
theorem ret_int {k : IntKind} {a b : Int} (h : a = b) : Ending.returned (.int k a) = .returned (.int k b) := by rw [h]
theorem ret_bool {a b : Bool} (h : a = b) : Ending.returned (.bool a) = .returned (.bool b) := by rw [h]
theorem ret_str {a b : List UInt8} (h : a = b) : Ending.returned (.string ⟨a.toArray⟩) = .returned (.string ⟨b.toArray⟩) := by rw [h]

theorem rot_cast (x n : Nat) (hx : x < 4294967296) (h1 : 1 ≤ n) (hn : n ≤ 31) :
    bits .or .u32 ((x : Int) * 2 ^ (32 - n) % 4294967296) ((x : Int) / 2 ^ (32 - (32 - n))) = (rotr x n : Nat) := by
  have e1 : (x : Int) * 2 ^ (32 - n) % 4294967296 = ((x * 2 ^ (32 - n) % 4294967296 : Nat) : Int) := by simp
  have e2 : (x : Int) / 2 ^ (32 - (32 - n)) = ((x / 2 ^ n : Nat) : Int) := by
    rw [show 32 - (32 - n) = n from by omega]; simp
  have h2 : x / 2 ^ n < 4294967296 := Nat.lt_of_le_of_lt (Nat.div_le_self _ _) hx
  rw [e1, e2, u32_or_nat _ _ (Nat.mod_lt _ (by omega)) h2, rot_or x n hx (by omega)]
set_option maxHeartbeats 400000 in
theorem rot_any (x n : Nat) (k : Int) (hx : x < 4294967296) (h0 : 1 ≤ n) (h1 : n ≤ 31) (hk : bits .and .u64 (IntKind.u64.wrap k) 31 = ((32 - n : Nat) : Int)) (w : World) :
    Calls Tryz.prog 141 #[.int .u32 x, .int .i64 k] w fun e w' => e = .returned (.int .u32 (rotr x n : Nat)) ∧ w' = w := by
  have HC : Hid (bits .or .u32 ((x : Int) * 2 ^ (32 - n) % 4294967296) ((x : Int) / 2 ^ (32 - (32 - n))) = (rotr x n : Nat)) := rot_cast x n hx h0 h1
  obtain ⟨s, hs⟩ : ∃ s : Nat, s = 32 - n := ⟨_, rfl⟩
  rw [← hs] at HC hk
  have q0 : 1 ≤ s := by omega
  have q1 : s ≤ 31 := by omega
  clear hs
  go_enter Tryz.func141, Tryz.ntmps141
  go_wp2
  go_ret
  exact ⟨ret_int HC.out, rfl⟩
theorem m2 : bits .and .u64 (IntKind.u64.wrap (-2)) 31 = ((32 - 2 : Nat) : Int) := by decide +kernel
theorem m6 : bits .and .u64 (IntKind.u64.wrap (-6)) 31 = ((32 - 6 : Nat) : Int) := by decide +kernel
theorem m7 : bits .and .u64 (IntKind.u64.wrap (-7)) 31 = ((32 - 7 : Nat) : Int) := by decide +kernel
theorem m11 : bits .and .u64 (IntKind.u64.wrap (-11)) 31 = ((32 - 11 : Nat) : Int) := by decide +kernel
theorem m13 : bits .and .u64 (IntKind.u64.wrap (-13)) 31 = ((32 - 13 : Nat) : Int) := by decide +kernel
theorem m17 : bits .and .u64 (IntKind.u64.wrap (-17)) 31 = ((32 - 17 : Nat) : Int) := by decide +kernel
theorem m18 : bits .and .u64 (IntKind.u64.wrap (-18)) 31 = ((32 - 18 : Nat) : Int) := by decide +kernel
theorem m19 : bits .and .u64 (IntKind.u64.wrap (-19)) 31 = ((32 - 19 : Nat) : Int) := by decide +kernel
theorem m22 : bits .and .u64 (IntKind.u64.wrap (-22)) 31 = ((32 - 22 : Nat) : Int) := by decide +kernel
theorem m25 : bits .and .u64 (IntKind.u64.wrap (-25)) 31 = ((32 - 25 : Nat) : Int) := by decide +kernel
theorem xor3 (a b c : Nat) (ha : a < 4294967296) (hb : b < 4294967296) (hc : c < 4294967296) : bits .xor .u32 (bits .xor .u32 (a : Int) (b : Int)) (c : Int) = ((a ^^^ b ^^^ c : Nat) : Int) := by
  rw [u32_xor_nat a b ha hb, u32_xor_nat _ c (xor32 ha hb) hc]
set_option maxHeartbeats 400000 in
theorem sigB1 (x : Nat) (hx : x < 4294967296) (w : World) :
    Calls Tryz.prog 120 #[.int .u32 x] w fun e w' => e = .returned (.int .u32 (bs1 x : Nat)) ∧ w' = w := by
  have HX : Hid (_) := xor3 (rotr x 6) (rotr x 11) (rotr x 25) (rotr_lt x 6 hx (by omega)) (rotr_lt x 11 hx (by omega)) (rotr_lt x 25 hx (by omega))
  go_enter Tryz.func120, Tryz.ntmps120
  go_wp2_with fail
  refine (rot_any x 6 _ hx (by omega) (by omega) m6 _).mono ?_
  rintro e w' ⟨rfl, rfl⟩
  go_wp2_with fail
  refine (rot_any x 11 _ hx (by omega) (by omega) m11 _).mono ?_
  rintro e w' ⟨rfl, rfl⟩
  go_wp2_with fail
  refine (rot_any x 25 _ hx (by omega) (by omega) m25 _).mono ?_
  rintro e w' ⟨rfl, rfl⟩
  go_wp2
  go_ret
  exact ⟨ret_int HX.out, rfl⟩
set_option maxHeartbeats 400000 in
theorem sigB0 (x : Nat) (hx : x < 4294967296) (w : World) :
    Calls Tryz.prog 121 #[.int .u32 x] w fun e w' => e = .returned (.int .u32 (bs0 x : Nat)) ∧ w' = w := by
  have HX : Hid (_) := xor3 (rotr x 2) (rotr x 13) (rotr x 22) (rotr_lt x 2 hx (by omega)) (rotr_lt x 13 hx (by omega)) (rotr_lt x 22 hx (by omega))
  go_enter Tryz.func121, Tryz.ntmps121
  go_wp2_with fail
  refine (rot_any x 2 _ hx (by omega) (by omega) m2 _).mono ?_
  rintro e w' ⟨rfl, rfl⟩
  go_wp2_with fail
  refine (rot_any x 13 _ hx (by omega) (by omega) m13 _).mono ?_
  rintro e w' ⟨rfl, rfl⟩
  go_wp2_with fail
  refine (rot_any x 22 _ hx (by omega) (by omega) m22 _).mono ?_
  rintro e w' ⟨rfl, rfl⟩
  go_wp2
  go_ret
  exact ⟨ret_int HX.out, rfl⟩
set_option maxHeartbeats 400000 in
theorem sigS1 (x : Nat) (hx : x < 4294967296) (w : World) :
    Calls Tryz.prog 139 #[.int .u32 x] w fun e w' => e = .returned (.int .u32 (ss1 x : Nat)) ∧ w' = w := by
  have HX : Hid (_) := xor3 (rotr x 17) (rotr x 19) (x / 1024) (rotr_lt x 17 hx (by omega)) (rotr_lt x 19 hx (by omega)) (by omega)
  go_enter Tryz.func139, Tryz.ntmps139
  go_wp2_with fail
  refine (rot_any x 17 _ hx (by omega) (by omega) m17 _).mono ?_
  rintro e w' ⟨rfl, rfl⟩
  go_wp2_with fail
  refine (rot_any x 19 _ hx (by omega) (by omega) m19 _).mono ?_
  rintro e w' ⟨rfl, rfl⟩
  go_wp2
  go_ret
  exact ⟨ret_int (by simpa [ss1] using HX.out), rfl⟩
set_option maxHeartbeats 400000 in
theorem sigS0 (x : Nat) (hx : x < 4294967296) (w : World) :
    Calls Tryz.prog 140 #[.int .u32 x] w fun e w' => e = .returned (.int .u32 (ss0 x : Nat)) ∧ w' = w := by
  have HX : Hid (_) := xor3 (rotr x 7) (rotr x 18) (x / 8) (rotr_lt x 7 hx (by omega)) (rotr_lt x 18 hx (by omega)) (by omega)
  go_enter Tryz.func140, Tryz.ntmps140
  go_wp2_with fail
  refine (rot_any x 7 _ hx (by omega) (by omega) m7 _).mono ?_
  rintro e w' ⟨rfl, rfl⟩
  go_wp2_with fail
  refine (rot_any x 18 _ hx (by omega) (by omega) m18 _).mono ?_
  rintro e w' ⟨rfl, rfl⟩
  go_wp2
  go_ret
  exact ⟨ret_int (by simpa [ss0] using HX.out), rfl⟩

/-! The document's. -/
set_option maxHeartbeats 400000 in
theorem turn_any (x n : Nat) (hx : x < 4294967296) (hn : n ≤ 31) (w : World) :
    Calls Tryz.prog 112 #[.int .i64 x, .int .i64 n] w fun e w' => e = .returned (.int .i64 (rotr x n : Nat)) ∧ w' = w.drew := by
  obtain ⟨P, hP⟩ : ∃ P : Nat, P = 2 ^ n := ⟨_, rfl⟩
  have hP1 : 1 ≤ P := by rw [hP]; exact Nat.two_pow_pos n
  have hP2 : P ≤ 2147483648 := by rw [hP]; exact Nat.pow_le_pow_right (n := 2) (by omega) (j := 31) hn
  have hw : wrap64 (2 ^ n) = (P : Int) := by
    have e : (2 : Int) ^ n = ((2 ^ n : Nat) : Int) := by simp
    rw [e, ← hP]; unfold wrap64; omega
  have h1 : (x : Int) / (P : Int) ≤ 4294967295 := by
    have := Nat.div_le_self x P
    have e : (x : Int) / (P : Int) = ((x / P : Nat) : Int) := by simp
    rw [e]; omega
  have h0 : (0 : Int) ≤ (x : Int) / (P : Int) := Int.ediv_nonneg (by omega) (by omega)
  have hsp : P * 2 ^ (32 - n) = 4294967296 := by rw [hP]; exact pow_split (by omega)
  have e4 : 4294967296 / P = 2 ^ (32 - n) := by rw [← hsp, Nat.mul_div_cancel_left _ (by omega)]
  have e5 : (4294967296 : Int) / (P : Int) = ((2 ^ (32 - n) : Nat) : Int) := by rw [← e4]; simp
  have e6 : (x : Int) % (P : Int) = ((x % P : Nat) : Int) := by simp
  have hpr : x % P * 2 ^ (32 - n) ≤ 4294967296 := by
    rw [← hsp]; exact Nat.mul_le_mul_right _ (Nat.le_of_lt (Nat.mod_lt _ (by omega)))
  have h2 : (0 : Int) ≤ (x : Int) % (P : Int) * (4294967296 / (P : Int)) := by rw [e5, e6, ← Int.natCast_mul]; omega
  have h3 : (x : Int) % (P : Int) * (4294967296 / (P : Int)) ≤ 4294967296 := by rw [e5, e6, ← Int.natCast_mul]; omega
  have HR : Hid ((x : Int) / (P : Int) + (x : Int) % (P : Int) * (4294967296 / (P : Int)) = (rotr x n : Nat)) := by
    show _ = _
    rw [e5, e6, ← Int.natCast_mul]; unfold rotr; rw [← hP]; simp
  clear hP e4 e5 e6 hpr hsp
  go_enter Tryz.func112, Tryz.ntmps112
  go_wp2
  go_region
  go_wp2
  go_ret
  exact ⟨ret_int HR.out, rfl⟩
set_option maxHeartbeats 400000 in
theorem rxor_any (a b : Nat) (ha : a < 4294967296) (hb : b < 4294967296) (w : World) :
    Calls Tryz.prog 65 #[.int .i64 a, .int .i64 b] w fun e w' => e = .returned (.int .i64 (a ^^^ b : Nat)) ∧ w' = w := by
  have HX : Hid (_) := i64_xor_nat a b (by omega) (by omega)
  go_enter Tryz.func65, Tryz.ntmps65
  go_wp2
  go_ret
  exact ⟨ret_int HX.out, rfl⟩
set_option maxHeartbeats 400000 in
theorem choose_any (a b c : Nat) (ha : a < 4294967296) (hb : b < 4294967296) (hc : c < 4294967296) (w : World) :
    Calls Tryz.prog 113 #[.int .i64 a, .int .i64 b, .int .i64 c] w fun e w' => e = .returned (.int .i64 (chs a b c : Nat)) ∧ w' = w := by
  have HX : Hid (bits .or .i64 (bits .and .i64 (a : Int) (b : Int)) (bits .and .i64 (4294967295 - (a : Int)) (c : Int)) = (chs a b c : Nat)) := by
    show _ = _
    rw [i64_and_nat a b (by omega) (by omega), show (4294967295 - (a : Int)) = ((4294967295 - a : Nat) : Int) from by omega, i64_and_nat _ c (by omega) (by omega),
      i64_or_nat _ _ (Nat.lt_trans (and32 hb) (by omega)) (Nat.lt_trans (and32 hc) (by omega))]
    rfl
  go_enter Tryz.func113, Tryz.ntmps113
  go_wp2
  go_ret
  exact ⟨ret_int HX.out, rfl⟩
set_option maxHeartbeats 400000 in
theorem most_any (a b c : Nat) (ha : a < 4294967296) (hb : b < 4294967296) (hc : c < 4294967296) (w : World) :
    Calls Tryz.prog 114 #[.int .i64 a, .int .i64 b, .int .i64 c] w fun e w' => e = .returned (.int .i64 (mst a b c : Nat)) ∧ w' = w := by
  have HX : Hid (bits .or .i64 (bits .or .i64 (bits .and .i64 (a : Int) (b : Int)) (bits .and .i64 (a : Int) (c : Int))) (bits .and .i64 (b : Int) (c : Int)) = (mst a b c : Nat)) := by
    show _ = _
    rw [i64_and_nat a b (by omega) (by omega), i64_and_nat a c (by omega) (by omega), i64_and_nat b c (by omega) (by omega),
      i64_or_nat _ _ (Nat.lt_trans (and32 hb) (by omega)) (Nat.lt_trans (and32 hc) (by omega)), i64_or_nat _ _ (Nat.lt_trans (or32 (and32 hb) (and32 hc)) (by omega)) (Nat.lt_trans (and32 hc) (by omega))]
    rfl
  go_enter Tryz.func114, Tryz.ntmps114
  go_wp2
  go_ret
  exact ⟨ret_int HX.out, rfl⟩
end Go.Proofs.YtaeabbmekmjcaaaGreatDoor
