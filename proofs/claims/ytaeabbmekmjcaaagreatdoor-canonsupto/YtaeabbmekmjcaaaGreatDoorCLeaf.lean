import Derived.Test.YtaeabbmekmjcaaaGreatDoorRows
import Derived.Test.YtaeabbmekmjcaaaGreatDoorCPlain
import Derived.WalkKit
import Derived.WalkSpells
import Derived.WalkLawsBesides
namespace Go.Proofs.YtaeabbmekmjcaaaGreatDoor.C
open Go.RowKit
theorem ret_bool {a b : Bool} (h : a = b) : Ending.returned (.bool a) = .returned (.bool b) := by rw [h]
theorem ret_int {k : IntKind} {a b : Int} (h : a = b) : Ending.returned (.int k a) = .returned (.int k b) := by rw [h]
def hasB (l : List UInt8) (b : Int) : Bool := l.any fun c => (c.toNat : Int) == b
theorem hasB_snoc (l : List UInt8) (c : UInt8) (b : Int) : hasB (l ++ [c]) b = (hasB l b || (c.toNat : Int) == b) := by simp [hasB]
theorem hasB_take {l : List UInt8} {k : Nat} {b : Int} (h : hasB (l.take k) b = true) : hasB l b = true := by
  rw [← List.take_append_drop k l]; simp only [hasB, List.any_append] at *; simp [h]
def setA : Array UInt8 := #[48, 49, 50, 51, 52, 53, 54, 55, 56, 57, 97, 98, 99, 100, 101, 102, 103, 104, 105, 106, 107, 108, 109, 110, 111, 112, 113, 114, 115, 116, 117, 118, 119, 120, 121, 122, 65, 66, 67, 68, 69, 70, 71, 72, 73, 74, 75, 76, 77, 78, 79, 80, 81, 82, 83, 84, 85, 86, 87, 88, 89, 90, 45, 46, 95, 126]
theorem set_fin : ∀ n : Fin 256, hasB setA.toList (n.val : Int) = plainB (n.val : Int) false := by decide +kernel
theorem set_any (b : Int) (h0 : 0 ≤ b) (h1 : b ≤ 255) : hasB setA.toList b = plainB b false := by
  have := set_fin ⟨b.toNat, by omega⟩
  simp only [Int.toNat_of_nonneg h0] at this
  exact this
theorem plain_path (b : Int) : plainB b true = (plainB b false || b == 47) := by simp [plainB]
def lowA : Array UInt8 := #[48, 49, 50, 51, 52, 53, 54, 55, 56, 57, 97, 98, 99, 100, 101, 102]
def upA : Array UInt8 := #[48, 49, 50, 51, 52, 53, 54, 55, 56, 57, 65, 66, 67, 68, 69, 70]
theorem low_fin : ∀ n : Fin 16, ((⟨lowA⟩ : ByteArray)[n.val]'n.isLt).toNat = if n.val < 10 then 48 + n.val else 87 + n.val := by decide +kernel
theorem up_fin : ∀ n : Fin 16, ((⟨upA⟩ : ByteArray)[n.val]'n.isLt).toNat = if n.val < 10 then 48 + n.val else 55 + n.val := by decide +kernel
theorem low_at (k : Nat) (h : k < 16) : ((⟨#[48, 49, 50, 51, 52, 53, 54, 55, 56, 57, 97, 98, 99, 100, 101, 102]⟩ : ByteArray)[k]'h).toNat = if k < 10 then 48 + k else 87 + k := low_fin ⟨k, h⟩
theorem up_at (k : Nat) (h : k < 16) : ((⟨#[48, 49, 50, 51, 52, 53, 54, 55, 56, 57, 65, 66, 67, 68, 69, 70]⟩ : ByteArray)[k]'h).toNat = if k < 10 then 48 + k else 55 + k := up_fin ⟨k, h⟩
theorem digV_is (b : Int) (k : Nat) (hk : k < 16) : digV b = k ↔ b = (if k < 10 then 48 + k else 87 + k : Nat) ∨ b = (if k < 10 then 48 + k else 55 + k : Nat) := by
  unfold digV; split <;> (try split) <;> (try split) <;> (try split) <;> omega
theorem digV_no (b : Int) (h : ∀ j : Nat, j < 16 → ¬ digV b = j) : digV b = -1 := by
  have := digV_bd b
  by_cases h' : digV b = -1
  · exact h'
  · exact absurd (by omega) (h (digV b).toNat (by omega))
theorem take_snoc (s : ByteArray) (k : Nat) (h : k < s.size) : s.data.toList.take (k + 1) = s.data.toList.take k ++ [s[k]] := by
  rw [List.take_succ_eq_append_getElem (by simpa using h)]; rfl

set_option maxHeartbeats 400000 in
theorem in_any (b : Int) (s : ByteArray) (w : World) (hs : s.size ≤ 1000000000) :
    Calls Tryz.prog 85 #[.int .u8 b, .string s] w fun e w' => e = .returned (.bool (hasB s.data.toList b)) ∧ w' = w := by
  go_enter Tryz.func85, Tryz.ntmps85
  go_wp2
  go_loop [5] (fun i => ∃ k : Nat, k ≤ s.size ∧ i = .int .i64 k ∧ hasB (s.data.toList.take k) b = false) (fun i => s.size - (intOf i).toNat)
  case atStart => exact ⟨0, Nat.zero_le _, rfl, by simp [hasB]⟩
  case round =>
    obtain ⟨k, hk, rfl, hno⟩ := hrel
    have HN : Hid (hasB (s.data.toList.take k) b = false) := hno
    clear hno
    by_cases hlt : k < s.size
    · have HS : Hid (hasB (s.data.toList.take (k + 1)) b = (hasB (s.data.toList.take k) b || (s[k].toNat : Int) == b)) := by rw [take_snoc s k hlt]; exact hasB_snoc _ _ _
      go_wp2
      · go_ret
        refine ⟨ret_bool (hasB_take (k := k + 1) ?_).symm, rfl⟩
        rw [HS.out]; simp [*]
      · go_round
        case rel => exact ⟨k + 1, by omega, by go_num, by rw [HS.out, HN.out]; simp [*]⟩
        case measure => simp [intOf]; omega
    · go_wp2
      go_ret
      exact ⟨ret_bool (by rw [← HN.out, List.take_of_length_le (by simp; omega)]), rfl⟩

set_option maxHeartbeats 400000 in
theorem digit_any (b : Int) (w : World) :
    Calls Tryz.prog 111 #[.int .u8 b] w fun e w' => e = .returned (.int .i64 (digV b)) ∧ w' = w := by
  go_enter Tryz.func111, Tryz.ntmps111
  go_wp2
  go_loop [3] (fun i => ∃ k : Nat, k ≤ 16 ∧ i = .int .i64 k ∧ ∀ j : Nat, j < k → ¬ digV b = j) (fun i => 16 - (intOf i).toNat)
  case atStart => exact ⟨0, Nat.zero_le _, rfl, by simp⟩
  case round =>
    obtain ⟨k, hk, rfl, hno⟩ := hrel
    have HN : Hid (∀ j : Nat, j < k → ¬ digV b = j) := hno
    clear hno
    by_cases hlt : k < 16
    · have HD : Hid (digV b = k ↔ b = (if k < 10 then 48 + k else 87 + k : Nat) ∨ b = (if k < 10 then 48 + k else 55 + k : Nat)) := digV_is b k hlt
      have HL : Hid (((⟨#[48, 49, 50, 51, 52, 53, 54, 55, 56, 57, 97, 98, 99, 100, 101, 102]⟩ : ByteArray)[k]'hlt).toNat = if k < 10 then 48 + k else 87 + k) := low_at k hlt
      have HU : Hid (((⟨#[48, 49, 50, 51, 52, 53, 54, 55, 56, 57, 65, 66, 67, 68, 69, 70]⟩ : ByteArray)[k]'hlt).toNat = if k < 10 then 48 + k else 55 + k) := up_at k hlt
      go_wp2
      · go_ret
        rename_i hx _
        refine ⟨ret_int (HD.out.2 (Or.inl ?_)).symm, rfl⟩
        rw [← hx, HL.out]
      · go_ret
        rename_i hx hy _
        refine ⟨ret_int (HD.out.2 (Or.inr ?_)).symm, rfl⟩
        rcases hy with hy | hy
        · exact absurd (eq_of_beq hy) hx
        · rw [← eq_of_beq hy, HU.out]
      · rename_i hx hy
        go_round
        case rel =>
          refine ⟨k + 1, by omega, by go_num, ?_⟩
          intro j hj hd
          by_cases hjk : j < k
          · exact HN.out j hjk hd
          · obtain rfl : j = k := by omega
            rcases HD.out.1 hd with h | h
            · exact hx (by rw [HL.out]; exact h.symm)
            · have := beq_eq_false_iff_ne.1 hy.2
              exact this (by rw [HU.out]; exact h.symm)
        case measure => simp [intOf]; omega
    · go_wp2
      go_ret
      exact ⟨ret_int (digV_no b fun j hj => HN.out j (by omega)).symm, rfl⟩
set_option maxHeartbeats 400000 in
theorem stands_any (b : Int) (p : Bool) (h0 : 0 ≤ b) (h1 : b ≤ 255) (w : World) :
    Calls Tryz.prog 57 #[.int .u8 b, .bool p] w fun e w' => e = .returned (.bool (plainB b p)) ∧ w' = w := by
  have hp := plain_path b
  have HP : Hid (plainB b true = (plainB b false || b == 47)) := hp
  clear hp
  go_enter Tryz.func57, Tryz.ntmps57
  go_wp2_with fail
  refine (in_any b ⟨setA⟩ w (by decide)).mono ?_
  rintro e w' ⟨rfl, rfl⟩
  rw [show hasB (⟨setA⟩ : ByteArray).data.toList b = plainB b false from set_any b h0 h1]
  cases hq : plainB b false
  all_goals
    cases p
    all_goals
      go_wp2
      go_ret
      exact ⟨ret_bool (by first | exact hq.symm | (rw [HP.out, hq]; simp)), rfl⟩

set_option maxHeartbeats 400000 in
theorem isPlain_any (b : Int) (p : Bool) (w : World) :
    Calls Tryz.prog 48 #[.int .u8 b, .bool p] w fun e w' => e = .returned (.bool (plainB b p)) ∧ w' = w := by
  go_enter Tryz.func48, Tryz.ntmps48
  go_wp2
  all_goals (go_ret; refine ⟨ret_bool ?_, rfl⟩; simp_all [plainB]; try omega)

end Go.Proofs.YtaeabbmekmjcaaaGreatDoor.C
