/-
  THE DOCUMENT's CHECK OF A TEXT.
-/
import Derived.Test.YtinnliapfdpfpaaDoorHCrc
namespace Go.Proofs.YtinnliapfdpfpaaDoor
open Go.RowKit

set_option maxHeartbeats 1000000 in
theorem rcrc_any (s : ByteArray) (hs : s.size ≤ 1000000000000000) (w : World) :
    Calls Tryd.prog 11 #[.string s] w fun e w' => e = .returned (.int .i64 (crcL s.data.toList : Nat)) ∧ w' = w := by
  go_enter Tryd.func11, Tryd.ntmps11
  go_wp2
  go_loop [3, 4] (fun c i => ∃ n : Nat, n ≤ s.size ∧ i = .int .i64 n ∧ c = .int .i64 (crcN s.data.toList n : Nat)) (fun _ i => s.size - (intOf i).toNat)
  case atStart => exact ⟨0, by omega, rfl, rfl⟩
  case round =>
    obtain ⟨n, hn, rfl, rfl⟩ := hrel
    have hc := crcN_lt s.data.toList n
    by_cases hlt : n < s.size
    · have HC : Hid (crcN s.data.toList (n + 1) = ckB (crcN s.data.toList n) s[n].toNat 8) := by show _ = _; rw [← getD_at s n hlt]; rfl
      have hb : s[n].toNat < 256 := s[n].toNat_lt
      have hd : decide ((n : Int) < (s.size : Int)) = true := by simp; omega
      generalize crcN s.data.toList n = c at *
      go_wp2
      generalize s[n].toNat = b at *
      go_loop [3, 5, 6] (fun x y i => ∃ k : Nat, k ≤ 8 ∧ i = .int .i64 k ∧ x = .int .i64 (ckB c b k : Nat) ∧ y = .int .i64 (b / 2 ^ k : Nat)) (fun _ _ i => 8 - (intOf i).toNat)
      case atStart => exact ⟨0, by omega, rfl, rfl, by simp⟩
      case round =>
        obtain ⟨k, hk, rfl, rfl, rfl⟩ := hrel
        have hcl := ckB_lt hc b k
        have hbl : b / 2 ^ k ≤ b := Nat.div_le_self _ _
        have HS : Hid (ckB c b (k + 1) = if (ckB c b k + b / 2 ^ k) % 2 = 1 then (ckB c b k / 2) ^^^ 3988292384 else ckB c b k / 2) := rfl
        have HB : Hid (b / 2 ^ (k + 1) = b / 2 ^ k / 2) := by show _ = _; rw [Nat.pow_succ, Nat.div_div_eq_div_mul]
        generalize hck : ckB c b k = x at *
        have HCK : Hid (ckB c b k = x) := hck
        clear hck
        generalize b / 2 ^ k = y at *
        by_cases hkl : k < 8
        · by_cases ho : (x + y) % 2 = 1
          · have t1 : (((x : Int) + (y : Int)) % 2 == 1) = true := by simp; omega
            go_wp2_with fail
            rw [show ((x : Int) / 2) = ((x / 2 : Nat) : Int) from by simp]
            refine (rxor_any (x / 2) 3988292384 (by omega) (by omega) _).mono ?_
            rintro e w' ⟨rfl, rfl⟩
            have HS2 : Hid (ckB c b (k + 1) = (x / 2) ^^^ 3988292384) := by show _ = _; rw [HS.out, if_pos ho]
            clear HS ho
            generalize (x / 2) ^^^ 3988292384 = z at *
            go_wp2_with fail
            go_round
            case rel => exact ⟨k + 1, by omega, by go_num, by rw [HS2.out], by rw [HB.out]; simp⟩
            case measure => simp [intOf]; omega
          · have t1 : (((x : Int) + (y : Int)) % 2 == 1) = false := by simp; omega
            have HS2 : Hid (ckB c b (k + 1) = x / 2) := by show _ = _; rw [HS.out, if_neg ho]
            clear HS ho
            go_wp2_with fail
            go_round
            case rel => exact ⟨k + 1, by omega, by go_num, by rw [HS2.out]; simp, by rw [HB.out]; simp⟩
            case measure => simp [intOf]; omega
        · have HX : Hid (crcN s.data.toList (n + 1) = x) := by
            show _ = _
            rw [HC.out, show 8 = k from by omega]; exact HCK.out
          go_wp2_with fail
          go_round
          case rel => exact ⟨n + 1, by omega, by go_num, by rw [HX.out]⟩
          case measure => simp [intOf]; omega
    · have HX : Hid ((4294967295 - (crcN s.data.toList n : Int)) = (crcL s.data.toList : Nat)) := by
        show _ = _
        unfold crcL
        rw [show s.data.toList.length = n from by simp; omega]; omega
      go_wp2_with fail
      go_ret
      exact ⟨ret_int HX.out, rfl⟩

/-! The program's. -/
end Go.Proofs.YtinnliapfdpfpaaDoor
