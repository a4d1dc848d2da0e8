/-
  THE DOCUMENT'S ANSWER: decimal numerals.
-/
import Derived.Test.YtinnliapfdpfpaaGreatDoorSFirst
import Derived.Deep.QuietTactic
import Derived.BigQuiet
namespace Go.Proofs.YtinnliapfdpfpaaGreatDoor.R
open Go.RowKit
open Go.Proofs.YtinnliapfdpfpaaGreatDoor.C (ret_bool ret_int dec)

/-- A digit. -/
def dgt (k : Nat) : UInt8 := UInt8.ofNat (48 + k)
theorem dig_fin : ∀ k : Fin 10, (⟨#[48, 49, 50, 51, 52, 53, 54, 55, 56, 57]⟩ : ByteArray).extract k.val (k.val + 1) = ⟨[dgt k.val].toArray⟩ := by decide +kernel
theorem dig_at (k : Nat) (h : k < 10) : (⟨#[48, 49, 50, 51, 52, 53, 54, 55, 56, 57]⟩ : ByteArray).extract k (k + 1) = ⟨[dgt k].toArray⟩ := dig_fin ⟨k, h⟩
theorem dd_small {n : Nat} (h : n < 10) : Lib.decDigits n = [dgt n] := by rw [Lib.decDigits, dif_pos h]; rfl
theorem dd_big {n : Nat} (h : ¬ n < 10) : Lib.decDigits n = Lib.decDigits (n / 10) ++ [dgt (n % 10)] := by rw [Lib.decDigits, dif_neg h]; rfl
theorem dd_len (n : Nat) : (Lib.decDigits n).length ≤ n + 1 := by
  induction n using Nat.strongRecOn with
  | _ n ih =>
    by_cases h : n < 10
    · rw [dd_small h]; simp
    · have := ih (n / 10) (by omega)
      rw [dd_big h, List.length_append]; simp; omega
theorem ba_app (a b : Bs) : (⟨a.toArray⟩ : ByteArray) ++ ⟨b.toArray⟩ = ⟨(a ++ b).toArray⟩ := by apply ByteArray.ext; simp
theorem str_ret {a b : Bs} (h : a = b) : Ending.returned (str a) = .returned (str b) := by rw [h]

set_option maxHeartbeats 1000000 in
theorem rdecimal_any (n : Nat) : ∀ (w : World), n ≤ 1000000000000000 → Calls Tryz.prog 76 #[.int .i64 n] w fun e w' => e = .returned (str (Lib.decDigits n)) ∧ ∃ m, w' = w.drewN m := by
  induction n using Nat.strongRecOn with
  | _ n ih =>
    intro w hn
    by_cases h : n < 10
    · have h' : (n : Int) < 10 := by omega
      have HD : Hid (Lib.decDigits n = [dgt n]) := dd_small h
      have X := dig_at n h
      clear ih
      go_enter Tryz.func76, Tryz.ntmps76
      go_wp2
      go_ret
      exact ⟨str_ret HD.out.symm, 0, rfl⟩
    · have h' : ¬ ((n : Int) < 10) := by omega
      have HD : Hid (Lib.decDigits n = Lib.decDigits (n / 10) ++ [dgt (n % 10)]) := dd_big h
      have X := dig_at (n % 10) (by omega)
      have IH : Hid (∀ w : World, Calls Tryz.prog 76 #[.int .i64 ((n : Int) / 10)] w fun e w' => e = .returned (str (Lib.decDigits (n / 10))) ∧ ∃ m, w' = w.drewN m) := by
        intro w
        have := ih (n / 10) (by omega) w (by omega)
        rw [show (((n / 10 : Nat)) : Int) = (n : Int) / 10 from by omega] at this
        exact this
      clear ih
      have hq := dd_len (n / 10)
      generalize Lib.decDigits (n / 10) = q at *
      have hq2 : q.length ≤ 1000000000000000 := by omega
      clear hq
      have c1 : (0 : Int) ≤ (n : Int) % 10 := by omega
      have c2 : (n : Int) % 10 < 10 := by omega
      have c3 : ((n : Int) % 10).toNat = n % 10 := by omega
      have c4 : (n : Int) % 10 + 1 ≤ 10 := by omega
      have c5 : ((n : Int) % 10 + 1).toNat = n % 10 + 1 := by omega
      have c6 : (0 : Int) ≤ (n : Int) % 10 + 1 := by omega
      go_enter Tryz.func76, Tryz.ntmps76
      go_wp2
      go_quiet ((go_at_call 76; exact Calls.quiet_of (IH.out _)))
      go_wp2
      go_ret
      refine ⟨?_, nq, rfl⟩
      rw [HD.out]
      show Ending.returned (Value.string (⟨q.toArray⟩ ++ ⟨[dgt (n % 10)].toArray⟩)) = _
      rw [ba_app]
end Go.Proofs.YtinnliapfdpfpaaGreatDoor.R
