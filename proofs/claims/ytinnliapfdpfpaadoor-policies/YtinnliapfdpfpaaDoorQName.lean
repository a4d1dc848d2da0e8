/-
  THE DOCUMENT's POLICIES: names.
-/
import Derived.Test.YtinnliapfdpfpaaDoorPRule
import Derived.Test.YtinnliapfdpfpaaDoorPFind
namespace Go.Proofs.YtinnliapfdpfpaaDoor.P
open Go.RowKit
open Go.Proofs.YtinnliapfdpfpaaDoor.C (ret_bool ret_int ret_str hasB in_any)

def setN : Array UInt8 := #[48, 49, 50, 51, 52, 53, 54, 55, 56, 57, 97, 98, 99, 100, 101, 102, 103, 104, 105, 106, 107, 108, 109, 110, 111, 112, 113, 114, 115, 116, 117, 118, 119, 120, 121, 122]
theorem setN_fin : ∀ n : Fin 256, hasB setN.toList (n.val : Int) = lcB (UInt8.ofNat n.val) := by decide +kernel
theorem setN_any (c : UInt8) : hasB setN.toList (c.toNat : Int) = lcB c := by
  have := setN_fin ⟨c.toNat, c.toNat_lt⟩
  rw [this]; congr 1; simp
set_option maxHeartbeats 1000000 in
theorem allN_any (l : List UInt8) (w : World) (hl : l.length ≤ 1000000) :
    Calls Tryd.prog 77 #[str l, .string ⟨setN⟩] w fun e w' => e = .returned (.bool (l.all lcB)) ∧ w = w' := by
  go_enter Tryd.func77, Tryd.ntmps77
  go_wp2
  go_loop [5] (fun i => ∃ k : Nat, k ≤ l.length ∧ i = .int .i64 k ∧ (l.take k).all lcB = true) (fun i => l.length - (intOf i).toNat)
  case atStart => exact ⟨0, Nat.zero_le _, rfl, by simp⟩
  case round =>
    obtain ⟨k, hk, rfl, hno⟩ := hrel
    have HN : Hid ((l.take k).all lcB = true) := hno
    clear hno
    by_cases hlt : k < l.length
    · have hs : k < (⟨l.toArray⟩ : ByteArray).size := hlt
      have hy : (⟨l.toArray⟩ : ByteArray)[k]'hs = l[k] := rfl
      have IN : Hid (_) := in_any (l[k].toNat : Int) ⟨setN⟩
      have HI : Hid (hasB setN.toList (l[k].toNat : Int) = lcB l[k]) := setN_any l[k]
      go_wp2_with fail
      refine (IN.out _ (by decide)).mono ?_
      rintro e w' ⟨rfl, rfl⟩
      clear IN
      cases hb : lcB l[k] with
      | true =>
        have HY : Hid ((l.take (k + 1)).all lcB = true) := by show _ = _; rw [all_take_succ _ _ _ hlt, HN.out, hb]; rfl
        rw [hb] at HI
        have e1 : hasB (⟨setN⟩ : ByteArray).data.toList (l[k].toNat : Int) = true := HI.out
        rw [e1]
        clear HN HI e1
        go_wp2
        go_round
        case rel => exact ⟨k + 1, by omega, by go_num, HY.out⟩
        case measure => simp [intOf]; omega
      | false =>
        have HY : Hid (l.all lcB = false) := all_false hlt hb
        rw [hb] at HI
        have e1 : hasB (⟨setN⟩ : ByteArray).data.toList (l[k].toNat : Int) = false := HI.out
        rw [e1]
        clear HN HI e1
        go_wp2
        go_ret
        exact ⟨ret_bool HY.out.symm, rfl⟩
    · have HT : Hid (l.all lcB = true) := by
        show _ = _
        have := HN.out
        rwa [List.take_of_length_le (by omega)] at this
      clear HN
      go_wp2
      go_ret
      exact ⟨ret_bool HT.out.symm, rfl⟩
set_option maxHeartbeats 1000000 in
theorem qisName_any (l : List UInt8) (w : World) (hl : l.length ≤ 1000000) :
    Calls Tryd.prog 89 #[str l] w fun e w' => e = .returned (.bool (nameP l)) ∧ w = w' := by
  have C : Hid (_) := allN_any l
  cases ha : l.all lcB with
  | false =>
    have HF : Hid (nameP l = false) := by show _ = _; unfold nameP; rw [ha]; rfl
    rw [ha] at C
    go_enter Tryd.func89, Tryd.ntmps89
    go_wp2_with (go_at_call 77; refine (C.out _ hl).mono ?_; rintro e w' ⟨rfl, rfl⟩)
    go_ret
    exact ⟨ret_bool HF.out.symm, rfl⟩
  | true =>
    have HT : Hid (nameP l = decide (1 ≤ l.length ∧ l.length ≤ 12)) := by show _ = _; unfold nameP; rw [ha]; rfl
    rw [ha] at C
    by_cases h1 : 1 ≤ l.length
    · by_cases h2 : l.length ≤ 12
      · have HF : Hid (nameP l = true) := by show _ = _; rw [HT.out]; simp; omega
        clear HT
        go_enter Tryd.func89, Tryd.ntmps89
        go_wp2_with (go_at_call 77; refine (C.out _ hl).mono ?_; rintro e w' ⟨rfl, rfl⟩)
        go_ret
        exact ⟨ret_bool (by rw [HF.out]; simp; omega), rfl⟩
      · have HF : Hid (nameP l = false) := by show _ = _; rw [HT.out]; simp; omega
        clear HT
        go_enter Tryd.func89, Tryd.ntmps89
        go_wp2_with (go_at_call 77; refine (C.out _ hl).mono ?_; rintro e w' ⟨rfl, rfl⟩)
        go_ret
        exact ⟨ret_bool (by rw [HF.out]; simp; omega), rfl⟩
    · have HF : Hid (nameP l = false) := by show _ = _; rw [HT.out]; simp; omega
      clear HT
      go_enter Tryd.func89, Tryd.ntmps89
      go_wp2_with (go_at_call 77; refine (C.out _ hl).mono ?_; rintro e w' ⟨rfl, rfl⟩)
      go_ret
      exact ⟨ret_bool HF.out.symm, rfl⟩
end Go.Proofs.YtinnliapfdpfpaaDoor.P
