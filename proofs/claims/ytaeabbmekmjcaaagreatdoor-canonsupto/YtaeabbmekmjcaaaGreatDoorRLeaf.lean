/-
  THE LEAVES OF REQUESTS: small functions of the program and of the document's answer.
-/
import Derived.Test.YtaeabbmekmjcaaaGreatDoorShelf
import Derived.Test.YtaeabbmekmjcaaaGreatDoorRPlain
import Derived.Test.YtaeabbmekmjcaaaGreatDoorCRDec
import Derived.BigRegion
namespace Go.Proofs.YtaeabbmekmjcaaaGreatDoor.R
open Go.RowKit
open Go.Proofs.YtaeabbmekmjcaaaGreatDoor.C (dec ret_bool ret_int hasB hasB_snoc in_any take_snoc)

abbrev str (l : Bs) : Value := .string ⟨l.toArray⟩
theorem ba_eq {a b : Bs} : ((⟨a.toArray⟩ : ByteArray) = ⟨b.toArray⟩) ↔ a = b := by
  constructor
  · intro h; have := congrArg (fun x => x.data.toList) h; simpa using this
  · intro h; rw [h]
/-- What the reader of requests gives up with. -/
def noR : List PanicEntry := [{ v := .iface 116 (.agg #[]), recovered := false }]

set_option maxHeartbeats 400000 in
theorem need_ok (w : World) : Calls Tryz.prog 66 #[.bool true] w fun e w' => e = .returned (.tuple #[]) ∧ w' = w := by
  go_enter Tryz.func66, Tryz.ntmps66
  go_wp2
  go_end0
  exact ⟨rfl, rfl⟩
set_option maxHeartbeats 400000 in
theorem need_no (w : World) : Calls Tryz.prog 66 #[.bool false] w fun e w' => e = .panicked noR ∧ w' = w := by
  go_enter Tryz.func66, Tryz.ntmps66
  go_wp2
  exact ⟨rfl, rfl, rfl⟩
set_option maxHeartbeats 400000 in
theorem isMethod_any (l : Bs) (w : World) : Calls Tryz.prog 67 #[str l] w fun e w' => e = .returned (.bool (isMethod l)) ∧ w' = w := by
  go_enter Tryz.func67, Tryz.ntmps67
  go_wp2
  all_goals (go_ret; exact ⟨ret_bool (by simp_all [isMethod]), rfl⟩)
theorem take_snocL {l : Bs} {k : Nat} (h : k < l.length) : l.take (k + 1) = l.take k ++ [l[k]] := List.take_succ_eq_append_getElem h
theorem all_snoc {f : UInt8 → Bool} {l : Bs} {k : Nat} (h : k < l.length) : (l.take (k + 1)).all f = ((l.take k).all f && f l[k]) := by rw [take_snocL h, List.all_append]; simp
theorem all_not {f : UInt8 → Bool} {l : Bs} {k : Nat} (h : k < l.length) (hf : f l[k] = false) : l.all f = false := by
  rw [List.all_eq_false]; exact ⟨l[k], List.getElem_mem h, by simp [hf]⟩

set_option maxHeartbeats 400000 in
theorem isHeaderValue_any (l : Bs) (w : World) (hl : l.length ≤ 1000000000) : Calls Tryz.prog 96 #[str l] w fun e w' => e = .returned (.bool (l.all showB)) ∧ w' = w := by
  go_enter Tryz.func96, Tryz.ntmps96
  go_wp2
  go_loop [6] (fun i => ∃ k : Nat, k ≤ l.length ∧ i = .int .i64 k ∧ (l.take k).all showB = true) (fun i => l.length - (intOf i).toNat)
  case atStart => exact ⟨0, Nat.zero_le _, rfl, by simp⟩
  case round =>
    obtain ⟨k, hk, rfl, hall⟩ := hrel
    have HA : Hid ((l.take k).all showB = true) := hall
    clear hall
    by_cases hlt : k < l.length
    · have HS : Hid ((l.take (k + 1)).all showB = ((l.take k).all showB && showB l[k])) := all_snoc hlt
      have HN : Hid (showB l[k] = false → l.all showB = false) := all_not hlt
      obtain ⟨c, hc⟩ : ∃ c, l[k] = c := ⟨_, rfl⟩
      have ix : ∀ h, (⟨l.toArray⟩ : ByteArray)[k]'h = c := fun _ => hc
      rw [hc] at HS HN
      clear hc
      have hb := c.toNat_lt
      go_wp2
      · go_ret
        exact ⟨ret_bool (HN.out (by simp [showB]; omega)).symm, rfl⟩
      · go_round
        case rel => exact ⟨k + 1, by omega, by go_num, by rw [HS.out, HA.out]; simp [showB]; omega⟩
        case measure => simp [intOf]; omega
      · go_ret
        exact ⟨ret_bool (HN.out (by simp [showB]; omega)).symm, rfl⟩
    · go_wp2
      go_ret
      exact ⟨ret_bool (by rw [← HA.out, List.take_of_length_le (by omega)]), rfl⟩

set_option maxHeartbeats 400000 in
theorem isHeaderName_any (l : Bs) (w : World) (hl : l.length ≤ 1000000000) : Calls Tryz.prog 95 #[str l] w fun e w' => e = .returned (.bool (hname l)) ∧ w' = w := by
  go_enter Tryz.func95, Tryz.ntmps95
  go_wp2
  go_loop [7] (fun i => ∃ k : Nat, k ≤ l.length ∧ i = .int .i64 k ∧ (l.take k).all nameB = true) (fun i => l.length - (intOf i).toNat)
  case atStart => exact ⟨0, Nat.zero_le _, rfl, by simp⟩
  case round =>
    obtain ⟨k, hk, rfl, hall⟩ := hrel
    have HA : Hid ((l.take k).all nameB = true) := hall
    clear hall
    by_cases hlt : k < l.length
    · have HS : Hid ((l.take (k + 1)).all nameB = ((l.take k).all nameB && nameB l[k])) := all_snoc hlt
      have HN : Hid (nameB l[k] = false → l.all nameB = false) := all_not hlt
      obtain ⟨c, hc⟩ : ∃ c, l[k] = c := ⟨_, rfl⟩
      have ix : ∀ h, (⟨l.toArray⟩ : ByteArray)[k]'h = c := fun _ => hc
      rw [hc] at HS HN
      clear hc
      have hb := c.toNat_lt
      rcases (by omega : (97 ≤ (c.toNat : Int) ∧ (c.toNat : Int) ≤ 122) ∨ (48 ≤ (c.toNat : Int) ∧ (c.toNat : Int) ≤ 57) ∨ (c.toNat : Int) = 45 ∨ (c.toNat : Int) < 45 ∨ (45 < (c.toNat : Int) ∧ (c.toNat : Int) < 48) ∨ (57 < (c.toNat : Int) ∧ (c.toNat : Int) < 97) ∨ 122 < (c.toNat : Int)) with ⟨h1, h2⟩ | ⟨h1, h2⟩ | h1 | h1 | ⟨h1, h2⟩ | ⟨h1, h2⟩ | h1
      · have HT : Hid (nameB c = true) := by show _ = _; simp [nameB]; omega
        go_wp2
        go_round
        case rel => exact ⟨k + 1, by omega, by go_num, by rw [HS.out, HA.out, HT.out]; rfl⟩
        case measure => simp [intOf]; omega
      · have HT : Hid (nameB c = true) := by show _ = _; simp [nameB]; omega
        go_wp2
        go_round
        case rel => exact ⟨k + 1, by omega, by go_num, by rw [HS.out, HA.out, HT.out]; rfl⟩
        case measure => simp [intOf]; omega
      · have HT : Hid (nameB c = true) := by show _ = _; simp [nameB]; omega
        go_wp2
        go_round
        case rel => exact ⟨k + 1, by omega, by go_num, by rw [HS.out, HA.out, HT.out]; rfl⟩
        case measure => simp [intOf]; omega
      all_goals
        have HT : Hid (nameB c = false) := by show _ = _; simp [nameB]; omega
        have t45 : ((c.toNat : Int) == 45) = false := by simp; omega
        try have d57 : decide ((c.toNat : Int) ≤ 57) = false := by simp; omega
        try have d122 : decide ((c.toNat : Int) ≤ 122) = false := by simp; omega
        go_wp2
        go_ret
        exact ⟨ret_bool (by rw [hname, HN.out HT.out]; rfl), rfl⟩
    · have HT : Hid (l.all nameB = true) := by have := HA.out; rwa [List.take_of_length_le (by omega)] at this
      clear HA
      by_cases h1 : 1 ≤ l.length
      · by_cases h2 : l.length ≤ 20
        · have HX : Hid (hname l = true) := by show _ = _; rw [hname, HT.out]; simp; omega
          go_wp2
          go_ret
          exact ⟨ret_bool (by rw [HX.out]; simp; omega), rfl⟩
        · have HX : Hid (hname l = false) := by show _ = _; rw [hname, HT.out]; simp; omega
          go_wp2
          go_ret
          exact ⟨ret_bool (by rw [HX.out]; simp; omega), rfl⟩
      · have HX : Hid (hname l = false) := by show _ = _; rw [hname, HT.out]; simp; omega
        go_wp2
        go_ret
        exact ⟨ret_bool HX.out.symm, rfl⟩
end Go.Proofs.YtaeabbmekmjcaaaGreatDoor.R
