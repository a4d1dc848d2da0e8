import Derived.Test.YtaeabbmekmjcaaaGreatDoorCOwn
import Derived.Defers
import Derived.Recover
import Derived.Laws.BitsAllLaws
namespace Go.Proofs.YtaeabbmekmjcaaaGreatDoor.C
open Go.RowKit
/-- What the reader gives up with. -/
def noC : List PanicEntry := [{ v := .iface 165 (.agg #[]), recovered := false }]
def rest (l : List UInt8) : Value := .string ⟨l.toArray⟩
set_option maxHeartbeats 400000 in
theorem next_ok (b : Nat) (l : List UInt8) (c : UInt8) (w : World) (hc : w.cell? ⟨b, 0, none⟩ = some (rest (c :: l))) (hf : w.frozen? ⟨b, 0, none⟩ = false)
   (_hl : (c :: l).length ≤ 4000000000) :
    Calls Tryz.prog 151 #[.pointer (some ⟨b, 0, none⟩)] w fun e w' => e = .returned (.int .u8 c.toNat) ∧ w' = w.setCell ⟨b, 0, none⟩ (rest l) := by
  unfold rest at *
  have E : (⟨(c :: l).toArray⟩ : ByteArray).extract 1 (l.length + 1) = ⟨l.toArray⟩ := by
    apply ByteArray.ext; simp
  have HE : Hid ((⟨(c :: l).toArray⟩ : ByteArray).extract 1 (l.length + 1) = ⟨l.toArray⟩) := E
  clear E
  go_enter Tryz.func151, Tryz.ntmps151
  go_wp2
  go_ret
  exact ⟨rfl, by rw [HE.out]⟩
set_option maxHeartbeats 400000 in
theorem next_no (b : Nat) (w : World) (hc : w.cell? ⟨b, 0, none⟩ = some (rest [])) :
    Calls Tryz.prog 151 #[.pointer (some ⟨b, 0, none⟩)] w fun e w' => e = .panicked noC ∧ w' = w := by
  unfold rest at *
  go_enter Tryz.func151, Tryz.ntmps151
  go_wp2
  exact ⟨rfl, rfl, rfl⟩

theorem digV_lo {b : Int} (h : 0 ≤ digV b) : (48 ≤ b ∧ b ≤ 57) ∨ (65 ≤ b ∧ b ≤ 70) ∨ (97 ≤ b ∧ b ≤ 102) := by
  unfold digV at h; split at h <;> (try split at h) <;> (try split at h) <;> omega
theorem digV_a {b : Int} (h : 48 ≤ b ∧ b ≤ 57) : digV b = b - 48 := by unfold digV; rw [if_pos h]
theorem digV_b {b : Int} (h : 65 ≤ b ∧ b ≤ 70) : digV b = b - 55 := by unfold digV; rw [if_neg (by omega), if_pos h]
theorem digV_c {b : Int} (h : 97 ≤ b ∧ b ≤ 102) : digV b = b - 87 := by unfold digV; rw [if_neg (by omega), if_neg (by omega), if_pos h]

set_option maxHeartbeats 400000 in
theorem readDigit_ok (b : Nat) (l : List UInt8) (c : UInt8) (w : World) (hc : w.cell? ⟨b, 0, none⟩ = some (rest (c :: l))) (hf : w.frozen? ⟨b, 0, none⟩ = false)
   (hl : (c :: l).length ≤ 4000000000) (hd : 0 ≤ digV (c.toNat : Int)) :
    Calls Tryz.prog 152 #[.pointer (some ⟨b, 0, none⟩)] w fun e w' => e = .returned (.int .u8 (digV (c.toNat : Int))) ∧ w' = w.setCell ⟨b, 0, none⟩ (rest l) := by
  have hb := c.toNat_lt
  rcases digV_lo hd with h | h | h
  · rw [digV_a h]
    obtain ⟨ha, hb'⟩ := h
    clear hd
    go_enter Tryz.func152, Tryz.ntmps152
    go_wp2_with (go_at_call 151; refine (next_ok b l c _ hc hf hl).mono ?_; rintro e w' ⟨rfl, rfl⟩)
    go_ret
    exact ⟨ret_int (by omega), rfl⟩
  · rw [digV_b h]
    obtain ⟨ha, hb'⟩ := h
    clear hd
    go_enter Tryz.func152, Tryz.ntmps152
    go_wp2_with (go_at_call 151; refine (next_ok b l c _ hc hf hl).mono ?_; rintro e w' ⟨rfl, rfl⟩)
    go_ret
    exact ⟨ret_int (by omega), rfl⟩
  · rw [digV_c h]
    obtain ⟨ha, hb'⟩ := h
    clear hd
    go_enter Tryz.func152, Tryz.ntmps152
    go_wp2_with (go_at_call 151; refine (next_ok b l c _ hc hf hl).mono ?_; rintro e w' ⟨rfl, rfl⟩)
    go_ret
    exact ⟨ret_int (by omega), rfl⟩
theorem digV_hi {b : Int} (h : digV b < 0) : ¬ (48 ≤ b ∧ b ≤ 57) ∧ ¬ (65 ≤ b ∧ b ≤ 70) ∧ ¬ (97 ≤ b ∧ b ≤ 102) := by
  unfold digV at h; split at h <;> (try split at h) <;> (try split at h) <;> omega
set_option maxHeartbeats 400000 in
theorem readDigit_bad (b : Nat) (l : List UInt8) (c : UInt8) (w : World) (hc : w.cell? ⟨b, 0, none⟩ = some (rest (c :: l))) (hf : w.frozen? ⟨b, 0, none⟩ = false)
   (hl : (c :: l).length ≤ 4000000000) (hd : digV (c.toNat : Int) < 0) :
    Calls Tryz.prog 152 #[.pointer (some ⟨b, 0, none⟩)] w fun e w' => e = .panicked noC ∧ w' = w.setCell ⟨b, 0, none⟩ (rest l) := by
  have hb := c.toNat_lt
  obtain ⟨h1, h2, h3⟩ := digV_hi hd
  clear hd
  have H1 : Hid (¬ (48 ≤ (c.toNat : Int) ∧ (c.toNat : Int) ≤ 57)) := h1
  have H2 : Hid (¬ (65 ≤ (c.toNat : Int) ∧ (c.toNat : Int) ≤ 70)) := h2
  have H3 : Hid (¬ (97 ≤ (c.toNat : Int) ∧ (c.toNat : Int) ≤ 102)) := h3
  clear h1 h2 h3
  go_enter Tryz.func152, Tryz.ntmps152
  go_wp2_with (go_at_call 151; refine (next_ok b l c _ hc hf hl).mono ?_; rintro e w' ⟨rfl, rfl⟩)
  all_goals first | exact ⟨rfl, rfl, rfl⟩ | (exfalso; have k1 := H1.out; have k2 := H2.out; have k3 := H3.out; omega)
set_option maxHeartbeats 400000 in
theorem readDigit_no (b : Nat) (w : World) (hc : w.cell? ⟨b, 0, none⟩ = some (rest [])) :
    Calls Tryz.prog 152 #[.pointer (some ⟨b, 0, none⟩)] w fun e w' => e = .panicked noC ∧ w' = w := by
  go_enter Tryz.func152, Tryz.ntmps152
  go_wp2_with (go_at_call 151; refine (next_no b _ hc).mono ?_; rintro e w' ⟨rfl, rfl⟩)
  exact ⟨rfl, rfl, rfl⟩
end Go.Proofs.YtaeabbmekmjcaaaGreatDoor.C
