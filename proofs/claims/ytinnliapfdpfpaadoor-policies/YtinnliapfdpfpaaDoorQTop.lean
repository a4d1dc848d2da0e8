/-
  THE DOCUMENT's Policy AND Rule; THE LAW Policies.
-/
import Derived.Test.YtinnliapfdpfpaaDoorQRules
import Derived.Test.YtinnliapfdpfpaaDoorPTop
namespace Go.Proofs.YtinnliapfdpfpaaDoor.P
open Go.RowKit
open Go.Proofs.YtinnliapfdpfpaaDoor.C (ret_bool ret_int ret_str)

theorem qpol_slice {w : World} {P : Nat → Prop} {sl : Value} {rs : List RuleP} (h : qpolicyIn w P sl rs) : ∃ a n c, sl = .slice a n c := by
  obtain ⟨us, h1, _⟩ := h
  obtain ⟨a, c, e, _⟩ := row_view h1
  exact ⟨a, _, c, e⟩
theorem qpolicyIn.at {w : World} {P : Nat → Prop} {sl : Value} {rs : List RuleP} (h : qpolicyIn w P sl rs) : qpolicyIn w (inW w) sl rs := by
  obtain ⟨us, h1, _, h3⟩ := h
  exact ⟨us, h1, fun g e => (World.ownsRow.lt h1 g e).2, all2_mono (fun _ _ hr => hr.inb.mono (fun _ hg => hg.2)) h3⟩
set_option maxHeartbeats 1000000 in
theorem rpolicy_any (s : List UInt8) (w : World) (hs : s.length ≤ 9223372036854775807) :
    Calls Tryd.prog 19 #[str s] w fun e w' => e = .returned (.int .i64 (rulesOf s).1) ∧ Below w.heap.size w w' := by
  have R : Hid (_) := qrules_any s
  obtain ⟨c, HC⟩ : ∃ c, Hid ((rulesOf s).1 = c) := ⟨(rulesOf s).1, rfl⟩
  rw [HC.out]
  go_enter Tryd.func19, Tryd.ntmps19
  go_wp2_with fail
  refine (R.out w hs).mono ?_
  rintro e w1 ⟨b1, sl, rfl, hp⟩
  obtain ⟨av, nv, cv, rfl⟩ := qpol_slice hp
  rw [HC.out]
  go_wp2
  go_ret
  exact ⟨rfl, b1⟩
set_option maxHeartbeats 1000000 in
theorem rrule_any (s u a key : List UInt8) (w : World) (hs : s.length ≤ 9223372036854775807) (hk : key.length ≤ 140737488355327) :
    Calls Tryd.prog 21 #[str s, str u, str a, str key] w fun e w' => e = .returned (.tuple #[.int .i64 (ruleAns s u a key).1, .int .i64 (ruleAns s u a key).2]) ∧ Below w.heap.size w w' := by
  have R : Hid (_) := qrules_any s
  have hl4 := rulesOf_len s
  obtain ⟨c, HC⟩ : ∃ c, Hid ((rulesOf s).1 = c) := ⟨(rulesOf s).1, rfl⟩
  by_cases h0 : c = 0
  · subst h0
    have HR : Hid (ruleAns s u a key = (saysP (rulesOf s).2 u a key, 0)) := by show _ = _; unfold ruleAns; rw [if_pos HC.out]
    go_enter Tryd.func21, Tryd.ntmps21
    go_wp2_with fail
    refine (R.out w hs).mono ?_
    rintro e w1 ⟨b1, sl, rfl, hp⟩
    obtain ⟨av, nv, cv, rfl⟩ := qpol_slice hp
    rw [HC.out]
    have SY : Hid (_) := qsays_any (.slice av nv cv) (rulesOf s).2 u a key w1 (qpolicyIn.at hp) (by omega) hk
    obtain ⟨z, HZ⟩ : ∃ z, Hid (saysP (rulesOf s).2 u a key = z) := ⟨saysP (rulesOf s).2 u a key, rfl⟩
    clear R hp
    go_wp2_with fail
    refine Calls.mono SY.out ?_
    rw [HZ.out]
    rintro e w2 ⟨rfl, b2⟩
    clear SY
    go_wp2
    go_ret2
    exact ⟨by rw [HR.out, HZ.out]; rfl, below_trans b1 b2⟩
  · have HR : Hid (ruleAns s u a key = (0, c)) := by show _ = _; unfold ruleAns; rw [if_neg (by rw [HC.out]; exact h0), HC.out]
    have p1 : (c != 0) = true := by simpa using h0
    go_enter Tryd.func21, Tryd.ntmps21
    go_wp2_with fail
    refine (R.out w hs).mono ?_
    rintro e w1 ⟨b1, sl, rfl, hp⟩
    obtain ⟨av, nv, cv, rfl⟩ := qpol_slice hp
    rw [HC.out]
    clear R hp
    go_wp2
    go_ret2
    exact ⟨by rw [HR.out]; rfl, b1⟩
set_option maxHeartbeats 1000000 in
theorem pnum_any (c : Int) (w : World) :
    Calls Tryd.prog 16 #[.int .i64 c] w fun e w' => e = .returned (.int .i64 c) ∧ w = w' := by
  go_enter Tryd.func16, Tryd.ntmps16
  go_wp2
  go_ret
  exact ⟨rfl, rfl⟩
set_option maxHeartbeats 2000000 in
theorem policies_any (s u a key : List UInt8) (w : World) (hs : s.length ≤ 9223372036854775807) (hk : key.length ≤ 140737488355327) :
    Calls Tryd.prog 5 #[str s, str u, str a, str key] w fun e w' => e = .returned (.bool true) ∧ Below w.heap.size w w' := by
  have C1 : Hid (_) := lpolicy_any s
  have C2 : Hid (_) := rpolicy_any s
  have C3 : Hid (_) := lrule_any s u a key
  have C4 : Hid (_) := rrule_any s u a key
  generalize (rulesOf s).1 = c at *
  generalize (ruleAns s u a key).1 = n at *
  generalize (ruleAns s u a key).2 = g at *
  have hk2 : key.length ≤ 140737488355328 := by omega
  go_enter Tryd.func5, Tryd.ntmps5
  go_wp2_with fail
  refine (C1.out _ hs).mono ?_
  rintro e w1 ⟨rfl, b1⟩
  go_wp2_with fail
  refine (C2.out _ hs).mono ?_
  rintro e w2 ⟨rfl, b2⟩
  go_wp2_with fail
  refine (C3.out _ hs hk2).mono ?_
  rintro e w3 ⟨rfl, b3⟩
  go_wp2_with fail
  refine (C4.out _ hs hk).mono ?_
  rintro e w4 ⟨rfl, b4⟩
  have B4 := below_trans (below_trans (below_trans b1 b2) b3) b4
  clear C1 C2 C3 C4 b1 b2 b3 b4
  go_wp2_with (go_at_call 16; refine (pnum_any _ _).mono ?_; rintro e w' ⟨rfl, rfl⟩)
  go_ret
  exact ⟨rfl, B4⟩
end Go.Proofs.YtinnliapfdpfpaaDoor.P
