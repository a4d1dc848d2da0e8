/-
  POLICIES: the program's two calls.
-/
import Derived.Test.YtinnliapfdpfpaaDoorPSay2
namespace Go.Proofs.YtinnliapfdpfpaaDoor.P
open Go.RowKit
open Go.Proofs.YtinnliapfdpfpaaDoor.C (ret_bool ret_int ret_str)

theorem rulesJ_len : ∀ (l : List J) (rs : List RuleP), rulesJ l = some rs → rs.length = l.length
  | [], rs, h => by simp [rulesJ] at h; subst h; rfl
  | j :: l, rs, h => by
    rw [rulesJ] at h
    cases h1 : ruleJ j with
    | none => rw [h1] at h; cases h
    | some r =>
      rw [h1] at h; simp only at h
      cases h2 : rulesJ l with
      | none => rw [h2] at h; cases h
      | some x => rw [h2] at h; simp at h; subst h; simp [rulesJ_len l x h2]
theorem rulesOf_len (s : List UInt8) : (rulesOf s).2.length ≤ 4 := by
  unfold rulesOf
  split
  · simp
  · split
    · simp
    · rename_i j _
      cases hp : policyJ j with
      | none => simp
      | some l =>
        simp only
        rw [policyJ_is] at hp
        cases h1 : objN 1 j with
        | none => rw [h1] at hp; cases hp
        | some m =>
          rw [h1] at hp; simp only at hp
          cases h2 : findM m sRules with
          | none => rw [h2] at hp; cases hp
          | some x =>
            rw [h2] at hp; simp only at hp
            cases h3 : arrJ x with
            | none => rw [h3] at hp; cases hp
            | some k =>
              rw [h3] at hp; simp only at hp
              split at hp
              · rw [rulesJ_len k l hp]; assumption
              · cases hp
theorem rulesOf_code (s : List UInt8) : (rulesOf s).1 = 0 ∨ (rulesOf s).1 = 1 ∨ (rulesOf s).1 = 2 ∨ (rulesOf s).1 = 3 := by
  unfold rulesOf
  split
  · simp
  · split
    · simp
    · split <;> simp
theorem pol_slice {w : World} {P : Nat → Prop} {sl : Value} {rs : List RuleP} (h : policyIn w P sl rs) : ∃ a n c, sl = .slice a n c := by
  obtain ⟨us, h1, _⟩ := h
  obtain ⟨a, c, e, _⟩ := row_view h1
  exact ⟨a, _, c, e⟩
set_option maxHeartbeats 1000000 in
theorem lpolicy_any (s : List UInt8) (w : World) (hs : s.length ≤ 9223372036854775807) :
    Calls Tryd.prog 18 #[str s] w fun e w' => e = .returned (.int .i64 (rulesOf s).1) ∧ Below w.heap.size w w' := by
  have R : Hid (_) := rread_any s
  obtain ⟨c, HC⟩ : ∃ c, Hid ((rulesOf s).1 = c) := ⟨(rulesOf s).1, rfl⟩
  rw [HC.out]
  go_enter Tryd.func18, Tryd.ntmps18
  go_wp2_with fail
  refine (R.out w hs).mono ?_
  rintro e w1 ⟨b1, sl, rfl, hp⟩
  obtain ⟨av, nv, cv, rfl⟩ := pol_slice hp
  rw [HC.out]
  go_wp2
  go_ret
  exact ⟨rfl, b1.alloc b1.size _⟩
def ruleAns (s u a key : List UInt8) : Int × Int := if (rulesOf s).1 = 0 then (saysP (rulesOf s).2 u a key, 0) else (0, (rulesOf s).1)
set_option maxHeartbeats 1000000 in
theorem lrule_any (s u a key : List UInt8) (w : World) (hs : s.length ≤ 9223372036854775807) (hk : key.length ≤ 140737488355328) :
    Calls Tryd.prog 20 #[str s, str u, str a, str key] w fun e w' => e = .returned (.tuple #[.int .i64 (ruleAns s u a key).1, .int .i64 (ruleAns s u a key).2]) ∧ Below w.heap.size w w' := by
  have R : Hid (_) := rread_any s
  have hl4 := rulesOf_len s
  obtain ⟨c, HC⟩ : ∃ c, Hid ((rulesOf s).1 = c) := ⟨(rulesOf s).1, rfl⟩
  by_cases h0 : c = 0
  · subst h0
    have HR : Hid (ruleAns s u a key = (saysP (rulesOf s).2 u a key, 0)) := by show _ = _; unfold ruleAns; rw [if_pos HC.out]
    go_enter Tryd.func20, Tryd.ntmps20
    go_wp2_with fail
    refine (R.out w hs).mono ?_
    rintro e w1 ⟨b1, sl, rfl, hp⟩
    obtain ⟨av, nv, cv, rfl⟩ := pol_slice hp
    rw [HC.out]
    have bA : Below w1.heap.size w1 (w1.alloc (.cells #[.slice av nv cv] 65)) := (Below.refl _ _).alloc (Nat.le_refl _) _
    have SY : Hid (_) := says_any (.slice av nv cv) (rulesOf s).2 u a key _ (policyIn.below hp bA) (by omega) hk
    obtain ⟨z, HZ⟩ : ∃ z, Hid (saysP (rulesOf s).2 u a key = z) := ⟨saysP (rulesOf s).2 u a key, rfl⟩
    clear R hp
    go_wp2_with fail
    refine Calls.mono SY.out ?_
    rw [HZ.out]
    rintro e w2 ⟨rfl, b2⟩
    clear SY
    go_wp2
    go_ret2
    exact ⟨by rw [HR.out, HZ.out]; rfl, below_trans (below_trans b1 bA) b2⟩
  · have HR : Hid (ruleAns s u a key = (0, c)) := by show _ = _; unfold ruleAns; rw [if_neg (by rw [HC.out]; exact h0), HC.out]
    have p1 : (c != 0) = true := by simpa using h0
    go_enter Tryd.func20, Tryd.ntmps20
    go_wp2_with fail
    refine (R.out w hs).mono ?_
    rintro e w1 ⟨b1, sl, rfl, hp⟩
    obtain ⟨av, nv, cv, rfl⟩ := pol_slice hp
    rw [HC.out]
    clear R hp
    go_wp2
    go_ret2
    exact ⟨by rw [HR.out]; rfl, b1.alloc b1.size _⟩
end Go.Proofs.YtinnliapfdpfpaaDoor.P
