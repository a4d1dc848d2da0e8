/-
  THE DOCUMENT's READER OF JSON: a whole text.
-/
import Derived.Test.YtinnliapfdpfpaaDoorQVal
namespace Go.Proofs.YtinnliapfdpfpaaDoor.P
open Go.RowKit

theorem vall : ∀ k, k ≤ 7 → VAt k
  | 0, _ => vzero
  | k + 1, h => vsucc k (by omega) (vall k (by omega))
def qrPost (s : List UInt8) (w : World) (e : Ending) (w' : World) : Prop :=
  ∃ (b n q : Nat) (bad : Bool) (M : List Nd) (ok : Bool), e = .returned (.tuple #[.pointer (some ⟨b, 0, none⟩), .int .i64 (n : Int), .bool ok]) ∧ TS (fun g => g < w.heap.size) b s q bad M w' ∧ Below w.heap.size w w' ∧
    match readJ s with
    | none => ok = false
    | some j => ok = true ∧ treeJ 7 M n j
theorem tree_start (s : List UInt8) (w : World) : TS (fun g => g < w.heap.size) w.heap.size s 0 false [] (w.alloc (.cells #[str s, .int .i64 0, .bool false, .slice none 0 0] 107)) := by
  refine ⟨Nat.lt_irrefl _, .slice none 0 0, [], ?_, World.ownsRow_nil _ _ _ _, (fun g e => by cases e), trivial⟩
  refine ⟨?_, ?_, ?_, ?_, ?_, ?_, ?_, Nat.zero_le _⟩ <;> simp [go_sem]
set_option maxHeartbeats 4000000 in
theorem qread_any (s : List UInt8) (w : World) (hs : s.length ≤ 4000) :
    Calls Tryd.prog 58 #[str s] w (qrPost s w) := by
  have T0 := tree_start s w
  have V : Hid (_) := vall 7 (Nat.le_refl _) (fun g => g < w.heap.size) w.heap.size s 0 false [] _ 0 (by simp; intro g hg; omega) T0 hs (by simp; omega) (by omega) (by omega)
  have b0 : Below w.heap.size w (w.alloc (.cells #[str s, .int .i64 0, .bool false, .slice none 0 0] 107)) := (Below.refl _ _).alloc (Nat.le_refl _) _
  clear T0
  go_enter Tryd.func58, Tryd.ntmps58
  go_wp2_with fail
  refine Calls.mono V.out ?_
  rintro e w1 ⟨n, q, bad, M, rfl, R, -, hm⟩
  have HM : Hid (match val 7 s with | none => bad = true | some (j, r) => bad = false ∧ s.drop q = r ∧ treeJ 7 M n j) := by
    have h1 := hm rfl
    simp only [List.drop_zero, List.nil_append] at h1
    exact h1
  have B1 : Below w.heap.size w w1 := b0.trans (R.kept.below (B := w.heap.size) (by simp) (fun g e => Nat.le_of_not_lt e))
  have ts : TS (fun g => g < w.heap.size) w.heap.size s q bad M w1 := R.ts
  obtain ⟨v, T, back⟩ := ts.cells
  have SK : Hid (_) := tskip_any w.heap.size s q bad v w1 T hs
  clear V hm R b0 ts
  go_wp2_with fail
  refine Calls.mono SK.out ?_
  rintro e w2 ⟨rfl, q2, T2, hq2, hd2, K2⟩
  have ts2 := back q2 bad w2 T2 K2
  have B2 : Below w.heap.size w w2 := B1.trans (K2.below (B := w.heap.size) B1.size (fun g e => by omega))
  have c1 := T2.c1; have c2 := T2.c2; have le := T2.le
  have HD : Hid (s.drop q2 = skip (s.drop q)) := hd2
  clear SK back T K2 B1 T2 hd2
  cases bad with
  | true =>
    have HN : Hid (readJ s = none) := by
      show _ = _
      have := HM.out
      unfold readJ
      cases hv : val 7 s with
      | none => rfl
      | some jr => rw [hv] at this; exact absurd this.1 (by decide)
    have HP : ∀ q, Hid (qrPost s w (.returned (.tuple #[.pointer (some ⟨w.heap.size, 0, none⟩), .int .i64 (n : Int), .bool false])) (w2.drewN q)) := fun q => ⟨_, n, q2, true, M, false, rfl, by
      obtain ⟨v, T, back⟩ := ts2.cells
      exact back q2 true _ (T.drewN q) ((Kept.refl _ _).drewN q), ⟨B2.os, B2.tape, B2.output, B2.size, B2.block⟩, by rw [HN.out]⟩
    clear HM HD ts2
    go_wp2_with fail
    go_quiet (fail)
    go_wp2
    go_ret3
    exact (HP nq).out
  | false =>
    have hm := HM.out
    cases hv : val 7 s with
    | none => rw [hv] at hm; cases hm
    | some jr =>
      obtain ⟨j, r⟩ := jr
      rw [hv] at hm
      obtain ⟨-, hr, ht⟩ := hm
      by_cases hq : q2 = s.length
      · have HN : Hid (readJ s = some j) := by
          show _ = _
          unfold readJ; rw [hv]; simp only
          rw [if_pos]
          rw [← hr, ← HD.out, hq]; simp
        have p1 : ((q2 : Int) == (s.length : Int)) = true := by simp; omega
        have HP : ∀ q, Hid (qrPost s w (.returned (.tuple #[.pointer (some ⟨w.heap.size, 0, none⟩), .int .i64 (n : Int), .bool true])) (w2.drewN q)) := fun q => ⟨_, n, q2, false, M, true, rfl, by
          obtain ⟨v, T, back⟩ := ts2.cells
          exact back q2 false _ (T.drewN q) ((Kept.refl _ _).drewN q), ⟨B2.os, B2.tape, B2.output, B2.size, B2.block⟩, by rw [HN.out]; exact ⟨rfl, ht⟩⟩
        clear HM HD ts2 ht hr
        go_wp2_with fail
        go_quiet (fail)
        go_wp2
        go_ret3
        exact (HP nq).out
      · have HN : Hid (readJ s = none) := by
          show _ = _
          unfold readJ; rw [hv]; simp only
          rw [if_neg]
          rw [← hr, ← HD.out]
          intro e
          have := congrArg List.length e
          simp at this; omega
        have p1 : ((q2 : Int) == (s.length : Int)) = false := by simp; omega
        have HP : ∀ q, Hid (qrPost s w (.returned (.tuple #[.pointer (some ⟨w.heap.size, 0, none⟩), .int .i64 (n : Int), .bool false])) (w2.drewN q)) := fun q => ⟨_, n, q2, false, M, false, rfl, by
          obtain ⟨v, T, back⟩ := ts2.cells
          exact back q2 false _ (T.drewN q) ((Kept.refl _ _).drewN q), ⟨B2.os, B2.tape, B2.output, B2.size, B2.block⟩, by rw [HN.out]⟩
        clear HM HD ts2 ht hr
        go_wp2_with fail
        go_quiet (fail)
        go_wp2
        go_ret3
        exact (HP nq).out
end Go.Proofs.YtinnliapfdpfpaaDoor.P
