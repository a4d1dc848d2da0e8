/-
  THE PLAIN MATHEMATICS OF PATTERNS: when a pattern is like a key; row by row, and with one way back. It imports nothing of the program.
-/
import Derived.WalkKit
namespace Go.Proofs.YtinnliapfdpfpaaDoor.P

def like : List UInt8 → List UInt8 → Bool
  | [], k => k.isEmpty
  | c :: p, k => if c = 42 then (List.range (k.length + 1)).any (fun j => like p (k.drop j))
    else match k with
      | [] => false
      | x :: k' => (c == 63 || c == x) && like p k'
theorem like_nil (k : List UInt8) : like [] k = k.isEmpty := rfl
theorem like_star (p k : List UInt8) : like (42 :: p) k = true ↔ ∃ j, j ≤ k.length ∧ like p (k.drop j) = true := by
  simp only [like, if_true, List.any_eq_true, List.mem_range]
  constructor
  · rintro ⟨j, h1, h2⟩; exact ⟨j, by omega, h2⟩
  · rintro ⟨j, h1, h2⟩; exact ⟨j, by omega, h2⟩
theorem like_one {c : UInt8} (hc : c ≠ 42) (p : List UInt8) (x : UInt8) (k : List UInt8) : like (c :: p) (x :: k) = ((c == 63 || c == x) && like p k) := by
  simp [like, hc]
theorem like_one_nil {c : UInt8} (hc : c ≠ 42) (p : List UInt8) : like (c :: p) [] = false := by simp [like, hc]
/-- Nothing is left of the key. -/
theorem like_end : ∀ p, like p [] = p.all (· == 42)
  | [] => rfl
  | c :: p => by
    by_cases hc : c = 42
    · subst hc
      rw [Bool.eq_iff_iff, like_star]
      have := like_end p
      constructor
      · rintro ⟨j, -, h⟩; simp at h; simp [this] at h; simpa using h
      · intro h; refine ⟨0, Nat.zero_le _, ?_⟩
        simp; rw [this]; simpa using h
    · rw [like_one_nil hc]; simp [hc]
/-- A pattern's end. -/
theorem like_snoc {c : UInt8} (hc : c ≠ 42) : ∀ (p k : List UInt8) (x : UInt8), like (p ++ [c]) (k ++ [x]) = (like p k && (c == 63 || c == x))
  | [], [], x => by simp [like, hc, Bool.and_comm]
  | [], y :: k, x => by simp [like, hc]
  | d :: p, k, x => by
    by_cases hd : d = 42
    · subst hd
      rw [Bool.eq_iff_iff, List.cons_append, like_star, Bool.and_eq_true, like_star]
      constructor
      · rintro ⟨j, hj, h⟩
        simp only [List.length_append, List.length_singleton] at hj
        by_cases hj2 : j ≤ k.length
        · rw [List.drop_append_of_le_length hj2, like_snoc hc] at h
          simp only [Bool.and_eq_true] at h
          exact ⟨⟨j, hj2, h.1⟩, h.2⟩
        · have : List.drop j (k ++ [x]) = [] := List.drop_eq_nil_of_le (by simp; omega)
          rw [this, like_end] at h
          simp [hc] at h
      · rintro ⟨⟨j, hj, h⟩, h2⟩
        refine ⟨j, by simp; omega, ?_⟩
        rw [List.drop_append_of_le_length hj, like_snoc hc, h, h2]; rfl
    · match k with
      | [] =>
        rw [List.cons_append, List.nil_append, like_one hd, like_one_nil hd]
        rw [like_end]; simp [hc]
      | y :: k =>
        rw [List.cons_append, List.cons_append, like_one hd, like_one hd, like_snoc hc, Bool.and_assoc]
theorem like_snoc_nil {c : UInt8} (hc : c ≠ 42) (p : List UInt8) : like (p ++ [c]) [] = false := by rw [like_end]; simp [hc]
theorem like_snoc_star : ∀ (p k : List UInt8), like (p ++ [42]) k = true ↔ ∃ j, j ≤ k.length ∧ like p (k.take j) = true
  | [], k => by
    rw [List.nil_append, like_star]
    constructor
    · intro _; exact ⟨0, Nat.zero_le _, by simp [like]⟩
    · intro _; exact ⟨k.length, Nat.le_refl _, by simp [like]⟩
  | d :: p, k => by
    by_cases hd : d = 42
    · subst hd
      rw [List.cons_append, like_star]
      constructor
      · rintro ⟨j, hj, h⟩
        obtain ⟨i, hi, h2⟩ := (like_snoc_star p _).1 h
        simp only [List.length_drop] at hi
        refine ⟨j + i, by omega, (like_star _ _).2 ⟨j, by simp; omega, ?_⟩⟩
        rw [List.drop_take]; simpa using h2
      · rintro ⟨i, hi, h⟩
        obtain ⟨j, hj, h2⟩ := (like_star _ _).1 h
        simp only [List.length_take] at hj
        refine ⟨j, by omega, (like_snoc_star p _).2 ⟨i - j, by simp; omega, ?_⟩⟩
        rw [List.drop_take] at h2; exact h2
    · match k with
      | [] =>
        rw [List.cons_append, like_one_nil hd]
        constructor
        · intro h; cases h
        · rintro ⟨j, -, h⟩; simp [like_one_nil hd] at h
      | y :: k =>
        rw [List.cons_append, like_one hd, Bool.and_eq_true, like_snoc_star p k]
        constructor
        · rintro ⟨h, j, hj, h2⟩
          exact ⟨j + 1, by simp; omega, by rw [List.take_succ_cons, like_one hd, h, h2]; rfl⟩
        · rintro ⟨j, hj, h⟩
          match j, hj, h with
          | 0, hj, h => simp [like_one_nil hd] at h
          | j + 1, hj, h =>
            rw [List.take_succ_cons, like_one hd, Bool.and_eq_true] at h
            exact ⟨h.1, j, by simp at hj; omega, h.2⟩
/-- The row's next cell, at a star. -/
theorem row_star (p k : List UInt8) (n : Nat) (hn : n ≤ k.length) :
    like (p ++ [42]) (k.take n) = (like p (k.take n) || (decide (0 < n) && like (p ++ [42]) (k.take (n - 1)))) := by
  rw [Bool.eq_iff_iff, like_snoc_star, Bool.or_eq_true, Bool.and_eq_true, like_snoc_star]
  simp only [List.length_take, List.take_take, decide_eq_true_eq]
  constructor
  · rintro ⟨j, hj, h⟩
    by_cases e : j = n
    · left; rw [show min j n = n by omega] at h; exact h
    · right; refine ⟨by omega, j, by omega, ?_⟩
      rw [show min j (n - 1) = j by omega]; rw [show min j n = j by omega] at h; exact h
  · rintro (h | ⟨h0, j, hj, h⟩)
    · exact ⟨n, by omega, by rw [show min n n = n by omega]; exact h⟩
    · refine ⟨j, by omega, ?_⟩
      rw [show min j n = j by omega]; rw [show min j (n - 1) = j by omega] at h; exact h
/-- The row's next cell, else. -/
theorem row_one {c : UInt8} (hc : c ≠ 42) (p k : List UInt8) (n : Nat) (hn : n ≤ k.length) :
    like (p ++ [c]) (k.take n) = (decide (0 < n) && like p (k.take (n - 1)) && (c == 63 || some c == k[n - 1]?)) := by
  match n, hn with
  | 0, hn => simp [like_snoc_nil hc]
  | n + 1, hn =>
    have e : k.take (n + 1) = k.take n ++ [k[n]] := by rw [List.take_add_one, List.getElem?_eq_getElem (by omega)]; rfl
    rw [e, like_snoc hc]
    simp [List.getElem?_eq_getElem (show n < k.length by omega)]
theorem row_zero (k : List UInt8) (n : Nat) (hn : n ≤ k.length) : like [] (k.take n) = decide (n = 0) := by
  rw [like_nil, Bool.eq_iff_iff]
  simp only [List.isEmpty_iff, decide_eq_true_eq, List.take_eq_nil_iff]
  constructor
  · rintro (h | h)
    · exact h
    · subst h; simp at hn; exact hn
  · intro h; exact Or.inl h

/-- One way back: the last star, and how much it stands for. -/
def sofar (p k : List UInt8) (bs t : Nat) : Prop := ∃ j, t ≤ j ∧ j ≤ k.length ∧ like (p.drop bs) (k.drop j) = true
structure Way (p k : List UInt8) (i n : Nat) (bs t : Nat) : Prop where
  hi : i ≤ p.length
  hn : n ≤ k.length
  hb : bs ≤ i
  ht : t ≤ n
  seg : i - bs = n - t
  /-- what stands between the star and here takes just as much, wherever it fits -/
  take : ∀ j, t ≤ j → j ≤ k.length → like (p.drop bs) (k.drop j) = true → j + (i - bs) ≤ k.length ∧ like (p.drop i) (k.drop (j + (i - bs))) = true
  here : like (p.drop i) (k.drop n) = true → like (p.drop bs) (k.drop t) = true
theorem Way.start {p k : List UInt8} {i n : Nat} (hi : i ≤ p.length) (hn : n ≤ k.length) : Way p k i n i n :=
  ⟨hi, hn, Nat.le_refl _, Nat.le_refl _, by omega, fun j h1 h2 h => ⟨by omega, by simpa using h⟩, fun h => h⟩
theorem drop_cons {p : List UInt8} {i : Nat} (h : i < p.length) : p.drop i = p[i] :: p.drop (i + 1) := (List.drop_eq_getElem_cons h)
theorem Way.step {p k : List UInt8} {i n bs t : Nat} (w : Way p k i n bs t) (h1 : i < p.length) (h2 : n < k.length) (hc : p[i] ≠ 42) (hm : (p[i] == 63 || p[i] == k[n]) = true) : Way p k (i + 1) (n + 1) bs t := by
  have := w.hb; have := w.ht; have hs := w.seg
  refine ⟨h1, h2, by omega, by omega, by omega, ?_, ?_⟩
  · intro j a b h
    obtain ⟨c, d⟩ := w.take j a b h
    rw [drop_cons h1] at d
    match hk : k.drop (j + (i - bs)) with
    | [] => rw [hk, like_one_nil hc] at d; cases d
    | x :: r =>
      rw [hk, like_one hc, Bool.and_eq_true] at d
      have hl : (k.drop (j + (i - bs))).length = r.length + 1 := by rw [hk]; rfl
      simp only [List.length_drop] at hl
      refine ⟨by omega, ?_⟩
      have e : k.drop (j + (i + 1 - bs)) = r := by
        rw [show j + (i + 1 - bs) = (j + (i - bs)) + 1 by omega, ← List.drop_drop, hk]; rfl
      rw [e]; exact d.2
  · intro h
    refine w.here ?_
    rw [drop_cons h1, drop_cons h2, like_one hc, hm, h]; rfl
/-- What the whole hangs on: the way that is gone, or more for the last star. -/
theorem star_split (p k : List UInt8) (bs t : Nat) (ht : t ≤ k.length) : sofar p k bs t ↔ (like (p.drop bs) (k.drop t) = true ∨ sofar p k bs (t + 1)) := by
  constructor
  · rintro ⟨j, h1, h2, h3⟩
    by_cases e : j = t
    · subst e; exact Or.inl h3
    · exact Or.inr ⟨j, by omega, h2, h3⟩
  · rintro (h | ⟨j, h1, h2, h3⟩)
    · exact ⟨t, Nat.le_refl _, ht, h⟩
    · exact ⟨j, by omega, h2, h3⟩
theorem star_is {p k : List UInt8} {i n : Nat} (h1 : i < p.length) (hc : p[i] = 42) : like (p.drop i) (k.drop n) = true ↔ (∃ j, n ≤ j ∧ (j ≤ k.length ∨ j = n) ∧ like (p.drop (i + 1)) (k.drop j) = true) := by
  rw [drop_cons h1, hc, like_star]
  constructor
  · rintro ⟨j, a, b⟩
    simp only [List.length_drop] at a
    exact ⟨n + j, by omega, by omega, by rw [List.drop_drop] at b; exact b⟩
  · rintro ⟨j, a, b, c⟩
    refine ⟨j - n, by simp; omega, ?_⟩
    rw [List.drop_drop, show n + (j - n) = j by omega]; exact c
/-- A further star takes the place of the last one. -/
theorem Way.star {p k : List UInt8} {i n bs t : Nat} (w : Way p k i n bs t) (h1 : i < p.length) (hc : p[i] = 42) :
    (like (p.drop i) (k.drop n) = true ∨ sofar p k bs (t + 1)) ↔ sofar p k (i + 1) n := by
  have hn := w.hn; have hs := w.seg; have := w.ht; have := w.hb
  constructor
  · rintro (h | ⟨j, a, b, h⟩)
    · obtain ⟨j, a, b, c⟩ := (star_is h1 hc).1 h
      exact ⟨j, a, by omega, c⟩
    · obtain ⟨c, d⟩ := w.take j (by omega) b h
      obtain ⟨m, e, f, g⟩ := (star_is h1 hc).1 d
      exact ⟨m, by omega, by omega, g⟩
  · rintro ⟨j, a, b, h⟩
    exact Or.inl ((star_is h1 hc).2 ⟨j, a, Or.inl b, h⟩)
theorem first_star {p k : List UInt8} {i n : Nat} (hn : n ≤ k.length) (h1 : i < p.length) (hc : p[i] = 42) : like (p.drop i) (k.drop n) = true ↔ sofar p k (i + 1) n := by
  rw [star_is h1 hc]
  constructor
  · rintro ⟨j, a, b, h⟩; exact ⟨j, a, by omega, h⟩
  · rintro ⟨j, a, b, h⟩; exact ⟨j, a, Or.inl b, h⟩
/-- At the key's end no more is left for the last star. -/
theorem Way.end {p k : List UInt8} {i bs t : Nat} (w : Way p k i k.length bs t) : ¬ sofar p k bs (t + 1) := by
  rintro ⟨j, a, b, h⟩
  have := (w.take j (by omega) b h).1
  have := w.seg; have := w.ht
  omega
theorem like_miss {p k : List UInt8} {i n : Nat} (h2 : n < k.length) (h : i < p.length → ∃ h : i < p.length, p[i] ≠ 42 ∧ (p[i] == 63 || p[i] == k[n]) = false) : ¬ like (p.drop i) (k.drop n) = true := by
  by_cases h1 : i < p.length
  · obtain ⟨_, hc, hm⟩ := h h1
    rw [drop_cons h1, drop_cons h2, like_one hc, hm]; simp
  · rw [List.drop_eq_nil_of_le (by omega), drop_cons h2, like_nil]; exact Bool.false_ne_true
/-- The state of the search: where it is, and the last star, if one was met. -/
inductive Srch (p k : List UInt8) : Nat → Nat → Option Nat → Nat → Prop
  | no (i : Nat) (h : i ≤ p.length) (h2 : i ≤ k.length) (g : like p k = true ↔ like (p.drop i) (k.drop i) = true) : Srch p k i i none 0
  | yes {i n bs t : Nat} (w : Way p k i n bs t) (g : like p k = true ↔ (like (p.drop i) (k.drop n) = true ∨ sofar p k bs (t + 1))) : Srch p k i n (some bs) t
theorem Srch.start (p k : List UInt8) : Srch p k 0 0 none 0 := .no 0 (Nat.zero_le _) (Nat.zero_le _) (by simp)
theorem Srch.star {p k : List UInt8} {i n t : Nat} {b : Option Nat} (s : Srch p k i n b t) (h1 : i < p.length) (hc : p[i] = 42) : Srch p k (i + 1) n (some (i + 1)) n := by
  cases s with
  | no h h2 g => exact .yes (Way.start h1 h2) (by rw [g, first_star h2 h1 hc, star_split _ _ _ _ h2])
  | yes w g => exact .yes (Way.start h1 w.hn) (by rw [g, w.star h1 hc, star_split _ _ _ _ w.hn])
theorem Srch.step {p k : List UInt8} {i n t : Nat} {b : Option Nat} (s : Srch p k i n b t) (h1 : i < p.length) (h2 : n < k.length) (hc : p[i] ≠ 42) (hm : (p[i] == 63 || p[i] == k[n]) = true) : Srch p k (i + 1) (n + 1) b t := by
  cases s with
  | no h h3 g => exact .no (i + 1) h1 h2 (by rw [g, drop_cons h1, drop_cons h2, like_one hc, hm]; simp)
  | yes w g => exact .yes (w.step h1 h2 hc hm) (by rw [g, drop_cons h1, drop_cons h2, like_one hc, hm]; simp)
theorem Srch.back {p k : List UInt8} {i n t bs : Nat} (s : Srch p k i n (some bs) t) (h2 : n < k.length) (h : i < p.length → ∃ h : i < p.length, p[i] ≠ 42 ∧ (p[i] == 63 || p[i] == k[n]) = false) : Srch p k bs (t + 1) (some bs) (t + 1) := by
  cases s with
  | yes w g =>
    have := w.ht; have := w.hb; have := w.hi
    refine .yes (Way.start (by omega) (by omega)) ?_
    rw [g, star_split p k bs (t + 1) (by omega)]
    simp [like_miss h2 h]
theorem Srch.fails {p k : List UInt8} {i n t : Nat} (s : Srch p k i n none t) (h2 : n < k.length) (h : i < p.length → ∃ h : i < p.length, p[i] ≠ 42 ∧ (p[i] == 63 || p[i] == k[n]) = false) : like p k = false := by
  cases s with
  | no _ _ g =>
    rw [Bool.eq_false_iff]; intro e
    exact like_miss h2 h (g.1 e)
theorem Srch.ends {p k : List UInt8} {i t : Nat} {b : Option Nat} (s : Srch p k i k.length b t) : like p k = (p.drop i).all (· == 42) := by
  rw [← like_end, Bool.eq_iff_iff]
  cases s with
  | no h h3 g => rw [g]; simp
  | yes w g => rw [g]; simp [w.end]
theorem Srch.bd {p k : List UInt8} {i n t : Nat} {b : Option Nat} (s : Srch p k i n b t) : i ≤ p.length ∧ n ≤ k.length ∧ t ≤ n ∧ (∀ x, b = some x → x ≤ i) := by
  cases s with
  | no h h3 g => exact ⟨h, h3, Nat.zero_le _, fun x e => by cases e⟩
  | yes w g => exact ⟨w.hi, w.hn, w.ht, fun x e => by cases e; exact w.hb⟩
end Go.Proofs.YtinnliapfdpfpaaDoor.P
