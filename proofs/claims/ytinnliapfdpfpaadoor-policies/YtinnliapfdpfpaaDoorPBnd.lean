/-
  THE PLAIN MATHEMATICS OF JSON: no text in a value is longer than what it was read from.
-/
import Derived.Test.YtinnliapfdpfpaaDoorPRule
namespace Go.Proofs.YtinnliapfdpfpaaDoor.P

def bnd : Nat → J → Prop
  | 0, _ => True
  | _ + 1, .str s => s.length ≤ 4000
  | k + 1, .arr l => ∀ j ∈ l, bnd k j
  | k + 1, .obj l => ∀ p ∈ l, bnd k p.2
  | _ + 1, .bool _ => True
  | _ + 1, .null => True
theorem more_all {X : Type} {one : List UInt8 → Option (X × List UInt8)} (P : X → Prop) (N : Nat) (h1 : shrinks one) (hP : ∀ s x r, s.length ≤ N → one s = some (x, r) → P x) (shut : List UInt8) :
    ∀ n s l r, s.length ≤ N → more one shut n s = some (l, r) → ∀ x ∈ l, P x
  | 0, s, l, r, _, h => by simp [more] at h
  | n + 1, s, l, r, hN, h => by
    rw [more] at h
    cases h2 : one s with
    | none => rw [h2] at h; cases h
    | some p =>
      obtain ⟨x, r1⟩ := p
      rw [h2] at h
      have a1 := h1 _ _ _ h2
      have p1 := hP _ _ _ hN h2
      simp only at h
      cases h3 : tak shut r1 with
      | some r' =>
        rw [h3] at h
        simp at h; obtain ⟨rfl, rfl⟩ := h
        intro y hy; simp at hy; subst hy; exact p1
      | none =>
        rw [h3] at h
        simp only at h
        cases h4 : tak [44] r1 with
        | none => rw [h4] at h; cases h
        | some r2 =>
          rw [h4] at h
          have a4 := tak_len h4
          simp only at h
          cases h5 : more one shut n r2 with
          | none => rw [h5] at h; cases h
          | some q =>
            rw [h5] at h
            simp at h; obtain ⟨rfl, rfl⟩ := h
            have := more_all P N h1 hP shut n r2 q.1 q.2 (by simp at a4; omega) h5
            intro y hy
            rcases List.mem_cons.1 hy with e | e
            · subst e; exact p1
            · exact this y e
theorem listOf_all {X : Type} {one : List UInt8 → Option (X × List UInt8)} (P : X → Prop) (N : Nat) (h1 : shrinks one) (hP : ∀ s x r, s.length ≤ N → one s = some (x, r) → P x) {shut s : List UInt8} {l : List X} {r : List UInt8} (hN : s.length ≤ N) (h : listOf one shut s = some (l, r)) : ∀ x ∈ l, P x := by
  unfold listOf at h
  cases h3 : tak shut s with
  | some r' => rw [h3] at h; simp at h; obtain ⟨rfl, rfl⟩ := h; intro x hx; cases hx
  | none => rw [h3] at h; exact more_all P N h1 hP shut _ _ _ _ hN h
theorem val_bnd : ∀ (k : Nat) (s : List UInt8) (j : J) (r : List UInt8), s.length ≤ 4000 → val k s = some (j, r) → bnd k j
  | 0, _, _, _, _, h => by simp [val] at h
  | k + 1, s, j, r, hs, h => by
    have ih := val_bnd k
    rw [val] at h
    cases h1 : tak [123] s with
    | some r1 =>
      rw [h1] at h; simp only at h
      have := tak_len h1
      cases h2 : listOf (memOf (val k)) [125] r1 with
      | none => rw [h2] at h; cases h
      | some p =>
        rw [h2] at h; simp at h
        obtain ⟨rfl, -⟩ := h
        refine listOf_all (fun q : List UInt8 × J => bnd k q.2) 4000 (memOf_shrinks (val_shrinks k)) ?_ (l := p.1) (r := p.2) (by omega) h2
        intro s x r hs h
        obtain ⟨q1, n, q2, q3, y, q4, a1, a2, a3, a4, a5⟩ := memOf_some h
        have := tak_len a1
        have := strOf_len _ q1 (Nat.le_refl _) _ _ a2
        have := tak_len a3
        simp at a5; obtain ⟨rfl, rfl⟩ := a5
        exact ih _ _ _ (by omega) a4
    | none =>
      rw [h1] at h; simp only at h
      cases h2 : tak [91] s with
      | some r1 =>
        rw [h2] at h; simp only at h
        have := tak_len h2
        cases h3 : listOf (val k) [93] r1 with
        | none => rw [h3] at h; cases h
        | some p =>
          rw [h3] at h; simp at h
          obtain ⟨rfl, -⟩ := h
          exact listOf_all (bnd k) 4000 (val_shrinks k) (fun s x r hs h => ih s x r hs h) (l := p.1) (r := p.2) (by omega) h3
      | none =>
        rw [h2] at h; simp only at h
        cases h3 : tak [34] s with
        | some r1 =>
          rw [h3] at h; simp only at h
          have := tak_len h3
          cases h4 : strOf r1 with
          | none => rw [h4] at h; cases h
          | some p =>
            rw [h4] at h; simp at h
            have := strOf_len _ r1 (Nat.le_refl _) p.1 p.2 h4
            obtain ⟨rfl, -⟩ := h
            show p.1.length ≤ 4000
            omega
        | none =>
          rw [h3] at h; simp only at h
          cases h4 : tak tTrue s with
          | some r1 => rw [h4] at h; simp at h; obtain ⟨rfl, -⟩ := h; trivial
          | none =>
            rw [h4] at h; simp only at h
            cases h5 : tak tFalse s with
            | some r1 => rw [h5] at h; simp at h; obtain ⟨rfl, -⟩ := h; trivial
            | none =>
              rw [h5] at h; simp only at h
              cases h6 : tak tNull s with
              | some r1 => rw [h6] at h; simp at h; obtain ⟨rfl, -⟩ := h; trivial
              | none => rw [h6] at h; cases h
theorem strs_bnd {k : Nat} : ∀ (m : List J) (l : List (List UInt8)), (∀ j ∈ m, bnd (k + 1) j) → strsJ m = some l → ∀ y ∈ l, y.length ≤ 4000
  | [], l, _, h => by simp [strsJ] at h; subst h; intro y hy; cases hy
  | x :: m, l, hb, h => by
    simp only [strsJ] at h
    cases hx : strJ x with
    | none => rw [hx] at h; cases h
    | some s =>
      rw [hx] at h; simp only at h
      cases hm : strsJ m with
      | none => rw [hm] at h; cases h
      | some a =>
        rw [hm] at h; simp only [Option.map_some, Option.some.injEq] at h
        subst h
        have ih := strs_bnd m a (fun j hj => hb j (List.mem_cons_of_mem _ hj)) hm
        have hxb := hb x (List.mem_cons_self ..)
        intro y hy
        rcases List.mem_cons.1 hy with e | e
        · subst e
          cases x with
          | str z => simp [strJ] at hx; subst hx; exact hxb
          | _ => simp [strJ] at hx
        · exact ih y e
theorem texts_bnd {k : Nat} {j : J} {l : List (List UInt8)} (hb : bnd (k + 2) j) (h : textsJ j = some l) : ∀ y ∈ l, y.length ≤ 4000 := by
  cases j with
  | arr m =>
    have h2 : (if 1 ≤ m.length ∧ m.length ≤ 4 then strsJ m else none) = some l := h
    split at h2
    · exact strs_bnd (k := k) m l hb h2
    · cases h2
  | _ => simp [textsJ] at h
theorem find_bnd {k : Nat} {l : List (List UInt8 × J)} {n : List UInt8} {j : J} (hb : ∀ p ∈ l, bnd k p.2) (h : findM l n = some j) : bnd k j := by
  induction l with
  | nil => simp [findM] at h
  | cons p l ih =>
    obtain ⟨m, x⟩ := p
    rw [findM] at h
    split at h
    · cases h; exact hb _ (List.mem_cons_self ..)
    · exact ih (fun q hq => hb q (List.mem_cons_of_mem _ hq)) h
end Go.Proofs.YtinnliapfdpfpaaDoor.P
